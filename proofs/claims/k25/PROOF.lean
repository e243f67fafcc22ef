import PyProof.Rows.All
import Wide.All
import OpenK.AllK
import Wide.FinOn
import HandS.Text
import HandS.ForMost
import KE.KDictCopyH
import HandS.Base
import HandS.Call
import HandS.List
import HandS.Dict
import HandS.IsInst
import HandS.Zip
import HandS.Wide
import HandS.Codes
import HandS.Evl
import HandS.Conv
import HandS.Defaults
import HandS.MakeKw
import HandS.Walk
import HandS.TupAny
import HandS.Words
import HandS.WordsList
import HandS.OwnEq
import HandS.Gcd
import HandS.ExcBuiltin
import HandS.TryOnly
import HandS.ForExc
import HandS.FStr
import KE.KCallOwn
import PyProof.Conv_bool
import HandS.ClsMeth
import HandS.ExcOwn
import HandS.ExcIs
import HandS.WordsExc
import HandS.StrMore
import PySem.Challenge.RW_pairahead_k25_broken_claims
import HandS.TupLe
import HandS.More
import HandS.Iter
import HandS.Style
import HandS.Strs
import HandS.Deep
import PyProof.StrReplace2
import HandS.ReplaceLit
import HandS.Replace
import HandS.Comp
import HandS.Exc
import KE.GoesRaise
import KE.GoesMore
import KE.GoesZip
import KE.GoesEnum
import PyProof.StrOps2
set_option Elab.async false
set_option linter.all false
set_option maxRecDepth 100000
set_option maxHeartbeats 4000000
/-! texts: the parts of what was joined -/
namespace TS
open PySem PySem.StrLaws
/-- the code points -/
abbrev cs (x : Str) : List Nat := x.cps.toList
theorem cs_app (x y : Str) : cs (x ++ y) = cs x ++ cs y := by
  show (x.cps ++ y.cps).toList = _
  simp
theorem cs_inj {x y : Str} (h : cs x = cs y) : x = y := by
  cases x with
  | mk a =>
    cases y with
    | mk b => exact congrArg Str.mk (Array.toList_inj.mp h)
theorem cs_len (x : Str) : x.length = (cs x).length := by
  show x.cps.size = _
  simp
theorem at_get {x sub : Str} {i : Nat} (h : At x sub x.length i) {j : Nat} (hj : j < (cs sub).length) : (cs x)[i + j]? = (cs sub)[j]? := by
  obtain ⟨_, h2⟩ := h
  rw [subAt_eq] at h2
  have e : List.take sub.length (List.drop i (cs x)) = cs sub := by simpa using h2
  rw [← e, List.getElem?_take, if_pos (by rw [cs_len]; exact hj), List.getElem?_drop]
theorem at_of {x sub : Str} {pre post : List Nat} (h : cs x = pre ++ cs sub ++ post) : At x sub x.length pre.length := by
  refine ⟨?_, ?_⟩
  · rw [cs_len x, h, cs_len sub]
    simp
  · rw [subAt_eq]
    have : List.take sub.length (List.drop pre.length (cs x)) = cs sub := by
      rw [h, List.append_assoc, List.drop_left, cs_len, List.take_left]
    simpa using this
theorem sub_mid {x : Str} {pre mid post : List Nat} (h : cs x = pre ++ mid ++ post) {y : Str} (hy : cs y = mid) : Builtin.Str.strSub x pre.length (pre.length + mid.length) = y := by
  apply cs_inj
  show (Builtin.Str.strSub x pre.length (pre.length + mid.length)).cps.toList = _
  rw [strSub_toList, hy, show x.cps.toList = pre ++ mid ++ post from h]
  rw [show pre.length + mid.length - pre.length = mid.length from by omega, List.append_assoc, List.drop_left, List.take_left]
theorem sub_all (x : Str) : Builtin.Str.strSub x 0 x.length = x := by
  have := sub_mid (x := x) (pre := []) (mid := cs x) (post := []) (by simp) rfl
  rw [cs_len]
  simpa using this
theorem join_two (sep y z : Str) (r : List Str) : sep.join (y :: z :: r) = y ++ sep ++ sep.join (z :: r) := Str.join.eq_3 _ _ _ (by simp)
theorem chain_parts {x sep : Str} {c0 : Nat} {t : List Nat} (hsep : cs sep = c0 :: t) : ∀ (ys : List Str) (pre : List Nat) (cuts : List Nat) (f : Nat), ys ≠ [] → cs x = pre ++ cs (sep.join ys) → (∀ y ∈ ys, c0 ∉ cs y) →
    ChainG x sep x.length pre.length cuts f → (∀ k, f ≤ k → ¬ At x sep x.length k) → partsFrom x sep.length pre.length cuts = ys
  | [], _, _, _, h, _, _, _, _ => absurd rfl h
  | [y], pre, cuts, f, _, hx, hf, hc, hn => by
    rw [Str.join.eq_2] at hx
    cases cuts with
    | nil =>
      rw [partsFrom.eq_1]
      have e := sub_mid (x := x) (pre := pre) (mid := cs y) (post := []) (by simpa using hx) rfl
      have el : x.length = pre.length + (cs y).length := by rw [cs_len x, hx, List.length_append]
      rw [el, e]
    | cons c r =>
      rw [ChainG.eq_2] at hc
      obtain ⟨h1, h2, _⟩ := hc
      have h3 := at_get h2 (j := 0) (by rw [hsep]; simp)
      rw [hsep, Nat.add_zero, hx, List.getElem?_append_right h1] at h3
      exact absurd (List.mem_of_getElem? h3) (hf y (by simp))
  | y :: z :: r, pre, cuts, f, _, hx, hf, hc, hn => by
    rw [join_two, cs_app, cs_app] at hx
    have hat : At x sep x.length (pre.length + (cs y).length) := by
      have := at_of (x := x) (sub := sep) (pre := pre ++ cs y) (post := cs (sep.join (z :: r))) (by rw [hx]; simp)
      simpa using this
    have hno : ∀ k, pre.length ≤ k → k < pre.length + (cs y).length → ¬ At x sep x.length k := by
      intro k k1 k2 h2
      have h3 := at_get h2 (j := 0) (by rw [hsep]; simp)
      rw [hsep, Nat.add_zero, hx, List.getElem?_append_right k1, List.append_assoc, List.getElem?_append_left (by omega)] at h3
      exact hf y (by simp) (List.mem_of_getElem? h3)
    cases cuts with
    | nil =>
      rw [ChainG.eq_1] at hc
      exact absurd hat (hn _ (by omega))
    | cons c r' =>
      rw [ChainG.eq_2] at hc
      obtain ⟨h1, h2, h3, h4⟩ := hc
      have ec : c = pre.length + (cs y).length := by
        rcases Nat.lt_trichotomy c (pre.length + (cs y).length) with q | q | q
        · exact absurd h2 (hno c h1 q)
        · exact q
        · exact absurd hat (h3 _ (by omega) q)
      subst ec
      rw [partsFrom.eq_2]
      have e := sub_mid (x := x) (pre := pre) (mid := cs y) (post := cs sep ++ cs (sep.join (z :: r))) (by rw [hx]; simp) rfl
      rw [e]
      have hp : pre.length + (cs y).length + sep.length = (pre ++ cs y ++ cs sep).length := by rw [cs_len sep]; simp only [List.length_append]
      rw [hp] at h4 ⊢
      rw [chain_parts hsep (z :: r) (pre ++ cs y ++ cs sep) r' f (by simp) (by rw [hx]; simp) (fun y' hy' => hf y' (List.mem_cons_of_mem _ hy')) h4 hn]
theorem kind_pos (x : Str) : 1 ≤ Builtin.Str.strKind x := by
  unfold Builtin.Str.strKind
  split
  · exact Nat.le_refl _
  · split <;> omega
theorem split_join {sep : Str} {c0 : Nat} {t : List Nat} (hsep : cs sep = c0 :: t) (hk : Builtin.Str.strKind sep = 1) {ys : List Str} (h0 : ys ≠ []) (hf : ∀ y ∈ ys, c0 ∉ cs y) : Txt.split (Txt.join sep ys) sep = ys := by
  have ej : Txt.join sep ys = sep.join ys := glued_eq_join sep ys
  rw [ej]
  generalize hx : sep.join ys = x
  have h1 : 1 ≤ sep.length := by rw [cs_len, hsep]; simp
  obtain ⟨f, hc, hn⟩ := occ_tight x sep h1
  have hp := chain_parts (x := x) hsep ys [] _ f h0 (by rw [hx]; rfl) hf hc hn
  unfold Txt.split
  have k1 := kind_pos x
  by_cases hl : x.length < sep.length
  · rw [decide_eq_true hl, Bool.true_or, if_pos rfl]
    match ys, h0 with
    | [y], _ => rw [← hx, Str.join.eq_2]
    | y :: z :: r, _ =>
      rw [join_two] at hx
      rw [← hx, cs_len, cs_app, cs_app, cs_len sep] at hl
      simp only [List.length_append] at hl
      omega
  · rw [decide_eq_false hl, decide_eq_false (by omega : ¬ Builtin.Str.strKind x < Builtin.Str.strKind sep), Bool.false_or, if_neg (by simp)]
    split
    · rename_i he
      have e := List.isEmpty_iff.mp he
      rw [e] at hp
      rw [partsFrom.eq_1] at hp
      rw [← hp]
      show [x] = [Builtin.Str.strSub x 0 x.length]
      rw [sub_all]
    · rw [partsBetween_eq]
      exact hp
theorem partition_at {x a sep c : Str} (hx : cs x = cs a ++ cs sep ++ cs c) (hn : ∀ k, k < (cs a).length → ¬ At x sep x.length k) : Txt.partition x sep = (a, sep, c) := by
  have hat : At x sep x.length (cs a).length := at_of hx
  unfold Txt.partition
  rcases occ_head x sep 1 (Nat.le_refl _) with ⟨e, no⟩ | ⟨i, r, e, h1, h2⟩
  · exact absurd hat (no _)
  · rw [e]
    have ei : i = (cs a).length := by
      rcases Nat.lt_trichotomy i (cs a).length with q | q | q
      · exact absurd h1 (hn i q)
      · exact q
      · exact absurd hat (h2 _ q)
    subst ei
    have e1 := sub_mid (x := x) (pre := []) (mid := cs a) (post := cs sep ++ cs c) (by rw [hx]; simp) rfl
    have e2 := sub_mid (x := x) (pre := cs a ++ cs sep) (mid := cs c) (post := []) (by rw [hx]; simp) rfl
    simp only [List.length_nil, Nat.zero_add] at e1
    have el : x.length = (cs a ++ cs sep).length + (cs c).length := by rw [cs_len x, hx]; simp only [List.length_append]
    show (Builtin.Str.strSub x 0 (cs a).length, sep, Builtin.Str.strSub x ((cs a).length + sep.length) x.length) = _
    rw [e1, el, cs_len sep, ← List.length_append, e2]
theorem partition_no {x sep : Str} (hn : ∀ k, ¬ At x sep x.length k) : Txt.partition x sep = (x, Str.empty, Str.empty) := by
  unfold Txt.partition
  rcases occ_head x sep 1 (Nat.le_refl _) with ⟨e, no⟩ | ⟨i, r, e, h1, h2⟩
  · rw [e]
  · exact absurd h1 (hn i)
end TS

set_option maxHeartbeats 4000000
/-! the texts of row sets -/
namespace TS
open PySem PySem.StrLaws
def numS (n : Nat) : Str := Str.ofString (toString ((n : Nat) : Int))
/-- neither a blank nor a semicolon -/
def okw (w : Str) : Bool := (cs w).all fun c => c != 32 && c != 59
theorem num48 : ∀ n : Fin 48, (okw (numS n) && decide ((numS n).length ≤ 2) && Txt.isascii (numS n) && Txt.isdigit (numS n) && decide (intText? (numS n) = some ((n : Nat) : Int)) && decide (numS n ≠ "-")) = true := by decide +kernel
theorem num_ok {n : Nat} (h : n < 48) : okw (numS n) = true ∧ (numS n).length ≤ 2 ∧ Txt.isascii (numS n) = true ∧ Txt.isdigit (numS n) = true ∧ intText? (numS n) = some (n : Int) ∧ numS n ≠ "-" := by
  have q := num48 ⟨n, h⟩
  simp only [Bool.and_eq_true, decide_eq_true_eq] at q
  exact ⟨q.1.1.1.1.1, q.1.1.1.1.2, q.1.1.1.2, q.1.1.2, q.1.2, q.2⟩
theorem dash_ok : okw "-" = true ∧ (("-" : Str)).length ≤ 2 ∧ Txt.isdigit "-" = false := by decide +kernel
theorem digit_ascii : ∀ c : Fin 128, Unicode.isDigit (c : Nat) = (decide (48 ≤ (c : Nat)) && decide ((c : Nat) ≤ 57)) := by decide +kernel
theorem one_digit : ∀ a : Fin 10, intText? ⟨#[48 + (a : Nat)]⟩ = some ((a : Nat) : Int) := by decide +kernel
theorem two_digits : ∀ a b : Fin 10, intText? ⟨#[48 + (a : Nat), 48 + (b : Nat)]⟩ = some ((10 * (a : Nat) + (b : Nat) : Nat) : Int) := by decide +kernel
theorem fig {c : Nat} (h1 : c < 128) (h2 : Unicode.isDigit c = true) : ∃ a : Fin 10, c = 48 + (a : Nat) := by
  have q := digit_ascii ⟨c, h1⟩
  rw [h2] at q
  have q := q.symm
  simp only [Bool.and_eq_true, decide_eq_true_eq] at q
  exact ⟨⟨c - 48, by omega⟩, by show c = 48 + (c - 48); omega⟩
theorem read_any {w : Str} (h : w.length ≤ 2) (ha : Txt.isascii w = true) (hd : Txt.isdigit w = true) : ∃ n : Nat, n < 100 ∧ intText? w = some (n : Int) := by
  obtain ⟨a⟩ := w
  obtain ⟨l⟩ := a
  unfold Txt.isascii at ha
  unfold Txt.isdigit at hd
  have hl : l.length ≤ 2 := h
  match l, hl with
  | [], _ => simp [Str.length] at hd
  | [c], _ =>
    simp at ha hd
    obtain ⟨x, rfl⟩ := fig ha hd.2
    exact ⟨x, by omega, one_digit x⟩
  | [c, d], _ =>
    simp at ha hd
    obtain ⟨x, rfl⟩ := fig ha.1 hd.2.1
    obtain ⟨y, rfl⟩ := fig ha.2 hd.2.2
    exact ⟨10 * (x : Nat) + (y : Nat), by omega, two_digits x y⟩
/-- what read_state gives -/
def rdW (w : Str) : Option Nat := if w.length ≤ 2 ∧ Txt.isascii w = true ∧ Txt.isdigit w = true then (intText? w).map Int.toNat else none
theorem rdW_some {w : Str} (h1 : w.length ≤ 2) (h2 : Txt.isascii w = true) (h3 : Txt.isdigit w = true) : ∃ n : Nat, rdW w = some n ∧ intText? w = some (n : Int) := by
  obtain ⟨n, _, e⟩ := read_any h1 h2 h3
  exact ⟨n, by unfold rdW; rw [if_pos ⟨h1, h2, h3⟩, e]; rfl, e⟩
theorem rdW_none {w : Str} (h : ¬ (w.length ≤ 2 ∧ Txt.isascii w = true ∧ Txt.isdigit w = true)) : rdW w = none := if_neg h
abbrev Ln := Option Nat × Option Nat
def EOk (n : Nat) (o : Option Nat) : Prop := ∀ a, o = some a → a < n
def LOk (n : Nat) (l : Ln) : Prop := EOk n l.1 ∧ EOk n l.2
structure GoodL (ls : List Ln) : Prop where
  one : 1 ≤ ls.length
  most : ls.length ≤ 48
  ok : ∀ l ∈ ls, LOk ls.length l
theorem EOk.mono {n m : Nat} {o : Option Nat} (h : EOk n o) (l : n ≤ m) : EOk m o := fun a e => Nat.lt_of_lt_of_le (h a e) l
theorem LOk.mono {n m : Nat} {o : Ln} (h : LOk n o) (l : n ≤ m) : LOk m o := ⟨h.1.mono l, h.2.mono l⟩
theorem GoodL.all48 {ls : List Ln} (g : GoodL ls) : ∀ l ∈ ls, LOk 48 l := fun l h => (g.ok l h).mono g.most
theorem GoodL.ne {ls : List Ln} (g : GoodL ls) : ls ≠ [] := by
  rintro rfl
  exact absurd g.one (by decide)
def wS : Option Nat → Str
  | none => "-"
  | some n => numS n
theorem wS_ok {e : Option Nat} (h : EOk 48 e) : okw (wS e) = true ∧ (wS e).length ≤ 2 := by
  cases e with
  | none => exact ⟨dash_ok.1, dash_ok.2.1⟩
  | some n => exact ⟨(num_ok (h n rfl)).1, (num_ok (h n rfl)).2.1⟩
theorem rdW_wS {e : Option Nat} (h : EOk 48 e) : rdW (wS e) = e := by
  cases e with
  | none =>
    refine rdW_none fun z => ?_
    have q := z.2.2
    rw [show wS none = "-" from rfl, dash_ok.2.2] at q
    cases q
  | some n =>
    obtain ⟨_, h1, h2, h3, h4, _⟩ := num_ok (h n rfl)
    obtain ⟨m, e1, e2⟩ := rdW_some h1 h2 h3
    rw [h4] at e2
    have : n = m := by injection e2 with e2; omega
    rw [show wS (some n) = numS n from rfl, e1, this]
theorem wS_inj {e f : Option Nat} (h : EOk 48 e) (h' : EOk 48 f) (q : wS e = wS f) : e = f := by
  rw [← rdW_wS h, q, rdW_wS h']
def rowS (l : Ln) : Str := Str.join " " [wS l.1, wS l.2]
def txt (ls : List Ln) : Str := Str.join "; " (ls.map rowS)
theorem cs_sp : cs " " = [32] := by decide +kernel
theorem cs_semi : cs "; " = [59, 32] := by decide +kernel
theorem okw_no {w : Str} (h : okw w = true) {c : Nat} (hc : c = 32 ∨ c = 59) : c ∉ cs w := fun z => by
  have := List.all_eq_true.mp h c z
  rcases hc with rfl | rfl <;> cases this
theorem mem_join {sep : Str} {c : Nat} : ∀ {ys : List Str}, c ∈ cs (sep.join ys) → c ∈ cs sep ∨ ∃ y ∈ ys, c ∈ cs y
  | [], h => by
    rw [Str.join.eq_1] at h
    have : cs Str.empty = [] := rfl
    rw [this] at h
    cases h
  | [y], h => by
    rw [Str.join.eq_2] at h
    exact .inr ⟨y, by simp, h⟩
  | y :: z :: r, h => by
    rw [join_two, cs_app, cs_app] at h
    rcases List.mem_append.mp h with h | h
    · rcases List.mem_append.mp h with h | h
      · exact .inr ⟨y, by simp, h⟩
      · exact .inl h
    · rcases mem_join h with h | ⟨y', hy, h⟩
      · exact .inl h
      · exact .inr ⟨y', List.mem_cons_of_mem _ hy, h⟩
theorem join_eq (sep : Str) (ys : List Str) : Txt.join sep ys = sep.join ys := glued_eq_join sep ys
theorem split_row {l : Ln} (h : LOk 48 l) : Txt.split (rowS l) " " = [wS l.1, wS l.2] := by
  unfold rowS
  rw [← join_eq]
  refine split_join (c0 := 32) (t := []) cs_sp (by decide +kernel) (by simp) fun w hw => ?_
  simp only [List.mem_cons, List.not_mem_nil, or_false] at hw
  rcases hw with rfl | rfl
  · exact okw_no (wS_ok h.1).1 (.inl rfl)
  · exact okw_no (wS_ok h.2).1 (.inl rfl)
theorem semi_row {l : Ln} (h : LOk 48 l) : 59 ∉ cs (rowS l) := fun z => by
  unfold rowS at z
  rcases mem_join z with z | ⟨w, hw, z⟩
  · rw [cs_sp] at z
    simp at z
  · simp only [List.mem_cons, List.not_mem_nil, or_false] at hw
    rcases hw with rfl | rfl
    · exact okw_no (wS_ok h.1).1 (.inr rfl) z
    · exact okw_no (wS_ok h.2).1 (.inr rfl) z
theorem split_txt {ls : List Ln} (h0 : ls ≠ []) (h : ∀ l ∈ ls, LOk 48 l) : Txt.split (txt ls) "; " = ls.map rowS := by
  unfold txt
  rw [← join_eq]
  refine split_join (c0 := 59) (t := [32]) cs_semi (by decide +kernel) (by simpa using h0) fun y hy => ?_
  obtain ⟨l, hl, rfl⟩ := List.mem_map.mp hy
  exact semi_row (h l hl)
theorem row_back {p : Str} {a b : Option Nat} (h : Txt.split p " " = [wS a, wS b]) : p = rowS (a, b) := by
  rw [← StrLaws.join_split p " ", h]
  rfl
theorem txt_back {t : Str} {ls : List Ln} (h : Txt.split t "; " = ls.map rowS) : t = txt ls := by
  rw [← StrLaws.join_split t "; ", h]
  rfl
theorem rowS_inj {l l' : Ln} (h : LOk 48 l) (h' : LOk 48 l') (q : rowS l = rowS l') : l = l' := by
  have e := split_row h
  rw [q, split_row h'] at e
  simp only [List.cons.injEq, and_true] at e
  exact Prod.ext (wS_inj h.1 h'.1 e.1.symm) (wS_inj h.2 h'.2 e.2.symm)
theorem map_inj_on {α β : Type} {f : α → β} : ∀ {xs ys : List α}, (∀ x ∈ xs, ∀ y ∈ ys, f x = f y → x = y) → xs.map f = ys.map f → xs = ys
  | [], [], _, _ => rfl
  | [], _ :: _, _, e => by simp at e
  | _ :: _, [], _, e => by simp at e
  | x :: xs, y :: ys, h, e => by
    simp only [List.map_cons, List.cons.injEq] at e
    rw [h x (by simp) y (by simp) e.1, map_inj_on (fun a ha b hb => h a (List.mem_cons_of_mem _ ha) b (List.mem_cons_of_mem _ hb)) e.2]
theorem txt_inj {ls ls' : List Ln} (h0 : ls ≠ []) (h : ∀ l ∈ ls, LOk 48 l) (h0' : ls' ≠ []) (h' : ∀ l ∈ ls', LOk 48 l) (q : txt ls = txt ls') : ls = ls' := by
  have e := split_txt h0 h
  rw [q, split_txt h0' h'] at e
  exact (map_inj_on (fun x hx y hy => rowS_inj (h' x hx) (h y hy)) e).symm
theorem join_len (sep : Str) : ∀ ys : List Str, (Str.join sep ys).length + sep.length ≥ ys.length * sep.length ∧ (ys ≠ [] → (Str.join sep ys).length + sep.length = (ys.map (·.length)).sum + ys.length * sep.length)
  | [] => ⟨by simp, fun h => absurd rfl h⟩
  | [y] => by
    rw [Str.join.eq_2]
    simp
  | y :: z :: r => by
    obtain ⟨h1, h2⟩ := join_len sep (z :: r)
    have h2 := h2 (by simp)
    have e : (Str.join sep (y :: z :: r)).length = y.length + sep.length + (Str.join sep (z :: r)).length := by
      rw [join_two, Str.length_append, Str.length_append]
    have m1 : (y :: z :: r).length * sep.length = (z :: r).length * sep.length + sep.length := by
      rw [List.length_cons, Nat.succ_mul]
    rw [e, m1]
    refine ⟨by omega, fun _ => ?_⟩
    simp only [List.map_cons, List.sum_cons] at h2 ⊢
    omega
theorem split_len (x y : Str) (h : 1 ≤ y.length) : (Txt.split x y).length ≤ x.length + 1 := by
  have q := (join_len y (Txt.split x y)).1
  rw [StrLaws.join_split] at q
  have : (Txt.split x y).length * y.length ≤ x.length + y.length := q
  generalize hk : (Txt.split x y).length = k at this ⊢
  rcases Nat.lt_or_ge x.length k with z | z
  · have h3 : (x.length + 1) * y.length ≤ k * y.length := Nat.mul_le_mul_right _ z
    rw [Nat.succ_mul] at h3
    by_cases hz : k ≤ x.length + 1
    · exact hz
    · have h4 : (x.length + 2) * y.length ≤ k * y.length := Nat.mul_le_mul_right _ (by omega)
      have h5 : x.length ≤ x.length * y.length := Nat.le_mul_of_pos_right _ h
      rw [show (x.length + 2) * y.length = x.length * y.length + 2 * y.length from by rw [Nat.add_mul]] at h4
      omega
  · omega
theorem le_sum : ∀ {xs : List Nat} {a : Nat}, a ∈ xs → a ≤ xs.sum
  | [], _, h => by cases h
  | x :: xs, a, h => by
    rw [List.sum_cons]
    rcases List.mem_cons.mp h with rfl | h
    · exact Nat.le_add_right _ _
    · exact Nat.le_trans (le_sum h) (Nat.le_add_left _ _)
theorem part_len {x y p : Str} (h : p ∈ Txt.split x y) : p.length ≤ x.length := by
  have hne : Txt.split x y ≠ [] := fun z => by rw [z] at h; cases h
  have q := (join_len y (Txt.split x y)).2 hne
  rw [StrLaws.join_split] at q
  have h1 : 1 ≤ (Txt.split x y).length := by
    cases hh : Txt.split x y with
    | nil => exact absurd hh hne
    | cons _ _ => simp
  have h2 : y.length ≤ (Txt.split x y).length * y.length := Nat.le_mul_of_pos_left _ h1
  have h3 : p.length ≤ ((Txt.split x y).map (·.length)).sum := le_sum (List.mem_map.mpr ⟨p, h, rfl⟩)
  omega
theorem rowS_len {l : Ln} (h : LOk 48 l) : (rowS l).length ≤ 5 := by
  have q := (join_len " " [wS l.1, wS l.2]).2 (by simp)
  have h1 := (wS_ok h.1).2
  have h2 := (wS_ok h.2).2
  have e : (" " : Str).length = 1 := by decide +kernel
  rw [e] at q
  simp only [List.map_cons, List.map_nil, List.sum_cons, List.sum_nil, List.length_cons, List.length_nil] at q
  show (Str.join " " [wS l.1, wS l.2]).length ≤ 5
  omega
theorem sum_le {α : Type} {f : α → Nat} {k : Nat} : ∀ {xs : List α}, (∀ x ∈ xs, f x ≤ k) → (xs.map f).sum ≤ k * xs.length
  | [], _ => by simp
  | x :: xs, h => by
    have ih := sum_le (xs := xs) fun y hy => h y (List.mem_cons_of_mem _ hy)
    have := h x (by simp)
    simp only [List.map_cons, List.sum_cons, List.length_cons]
    rw [Nat.mul_succ]
    omega
theorem rows_sum {ls : List Ln} (h : ∀ l ∈ ls, LOk 48 l) : ((ls.map rowS).map (·.length)).sum ≤ 5 * ls.length := by
  rw [List.map_map]
  exact sum_le fun l hl => rowS_len (h l hl)
theorem txt_len {ls : List Ln} (h : ∀ l ∈ ls, LOk 48 l) (h0 : ls ≠ []) : (txt ls).length ≤ 7 * ls.length := by
  have q := (join_len "; " (ls.map rowS)).2 (by simpa using h0)
  have e : ("; " : Str).length = 2 := by decide +kernel
  rw [e, List.length_map] at q
  have := rows_sum h
  show (Str.join "; " (ls.map rowS)).length ≤ _
  omega
end TS

set_option maxHeartbeats 4000000
/-! the texts of claims -/
namespace TC
open PySem PySem.StrLaws TS
abbrev Lc := Nat × Nat × Str
def verds : List Str := ["none", "last", "other", "free"]
theorem verds_ok : ∀ v ∈ verds, okw v = true ∧ v.length ≤ 5 := by unfold verds; decide +kernel
def LOk (n : Nat) (l : Lc) : Prop := l.1 < n ∧ l.2.1 < n ∧ l.2.2 ∈ verds
structure GoodL (ls : List Lc) : Prop where
  one : 1 ≤ ls.length
  most : ls.length ≤ 48
  ok : ∀ l ∈ ls, LOk ls.length l
theorem LOk.mono {n m : Nat} {o : Lc} (h : LOk n o) (l : n ≤ m) : LOk m o := ⟨Nat.lt_of_lt_of_le h.1 l, Nat.lt_of_lt_of_le h.2.1 l, h.2.2⟩
theorem GoodL.all48 {ls : List Lc} (g : GoodL ls) : ∀ l ∈ ls, LOk 48 l := fun l h => (g.ok l h).mono g.most
theorem GoodL.ne {ls : List Lc} (g : GoodL ls) : ls ≠ [] := by
  rintro rfl
  exact absurd g.one (by decide)
theorem rd_num {n : Nat} (h : n < 48) : rdW (numS n) = some n := rdW_wS (e := some n) (fun a e => by cases e; exact h)
theorem num_inj {n m : Nat} (h : n < 48) (h' : m < 48) (e : numS n = numS m) : n = m := by
  have q := rd_num h
  rw [e, rd_num h'] at q
  injection q with q
  exact q.symm
def rowS (l : Lc) : Str := Str.join " " [numS l.1, numS l.2.1, l.2.2]
def txt (ls : List Lc) : Str := Str.join "; " (ls.map rowS)
theorem split_row {l : Lc} (h : LOk 48 l) : Txt.split (rowS l) " " = [numS l.1, numS l.2.1, l.2.2] := by
  unfold rowS
  rw [← join_eq]
  refine split_join (c0 := 32) (t := []) cs_sp (by decide +kernel) (by simp) fun w hw => ?_
  simp only [List.mem_cons, List.not_mem_nil, or_false] at hw
  rcases hw with rfl | rfl | rfl
  · exact okw_no (num_ok h.1).1 (.inl rfl)
  · exact okw_no (num_ok h.2.1).1 (.inl rfl)
  · exact okw_no (verds_ok _ h.2.2).1 (.inl rfl)
theorem semi_row {l : Lc} (h : LOk 48 l) : 59 ∉ cs (rowS l) := fun z => by
  unfold rowS at z
  rcases mem_join z with z | ⟨w, hw, z⟩
  · rw [cs_sp] at z
    simp at z
  · simp only [List.mem_cons, List.not_mem_nil, or_false] at hw
    rcases hw with rfl | rfl | rfl
    · exact okw_no (num_ok h.1).1 (.inr rfl) z
    · exact okw_no (num_ok h.2.1).1 (.inr rfl) z
    · exact okw_no (verds_ok _ h.2.2).1 (.inr rfl) z
theorem split_txt {ls : List Lc} (h0 : ls ≠ []) (h : ∀ l ∈ ls, LOk 48 l) : Txt.split (txt ls) "; " = ls.map rowS := by
  unfold txt
  rw [← join_eq]
  refine split_join (c0 := 59) (t := [32]) cs_semi (by decide +kernel) (by simpa using h0) fun y hy => ?_
  obtain ⟨l, hl, rfl⟩ := List.mem_map.mp hy
  exact semi_row (h l hl)
theorem row_back {p : Str} {a b : Nat} {v : Str} (h : Txt.split p " " = [numS a, numS b, v]) : p = rowS (a, b, v) := by
  rw [← StrLaws.join_split p " ", h]
  rfl
theorem txt_back {t : Str} {ls : List Lc} (h : Txt.split t "; " = ls.map rowS) : t = txt ls := by
  rw [← StrLaws.join_split t "; ", h]
  rfl
theorem rowS_inj {l l' : Lc} (h : LOk 48 l) (h' : LOk 48 l') (q : rowS l = rowS l') : l = l' := by
  have e := split_row h
  rw [q, split_row h'] at e
  simp only [List.cons.injEq, and_true] at e
  exact Prod.ext (num_inj h.1 h'.1 e.1.symm) (Prod.ext (num_inj h.2.1 h'.2.1 e.2.1.symm) e.2.2.symm)
theorem txt_inj {ls ls' : List Lc} (h0 : ls ≠ []) (h : ∀ l ∈ ls, LOk 48 l) (h0' : ls' ≠ []) (h' : ∀ l ∈ ls', LOk 48 l) (q : txt ls = txt ls') : ls = ls' := by
  have e := split_txt h0 h
  rw [q, split_txt h0' h'] at e
  exact (map_inj_on (fun x hx y hy => rowS_inj (h' x hx) (h y hy)) e).symm
theorem rowS_len {l : Lc} (h : LOk 48 l) : (rowS l).length ≤ 11 := by
  have q := (join_len " " [numS l.1, numS l.2.1, l.2.2]).2 (by simp)
  have h1 := (num_ok h.1).2.1
  have h2 := (num_ok h.2.1).2.1
  have h3 := (verds_ok _ h.2.2).2
  have e : (" " : Str).length = 1 := by decide +kernel
  rw [e] at q
  simp only [List.map_cons, List.map_nil, List.sum_cons, List.sum_nil, List.length_cons, List.length_nil] at q
  show (Str.join " " [numS l.1, numS l.2.1, l.2.2]).length ≤ 11
  omega
theorem rows_sum {ls : List Lc} (h : ∀ l ∈ ls, LOk 48 l) : ((ls.map rowS).map (·.length)).sum ≤ 11 * ls.length := by
  rw [List.map_map]
  exact sum_le fun l hl => rowS_len (h l hl)
theorem txt_len {ls : List Lc} (h : ∀ l ∈ ls, LOk 48 l) (h0 : ls ≠ []) : (txt ls).length ≤ 13 * ls.length := by
  have q := (join_len "; " (ls.map rowS)).2 (by simpa using h0)
  have e : ("; " : Str).length = 2 := by decide +kernel
  rw [e, List.length_map] at q
  have := rows_sum h
  show (Str.join "; " (ls.map rowS)).length ≤ _
  omega
end TC

/-! the first find of a search by two calls: what is like an earlier one, by a renaming of the calls, may be dropped -/
namespace B2
structure Sys (N : Type) where
  M : Nat
  rt : Nat → N
  stp : N → Nat → N
  bad : N → Nat → Prop
  Rel : N → N → Prop
  hM : 0 < M
  refl : ∀ n, Rel n n
  trans : ∀ a b c, Rel a b → Rel b c → Rel a c
  sim : ∀ n m, Rel n m → ∀ c, c < 2 → ∃ c', c' < 2 ∧ (bad n c → bad m c') ∧ (¬ bad n c → Rel (stp n c) (stp m c'))
variable {N : Type} (S : Sys N)
/-- paths as numbers: below M the beginnings, behind them 2 p + M + (0 or 1) -/
def nd (p : Nat) : N := if h : p < S.M then S.rt p else S.stp (nd ((p - S.M) / 2)) ((p - S.M) % 2)
termination_by p
decreasing_by have := S.hM; omega
def calls (p : Nat) : List Nat := if h : p < S.M then [] else calls ((p - S.M) / 2) ++ [(p - S.M) % 2]
termination_by p
decreasing_by have := S.hM; omega
def root (p : Nat) : Nat := if h : p < S.M then p else root ((p - S.M) / 2)
termination_by p
decreasing_by have := S.hM; omega
def child (p c : Nat) : Nat := 2 * p + S.M + c
variable {S}
theorem child_ge (p c : Nat) : S.M ≤ child S p c := by unfold child; omega
theorem child_par {p c : Nat} (hc : c < 2) : (child S p c - S.M) / 2 = p ∧ (child S p c - S.M) % 2 = c := by unfold child; omega
theorem nd_child {p c : Nat} (hc : c < 2) : nd S (child S p c) = S.stp (nd S p) c := by
  have h := child_ge (S := S) p c
  rw [nd, dif_neg (by omega), (child_par hc).1, (child_par hc).2]
theorem calls_child {p c : Nat} (hc : c < 2) : calls S (child S p c) = calls S p ++ [c] := by
  have h := child_ge (S := S) p c
  rw [calls, dif_neg (by omega), (child_par hc).1, (child_par hc).2]
theorem root_child {p c : Nat} (hc : c < 2) : root S (child S p c) = root S p := by
  have h := child_ge (S := S) p c
  rw [root, dif_neg (by omega), (child_par hc).1]
theorem nd_root {p : Nat} (h : p < S.M) : nd S p = S.rt p := by rw [nd, dif_pos h]
theorem calls_root {p : Nat} (h : p < S.M) : calls S p = [] := by rw [calls, dif_pos h]
theorem root_root {p : Nat} (h : p < S.M) : root S p = p := by rw [root, dif_pos h]
theorem root_lt (p : Nat) : root S p < S.M := by
  induction p using Nat.strongRecOn with
  | _ p ih =>
    by_cases h : p < S.M
    · rw [root_root h]; exact h
    · rw [root, dif_neg h]
      have := S.hM
      exact ih _ (by omega)
theorem path_cases {p : Nat} (h : ¬ p < S.M) : ∃ q c, c < 2 ∧ p = child S q c ∧ q < p := by
  have := S.hM
  refine ⟨(p - S.M) / 2, (p - S.M) % 2, by omega, ?_, by omega⟩
  unfold child
  omega
/-- behind this path the call c breaks -/
def Pt (S : Sys N) (p c : Nat) : Prop := S.bad (nd S p) c
/-- the first such path and call -/
def Res (S : Sys N) : Option (Nat × Nat) → Prop
  | none => ∀ p c, c < 2 → ¬ Pt S p c
  | some (p, c) => c < 2 ∧ Pt S p c ∧ (∀ q d, d < 2 → q < p → ¬ Pt S q d) ∧ ∀ d, d < c → ¬ Pt S p d
theorem Res.unique : ∀ {o o' : Option (Nat × Nat)}, Res S o → Res S o' → o = o'
  | none, none, _, _ => rfl
  | none, some (p, c), h, h' => absurd h'.2.1 (h p c h'.1)
  | some (p, c), none, h, h' => absurd h.2.1 (h' p c h.1)
  | some (p, c), some (q, d), h, h' => by
    have e : p = q := by
      rcases Nat.lt_trichotomy p q with l | l | l
      · exact absurd h.2.1 (h'.2.2.1 p c h.1 l)
      · exact l
      · exact absurd h'.2.1 (h.2.2.1 q d h'.1 l)
    subst e
    have e2 : c = d := by
      rcases Nat.lt_trichotomy c d with l | l | l
      · exact absurd h.2.1 (h'.2.2.2 c l)
      · exact l
      · exact absurd h'.2.1 (h.2.2.2 d l)
    rw [e2]
/-- how a search stands: W all that was put in, d the next, X what was led on -/
structure BI (S : Sys N) (W : List Nat) (d : Nat) (X : List Nat) : Prop where
  so : W.Pairwise (· < ·)
  ini : ∀ a, a < S.M → a ∈ W
  lt : ∀ x ∈ W, x < S.M ∨ ∃ y ∈ X, ∃ c, c < 2 ∧ x = child S y c
  xd : ∀ x ∈ X, ∃ i : Nat, i < d ∧ W[i]? = some x
  np : ∀ x ∈ X, ∀ c, c < 2 → ¬ Pt S x c
  ch : ∀ x ∈ X, ∀ c, c < 2 → ∃ r ∈ W, r ≤ child S x c ∧ S.Rel (nd S (child S x c)) (nd S r)
  dom : ∀ p, (∀ e, W[d]? = some e → p < e) → ∃ q ∈ X, q ≤ p ∧ S.Rel (nd S p) (nd S q)
theorem Pt.of {p q c : Nat} (hc : c < 2) (h : Pt S p c) (e : S.Rel (nd S p) (nd S q)) : ∃ c', c' < 2 ∧ Pt S q c' := by
  obtain ⟨c', h1, h2, _⟩ := S.sim _ _ e c hc
  exact ⟨c', h1, h2 h⟩
theorem BI.found {W X : List Nat} {d e c : Nat} (b : BI S W d X) (he : W[d]? = some e) (hc : c < 2) (h : Pt S e c) (h0 : ∀ k, k < c → ¬ Pt S e k) : Res S (some (e, c)) := by
  refine ⟨hc, h, fun q k hk hq hp => ?_, h0⟩
  obtain ⟨x, hx, _, e1⟩ := b.dom q fun e' h' => by rw [he] at h'; cases h'; exact hq
  obtain ⟨c', h1, h2⟩ := Pt.of hk hp e1
  exact b.np x hx c' h1 h2
theorem BI.none {W X : List Nat} {d : Nat} (b : BI S W d X) (h : W.length ≤ d) : Res S none := by
  intro p c hc hp
  obtain ⟨x, hx, _, e1⟩ := b.dom p fun e h' => by
    have := (List.getElem?_eq_some_iff.mp h').1
    omega
  obtain ⟨c', h1, h2⟩ := Pt.of hc hp e1
  exact b.np x hx c' h1 h2
theorem idx_lt {W : List Nat} (so : W.Pairwise (· < ·)) {i j x y : Nat} (hi : W[i]? = some x) (hj : W[j]? = some y) (h : i < j) : x < y := by
  obtain ⟨li, ei⟩ := List.getElem?_eq_some_iff.mp hi
  obtain ⟨lj, ej⟩ := List.getElem?_eq_some_iff.mp hj
  have := List.pairwise_iff_getElem.mp so i j li lj h
  omega
/-- one more has been taken -/
theorem BI.next {W X W' X' : List Nat} {d e : Nat} (b : BI S W d X) (he : W[d]? = some e) (so : W'.Pairwise (· < ·)) (pre : ∀ (i x : Nat), W[i]? = some x → W'[i]? = some x)
    (lt : ∀ x ∈ W', x < S.M ∨ ∃ y ∈ X', ∃ c, c < 2 ∧ x = child S y c) (sub : ∀ x ∈ X, x ∈ X') (xd : ∀ x ∈ X', x ∈ X ∨ x = e) (np : ∀ x ∈ X', ∀ c, c < 2 → ¬ Pt S x c)
    (ch : ∀ x ∈ X', ∀ c, c < 2 → ∃ r ∈ W', r ≤ child S x c ∧ S.Rel (nd S (child S x c)) (nd S r)) (de : ∃ q ∈ X', q ≤ e ∧ S.Rel (nd S e) (nd S q)) : BI S W' (d + 1) X' := by
  have he' := pre _ _ he
  have key : ∀ r, r ∈ W' → (∀ e', W'[d + 1]? = some e' → r < e') → ∃ q ∈ X', q ≤ r ∧ S.Rel (nd S r) (nd S q) := by
    intro r hr hlt
    obtain ⟨i, hi⟩ := List.getElem?_of_mem hr
    have hid : i ≤ d := by
      rcases Nat.lt_or_ge d i with q | q
      · exfalso
        have li := (List.getElem?_eq_some_iff.mp hi).1
        have hx : W'[d + 1]? = some W'[d + 1] := List.getElem?_eq_getElem (by omega)
        have l1 := hlt _ hx
        rcases Nat.lt_or_ge (d + 1) i with q2 | q2
        · have := idx_lt so hx hi q2
          omega
        · have : i = d + 1 := by omega
          subst this
          rw [hi] at hx
          injection hx with hx
          omega
      · exact q
    rcases Nat.lt_or_ge i d with q | q
    · have hre : r < e := idx_lt so hi he' q
      obtain ⟨x, hx, h1, h2⟩ := b.dom r fun e' h' => by rw [he] at h'; cases h'; exact hre
      exact ⟨x, sub x hx, h1, h2⟩
    · have : i = d := by omega
      subst this
      rw [he'] at hi
      cases hi
      exact de
  refine ⟨so, fun a ha => ?_, lt, fun x hx => ?_, np, ch, fun p => ?_⟩
  · obtain ⟨i, hi⟩ := List.getElem?_of_mem (b.ini a ha)
    exact List.mem_of_getElem? (pre i a hi)
  · rcases xd x hx with h | rfl
    · obtain ⟨i, h1, h2⟩ := b.xd x h
      exact ⟨i, by omega, pre _ _ h2⟩
    · exact ⟨d, by omega, he'⟩
  · induction p using Nat.strongRecOn with
    | _ p ih =>
      intro hp
      by_cases hpM : p < S.M
      · refine key p ?_ hp
        obtain ⟨i, hi⟩ := List.getElem?_of_mem (b.ini p hpM)
        exact List.mem_of_getElem? (pre i p hi)
      · obtain ⟨q, c, hc, rfl, hq⟩ := path_cases hpM
        obtain ⟨x, hx, hxq, hrel⟩ := ih q hq fun e' h' => Nat.lt_trans hq (hp e' h')
        obtain ⟨r, hr, hrp, hrr⟩ : ∃ r ∈ W', r ≤ child S q c ∧ S.Rel (nd S (child S q c)) (nd S r) := by
          rcases Nat.lt_or_eq_of_le hxq with hlt | rfl
          · obtain ⟨c', hc', h1, h2⟩ := S.sim _ _ hrel c hc
            have hnb : ¬ S.bad (nd S q) c := fun z => np x hx c' hc' (h1 z)
            obtain ⟨r, hr, hrc, hr2⟩ := ch x hx c' hc'
            refine ⟨r, hr, by unfold child at hrc ⊢; omega, ?_⟩
            rw [nd_child hc]
            rw [nd_child hc'] at hr2
            exact S.trans _ _ _ (h2 hnb) hr2
          · exact ch x hx c hc
        obtain ⟨q', hq', h1, h2⟩ := key r hr fun e' h' => Nat.lt_of_le_of_lt hrp (hp e' h')
        exact ⟨q', hq', Nat.le_trans h1 hrp, S.trans _ _ _ hrr h2⟩
theorem BI.init : BI S (List.range S.M) 0 [] := by
  refine ⟨List.pairwise_lt_range, fun a ha => List.mem_range.mpr ha, fun x hx => .inl (List.mem_range.mp hx), (fun x hx => by cases hx), (fun x hx => by cases hx), (fun x hx => by cases hx), fun p hp => ?_⟩
  have := hp 0 (by rw [List.getElem?_range S.hM])
  omega
variable {W X : List Nat} {d e : Nat}
theorem BI.xlt (b : BI S W d X) (he : W[d]? = some e) : ∀ x ∈ X, x < e := fun x hx => by
  obtain ⟨i, hi, h⟩ := b.xd x hx
  exact idx_lt b.so h he hi
theorem BI.above (b : BI S W d X) (he : W[d]? = some e) (c : Nat) : ∀ x ∈ W, x < child S e c := fun x hx => by
  rcases b.lt x hx with h | ⟨y, hy, k, hk, h⟩
  · exact Nat.lt_of_lt_of_le h (child_ge e c)
  · have := b.xlt he y hy
    subst h
    unfold child
    omega
/-- e is led on, with these of its two -/
theorem BI.lead (b : BI S W d X) (he : W[d]? = some e) (np : ∀ c, c < 2 → ¬ Pt S e c) {ad : List Nat} (so : ad.Pairwise (· < ·)) (sub : ∀ x ∈ ad, ∃ c, c < 2 ∧ x = child S e c)
    (ch : ∀ c, c < 2 → ∃ r ∈ W ++ ad, r ≤ child S e c ∧ S.Rel (nd S (child S e c)) (nd S r)) : BI S (W ++ ad) (d + 1) (X ++ [e]) := by
  refine b.next he ?_ (fun i x h => ?_) (fun x hx => ?_) (fun x hx => List.mem_append_left _ hx) (fun x hx => ?_) (fun x hx => ?_) (fun x hx => ?_) ⟨e, List.mem_append_right _ (List.mem_singleton.mpr rfl), Nat.le_refl _, S.refl _⟩
  · refine List.pairwise_append.mpr ⟨b.so, so, fun x hx y hy => ?_⟩
    obtain ⟨c, _, rfl⟩ := sub y hy
    exact b.above he c x hx
  · rw [List.getElem?_append_left (List.getElem?_eq_some_iff.mp h).1]
    exact h
  · rcases List.mem_append.mp hx with h | h
    · rcases b.lt x h with q | ⟨y, hy, c, hc, q⟩
      · exact .inl q
      · exact .inr ⟨y, List.mem_append_left _ hy, c, hc, q⟩
    · obtain ⟨c, hc, q⟩ := sub x h
      exact .inr ⟨e, List.mem_append_right _ (List.mem_singleton.mpr rfl), c, hc, q⟩
  · rcases List.mem_append.mp hx with h | h
    · exact .inl h
    · exact .inr (List.mem_singleton.mp h)
  · rcases List.mem_append.mp hx with h | h
    · exact b.np x h
    · rw [List.mem_singleton.mp h]
      exact np
  · rcases List.mem_append.mp hx with h | h
    · intro c hc
      obtain ⟨r, h1, h2⟩ := b.ch x h c hc
      exact ⟨r, List.mem_append_left _ h1, h2⟩
    · rw [List.mem_singleton.mp h]
      exact ch
end B2

set_option maxHeartbeats 4000000
/-! the texts of rules -/
namespace TR
open PySem PySem.StrLaws TS
abbrev Lr := Nat × Bool × Nat × Bool
def fallS (b : Bool) : Str := if b = true then "fall" else "stay"
def goS (b : Bool) : Str := if b = true then "go" else "stay"
/-- neither a blank nor a semicolon nor a bar -/
def okz (w : Str) : Bool := (cs w).all fun c => c != 32 && c != 59 && c != 124
theorem num48z : ∀ n : Fin 48, okz (numS n) = true := by decide +kernel
theorem num_z {n : Nat} (h : n < 48) : okz (numS n) = true := num48z ⟨n, h⟩
theorem fall_ok (b : Bool) : okz (fallS b) = true ∧ (fallS b).length ≤ 4 := by cases b <;> decide +kernel
theorem go_ok (b : Bool) : okz (goS b) = true ∧ (goS b).length ≤ 4 := by cases b <;> decide +kernel
theorem fall_inj {a b : Bool} (h : fallS a = fallS b) : a = b := by
  revert h
  cases a <;> cases b <;> decide +kernel
theorem go_inj {a b : Bool} (h : goS a = goS b) : a = b := by
  revert h
  cases a <;> cases b <;> decide +kernel
theorem okz_no {w : Str} (h : okz w = true) {c : Nat} (hc : c = 32 ∨ c = 59 ∨ c = 124) : c ∉ cs w := fun z => by
  have := List.all_eq_true.mp h c z
  rcases hc with rfl | rfl | rfl <;> cases this
def LOk (n : Nat) (l : Lr) : Prop := l.1 < n ∧ l.2.2.1 < n
def isRtN (k : Nat) : Bool := decide (k = 1) || decide (k = 4) || decide (k = 9) || decide (k = 16)
structure GoodR (ls : List Lr) (ss : List Nat) : Prop where
  one : 1 ≤ ls.length
  most : ls.length ≤ 48
  ok : ∀ l ∈ ls, LOk ls.length l
  rt : isRtN ss.length = true
  st : ∀ s ∈ ss, s < ls.length
theorem rt_le {k : Nat} (h : isRtN k = true) : 1 ≤ k ∧ k ≤ 16 := by
  unfold isRtN at h
  simp only [Bool.or_eq_true, decide_eq_true_eq] at h
  omega
section
variable {ls ls' : List Lr} {ss ss' : List Nat}
theorem GoodR.all48 (g : GoodR ls ss) : ∀ l ∈ ls, LOk 48 l := fun l h => ⟨Nat.lt_of_lt_of_le (g.ok l h).1 g.most, Nat.lt_of_lt_of_le (g.ok l h).2 g.most⟩
theorem GoodR.st48 (g : GoodR ls ss) : ∀ s ∈ ss, s < 48 := fun s h => Nat.lt_of_lt_of_le (g.st s h) g.most
theorem GoodR.ne (g : GoodR ls ss) : ls ≠ [] := by
  rintro rfl
  exact absurd g.one (by decide)
theorem GoodR.sne (g : GoodR ls ss) : ss ≠ [] := by
  rintro rfl
  exact absurd g.rt (by decide)
end
theorem rd_num {n : Nat} (h : n < 48) : rdW (numS n) = some n := rdW_wS (e := some n) (fun a e => by cases e; exact h)
theorem num_inj {n m : Nat} (h : n < 48) (h' : m < 48) (e : numS n = numS m) : n = m := by
  have q := rd_num h
  rw [e, rd_num h'] at q
  injection q with q
  exact q.symm
def rowS (l : Lr) : Str := Str.join " " [numS l.1, fallS l.2.1, numS l.2.2.1, goS l.2.2.2]
def rtx (ls : List Lr) : Str := Str.join "; " (ls.map rowS)
def stx (ss : List Nat) : Str := Str.join " " (ss.map numS)
def txt (ls : List Lr) (ss : List Nat) : Str := if ss = [0] then rtx ls else rtx ls ++ " | " ++ stx ss
theorem words_ok {l : Lr} (h : LOk 48 l) : ∀ w ∈ [numS l.1, fallS l.2.1, numS l.2.2.1, goS l.2.2.2], okz w = true := fun w hw => by
  simp only [List.mem_cons, List.not_mem_nil, or_false] at hw
  rcases hw with rfl | rfl | rfl | rfl
  · exact num_z h.1
  · exact (fall_ok _).1
  · exact num_z h.2
  · exact (go_ok _).1
theorem split_row {l : Lr} (h : LOk 48 l) : Txt.split (rowS l) " " = [numS l.1, fallS l.2.1, numS l.2.2.1, goS l.2.2.2] := by
  unfold rowS
  rw [← join_eq]
  exact split_join (c0 := 32) (t := []) cs_sp (by decide +kernel) (by simp) fun w hw => okz_no (words_ok h w hw) (.inl rfl)
theorem mem_row {l : Lr} (h : LOk 48 l) {c : Nat} (hc : c = 59 ∨ c = 124) : c ∉ cs (rowS l) := fun z => by
  unfold rowS at z
  rcases mem_join z with z | ⟨w, hw, z⟩
  · rw [cs_sp] at z
    simp only [List.mem_singleton] at z
    omega
  · exact okz_no (words_ok h w hw) (.inr hc) z
theorem split_rtx {ls : List Lr} (h0 : ls ≠ []) (h : ∀ l ∈ ls, LOk 48 l) : Txt.split (rtx ls) "; " = ls.map rowS := by
  unfold rtx
  rw [← join_eq]
  refine split_join (c0 := 59) (t := [32]) cs_semi (by decide +kernel) (by simpa using h0) fun y hy => ?_
  obtain ⟨l, hl, rfl⟩ := List.mem_map.mp hy
  exact mem_row (h l hl) (.inl rfl)
theorem split_stx {ss : List Nat} (h0 : ss ≠ []) (h : ∀ s ∈ ss, s < 48) : Txt.split (stx ss) " " = ss.map numS := by
  unfold stx
  rw [← join_eq]
  refine split_join (c0 := 32) (t := []) cs_sp (by decide +kernel) (by simpa using h0) fun y hy => ?_
  obtain ⟨s, hs, rfl⟩ := List.mem_map.mp hy
  exact okz_no (num_z (h s hs)) (.inl rfl)
theorem bar_rtx {ls : List Lr} (h : ∀ l ∈ ls, LOk 48 l) : 124 ∉ cs (rtx ls) := fun z => by
  unfold rtx at z
  rcases mem_join z with z | ⟨w, hw, z⟩
  · rw [cs_semi] at z
    simp at z
  · obtain ⟨l, hl, rfl⟩ := List.mem_map.mp hw
    exact mem_row (h l hl) (.inr rfl) z
theorem bar_stx {ss : List Nat} (h : ∀ s ∈ ss, s < 48) : 124 ∉ cs (stx ss) := fun z => by
  unfold stx at z
  rcases mem_join z with z | ⟨w, hw, z⟩
  · rw [cs_sp] at z
    simp at z
  · obtain ⟨s, hs, rfl⟩ := List.mem_map.mp hw
    exact okz_no (num_z (h s hs)) (.inr (.inr rfl)) z
theorem cs_bar : cs " | " = [32, 124, 32] := by decide +kernel
theorem bar_at {x : Str} {k : Nat} (h : At x " | " x.length k) : (cs x)[k + 1]? = some 124 := by
  have := at_get h (j := 1) (by rw [cs_bar]; decide)
  rw [this, cs_bar]
  rfl
theorem no_bar {x : Str} (h : 124 ∉ cs x) : ∀ k, ¬ At x " | " x.length k := fun k hk => h (List.mem_of_getElem? (bar_at hk))
theorem one_bar {x a c : Str} (hx : cs x = cs a ++ cs " | " ++ cs c) (ha : 124 ∉ cs a) (hc : 124 ∉ cs c) : At x " | " x.length (cs a).length ∧ ∀ k, At x " | " x.length k → k = (cs a).length := by
  refine ⟨at_of hx, fun k hk => ?_⟩
  have q := bar_at hk
  rw [hx, cs_bar, List.append_assoc] at q
  rcases Nat.lt_or_ge (k + 1) (cs a).length with z | z
  · rw [List.getElem?_append_left z] at q
    exact absurd (List.mem_of_getElem? q) ha
  · rw [List.getElem?_append_right z] at q
    rcases h : k + 1 - (cs a).length with _ | _ | _ | m
    · rw [h] at q; cases q
    · omega
    · rw [h] at q; cases q
    · rw [h] at q
      have q : (cs c)[m]? = some 124 := by simpa using q
      exact absurd (List.mem_of_getElem? q) hc
theorem split_of {x sep : Str} {ys : List Str} (h1 : 1 ≤ sep.length) (hk : Builtin.Str.strKind sep = 1) (h : partsFrom x sep.length 0 (Builtin.Str.occurrences x sep 0 x.length (x.length + 1)) = ys) : Txt.split x sep = ys := by
  obtain ⟨f, hc, hn⟩ := occ_tight x sep h1
  unfold Txt.split
  have k1 := kind_pos x
  by_cases hl : x.length < sep.length
  · rw [decide_eq_true hl, Bool.true_or, if_pos rfl]
    rw [← h]
    cases e : Builtin.Str.occurrences x sep 0 x.length (x.length + 1) with
    | nil =>
      rw [partsFrom.eq_1, sub_all]
    | cons c r =>
      rw [e, ChainG.eq_2] at hc
      have := hc.2.1.1
      omega
  · rw [decide_eq_false hl, decide_eq_false (by omega : ¬ Builtin.Str.strKind x < Builtin.Str.strKind sep), Bool.false_or, if_neg (by simp)]
    split
    · rename_i he
      have e := List.isEmpty_iff.mp he
      rw [e, partsFrom.eq_1] at h
      rw [← h, sub_all]
    · rw [partsBetween_eq]
      exact h
theorem split_bar1 {x : Str} (h : 124 ∉ cs x) : Txt.split x " | " = [x] := by
  obtain ⟨f, hc, hn⟩ := occ_tight x " | " (by decide +kernel)
  refine split_of (by decide +kernel) (by decide +kernel) ?_
  cases e : Builtin.Str.occurrences x " | " 0 x.length (x.length + 1) with
  | nil => rw [partsFrom.eq_1, sub_all]
  | cons c r =>
    rw [e, ChainG.eq_2] at hc
    exact absurd hc.2.1 (no_bar h c)
theorem split_bar2 {x a c : Str} (hx : cs x = cs a ++ cs " | " ++ cs c) (ha : 124 ∉ cs a) (hc' : 124 ∉ cs c) : Txt.split x " | " = [a, c] := by
  obtain ⟨f, hc, hn⟩ := occ_tight x " | " (by decide +kernel)
  obtain ⟨hat, huni⟩ := one_bar hx ha hc'
  have hb : (" | " : Str).length = 3 := by decide +kernel
  refine split_of (by decide +kernel) (by decide +kernel) ?_
  have e1 := sub_mid (x := x) (pre := []) (mid := cs a) (post := cs " | " ++ cs c) (by rw [hx]; simp) rfl
  have e2 := sub_mid (x := x) (pre := cs a ++ cs " | ") (mid := cs c) (post := []) (by rw [hx]; simp) rfl
  simp only [List.length_nil, Nat.zero_add] at e1
  have el : x.length = (cs a ++ cs " | ").length + (cs c).length := by rw [cs_len x, hx]; simp only [List.length_append]
  cases e : Builtin.Str.occurrences x " | " 0 x.length (x.length + 1) with
  | nil =>
    rw [e, ChainG.eq_1] at hc
    exact absurd hat (hn _ (by omega))
  | cons k r =>
    rw [e, ChainG.eq_2] at hc
    obtain ⟨_, h2, _, h4⟩ := hc
    have ek := huni k h2
    subst ek
    cases r with
    | nil =>
      rw [partsFrom.eq_2, partsFrom.eq_1, e1]
      have hp : (cs a).length + (" | " : Str).length = (cs a ++ cs " | ").length := by rw [cs_len " | "]; simp only [List.length_append]
      rw [hp]
      rw [← el] at e2
      rw [e2]
    | cons k2 r2 =>
      rw [ChainG.eq_2] at h4
      have := huni k2 h4.2.1
      have := h4.1
      omega
section
variable {ls ls' : List Lr} {ss ss' : List Nat}
theorem cs_txt (h0 : ss ≠ [0]) : cs (txt ls ss) = cs (rtx ls) ++ cs " | " ++ cs (stx ss) := by
  unfold txt
  rw [if_neg h0, cs_app, cs_app]
theorem txt_plain : txt ls [0] = rtx ls := if_pos rfl
theorem part_plain (g : GoodR ls [0]) : Txt.partition (txt ls [0]) " | " = (rtx ls, Str.empty, Str.empty) := by
  rw [txt_plain]
  exact partition_no (no_bar (bar_rtx g.all48))
theorem part_bar (g : GoodR ls ss) (h0 : ss ≠ [0]) : Txt.partition (txt ls ss) " | " = (rtx ls, (" | " : Str), stx ss) := by
  obtain ⟨_, huni⟩ := one_bar (cs_txt (ls := ls) h0) (bar_rtx g.all48) (bar_stx g.st48)
  exact partition_at (cs_txt h0) fun k hk hat => by
    have := huni k hat
    omega
theorem parts_plain (g : GoodR ls [0]) : Txt.split (txt ls [0]) " | " = [rtx ls] := by
  rw [txt_plain]
  exact split_bar1 (bar_rtx g.all48)
theorem parts_bar (g : GoodR ls ss) (h0 : ss ≠ [0]) : Txt.split (txt ls ss) " | " = [rtx ls, stx ss] := split_bar2 (cs_txt h0) (bar_rtx g.all48) (bar_stx g.st48)
theorem rowS_inj {l l' : Lr} (h : LOk 48 l) (h' : LOk 48 l') (q : rowS l = rowS l') : l = l' := by
  have e := split_row h
  rw [q, split_row h'] at e
  simp only [List.cons.injEq, and_true] at e
  exact Prod.ext (num_inj h.1 h'.1 e.1.symm) (Prod.ext (fall_inj e.2.1.symm) (Prod.ext (num_inj h.2 h'.2 e.2.2.1.symm) (go_inj e.2.2.2.symm)))
theorem rtx_inj (h0 : ls ≠ []) (h : ∀ l ∈ ls, LOk 48 l) (h0' : ls' ≠ []) (h' : ∀ l ∈ ls', LOk 48 l) (q : rtx ls = rtx ls') : ls = ls' := by
  have e := split_rtx h0 h
  rw [q, split_rtx h0' h'] at e
  exact (map_inj_on (fun x hx y hy => rowS_inj (h' x hx) (h y hy)) e).symm
theorem stx_inj (h0 : ss ≠ []) (h : ∀ s ∈ ss, s < 48) (h0' : ss' ≠ []) (h' : ∀ s ∈ ss', s < 48) (q : stx ss = stx ss') : ss = ss' := by
  have e := split_stx h0 h
  rw [q, split_stx h0' h'] at e
  exact (map_inj_on (fun x hx y hy => num_inj (h' x hx) (h y hy)) e).symm
theorem txt_inj (g : GoodR ls ss) (g' : GoodR ls' ss') (q : txt ls ss = txt ls' ss') : ls = ls' ∧ ss = ss' := by
  by_cases h : ss = [0]
  · subst h
    have e := parts_plain g
    rw [q] at e
    by_cases h' : ss' = [0]
    · subst h'
      rw [parts_plain g'] at e
      injection e with e
      exact ⟨(rtx_inj g'.ne g'.all48 g.ne g.all48 e).symm, rfl⟩
    · rw [parts_bar g' h'] at e
      simp at e
  · have e := parts_bar g h
    rw [q] at e
    by_cases h' : ss' = [0]
    · subst h'
      rw [parts_plain g'] at e
      simp at e
    · rw [parts_bar g' h'] at e
      simp only [List.cons.injEq, and_true] at e
      exact ⟨(rtx_inj g'.ne g'.all48 g.ne g.all48 e.1).symm, (stx_inj g'.sne g'.st48 g.sne g.st48 e.2).symm⟩
theorem row_back {p : Str} {l : Lr} (h : Txt.split p " " = [numS l.1, fallS l.2.1, numS l.2.2.1, goS l.2.2.2]) : p = rowS l := by
  rw [← StrLaws.join_split p " ", h]
  rfl
theorem rtx_back {t : Str} (h : Txt.split t "; " = ls.map rowS) : t = rtx ls := by
  rw [← StrLaws.join_split t "; ", h]
  rfl
theorem stx_back {t : Str} (h : Txt.split t " " = ss.map numS) : t = stx ss := by
  rw [← StrLaws.join_split t " ", h]
  rfl
theorem txt_back1 {t : Str} (h : Txt.split t " | " = [rtx ls]) : t = txt ls [0] := by
  rw [← StrLaws.join_split t " | ", h, txt_plain, Str.join.eq_2]
theorem txt_back2 {t : Str} (h0 : ss ≠ [0]) (h : Txt.split t " | " = [rtx ls, stx ss]) : t = txt ls ss := by
  rw [← StrLaws.join_split t " | ", h]
  unfold txt
  rw [if_neg h0, join_two, Str.join.eq_2]
theorem rowS_len {l : Lr} (h : LOk 48 l) : (rowS l).length ≤ 15 := by
  have q := (join_len " " [numS l.1, fallS l.2.1, numS l.2.2.1, goS l.2.2.2]).2 (by simp)
  have h1 := (num_ok h.1).2.1
  have h2 := (num_ok h.2).2.1
  have h3 := (fall_ok l.2.1).2
  have h4 := (go_ok l.2.2.2).2
  have e : (" " : Str).length = 1 := by decide +kernel
  rw [e] at q
  simp only [List.map_cons, List.map_nil, List.sum_cons, List.sum_nil, List.length_cons, List.length_nil] at q
  show (Str.join " " [numS l.1, fallS l.2.1, numS l.2.2.1, goS l.2.2.2]).length ≤ 15
  omega
theorem rows_sum (h : ∀ l ∈ ls, LOk 48 l) : ((ls.map rowS).map (·.length)).sum ≤ 15 * ls.length := by
  rw [List.map_map]
  exact sum_le fun l hl => rowS_len (h l hl)
theorem rtx_len (h : ∀ l ∈ ls, LOk 48 l) : (rtx ls).length ≤ 17 * ls.length := by
  by_cases h0 : ls = []
  · subst h0
    decide
  have q := (join_len "; " (ls.map rowS)).2 (by simpa using h0)
  have e : ("; " : Str).length = 2 := by decide +kernel
  rw [e, List.length_map] at q
  have := rows_sum h
  show (Str.join "; " (ls.map rowS)).length ≤ _
  omega
theorem nums_sum (h : ∀ s ∈ ss, s < 48) : ((ss.map numS).map (·.length)).sum ≤ 2 * ss.length := by
  rw [List.map_map]
  exact sum_le fun s hs => (num_ok (h s hs)).2.1
theorem stx_len (h : ∀ s ∈ ss, s < 48) : (stx ss).length ≤ 3 * ss.length := by
  by_cases h0 : ss = []
  · subst h0
    decide
  have q := (join_len " " (ss.map numS)).2 (by simpa using h0)
  have e : (" " : Str).length = 1 := by decide +kernel
  rw [e, List.length_map] at q
  have := nums_sum h
  show (Str.join " " (ss.map numS)).length ≤ _
  omega
theorem txt_len (g : GoodR ls ss) : (txt ls ss).length ≤ 870 := by
  have h1 := rtx_len g.all48
  have h2 := stx_len g.st48
  have h3 := g.most
  have h4 := (rt_le g.rt).2
  have e : (" | " : Str).length = 3 := by decide +kernel
  unfold txt
  split
  · omega
  · rw [Str.length_append, Str.length_append]
    omega
end
/-- the parts of a text at a bar are not longer -/
theorem part_len (t sep : Str) : (Txt.partition t sep).1.length ≤ t.length ∧ ((Txt.partition t sep).2.1 = sep ∨ (Txt.partition t sep).2.1 = Str.empty) ∧ (Txt.partition t sep).2.2.length ≤ t.length := by
  have sub : ∀ i j, (Builtin.Str.strSub t i j).length ≤ t.length := fun i j => by
    rw [cs_len, cs_len]
    show (Builtin.Str.strSub t i j).cps.toList.length ≤ t.cps.toList.length
    rw [strSub_toList, List.length_take, List.length_drop]
    omega
  unfold Txt.partition
  split
  · exact ⟨sub _ _, .inl rfl, sub _ _⟩
  · exact ⟨Nat.le_refl _, .inr rfl, Nat.zero_le _⟩
end TR

/-! a rule breaks a claim: the first find of a search by two calls -/
namespace BR
open PySem B2
abbrev Lr := TR.Lr
abbrev Lc := TC.Lc
/-- the call before (none at a beginning), the state of the rule, whether the second case is ahead, the state of the claim -/
abbrev Node := Option Nat × Nat × Bool × Nat
def rw_ (rows : List Lr) (i : Nat) : Lr := rows.getD i (0, false, 0, false)
def ln_ (lines : List Lc) (i : Nat) : Lc := lines.getD i (0, 0, Str.empty)
def aft (r : Lr) (behind : Bool) : Nat × Bool := if behind = true then (r.2.2.1, r.2.2.2) else (r.1, r.2.1)
def stepR (rows : List Lr) (st : Nat) (tu : Bool) (c : Nat) : Nat × Bool := ((aft (rw_ rows st) (decide (c = 1) != tu)).1, tu != (aft (rw_ rows st) (decide (c = 1) != tu)).2)
def stepC (lines : List Lc) (last : Option Nat) (cl c : Nat) : Nat := match last with
  | none => 0
  | some b => if c = b then (ln_ lines cl).1 else (ln_ lines cl).2.1
def stp (rows : List Lr) (lines : List Lc) (n : Node) (c : Nat) : Node := (some c, (stepR rows n.2.1 n.2.2.1 c).1, (stepR rows n.2.1 n.2.2.1 c).2, stepC lines n.1 n.2.2.2 c)
/-- a verdict allows that the case called last (same), or the other one, is ahead -/
def allows (w : Str) (same : Bool) : Bool := decide (w = "free") || decide (w = (if same = true then ("last" : Str) else "other"))
def okN (lines : List Lc) (n : Node) : Bool := allows (ln_ lines n.2.2.2).2.2 (n.2.2.1 == decide (n.1 = some 1))
def sys (rows : List Lr) (starts : List Nat) (lines : List Lc) (h : 0 < starts.length) : Sys Node where
  M := starts.length
  rt p := (none, starts.getD p 0, false, 0)
  stp := stp rows lines
  bad n c := okN lines (stp rows lines n c) = false
  Rel n m := n = m
  hM := h
  refl _ := rfl
  trans _ _ _ h h' := h.trans h'
  sim n m h c hc := ⟨c, hc, fun b => h ▸ b, fun _ => by rw [h]⟩
section
variable {rows : List Lr} {starts : List Nat} {lines : List Lc} {h0 : 0 < starts.length}
/-- a path's node is what its calls lead to -/
theorem nd_fold (p : Nat) : nd (sys rows starts lines h0) p = (calls (sys rows starts lines h0) p).foldl (stp rows lines) (none, starts.getD (root (sys rows starts lines h0) p) 0, false, 0) := by
  induction p using Nat.strongRecOn with
  | _ p ih =>
    by_cases h : p < starts.length
    · rw [nd_root (S := sys rows starts lines h0) h, calls_root (S := sys rows starts lines h0) h, root_root (S := sys rows starts lines h0) h]
      rfl
    · obtain ⟨q, c, hc, rfl, hq⟩ := path_cases (S := sys rows starts lines h0) h
      rw [nd_child hc, calls_child hc, root_child hc, List.foldl_append, ← ih q hq]
      rfl
theorem calls_lt (p : Nat) : ∀ c ∈ calls (sys rows starts lines h0) p, c < 2 := by
  induction p using Nat.strongRecOn with
  | _ p ih =>
    by_cases h : p < starts.length
    · rw [calls_root (S := sys rows starts lines h0) h]
      intro c hc
      cases hc
    · obtain ⟨q, c, hc, rfl, hq⟩ := path_cases (S := sys rows starts lines h0) h
      rw [calls_child hc]
      intro x hx
      rcases List.mem_append.mp hx with hx | hx
      · exact ih q hq x hx
      · rw [List.mem_singleton.mp hx]
        exact hc
/-! ### the claim that allows just what a rule does -/
/-- what a line stands for: entries (state, turned, call) -/
structure Kept (rows : List Lr) (starts : List Nat) (lines : List Lc) (T : Nat → List (Nat × Bool × Nat)) : Prop where
  l0 : 0 < lines.length
  ini : ∀ (i s c : Nat), starts[i]? = some s → c < 2 → ((stepR rows s false c).1, (stepR rows s false c).2, c) ∈ T 0
  last : ∀ (i : Nat), i < lines.length → ∀ e ∈ T i, e.2.2 < 2
  same : ∀ (i : Nat), i < lines.length → (ln_ lines i).1 < lines.length ∧ ∀ e ∈ T i, ((stepR rows e.1 e.2.1 e.2.2).1, (stepR rows e.1 e.2.1 e.2.2).2, e.2.2) ∈ T (ln_ lines i).1
  other : ∀ (i : Nat), i < lines.length → (ln_ lines i).2.1 < lines.length ∧ ∀ e ∈ T i, ((stepR rows e.1 e.2.1 (1 - e.2.2)).1, (stepR rows e.1 e.2.1 (1 - e.2.2)).2, 1 - e.2.2) ∈ T (ln_ lines i).2.1
  vd : ∀ (i : Nat), i < lines.length → ∀ e ∈ T i, allows (ln_ lines i).2.2 (e.2.1 == decide (e.2.2 = 1)) = true
theorem Kept.node {T : Nat → List (Nat × Bool × Nat)} (k : Kept rows starts lines T) (p : Nat) : (p < starts.length ∧ nd (sys rows starts lines h0) p = (none, starts.getD p 0, false, 0)) ∨
    ∃ c st tu cl, nd (sys rows starts lines h0) p = (some c, st, tu, cl) ∧ cl < lines.length ∧ (st, tu, c) ∈ T cl := by
  induction p using Nat.strongRecOn with
  | _ p ih =>
    by_cases h : p < starts.length
    · exact .inl ⟨h, nd_root (S := sys rows starts lines h0) h⟩
    · obtain ⟨q, c, hc, rfl, hq⟩ := path_cases (S := sys rows starts lines h0) h
      refine .inr ?_
      rw [nd_child hc]
      rcases ih q hq with ⟨hr, e⟩ | ⟨b, st, tu, cl, e, hcl, hm⟩
      · rw [e]
        refine ⟨c, _, _, 0, rfl, k.l0, ?_⟩
        have hs : starts[q]? = some (starts.getD q 0) := by
          have hr : q < starts.length := hr
          rw [List.getD_eq_getElem?_getD, List.getElem?_eq_getElem hr]
          rfl
        exact k.ini q _ c hs hc
      · rw [e]
        have hb := k.last cl hcl _ hm
        have hb : b < 2 := hb
        by_cases hcb : c = b
        · subst hcb
          obtain ⟨h1, h2⟩ := k.same cl hcl
          have e2 : stepC lines (some c) cl c = (ln_ lines cl).1 := if_pos rfl
          exact ⟨c, _, _, _, by show (some c, _, _, stepC lines (some c) cl c) = _; rw [e2], h1, h2 _ hm⟩
        · obtain ⟨h1, h2⟩ := k.other cl hcl
          have e2 : stepC lines (some b) cl c = (ln_ lines cl).2.1 := if_neg hcb
          have e3 : 1 - b = c := by omega
          have q := h2 _ hm
          have q : ((stepR rows st tu (1 - b)).1, (stepR rows st tu (1 - b)).2, 1 - b) ∈ T (ln_ lines cl).2.1 := q
          rw [e3] at q
          exact ⟨c, _, _, _, by show (some c, _, _, stepC lines (some b) cl c) = _; rw [e2], h1, q⟩
/-- the rule does not break it -/
theorem Kept.none {T : Nat → List (Nat × Bool × Nat)} (k : Kept rows starts lines T) : Res (sys rows starts lines h0) none := by
  intro p c hc hb
  have hp := k.node (h0 := h0) (child (sys rows starts lines h0) p c)
  have hb : okN lines (nd (sys rows starts lines h0) (child (sys rows starts lines h0) p c)) = false := by
    rw [nd_child hc]
    exact hb
  rcases hp with ⟨hr, _⟩ | ⟨b, st, tu, cl, e, hcl, hm⟩
  · have := child_ge (S := sys rows starts lines h0) p c
    have : starts.length ≤ child (sys rows starts lines h0) p c := this
    omega
  · rw [e] at hb
    have q := k.vd cl hcl _ hm
    have e1 : decide (some b = some 1) = decide (b = 1) := decide_eq_decide.mpr ⟨fun h => by injection h, fun h => by rw [h]⟩
    have hb : allows (ln_ lines cl).2.2 (tu == decide (some b = some 1)) = false := hb
    rw [e1] at hb
    have q : allows (ln_ lines cl).2.2 (tu == decide (b = 1)) = true := q
    rw [hb] at q
    cases q
end
end BR

namespace LF
section
variable {κ : Type} [DecidableEq κ]
/-! ### places in a list -/
def ix : List κ → κ → Nat
  | [], _ => 0
  | a :: l, k => if a = k then 0 else ix l k + 1
theorem ix_lt : ∀ {l : List κ} {k : κ}, k ∈ l → ix l k < l.length
  | [], _, h => by cases h
  | a :: l, k, h => by
    unfold ix
    by_cases e : a = k
    · rw [if_pos e]; exact Nat.succ_pos _
    · rw [if_neg e]
      rcases List.mem_cons.mp h with rfl | h
      · exact absurd rfl e
      · exact Nat.succ_lt_succ (ix_lt h)
theorem get_ix : ∀ {l : List κ} {k : κ}, k ∈ l → l[ix l k]? = some k
  | [], _, h => by cases h
  | a :: l, k, h => by
    unfold ix
    by_cases e : a = k
    · rw [if_pos e, e]; rfl
    · rw [if_neg e]
      rcases List.mem_cons.mp h with rfl | h
      · exact absurd rfl e
      · exact get_ix h
theorem ix_get : ∀ {l : List κ} {i : Nat} {k : κ}, l.Nodup → l[i]? = some k → ix l k = i
  | [], _, _, _, h => by simp at h
  | a :: l, 0, k, _, h => by
    have e : a = k := by simpa using h
    unfold ix
    rw [if_pos e]
  | a :: l, i + 1, k, hn, h => by
    have h' : l[i]? = some k := by simpa using h
    have hm : k ∈ l := List.mem_of_getElem? h'
    have hn' := List.nodup_cons.mp hn
    have e : ¬ a = k := fun e => hn'.1 (e ▸ hm)
    unfold ix
    rw [if_neg e, ix_get hn'.2 h']
theorem ix_app : ∀ {l m : List κ} {k : κ}, k ∈ l → ix (l ++ m) k = ix l k
  | [], _, _, h => by cases h
  | a :: l, m, k, h => by
    rw [List.cons_append]
    unfold ix
    by_cases e : a = k
    · rw [if_pos e, if_pos e]
    · rw [if_neg e, if_neg e]
      rcases List.mem_cons.mp h with rfl | h
      · exact absurd rfl e
      · rw [ix_app h]
theorem ix_new : ∀ {l : List κ} {k : κ}, ¬ k ∈ l → ∀ m, ix (l ++ k :: m) k = l.length
  | [], k, _, m => by
    show ix (k :: m) k = 0
    unfold ix
    rw [if_pos rfl]
  | a :: l, k, h, m => by
    rw [List.cons_append]
    unfold ix
    have h' := fun z => h (List.mem_cons_of_mem a z)
    rw [if_neg (fun e : a = k => h (by rw [e]; exact List.mem_cons_self)), ix_new h' m]
    rfl
theorem ix_inj {l : List κ} {a b : κ} (ha : a ∈ l) (hb : b ∈ l) (e : ix l a = ix l b) : a = b := by
  have h1 := get_ix ha
  have h2 := get_ix hb
  rw [e, h2] at h1
  exact (Option.some.inj h1).symm
theorem ix_map {μ : Type} [DecidableEq μ] (f : κ → μ) : ∀ {l : List κ} {k : κ}, (∀ a ∈ l, f a = f k → a = k) → ix (l.map f) (f k) = ix l k
  | [], _, _ => rfl
  | a :: l, k, h => by
    rw [List.map_cons]
    unfold ix
    by_cases e : a = k
    · rw [if_pos e, if_pos (congrArg f e)]
    · rw [if_neg e, if_neg (fun z => e (h a List.mem_cons_self z)), ix_map f (fun b hb => h b (List.mem_cons_of_mem _ hb))]
/-! ### each once, in the order of the first places -/
def push (s : List κ) (k : κ) : List κ := if k ∈ s then s else s ++ [k]
def uniq (ks : List κ) : List κ := ks.foldl push []
def numb (ks : List κ) : List Nat := ks.map fun k => ix (uniq ks) k
theorem mem_push {s : List κ} {k x : κ} : x ∈ push s k ↔ x ∈ s ∨ x = k := by
  unfold push
  by_cases h : k ∈ s
  · rw [if_pos h]
    exact ⟨.inl, fun z => z.elim id fun e => e ▸ h⟩
  · rw [if_neg h, List.mem_append, List.mem_singleton]
theorem fold_mem : ∀ {ks s : List κ} {x : κ}, x ∈ ks.foldl push s ↔ x ∈ s ∨ x ∈ ks
  | [], s, x => by simp
  | k :: ks, s, x => by
    rw [List.foldl_cons, fold_mem, mem_push, List.mem_cons]
    constructor
    · rintro ((h | h) | h)
      · exact .inl h
      · exact .inr (.inl h)
      · exact .inr (.inr h)
    · rintro (h | h | h)
      · exact .inl (.inl h)
      · exact .inl (.inr h)
      · exact .inr h
theorem uniq_mem {ks : List κ} {x : κ} : x ∈ uniq ks ↔ x ∈ ks := by
  unfold uniq
  rw [fold_mem]
  simp
theorem nodup_snoc {s : List κ} {k : κ} (h : s.Nodup) (hk : ¬ k ∈ s) : (s ++ [k]).Nodup := by
  rw [List.nodup_append]
  refine ⟨h, by simp, fun a ha b hb => ?_⟩
  rw [List.mem_singleton] at hb
  rintro rfl
  exact hk (hb ▸ ha)
theorem push_nodup {s : List κ} {k : κ} (h : s.Nodup) : (push s k).Nodup := by
  unfold push
  by_cases hk : k ∈ s
  · rw [if_pos hk]; exact h
  · rw [if_neg hk]; exact nodup_snoc h hk
theorem fold_nodup : ∀ {ks s : List κ}, s.Nodup → (ks.foldl push s).Nodup
  | [], _, h => h
  | k :: ks, s, h => by rw [List.foldl_cons]; exact fold_nodup (push_nodup h)
theorem uniq_nodup {ks : List κ} : (uniq ks).Nodup := fold_nodup List.nodup_nil
theorem fold_pre : ∀ (ks s : List κ), ∃ t, ks.foldl push s = s ++ t
  | [], s => ⟨[], by simp⟩
  | k :: ks, s => by
    obtain ⟨t, e⟩ := fold_pre ks (push s k)
    rw [List.foldl_cons, e]
    unfold push
    by_cases h : k ∈ s
    · rw [if_pos h]; exact ⟨t, rfl⟩
    · rw [if_neg h, List.append_assoc]; exact ⟨_, rfl⟩
theorem uniq_snoc (ks : List κ) (k : κ) : uniq (ks ++ [k]) = push (uniq ks) k := by
  unfold uniq
  rw [List.foldl_append]
  rfl
theorem uniq_pre (ks ls : List κ) : ∃ t, uniq (ks ++ ls) = uniq ks ++ t := by
  unfold uniq
  rw [List.foldl_append]
  exact fold_pre ls _
theorem fold_len : ∀ (ks s : List κ), (ks.foldl push s).length ≤ s.length + ks.length
  | [], s => by simp
  | k :: ks, s => by
    rw [List.foldl_cons]
    have h := fold_len ks (push s k)
    have h2 : (push s k).length ≤ s.length + 1 := by
      unfold push
      by_cases hk : k ∈ s
      · rw [if_pos hk]; omega
      · rw [if_neg hk, List.length_append]; simp
    rw [List.length_cons]
    omega
theorem uniq_len (ks : List κ) : (uniq ks).length ≤ ks.length := by
  have := fold_len ks []
  simpa [uniq] using this
theorem numb_len (ks : List κ) : (numb ks).length = ks.length := by unfold numb; rw [List.length_map]
theorem numb_get {ks : List κ} {i : Nat} {k : κ} (h : ks[i]? = some k) : (numb ks)[i]? = some (ix (uniq ks) k) := by
  unfold numb
  rw [List.getElem?_map, h]
  rfl
theorem fold_map {μ : Type} [DecidableEq μ] (f : κ → μ) : ∀ {ks s : List κ}, (∀ a b, (a ∈ ks ∨ a ∈ s) → (b ∈ ks ∨ b ∈ s) → f a = f b → a = b) → (ks.map f).foldl push (s.map f) = (ks.foldl push s).map f
  | [], s, _ => rfl
  | k :: ks, s, h => by
    rw [List.map_cons, List.foldl_cons, List.foldl_cons]
    have e : push (s.map f) (f k) = (push s k).map f := by
      unfold push
      by_cases hk : k ∈ s
      · rw [if_pos hk, if_pos (List.mem_map_of_mem hk)]
      · have : ¬ f k ∈ s.map f := fun z => by
          obtain ⟨a, ha, e⟩ := List.mem_map.mp z
          have := h a k (.inr ha) (.inl List.mem_cons_self) e
          exact hk (this ▸ ha)
        rw [if_neg hk, if_neg this, List.map_append]
        rfl
    rw [e]
    refine fold_map f fun a b ha hb => h a b ?_ ?_
    · rcases ha with ha | ha
      · exact .inl (List.mem_cons_of_mem _ ha)
      · exact (mem_push.mp ha).elim .inr fun z => .inl (z ▸ List.mem_cons_self)
    · rcases hb with hb | hb
      · exact .inl (List.mem_cons_of_mem _ hb)
      · exact (mem_push.mp hb).elim .inr fun z => .inl (z ▸ List.mem_cons_self)
theorem uniq_map {μ : Type} [DecidableEq μ] (f : κ → μ) {ks : List κ} (h : ∀ a b, a ∈ ks → b ∈ ks → f a = f b → a = b) : uniq (ks.map f) = (uniq ks).map f := by
  have := fold_map (s := []) f (ks := ks) fun a b ha hb => h a b (by simpa using ha) (by simpa using hb)
  simpa [uniq] using this
theorem numb_map {μ : Type} [DecidableEq μ] (f : κ → μ) {ks : List κ} (h : ∀ a b, a ∈ ks → b ∈ ks → f a = f b → a = b) : numb (ks.map f) = numb ks := by
  unfold numb
  rw [uniq_map f h, List.map_map]
  refine List.map_congr_left fun k hk => ?_
  exact ix_map f fun a ha e => h a k (uniq_mem.mp ha) hk e
/-- lists with the same pattern have the same numbers -/
theorem numb_congr {μ : Type} [DecidableEq μ] {ks : List κ} {ls : List μ} (hl : ks.length = ls.length) (h : ∀ (i j : Nat) (a b : κ) (c d : μ), ks[i]? = some a → ks[j]? = some b → ls[i]? = some c → ls[j]? = some d → (a = b ↔ c = d)) : numb ks = numb ls := by
  by_cases hz : ls = []
  · subst hz
    have : ks = [] := List.length_eq_zero_iff.mp hl
    subst this
    rfl
  obtain ⟨d0, _, _⟩ := List.exists_cons_of_ne_nil hz
  let f : κ → μ := fun k => ls.getD (ix ks k) d0
  have hf : ∀ (i : Nat) (a : κ), ks[i]? = some a → ls[i]? = some (f a) := by
    intro i a hi
    have hm := List.mem_of_getElem? hi
    have h1 := get_ix hm
    have hlt := ix_lt hm
    have hlt2 : ix ks a < ls.length := by rw [← hl]; exact hlt
    have hi2 : i < ls.length := by rw [← hl]; exact (List.getElem?_eq_some_iff.mp hi).1
    have e1 : ls[ix ks a]? = some ls[ix ks a] := List.getElem?_eq_getElem hlt2
    have e2 : ls[i]? = some ls[i] := List.getElem?_eq_getElem hi2
    have := (h i (ix ks a) a a _ _ hi h1 e2 e1).mp rfl
    show ls[i]? = some (ls.getD (ix ks a) d0)
    rw [List.getD_eq_getElem?_getD, e1, e2, this]
    rfl
  have e : ls = ks.map f := by
    refine List.ext_getElem? fun i => ?_
    rw [List.getElem?_map]
    cases hi : ks[i]? with
    | none =>
      rw [List.getElem?_eq_none_iff] at hi
      exact List.getElem?_eq_none_iff.mpr (by rw [← hl]; exact hi)
    | some a => exact hf i a hi
  rw [e]
  refine (numb_map f fun a b ha hb z => ?_).symm
  obtain ⟨i, hi⟩ := List.getElem?_of_mem ha
  obtain ⟨j, hj⟩ := List.getElem?_of_mem hb
  exact (h i j a b _ _ hi hj (hf i a hi) (hf j b hj)).mpr z
theorem numb_iff {ks : List κ} {i j : Nat} {a b : κ} (hi : ks[i]? = some a) (hj : ks[j]? = some b) : ((numb ks).getD i 0 = (numb ks).getD j 0) ↔ a = b := by
  rw [List.getD_eq_getElem?_getD, List.getD_eq_getElem?_getD, numb_get hi, numb_get hj]
  constructor
  · intro e
    exact ix_inj (uniq_mem.mpr (List.mem_of_getElem? hi)) (uniq_mem.mpr (List.mem_of_getElem? hj)) e
  · rintro rfl
    rfl
end
end LF

namespace LF
section
variable {L : Type} [DecidableEq L]
/-- a row: next and word after a call of the case ahead, next and word after a call of the other one -/
abbrev Row (L : Type) := Nat × L × Nat × L
def TOk (rows : List (Row L)) : Prop := ∀ r ∈ rows, r.1 < rows.length ∧ r.2.2.1 < rows.length
def at_ (cs : List Nat) (i : Nat) : Nat := cs.getD i 0
def key1 (r : Row L) : L × L := (r.2.1, r.2.2.2)
def key2 (cs : List Nat) (x : Row L × Nat) : Nat × Nat × Nat := (at_ cs x.2, at_ cs x.1.1, at_ cs x.1.2.2.1)
def split (rows : List (Row L)) (cs : List Nat) : List Nat := numb (rows.zipIdx.map (key2 cs))
def chain (rows : List (Row L)) : Nat → List Nat
  | 0 => numb (rows.map key1)
  | k + 1 => split rows (chain rows k)
def classes (rows : List (Row L)) : List Nat := chain rows rows.length
/-- one call: the word, the next state -/
def stp (rows : List (Row L)) (s : Nat) (b : Bool) : Option (L × Nat) := rows[s]?.map fun r => if b = true then (r.2.2.2, r.2.2.1) else (r.2.1, r.1)
/-- the words of a row of calls -/
def out (rows : List (Row L)) : Nat → List Bool → List (Option L)
  | _, [] => []
  | s, b :: w => match stp rows s b with
    | none => [none]
    | some (l, t) => some l :: out rows t w
variable {rows : List (Row L)}
theorem chain_len (k : Nat) : (chain rows k).length = rows.length := by
  cases k with
  | zero => unfold chain; rw [numb_len, List.length_map]
  | succ k => unfold chain split; rw [numb_len, List.length_map, List.length_zipIdx]
theorem out_cons {s : Nat} {b : Bool} {w : List Bool} {r : Row L} (h : rows[s]? = some r) : out rows s (b :: w) = some (if b = true then r.2.2.2 else r.2.1) :: out rows (if b = true then r.2.2.1 else r.1) w := by
  cases b <;> simp [out, stp, h]
/-- equal up to words of length k -/
def Eqv (rows : List (Row L)) (k i j : Nat) : Prop := ∀ w : List Bool, w.length ≤ k → out rows i w = out rows j w
theorem zip_get {i : Nat} {r : Row L} (h : rows[i]? = some r) : (rows.zipIdx)[i]? = some (r, i) := by
  rw [List.getElem?_zipIdx, h]
  simp
theorem eqv_step {k i j : Nat} {r r' : Row L} (hi : rows[i]? = some r) (hj : rows[j]? = some r') :
    Eqv rows (k + 1) i j ↔ (key1 r = key1 r' ∧ Eqv rows k r.1 r'.1 ∧ Eqv rows k r.2.2.1 r'.2.2.1) := by
  constructor
  · intro h
    have h0 := h [false] (by simp)
    have h1 := h [true] (by simp)
    rw [out_cons hi, out_cons hj] at h0 h1
    have e0 : r.2.1 = r'.2.1 := by
      have := (List.cons.inj h0).1
      simpa using this
    have e1 : r.2.2.2 = r'.2.2.2 := by
      have := (List.cons.inj h1).1
      simpa using this
    refine ⟨by unfold key1; rw [e0, e1], fun w hw => ?_, fun w hw => ?_⟩
    · have h2 := h (false :: w) (by rw [List.length_cons]; omega)
      rw [out_cons hi, out_cons hj] at h2
      simpa using (List.cons.inj h2).2
    · have h2 := h (true :: w) (by rw [List.length_cons]; omega)
      rw [out_cons hi, out_cons hj] at h2
      simpa using (List.cons.inj h2).2
  · rintro ⟨hk, h0, h1⟩ w hw
    have e0 : r.2.1 = r'.2.1 := (Prod.mk.inj hk).1
    have e1 : r.2.2.2 = r'.2.2.2 := (Prod.mk.inj hk).2
    cases w with
    | nil => rfl
    | cons b w =>
      rw [List.length_cons] at hw
      rw [out_cons hi, out_cons hj]
      cases b
      · simp only [Bool.false_eq_true, if_false]
        rw [e0, h0 w (by omega)]
      · simp only [if_true]
        rw [e1, h1 w (by omega)]
theorem eqv_mono {k m i j : Nat} (h : Eqv rows k i j) (hm : m ≤ k) : Eqv rows m i j := fun w hw => h w (Nat.le_trans hw hm)
theorem chain_iff (ok : TOk rows) : ∀ (k : Nat) {i j : Nat}, i < rows.length → j < rows.length → (at_ (chain rows k) i = at_ (chain rows k) j ↔ Eqv rows (k + 1) i j)
  | 0, i, j, hi, hj => by
    have ei : rows[i]? = some rows[i] := List.getElem?_eq_getElem hi
    have ej : rows[j]? = some rows[j] := List.getElem?_eq_getElem hj
    rw [eqv_step ei ej]
    have := numb_iff (ks := rows.map key1) (i := i) (j := j) (a := key1 rows[i]) (b := key1 rows[j]) (by rw [List.getElem?_map, ei]; rfl) (by rw [List.getElem?_map, ej]; rfl)
    unfold at_ chain
    rw [this]
    refine ⟨fun h => ⟨h, fun w hw => ?_, fun w hw => ?_⟩, fun h => h.1⟩
    · have : w = [] := List.length_eq_zero_iff.mp (by omega)
      subst this; rfl
    · have : w = [] := List.length_eq_zero_iff.mp (by omega)
      subst this; rfl
  | k + 1, i, j, hi, hj => by
    have ei : rows[i]? = some rows[i] := List.getElem?_eq_getElem hi
    have ej : rows[j]? = some rows[j] := List.getElem?_eq_getElem hj
    have oi := ok _ (List.getElem_mem hi)
    have oj := ok _ (List.getElem_mem hj)
    have := numb_iff (ks := rows.zipIdx.map (key2 (chain rows k))) (i := i) (j := j) (a := key2 (chain rows k) (rows[i], i)) (b := key2 (chain rows k) (rows[j], j)) (by rw [List.getElem?_map, zip_get ei]; rfl) (by rw [List.getElem?_map, zip_get ej]; rfl)
    have e1 := chain_iff ok k hi hj
    have e2 := chain_iff ok k oi.1 oj.1
    have e3 := chain_iff ok k oi.2 oj.2
    have e : (at_ (chain rows (k + 1)) i = at_ (chain rows (k + 1)) j) ↔ key2 (chain rows k) (rows[i], i) = key2 (chain rows k) (rows[j], j) := this
    rw [e, eqv_step ei ej]
    unfold key2
    simp only [Prod.mk.injEq]
    rw [e1, e2, e3]
    constructor
    · rintro ⟨h1, h2, h3⟩
      exact ⟨((eqv_step ei ej).mp h1).1, h2, h3⟩
    · rintro ⟨h1, h2, h3⟩
      exact ⟨(eqv_step ei ej).mpr ⟨h1, eqv_mono h2 (by omega), eqv_mono h3 (by omega)⟩, h2, h3⟩
/-! ### the chain comes to rest -/
theorem getD_of {cs : List Nat} {i x : Nat} (h : cs[i]? = some x) : at_ cs i = x := by unfold at_; rw [List.getD_eq_getElem?_getD, h]; rfl
theorem get_of_lt {cs : List Nat} {i : Nat} (h : i < cs.length) : cs[i]? = some (at_ cs i) := by
  have : cs[i]? = some cs[i] := List.getElem?_eq_getElem h
  rw [this, getD_of this]
/-- numbers by the pattern alone -/
theorem numb_self {κ : Type} [DecidableEq κ] (ks : List κ) : numb (numb ks) = numb ks := by
  refine numb_congr (by rw [numb_len]) fun i j a b c d h1 h2 h3 h4 => ?_
  have := numb_iff h3 h4
  have e1 := getD_of h1
  have e2 := getD_of h2
  unfold at_ at e1 e2
  rw [e1, e2] at this
  exact this
theorem chain_numb (k : Nat) : numb (chain rows k) = chain rows k := by
  cases k with
  | zero => exact numb_self _
  | succ k => exact numb_self _
/-- where the chain rests it rests for ever -/
theorem chain_rest {k : Nat} (h : chain rows k = chain rows (k + 1)) : ∀ m, chain rows (k + m) = chain rows k
  | 0 => rfl
  | m + 1 => by
    show split rows (chain rows (k + m)) = _
    rw [chain_rest h m]
    exact h.symm
/-- the pattern of the next one is finer -/
theorem chain_fine (ok : TOk rows) {k i j : Nat} (hi : i < rows.length) (hj : j < rows.length) (h : at_ (chain rows (k + 1)) i = at_ (chain rows (k + 1)) j) : at_ (chain rows k) i = at_ (chain rows k) j :=
  (chain_iff ok k hi hj).mpr (eqv_mono ((chain_iff ok (k + 1) hi hj).mp h) (by omega))
end
end LF

namespace LF
theorem count_lt {α : Type} {p q : α → Bool} : ∀ {l : List α}, (∀ x ∈ l, p x = true → q x = true) → (∃ x ∈ l, q x = true ∧ ¬ p x = true) → l.countP p < l.countP q
  | [], _, ⟨x, hx, _⟩ => by cases hx
  | a :: l, h, ⟨x, hx, hq, hp⟩ => by
    have h' : ∀ x ∈ l, p x = true → q x = true := fun y hy => h y (List.mem_cons_of_mem _ hy)
    have le : l.countP p ≤ l.countP q := List.countP_mono_left h'
    rw [List.countP_cons, List.countP_cons]
    rcases List.mem_cons.mp hx with rfl | hx
    · rw [if_pos hq, if_neg hp]; omega
    · have lt := count_lt h' ⟨x, hx, hq, hp⟩
      by_cases pa : p a = true
      · rw [if_pos pa, if_pos (h a List.mem_cons_self pa)]; omega
      · rw [if_neg pa]; omega
def pairs (n : Nat) : List (Nat × Nat) := (List.range n).flatMap fun i => (List.range n).map fun j => (i, j)
theorem mem_pairs {n i j : Nat} : (i, j) ∈ pairs n ↔ i < n ∧ j < n := by
  unfold pairs
  simp [List.mem_flatMap]
theorem sum_const : ∀ (l : List Nat) (n : Nat), (l.map fun _ => n).sum = l.length * n
  | [], n => by simp
  | a :: l, n => by rw [List.map_cons, List.sum_cons, sum_const l n, List.length_cons, Nat.succ_mul]; omega
theorem pairs_len (n : Nat) : (pairs n).length = n * n := by
  unfold pairs
  simp [List.length_flatMap]
  rw [sum_const, List.length_range]
section
variable {L : Type} [DecidableEq L] {rows : List (Row L)}
def same_ (cs : List Nat) (p : Nat × Nat) : Bool := decide (at_ cs p.1 = at_ cs p.2)
def mass (rows : List (Row L)) (k : Nat) : Nat := (pairs rows.length).countP (same_ (chain rows k))
theorem mass_le (k : Nat) : mass rows k ≤ rows.length * rows.length := by
  have := List.countP_le_length (p := same_ (chain rows k)) (l := pairs rows.length)
  rw [pairs_len] at this
  exact this
theorem chain_eq {a b : Nat} (h : ∀ i j, i < rows.length → j < rows.length → (at_ (chain rows a) i = at_ (chain rows a) j ↔ at_ (chain rows b) i = at_ (chain rows b) j)) : chain rows a = chain rows b := by
  rw [← chain_numb a, ← chain_numb b]
  refine numb_congr (by rw [chain_len, chain_len]) fun i j x y u v h1 h2 h3 h4 => ?_
  have hi : i < rows.length := by rw [← chain_len (rows := rows) a]; exact (List.getElem?_eq_some_iff.mp h1).1
  have hj : j < rows.length := by rw [← chain_len (rows := rows) a]; exact (List.getElem?_eq_some_iff.mp h2).1
  have := h i j hi hj
  rw [getD_of h1, getD_of h2, getD_of h3, getD_of h4] at this
  exact this
theorem mass_lt (ok : TOk rows) {k : Nat} (h : ¬ chain rows k = chain rows (k + 1)) : mass rows (k + 1) < mass rows k := by
  have : ∃ i j, i < rows.length ∧ j < rows.length ∧ at_ (chain rows k) i = at_ (chain rows k) j ∧ ¬ at_ (chain rows (k + 1)) i = at_ (chain rows (k + 1)) j := by
    refine Classical.byContradiction fun n => h (chain_eq fun i j hi hj => ⟨fun e => ?_, chain_fine ok hi hj⟩)
    exact Classical.byContradiction fun ne => n ⟨i, j, hi, hj, e, ne⟩
  obtain ⟨i, j, hi, hj, e, ne⟩ := this
  unfold mass
  refine count_lt (fun p hp => ?_) ⟨(i, j), mem_pairs.mpr ⟨hi, hj⟩, decide_eq_true e, fun z => ne (of_decide_eq_true z)⟩
  obtain ⟨a, b⟩ := p
  have hab := mem_pairs.mp hp
  intro z
  exact decide_eq_true (chain_fine ok hab.1 hab.2 (of_decide_eq_true z))
theorem mass_low (ok : TOk rows) : ∀ k, (∀ j < k, ¬ chain rows j = chain rows (j + 1)) → mass rows k + k ≤ rows.length * rows.length
  | 0, _ => mass_le 0
  | k + 1, h => by
    have h1 := mass_low ok k fun j hj => h j (by omega)
    have h2 := mass_lt ok (h k (by omega))
    omega
def cls (rows : List (Row L)) : List Nat := chain rows (rows.length * rows.length)
/-- where it rests first, that is the classes -/
theorem cls_of (ok : TOk rows) {k : Nat} (hk : ∀ j < k, ¬ chain rows j = chain rows (j + 1)) (h : chain rows k = chain rows (k + 1)) : cls rows = chain rows k := by
  have := mass_low ok k hk
  have e : rows.length * rows.length = k + (rows.length * rows.length - k) := by omega
  unfold cls
  rw [e]
  exact chain_rest h _
theorem rests (ok : TOk rows) : ∃ k ≤ rows.length * rows.length, (∀ j < k, ¬ chain rows j = chain rows (j + 1)) ∧ chain rows k = chain rows (k + 1) := by
  have go : ∀ m k, m + k = rows.length * rows.length → (∀ j < k, ¬ chain rows j = chain rows (j + 1)) → ∃ k ≤ rows.length * rows.length, (∀ j < k, ¬ chain rows j = chain rows (j + 1)) ∧ chain rows k = chain rows (k + 1) := by
    intro m
    induction m with
    | zero =>
      intro k hm hk
      refine ⟨k, by omega, hk, Classical.byContradiction fun ne => ?_⟩
      have h1 := mass_low ok (k + 1) fun j hj => by
        rcases Nat.lt_or_ge j k with h | h
        · exact hk j h
        · have : j = k := by omega
          rw [this]; exact ne
      omega
    | succ m ih =>
      intro k hm hk
      by_cases e : chain rows k = chain rows (k + 1)
      · exact ⟨k, by omega, hk, e⟩
      · refine ih (k + 1) (by omega) fun j hj => ?_
        rcases Nat.lt_or_ge j k with h | h
        · exact hk j h
        · have : j = k := by omega
          rw [this]; exact e
  exact go _ 0 rfl fun j hj => by omega
/-- no calls tell the states apart -/
def Alk (rows : List (Row L)) (i : Nat) (rows' : List (Row L)) (j : Nat) : Prop := ∀ w, out rows i w = out rows' j w
theorem cls_len : (cls rows).length = rows.length := chain_len _
theorem cls_iff (ok : TOk rows) {i j : Nat} (hi : i < rows.length) (hj : j < rows.length) : at_ (cls rows) i = at_ (cls rows) j ↔ Alk rows i rows j := by
  obtain ⟨k, _, hk, hr⟩ := rests ok
  rw [cls_of ok hk hr]
  constructor
  · intro e w
    have := (chain_iff ok (k + w.length) hi hj).mp (by rw [chain_rest hr]; exact e)
    exact this w (by omega)
  · intro h
    exact (chain_iff ok k hi hj).mpr fun w _ => h w
theorem cls_numb : numb (cls rows) = cls rows := chain_numb _
end
end LF

namespace LF
section
variable {L : Type} [DecidableEq L] {rows : List (Row L)}
def renum (f : Nat → Nat) (r : Row L) : Row L := (f r.1, r.2.1, f r.2.2.1, r.2.2.2)
def mstep (cs : List Nat) (acc : List (Row L)) (x : Row L × Nat) : List (Row L) := if at_ cs x.2 = acc.length then acc ++ [renum (at_ cs) x.1] else acc
def merged (rows : List (Row L)) (cs : List Nat) : List (Row L) := rows.zipIdx.foldl (mstep cs) []
theorem take_next {α : Type} {l : List α} {i : Nat} {x : α} (h : l[i]? = some x) : l.take (i + 1) = l.take i ++ [x] := by
  rw [List.take_add_one, h]
  rfl
theorem merged_pre {cs : List Nat} (hc : numb cs = cs) (hl : cs.length = rows.length) : ∀ i ≤ rows.length, ((rows.zipIdx.take i).foldl (mstep cs) []).length = (uniq (cs.take i)).length ∧
    ∀ j < i, ∃ j0 r0, rows[j0]? = some r0 ∧ at_ cs j0 = at_ cs j ∧ ((rows.zipIdx.take i).foldl (mstep cs) [])[at_ cs j]? = some (renum (at_ cs) r0)
  | 0, _ => ⟨rfl, fun j hj => absurd hj (Nat.not_lt_zero _)⟩
  | i + 1, hi => by
    obtain ⟨h1, h2⟩ := merged_pre hc hl i (by omega)
    have hir : i < rows.length := by omega
    have er : rows[i]? = some rows[i] := List.getElem?_eq_getElem hir
    have ec : cs[i]? = some (at_ cs i) := get_of_lt (by rw [hl]; exact hir)
    rw [take_next (zip_get er), List.foldl_append, take_next ec, uniq_snoc]
    show (mstep cs _ _).length = _ ∧ _
    have en : at_ cs i = ix (uniq cs) (at_ cs i) := by
      have := numb_get ec
      rw [hc, ec] at this
      exact Option.some.inj this
    generalize hacc : (rows.zipIdx.take i).foldl (mstep cs) [] = acc at h1 h2
    obtain ⟨t, ht⟩ := uniq_pre (cs.take (i + 1)) (cs.drop (i + 1))
    rw [List.take_append_drop, take_next ec, uniq_snoc] at ht
    by_cases hm : at_ cs i ∈ uniq (cs.take i)
    · have hp : push (uniq (cs.take i)) (at_ cs i) = uniq (cs.take i) := by unfold push; rw [if_pos hm]
      rw [hp] at ht ⊢
      have hlt : at_ cs i < acc.length := by
        rw [en, ht, ix_app hm, h1]
        exact ix_lt hm
      have hms : mstep cs acc (rows[i], i) = acc := by
        unfold mstep
        rw [if_neg (by show ¬ at_ cs i = acc.length; omega)]
      show (mstep cs acc (rows[i], i)).length = _ ∧ ∀ j < i + 1, ∃ j0 r0, rows[j0]? = some r0 ∧ at_ cs j0 = at_ cs j ∧ (mstep cs acc (rows[i], i))[at_ cs j]? = some (renum (at_ cs) r0)
      rw [hms]
      refine ⟨h1, fun j hj => ?_⟩
      rcases Nat.lt_or_ge j i with h | h
      · exact h2 j h
      · have : j = i := by omega
        subst this
        obtain ⟨j1, hj1⟩ := List.getElem?_of_mem (uniq_mem.mp hm)
        have hj1' : j1 < j := by
          have := (List.getElem?_eq_some_iff.mp hj1).1
          rw [List.length_take] at this
          omega
        have e1 : at_ cs j1 = at_ cs j := by
          rw [List.getElem?_take, if_pos hj1'] at hj1
          exact getD_of hj1
        obtain ⟨j0, r0, a, b, c⟩ := h2 j1 hj1'
        exact ⟨j0, r0, a, b.trans e1, by rw [← e1]; exact c⟩
    · have hp : push (uniq (cs.take i)) (at_ cs i) = uniq (cs.take i) ++ [at_ cs i] := by unfold push; rw [if_neg hm]
      rw [hp] at ht ⊢
      have heq : at_ cs i = acc.length := by
        have h3 : uniq cs = uniq (cs.take i) ++ at_ cs i :: t := by rw [ht, List.append_assoc]; rfl
        rw [h1]
        conv => lhs; rw [en, h3]
        exact ix_new hm t
      have hms : mstep cs acc (rows[i], i) = acc ++ [renum (at_ cs) rows[i]] := by
        unfold mstep
        rw [if_pos heq]
      show (mstep cs acc (rows[i], i)).length = _ ∧ ∀ j < i + 1, ∃ j0 r0, rows[j0]? = some r0 ∧ at_ cs j0 = at_ cs j ∧ (mstep cs acc (rows[i], i))[at_ cs j]? = some (renum (at_ cs) r0)
      rw [hms]
      refine ⟨by rw [List.length_append, List.length_append, h1]; rfl, fun j hj => ?_⟩
      rcases Nat.lt_or_ge j i with h | h
      · obtain ⟨j0, r0, a, b, c⟩ := h2 j h
        refine ⟨j0, r0, a, b, ?_⟩
        rw [List.getElem?_append_left (List.getElem?_eq_some_iff.mp c).1]
        exact c
      · have : j = i := by omega
        subst this
        exact ⟨j, rows[j], er, rfl, by rw [heq, List.getElem?_append_right (Nat.le_refl _), Nat.sub_self]; rfl⟩
abbrev mg (rows : List (Row L)) : List (Row L) := merged rows (cls rows)
theorem mg_get {j : Nat} (hj : j < rows.length) : ∃ j0 r0, rows[j0]? = some r0 ∧ at_ (cls rows) j0 = at_ (cls rows) j ∧ (mg rows)[at_ (cls rows) j]? = some (renum (at_ (cls rows)) r0) := by
  obtain ⟨_, h⟩ := merged_pre (rows := rows) (cs := cls rows) cls_numb cls_len rows.length (Nat.le_refl _)
  have e : rows.zipIdx.take rows.length = rows.zipIdx := List.take_of_length_le (by rw [List.length_zipIdx]; exact Nat.le_refl _)
  rw [e] at h
  exact h j hj
theorem mg_len : (mg rows).length = (uniq (cls rows)).length := by
  obtain ⟨h, _⟩ := merged_pre (rows := rows) (cs := cls rows) cls_numb cls_len rows.length (Nat.le_refl _)
  have e : rows.zipIdx.take rows.length = rows.zipIdx := List.take_of_length_le (by rw [List.length_zipIdx]; exact Nat.le_refl _)
  rw [e, List.take_of_length_le (by rw [cls_len]; exact Nat.le_refl _)] at h
  exact h
theorem mg_le : (mg rows).length ≤ rows.length := by
  rw [mg_len, ← cls_len (rows := rows)]
  exact uniq_len _
theorem cls_lt {j : Nat} (hj : j < rows.length) : at_ (cls rows) j < (mg rows).length := by
  obtain ⟨_, _, _, _, h⟩ := mg_get hj
  exact (List.getElem?_eq_some_iff.mp h).1
/-- each state of the merged table is the class of one -/
theorem mg_onto {k : Nat} (hk : k < (mg rows).length) : ∃ j < rows.length, at_ (cls rows) j = k := by
  rw [mg_len] at hk
  have e : (uniq (cls rows))[k]? = some (uniq (cls rows))[k] := List.getElem?_eq_getElem hk
  generalize (uniq (cls rows))[k] = u at e
  obtain ⟨j, hj⟩ := List.getElem?_of_mem (uniq_mem.mp (List.mem_of_getElem? e))
  refine ⟨j, by rw [← cls_len (rows := rows)]; exact (List.getElem?_eq_some_iff.mp hj).1, ?_⟩
  have h1 := numb_get hj
  rw [cls_numb, ix_get uniq_nodup e] at h1
  exact getD_of h1
theorem mg_ok (ok : TOk rows) : TOk (mg rows) := by
  intro r hr
  obtain ⟨k, hk⟩ := List.getElem?_of_mem hr
  obtain ⟨j, hj, e⟩ := mg_onto (List.getElem?_eq_some_iff.mp hk).1
  obtain ⟨j0, r0, h1, h2, h3⟩ := mg_get hj
  rw [e, hk] at h3
  have : r = renum (at_ (cls rows)) r0 := Option.some.inj h3
  rw [this]
  have o := ok r0 (List.mem_of_getElem? h1)
  exact ⟨cls_lt o.1, cls_lt o.2⟩
theorem alk_step (ok : TOk rows) {i j : Nat} {r r' : Row L} (hi : rows[i]? = some r) (hj : rows[j]? = some r') (h : Alk rows i rows j) : key1 r = key1 r' ∧ Alk rows r.1 rows r'.1 ∧ Alk rows r.2.2.1 rows r'.2.2.1 := by
  have h1 := (eqv_step (k := 0) hi hj).mp fun w _ => h w
  refine ⟨h1.1, fun w => ?_, fun w => ?_⟩
  · exact ((eqv_step (k := w.length) hi hj).mp fun w _ => h w).2.1 w (Nat.le_refl _)
  · exact ((eqv_step (k := w.length) hi hj).mp fun w _ => h w).2.2 w (Nat.le_refl _)
theorem mg_out (ok : TOk rows) : ∀ (w : List Bool) {j : Nat}, j < rows.length → out (mg rows) (at_ (cls rows) j) w = out rows j w
  | [], j, _ => by simp [out]
  | b :: w, j, hj => by
    obtain ⟨j0, r0, h1, h2, h3⟩ := mg_get hj
    have ej : rows[j]? = some rows[j] := List.getElem?_eq_getElem hj
    have hj0 : j0 < rows.length := (List.getElem?_eq_some_iff.mp h1).1
    have al := (cls_iff ok hj0 hj).mp h2
    obtain ⟨k1, k2, k3⟩ := alk_step ok h1 ej al
    have e0 : r0.2.1 = rows[j].2.1 := (Prod.mk.inj k1).1
    have e1 : r0.2.2.2 = rows[j].2.2.2 := (Prod.mk.inj k1).2
    have o0 := ok r0 (List.mem_of_getElem? h1)
    rw [out_cons h3, out_cons ej]
    cases b
    · show some r0.2.1 :: out (mg rows) (at_ (cls rows) r0.1) w = some rows[j].2.1 :: out rows rows[j].1 w
      rw [e0, mg_out ok w o0.1, k2 w]
    · show some r0.2.2.2 :: out (mg rows) (at_ (cls rows) r0.2.2.1) w = some rows[j].2.2.2 :: out rows rows[j].2.2.1 w
      rw [e1, mg_out ok w o0.2, k3 w]
/-- no two states are alike -/
def Apart (rows : List (Row L)) : Prop := ∀ i j, i < rows.length → j < rows.length → Alk rows i rows j → i = j
theorem mg_apart (ok : TOk rows) : Apart (mg rows) := by
  intro i j hi hj h
  obtain ⟨i', hi', rfl⟩ := mg_onto hi
  obtain ⟨j', hj', rfl⟩ := mg_onto hj
  refine (cls_iff ok hi' hj').mpr fun w => ?_
  have := h w
  rw [mg_out ok w hi', mg_out ok w hj'] at this
  exact this
end
end LF

namespace LF
/-- two lists, place by place -/
inductive F2 {α β : Type} (R : α → β → Prop) : List α → List β → Prop
  | nil : F2 R [] []
  | cons {a : α} {b : β} {l : List α} {m : List β} : R a b → F2 R l m → F2 R (a :: l) (b :: m)
section
variable {α β : Type} {R : α → β → Prop}
theorem F2.append : ∀ {l l' : List α} {m m' : List β}, F2 R l m → F2 R l' m' → F2 R (l ++ l') (m ++ m')
  | _, _, _, _, .nil, h => h
  | _, _, _, _, .cons r t, h => .cons r (t.append h)
theorem F2.len : ∀ {l : List α} {m : List β}, F2 R l m → l.length = m.length
  | _, _, .nil => rfl
  | _, _, .cons _ t => by rw [List.length_cons, List.length_cons, t.len]
theorem F2.get : ∀ {l : List α} {m : List β} {i : Nat} {a : α} {b : β}, F2 R l m → l[i]? = some a → m[i]? = some b → R a b
  | _, _, _, _, _, .nil, h, _ => by simp at h
  | _, _, 0, _, _, .cons r _, h1, h2 => by
    simp at h1 h2
    subst h1 h2
    exact r
  | _, _, i + 1, _, _, .cons _ t, h1, h2 => t.get (i := i) (by simpa using h1) (by simpa using h2)
theorem F2.left : ∀ {l : List α} {m : List β} {a : α}, F2 R l m → a ∈ l → ∃ b ∈ m, R a b
  | _, _, _, .nil, h => by cases h
  | _, _, _, .cons (b := b) r t, h => by
    rcases List.mem_cons.mp h with rfl | h
    · exact ⟨b, List.mem_cons_self, r⟩
    · obtain ⟨c, hc, q⟩ := t.left h
      exact ⟨c, List.mem_cons_of_mem _ hc, q⟩
theorem F2.right : ∀ {l : List α} {m : List β} {b : β}, F2 R l m → b ∈ m → ∃ a ∈ l, R a b
  | _, _, _, .nil, h => by cases h
  | _, _, _, .cons (a := a) r t, h => by
    rcases List.mem_cons.mp h with rfl | h
    · exact ⟨a, List.mem_cons_self, r⟩
    · obtain ⟨c, hc, q⟩ := t.right h
      exact ⟨c, List.mem_cons_of_mem _ hc, q⟩
theorem F2.of {l : List α} {m : List β} (hl : l.length = m.length) (h : ∀ (i : Nat) (a : α) (b : β), l[i]? = some a → m[i]? = some b → R a b) : F2 R l m := by
  induction l generalizing m with
  | nil =>
    cases m with
    | nil => exact .nil
    | cons _ _ => cases hl
  | cons a l ih =>
    cases m with
    | nil => cases hl
    | cons b m => exact .cons (h 0 a b rfl rfl) (ih (by simpa using hl) fun i x y h1 h2 => h (i + 1) x y (by simpa using h1) (by simpa using h2))
end
/-- different numbers below n are at most n -/
theorem few : ∀ (n : Nat) {l : List Nat}, l.Nodup → (∀ x ∈ l, x < n) → l.length ≤ n
  | 0, l, _, h => by
    cases l with
    | nil => exact Nat.le_refl _
    | cons a l => exact absurd (h a List.mem_cons_self) (Nat.not_lt_zero _)
  | n + 1, l, hn, h => by
    have h1 := few n (l := l.erase n) (hn.erase n) fun x hx => by
      have hm := List.mem_of_mem_erase hx
      have hlt := h x hm
      have ne : x ≠ n := fun e => by
        rw [e] at hx
        exact (List.Nodup.not_mem_erase hn) hx
      omega
    by_cases hm : n ∈ l
    · rw [List.length_erase_of_mem hm] at h1
      omega
    · rw [List.erase_of_not_mem hm] at h1
      omega
section
variable {L : Type} [DecidableEq L] {rows : List (Row L)}
/-- the visit: what waits, what has been visited -/
def visit (rows : List (Row L)) : Nat → List Nat → List Nat → List Nat
  | 0, _, s => s
  | _ + 1, [], s => s
  | f + 1, x :: w, s => if x ∈ s then visit rows f w s else match rows[x]? with
    | none => s
    | some r => visit rows f (w ++ [r.1, r.2.2.1]) (s ++ [x])
structure VOk (rows : List (Row L)) (w s : List Nat) : Prop where
  ok : TOk rows
  hw : ∀ x ∈ w, x < rows.length
  hs : ∀ x ∈ s, x < rows.length
  nd : s.Nodup
theorem visit_old {f x : Nat} {w s : List Nat} (h : x ∈ s) : visit rows (f + 1) (x :: w) s = visit rows f w s := by
  show (if x ∈ s then _ else _) = _
  rw [if_pos h]
theorem visit_new {f x : Nat} {w s : List Nat} {r : Row L} (h : ¬ x ∈ s) (hr : rows[x]? = some r) : visit rows (f + 1) (x :: w) s = visit rows f (w ++ [r.1, r.2.2.1]) (s ++ [x]) := by
  show (if x ∈ s then _ else match rows[x]? with | none => s | some r => visit rows f (w ++ [r.1, r.2.2.1]) (s ++ [x])) = _
  rw [if_neg h, hr]
def need (rows : List (Row L)) (w s : List Nat) : Nat := w.length + 2 * (rows.length - s.length)
theorem VOk.old {x : Nat} {w s : List Nat} (v : VOk rows (x :: w) s) : VOk rows w s := ⟨v.ok, fun y hy => v.hw y (List.mem_cons_of_mem _ hy), v.hs, v.nd⟩
theorem VOk.new {x : Nat} {w s : List Nat} {r : Row L} (v : VOk rows (x :: w) s) (h : ¬ x ∈ s) (hr : rows[x]? = some r) : VOk rows (w ++ [r.1, r.2.2.1]) (s ++ [x]) := by
  have o := v.ok r (List.mem_of_getElem? hr)
  refine ⟨v.ok, fun y hy => ?_, fun y hy => ?_, nodup_snoc v.nd h⟩
  · rcases List.mem_append.mp hy with hy | hy
    · exact v.hw y (List.mem_cons_of_mem _ hy)
    · simp at hy
      rcases hy with rfl | rfl
      · exact o.1
      · exact o.2
  · rcases List.mem_append.mp hy with hy | hy
    · exact v.hs y hy
    · rw [List.mem_singleton.mp hy]
      exact v.hw x List.mem_cons_self
theorem VOk.room {x : Nat} {w s : List Nat} (v : VOk rows (x :: w) s) (h : ¬ x ∈ s) : s.length < rows.length := by
  have := few rows.length (nodup_snoc v.nd h) fun y hy => by
    rcases List.mem_append.mp hy with hy | hy
    · exact v.hs y hy
    · rw [List.mem_singleton.mp hy]
      exact v.hw x List.mem_cons_self
  rw [List.length_append] at this
  exact this
theorem need_new {x : Nat} {w s : List Nat} {r : Row L} (v : VOk rows (x :: w) s) (h : ¬ x ∈ s) : need rows (w ++ [r.1, r.2.2.1]) (s ++ [x]) + 1 = need rows (x :: w) s := by
  have := v.room h
  unfold need
  simp
  omega
/-- more fuel changes nothing -/
theorem visit_more : ∀ (f : Nat) {w s : List Nat}, VOk rows w s → need rows w s ≤ f → visit rows (f + 1) w s = visit rows f w s
  | 0, w, s, v, h => by
    have : w = [] := List.length_eq_zero_iff.mp (by unfold need at h; omega)
    subst this
    rfl
  | f + 1, [], s, v, h => rfl
  | f + 1, x :: w, s, v, h => by
    by_cases hx : x ∈ s
    · rw [visit_old hx, visit_old hx]
      refine visit_more f v.old ?_
      unfold need at h ⊢
      rw [List.length_cons] at h
      omega
    · have hlt := v.hw x List.mem_cons_self
      have hr : rows[x]? = some rows[x] := List.getElem?_eq_getElem hlt
      rw [visit_new hx hr, visit_new hx hr]
      refine visit_more f (v.new hx hr) ?_
      have := need_new (r := rows[x]) v hx
      omega
theorem visit_fuel {f : Nat} {w s : List Nat} (v : VOk rows w s) (h : need rows w s ≤ f) : ∀ k, visit rows (f + k) w s = visit rows f w s
  | 0 => rfl
  | k + 1 => by
    rw [← Nat.add_assoc, visit_more (f + k) v (by omega)]
    exact visit_fuel v h k
/-- what a visit comes to -/
structure VEnd (rows : List (Row L)) (w s o : List Nat) : Prop where
  pre : ∃ t, o = s ++ t
  nd : o.Nodup
  lt : ∀ x ∈ o, x < rows.length
  all : ∀ x ∈ w, x ∈ o
  closed : (∀ x ∈ s, ∀ r, rows[x]? = some r → (r.1 ∈ s ∨ r.1 ∈ w) ∧ (r.2.2.1 ∈ s ∨ r.2.2.1 ∈ w)) → ∀ x ∈ o, ∀ r, rows[x]? = some r → r.1 ∈ o ∧ r.2.2.1 ∈ o
theorem visit_end : ∀ (f : Nat) {w s : List Nat}, VOk rows w s → need rows w s ≤ f → VEnd rows w s (visit rows f w s)
  | 0, w, s, v, h => by
    have : w = [] := List.length_eq_zero_iff.mp (by unfold need at h; omega)
    subst this
    refine ⟨⟨[], by simp [visit]⟩, v.nd, v.hs, fun x hx => (by cases hx), fun c x hx r hr => ?_⟩
    have := c x hx r hr
    exact ⟨this.1.elim id fun z => (by cases z), this.2.elim id fun z => (by cases z)⟩
  | f + 1, [], s, v, h => by
    refine ⟨⟨[], by simp [visit]⟩, v.nd, v.hs, fun x hx => (by cases hx), fun c x hx r hr => ?_⟩
    have := c x hx r hr
    exact ⟨this.1.elim id fun z => (by cases z), this.2.elim id fun z => (by cases z)⟩
  | f + 1, x :: w, s, v, h => by
    by_cases hx : x ∈ s
    · rw [visit_old hx]
      have e := visit_end f v.old (by unfold need at h ⊢; rw [List.length_cons] at h; omega)
      obtain ⟨t, ht⟩ := e.pre
      refine ⟨e.pre, e.nd, e.lt, fun y hy => ?_, fun c => e.closed fun y hy r hr => ?_⟩
      · rcases List.mem_cons.mp hy with rfl | hy
        · rw [ht]; exact List.mem_append_left _ hx
        · exact e.all y hy
      · have c1 := c y hy r hr
        refine ⟨c1.1.elim .inl fun z => ?_, c1.2.elim .inl fun z => ?_⟩
        · exact (List.mem_cons.mp z).elim (fun e => .inl (e ▸ hx)) .inr
        · exact (List.mem_cons.mp z).elim (fun e => .inl (e ▸ hx)) .inr
    · have hlt := v.hw x List.mem_cons_self
      have hr : rows[x]? = some rows[x] := List.getElem?_eq_getElem hlt
      rw [visit_new hx hr]
      have e := visit_end f (v.new hx hr) (by have := need_new (r := rows[x]) v hx; omega)
      obtain ⟨t, ht⟩ := e.pre
      refine ⟨⟨[x] ++ t, by rw [ht, List.append_assoc]⟩, e.nd, e.lt, fun y hy => ?_, fun c => e.closed fun y hy r hr' => ?_⟩
      · rcases List.mem_cons.mp hy with rfl | hy
        · rw [ht]; exact List.mem_append_left _ (List.mem_append_right _ (List.mem_singleton.mpr rfl))
        · exact e.all y (List.mem_append_left _ hy)
      · rcases List.mem_append.mp hy with hy | hy
        · have c1 := c y hy r hr'
          have go : ∀ z, z ∈ s ∨ z ∈ x :: w → z ∈ s ++ [x] ∨ z ∈ w ++ [rows[x].1, rows[x].2.2.1] := fun z hz => by
            rcases hz with hz | hz
            · exact .inl (List.mem_append_left _ hz)
            · rcases List.mem_cons.mp hz with rfl | hz
              · exact .inl (List.mem_append_right _ (List.mem_singleton.mpr rfl))
              · exact .inr (List.mem_append_left _ hz)
          exact ⟨go _ c1.1, go _ c1.2⟩
        · have : y = x := List.mem_singleton.mp hy
          subst this
          rw [hr] at hr'
          cases hr'
          exact ⟨.inr (List.mem_append_right _ (by simp)), .inr (List.mem_append_right _ (by simp))⟩
end
end LF

namespace LF
section
variable {L : Type} [DecidableEq L] {A B : List (Row L)}
/-- states of two tables that go alike -/
def RR (A B : List (Row L)) (a b : Nat) : Prop := a < A.length ∧ b < B.length ∧ Alk A a B b
theorem rr_step (oA : TOk A) (oB : TOk B) {a b : Nat} {r r' : Row L} (h : RR A B a b) (hr : A[a]? = some r) (hr' : B[b]? = some r') : key1 r = key1 r' ∧ RR A B r.1 r'.1 ∧ RR A B r.2.2.1 r'.2.2.1 := by
  obtain ⟨ha, hb, al⟩ := h
  have pa := oA r (List.mem_of_getElem? hr)
  have pb := oB r' (List.mem_of_getElem? hr')
  have c0 : ∀ w, r.2.1 = r'.2.1 ∧ out A r.1 w = out B r'.1 w := fun w => by
    have := al (false :: w)
    rw [out_cons hr, out_cons hr'] at this
    have h1 := (List.cons.inj this).1
    have h2 := (List.cons.inj this).2
    exact ⟨by simpa using h1, by simpa using h2⟩
  have c1 : ∀ w, r.2.2.2 = r'.2.2.2 ∧ out A r.2.2.1 w = out B r'.2.2.1 w := fun w => by
    have := al (true :: w)
    rw [out_cons hr, out_cons hr'] at this
    have h1 := (List.cons.inj this).1
    have h2 := (List.cons.inj this).2
    exact ⟨by simpa using h1, by simpa using h2⟩
  exact ⟨by unfold key1; rw [(c0 []).1, (c1 []).1], ⟨pa.1, pb.1, fun w => (c0 w).2⟩, pa.2, pb.2, fun w => (c1 w).2⟩
theorem rr_l (sA : Apart A) {a a' b : Nat} (h : RR A B a b) (h' : RR A B a' b) : a = a' := sA a a' h.1 h'.1 fun w => (h.2.2 w).trans (h'.2.2 w).symm
theorem rr_r (sB : Apart B) {a b b' : Nat} (h : RR A B a b) (h' : RR A B a b') : b = b' := sB b b' h.2.1 h'.2.1 fun w => (h.2.2 w).symm.trans (h'.2.2 w)
theorem rr_mem (sA : Apart A) (sB : Apart B) {a b : Nat} {s s' : List Nat} (h : RR A B a b) (hs : F2 (RR A B) s s') : a ∈ s ↔ b ∈ s' := by
  constructor
  · intro m
    obtain ⟨c, hc, q⟩ := hs.left m
    rw [rr_r sB h q]
    exact hc
  · intro m
    obtain ⟨c, hc, q⟩ := hs.right m
    rw [rr_l sA h q]
    exact hc
theorem visit_sim (oA : TOk A) (oB : TOk B) (sA : Apart A) (sB : Apart B) : ∀ (f : Nat) {w w' s s' : List Nat}, F2 (RR A B) w w' → F2 (RR A B) s s' → F2 (RR A B) (visit A f w s) (visit B f w' s')
  | 0, _, _, _, _, _, hs => hs
  | f + 1, _, _, _, _, .nil, hs => hs
  | f + 1, x :: w, y :: w', s, s', .cons h hw, hs => by
    have e := rr_mem sA sB h hs
    by_cases hx : x ∈ s
    · rw [visit_old hx, visit_old (e.mp hx)]
      exact visit_sim oA oB sA sB f hw hs
    · have hr : A[x]? = some (A[x]'h.1) := List.getElem?_eq_getElem h.1
      have hr' : B[y]? = some (B[y]'h.2.1) := List.getElem?_eq_getElem h.2.1
      rw [visit_new hx hr, visit_new (fun z => hx (e.mpr z)) hr']
      obtain ⟨_, h1, h2⟩ := rr_step oA oB h hr hr'
      exact visit_sim oA oB sA sB f (hw.append (.cons h1 (.cons h2 .nil))) (hs.append (.cons h .nil))
theorem ix_sim (sA : Apart A) (sB : Apart B) {o o' : List Nat} (nd : o.Nodup) (nd' : o'.Nodup) (h : F2 (RR A B) o o') {a b : Nat} (r : RR A B a b) (hm : a ∈ o) : ix o a = ix o' b := by
  have hm' := (rr_mem sA sB r h).mp hm
  have g := get_ix hm
  have hl := ix_lt hm
  have g' : o'[ix o a]? = some (o'[ix o a]'(by rw [← h.len]; exact hl)) := List.getElem?_eq_getElem _
  have q := h.get g g'
  have e := rr_r sB r q
  rw [← e] at g'
  exact (ix_get nd' g').symm
/-- the visit of the merged table from these states -/
def ord (m : List (Row L)) (b : List Nat) : List Nat := visit m (b.length + 2 * m.length) b []
def laid (m : List (Row L)) (o : List Nat) : List (Row L) := o.filterMap fun s => m[s]?.map (renum (ix o))
/-- the least form -/
def lf (rows : List (Row L)) (starts : List Nat) : List (Row L) × List Nat :=
  (laid (mg rows) (ord (mg rows) (starts.map (at_ (cls rows)))), (starts.map (at_ (cls rows))).map (ix (ord (mg rows) (starts.map (at_ (cls rows))))))
theorem ord_end {m : List (Row L)} {b : List Nat} (ok : TOk m) (hb : ∀ x ∈ b, x < m.length) : VEnd m b [] (ord m b) :=
  visit_end _ ⟨ok, hb, (fun x hx => by cases hx), List.nodup_nil⟩ (by unfold need; simp)
theorem ord_sim (oA : TOk A) (oB : TOk B) (sA : Apart A) (sB : Apart B) {b b' : List Nat} (h : F2 (RR A B) b b') : F2 (RR A B) (ord A b) (ord B b') := by
  have hA : ∀ x ∈ b, x < A.length := fun x hx => let ⟨_, _, q⟩ := h.left hx; q.1
  have hB : ∀ x ∈ b', x < B.length := fun x hx => let ⟨_, _, q⟩ := h.right hx; q.2.1
  have e1 := visit_fuel (f := b.length + 2 * A.length) (w := b) (s := []) ⟨oA, hA, (fun x hx => by cases hx), List.nodup_nil⟩ (by unfold need; simp) (2 * B.length)
  have e2 := visit_fuel (f := b'.length + 2 * B.length) (w := b') (s := []) ⟨oB, hB, (fun x hx => by cases hx), List.nodup_nil⟩ (by unfold need; simp) (2 * A.length)
  unfold ord
  rw [← e1, ← e2, h.len, show b'.length + 2 * B.length + 2 * A.length = b'.length + 2 * A.length + 2 * B.length by omega]
  exact visit_sim oA oB sA sB _ h .nil
theorem laid_get {m : List (Row L)} (f : Nat → Nat) : ∀ {o : List Nat}, (∀ x ∈ o, x < m.length) → ∀ i : Nat, (o.filterMap fun s => m[s]?.map (renum f))[i]? = o[i]?.bind fun s => m[s]?.map (renum f)
  | [], _, i => by simp
  | a :: o, h, i => by
    have ha := h a List.mem_cons_self
    have e : m[a]? = some m[a] := List.getElem?_eq_getElem ha
    rw [List.filterMap_cons]
    simp only [e, Option.map_some]
    cases i with
    | zero => simp [e]
    | succ i =>
      rw [List.getElem?_cons_succ, List.getElem?_cons_succ]
      exact laid_get f (fun x hx => h x (List.mem_cons_of_mem _ hx)) i
theorem laid_len {m : List (Row L)} (f : Nat → Nat) : ∀ {o : List Nat}, (∀ x ∈ o, x < m.length) → (o.filterMap fun s => m[s]?.map (renum f)).length = o.length
  | [], _ => rfl
  | a :: o, h => by
    have ha := h a List.mem_cons_self
    have e : m[a]? = some m[a] := List.getElem?_eq_getElem ha
    rw [List.filterMap_cons]
    simp only [e, Option.map_some, List.length_cons]
    rw [laid_len f fun x hx => h x (List.mem_cons_of_mem _ hx)]
theorem b_lt {rows : List (Row L)} {starts : List Nat} (hs : ∀ s ∈ starts, s < rows.length) : ∀ x ∈ starts.map (at_ (cls rows)), x < (mg rows).length := by
  intro x hx
  obtain ⟨s, h, rfl⟩ := List.mem_map.mp hx
  exact cls_lt (hs s h)
/-- two tables that go alike from their starts have the same least form -/
theorem lf_canon {starts starts' : List Nat} (oA : TOk A) (oB : TOk B) (hA : ∀ s ∈ starts, s < A.length) (hB : ∀ s ∈ starts', s < B.length) (h : F2 (fun a b => Alk A a B b) starts starts') : lf A starts = lf B starts' := by
  have hb : F2 (RR (mg A) (mg B)) (starts.map (at_ (cls A))) (starts'.map (at_ (cls B))) := by
    refine F2.of (by rw [List.length_map, List.length_map, h.len]) fun i a b h1 h2 => ?_
    rw [List.getElem?_map, Option.map_eq_some_iff] at h1 h2
    obtain ⟨s, hs, rfl⟩ := h1
    obtain ⟨s', hs', rfl⟩ := h2
    have q := h.get hs hs'
    have ls := hA s (List.mem_of_getElem? hs)
    have ls' := hB s' (List.mem_of_getElem? hs')
    exact ⟨cls_lt ls, cls_lt ls', fun w => by rw [mg_out oA w ls, mg_out oB w ls']; exact q w⟩
  have mA := mg_ok oA
  have mB := mg_ok oB
  have pA := mg_apart oA
  have pB := mg_apart oB
  have eA := ord_end mA (b_lt hA)
  have eB := ord_end mB (b_lt hB)
  have ho := ord_sim mA mB pA pB hb
  have cA := eA.closed fun x hx => by cases hx
  have cB := eB.closed fun x hx => by cases hx
  unfold lf
  generalize starts.map (at_ (cls A)) = bA at hb eA ho cA
  generalize starts'.map (at_ (cls B)) = bB at hb eB ho cB
  have e1 : laid (mg A) (ord (mg A) bA) = laid (mg B) (ord (mg B) bB) := by
    refine List.ext_getElem? fun i => ?_
    unfold laid
    rw [laid_get _ eA.lt, laid_get _ eB.lt]
    cases hi : (ord (mg A) bA)[i]? with
    | none =>
      have : (ord (mg B) bB)[i]? = none := by
        rw [List.getElem?_eq_none_iff] at hi ⊢
        rw [← ho.len]; exact hi
      rw [this]
      rfl
    | some a =>
      have hl : i < (ord (mg B) bB).length := by rw [← ho.len]; exact (List.getElem?_eq_some_iff.mp hi).1
      have hi' := List.getElem?_eq_getElem hl
      have r := ho.get hi hi'
      rw [hi']
      have ma := List.mem_of_getElem? hi
      have mb := List.mem_of_getElem? hi'
      generalize (ord (mg B) bB)[i] = b at hi' r mb
      have ra : (mg A)[a]? = some ((mg A)[a]'r.1) := List.getElem?_eq_getElem r.1
      have rb : (mg B)[b]? = some ((mg B)[b]'r.2.1) := List.getElem?_eq_getElem r.2.1
      obtain ⟨k, q1, q2⟩ := rr_step mA mB r ra rb
      have ca := cA a ma _ ra
      simp only [Option.bind_some, ra, rb, Option.map_some]
      unfold renum
      rw [ix_sim pA pB eA.nd eB.nd ho q1 ca.1, ix_sim pA pB eA.nd eB.nd ho q2 ca.2, (Prod.mk.inj k).1, (Prod.mk.inj k).2]
  have e2 : bA.map (ix (ord (mg A) bA)) = bB.map (ix (ord (mg B) bB)) := by
    refine List.ext_getElem? fun i => ?_
    rw [List.getElem?_map, List.getElem?_map]
    cases hi : bA[i]? with
    | none =>
      have : bB[i]? = none := by
        rw [List.getElem?_eq_none_iff] at hi ⊢
        rw [← hb.len]; exact hi
      rw [this]
      rfl
    | some a =>
      have hl : i < bB.length := by rw [← hb.len]; exact (List.getElem?_eq_some_iff.mp hi).1
      have hi' := List.getElem?_eq_getElem hl
      have r := hb.get hi hi'
      rw [hi']
      show some _ = some _
      rw [ix_sim pA pB eA.nd eB.nd ho r (eA.all a (List.mem_of_getElem? hi))]
  rw [e1, e2]
variable {rows : List (Row L)} {starts : List Nat}
theorem laid_ok (ok : TOk rows) (hs : ∀ s ∈ starts, s < rows.length) : TOk (lf rows starts).1 := by
  have mA := mg_ok ok
  have eA := ord_end mA (b_lt hs)
  have cA := eA.closed fun x hx => by cases hx
  show TOk (laid _ _)
  generalize starts.map (at_ (cls rows)) = bA at eA cA
  have hl : (laid (mg rows) (ord (mg rows) bA)).length = (ord (mg rows) bA).length := laid_len _ eA.lt
  intro r hr
  rw [hl]
  obtain ⟨i, hi⟩ := List.getElem?_of_mem hr
  unfold laid at hi
  rw [laid_get _ eA.lt] at hi
  cases ho : (ord (mg rows) bA)[i]? with
  | none => rw [ho] at hi; cases hi
  | some a =>
    have ma := List.mem_of_getElem? ho
    have ra : (mg rows)[a]? = some ((mg rows)[a]'(eA.lt a ma)) := List.getElem?_eq_getElem _
    rw [ho] at hi
    simp only [Option.bind_some, ra, Option.map_some] at hi
    have : r = renum (ix (ord (mg rows) bA)) ((mg rows)[a]'(eA.lt a ma)) := (Option.some.inj hi).symm
    rw [this]
    have c := cA a ma _ ra
    exact ⟨ix_lt c.1, ix_lt c.2⟩
theorem lf_st (ok : TOk rows) (hs : ∀ s ∈ starts, s < rows.length) : ∀ s ∈ (lf rows starts).2, s < (lf rows starts).1.length := by
  have mA := mg_ok ok
  have eA := ord_end mA (b_lt hs)
  intro s h
  obtain ⟨x, hx, rfl⟩ := List.mem_map.mp h
  show ix _ x < (laid _ _).length
  unfold laid
  rw [laid_len _ eA.lt]
  exact ix_lt (eA.all x hx)
theorem lf_len : (lf rows starts).2.length = starts.length := by
  show (List.map _ (List.map _ starts)).length = _
  rw [List.length_map, List.length_map]
theorem lf_le (ok : TOk rows) (hs : ∀ s ∈ starts, s < rows.length) : (lf rows starts).1.length ≤ rows.length := by
  have eA := ord_end (mg_ok ok) (b_lt hs)
  show (laid _ _).length ≤ _
  unfold laid
  rw [laid_len _ eA.lt]
  exact Nat.le_trans (few _ eA.nd eA.lt) mg_le
theorem laid_out {m : List (Row L)} {b : List Nat} (mA : TOk m) (hb : ∀ x ∈ b, x < m.length) : ∀ (w : List Bool) {x : Nat}, x ∈ ord m b → out (laid m (ord m b)) (ix (ord m b) x) w = out m x w
  | [], x, _ => by simp [out]
  | c :: w, x, hx => by
    have eA := ord_end mA hb
    have cA := eA.closed fun x hx => by cases hx
    have rx : m[x]? = some (m[x]'(eA.lt x hx)) := List.getElem?_eq_getElem _
    have cx := cA x hx _ rx
    have lx : (laid m (ord m b))[ix (ord m b) x]? = some (renum (ix (ord m b)) (m[x]'(eA.lt x hx))) := by
      unfold laid
      rw [laid_get _ eA.lt, get_ix hx]
      simp only [Option.bind_some, rx, Option.map_some]
    rw [out_cons lx, out_cons rx]
    cases c
    · simp only [Bool.false_eq_true, if_false]
      show some _ :: out _ (ix _ _) w = _
      rw [laid_out mA hb w cx.1]
      rfl
    · simp only [if_true]
      show some _ :: out _ (ix _ _) w = _
      rw [laid_out mA hb w cx.2]
      rfl
/-- the least form goes as the table -/
theorem lf_alk (ok : TOk rows) (hs : ∀ s ∈ starts, s < rows.length) : F2 (fun a b => Alk (lf rows starts).1 a rows b) (lf rows starts).2 starts := by
  have mA := mg_ok ok
  have eA := ord_end mA (b_lt hs)
  refine F2.of lf_len fun i a b h1 h2 w => ?_
  have hb := hs b (List.mem_of_getElem? h2)
  have h1' : (lf rows starts).2[i]? = some (ix (ord (mg rows) (starts.map (at_ (cls rows)))) (at_ (cls rows) b)) := by
    show (List.map _ (List.map _ starts))[i]? = _
    rw [List.getElem?_map, List.getElem?_map, h2]
    rfl
  rw [h1] at h1'
  rw [Option.some.inj h1']
  show out (laid _ _) _ w = _
  rw [laid_out mA (b_lt hs) w (eA.all _ (List.mem_map_of_mem (List.mem_of_getElem? h2))), mg_out ok w hb]
/-- alike exactly if the least forms are the same -/
theorem lf_iff {starts' : List Nat} (oA : TOk A) (oB : TOk B) (hA : ∀ s ∈ starts, s < A.length) (hB : ∀ s ∈ starts', s < B.length) : lf A starts = lf B starts' ↔ F2 (fun a b => Alk A a B b) starts starts' := by
  refine ⟨fun e => ?_, lf_canon oA oB hA hB⟩
  have h1 := lf_alk oA hA
  have h2 := lf_alk oB hB
  rw [← e] at h2
  refine F2.of (h1.len.symm.trans h2.len) fun i a b ha hb w => ?_
  have hl : i < (lf A starts).2.length := by rw [lf_len]; exact (List.getElem?_eq_some_iff.mp ha).1
  have hx := List.getElem?_eq_getElem hl
  exact (h1.get hx ha w).symm.trans (h2.get hx hb w)
/-- the least form of a least form is that form -/
theorem lf_lf (ok : TOk rows) (hs : ∀ s ∈ starts, s < rows.length) : lf (lf rows starts).1 (lf rows starts).2 = lf rows starts :=
  lf_canon (laid_ok ok hs) ok (lf_st ok hs) hs (lf_alk ok hs)
end
end LF

/-! bounds of the search for a breaking sequence -/
namespace B2
theorem BI.calls_le {N : Type} {S : Sys N} {W X : List Nat} {d : Nat} (b : BI S W d X) : ∀ (i x : Nat), W[i]? = some x → (calls S x).length ≤ i := by
  intro i
  induction i using Nat.strongRecOn with
  | _ i ih =>
    intro x hx
    rcases b.lt x (List.mem_of_getElem? hx) with h | ⟨y, hy, c, hc, rfl⟩
    · rw [calls_root h]
      exact Nat.zero_le _
    · obtain ⟨j, _, hj⟩ := b.xd y hy
      have hlt : j < i := by
        have hyx : y < child S y c := by
          have := S.hM
          unfold child
          omega
        rcases Nat.lt_trichotomy j i with q | q | q
        · exact q
        · subst q
          rw [hj] at hx
          injection hx with hx
          omega
        · have := idx_lt b.so hx hj q
          omega
      have := ih j hlt y hj
      rw [calls_child hc, List.length_append]
      show _ + 1 ≤ i
      omega
end B2
namespace BR
open PySem
theorem nodup_map {α β : Type} {f : α → β} {l : List α} (nd : l.Nodup) (inj : ∀ a ∈ l, ∀ b ∈ l, f a = f b → a = b) : (l.map f).Nodup := by
  unfold List.Nodup
  rw [List.pairwise_map]
  exact List.Pairwise.imp_of_mem (fun {a b} ha hb h e => h (inj a ha b hb e)) nd
theorem two_eq {L a b c d : Nat} (hb : b < L) (hd : d < L) (h : a * L + b = c * L + d) : a = c ∧ b = d := by
  have h1 := congrArg (· % L) h
  simp only [Nat.mul_add_mod', Nat.mod_eq_of_lt hb, Nat.mod_eq_of_lt hd] at h1
  subst h1
  refine ⟨?_, rfl⟩
  have h2 : a * L = c * L := by omega
  exact Nat.eq_of_mul_eq_mul_right (by omega) h2
def code (R L : Nat) (n : Node) : Nat := (((n.1.getD 0) * R + n.2.1) * 2 + (if n.2.2.1 = true then 1 else 0)) * L + n.2.2.2
/-- nodes behind a call, all different, are few -/
theorem nfew (R L : Nat) {l : List Node} (nd : l.Nodup) (h : ∀ q ∈ l, ∃ c, q.1 = some c ∧ c < 2 ∧ q.2.1 < R ∧ q.2.2.2 < L) : l.length ≤ 2 * R * 2 * L := by
  have h1 : (l.map (code R L)).Nodup := nodup_map nd fun a ha b hb e => by
    obtain ⟨a1, a2, a3, a4⟩ := a
    obtain ⟨b1, b2, b3, b4⟩ := b
    obtain ⟨c, e1, h1, h2, h3⟩ := h _ ha
    obtain ⟨c', e1', g1, g2, g3⟩ := h _ hb
    dsimp only at e1 e1' h1 h2 h3 g1 g2 g3
    subst e1 e1'
    unfold code at e
    dsimp only [Option.getD] at e
    obtain ⟨e, e2⟩ := two_eq h3 g3 e
    obtain ⟨e, e3⟩ := two_eq (by split <;> decide) (by split <;> decide) e
    obtain ⟨e, e4⟩ := two_eq h2 g2 e
    have e5 : a3 = b3 := by cases a3 <;> cases b3 <;> first | rfl | (simp at e3)
    rw [e, e2, e4, e5]
  have h2 := LF.few (2 * R * 2 * L) h1 fun x hx => by
    obtain ⟨q, hq, rfl⟩ := List.mem_map.mp hx
    obtain ⟨c, e1, h1, h2, h3⟩ := h q hq
    unfold code
    rw [e1]
    dsimp only [Option.getD]
    have z1 : (c + 1) * R ≤ 2 * R := Nat.mul_le_mul_right R h1
    rw [Nat.succ_mul] at z1
    have z2 : (if q.2.2.1 = true then 1 else 0) < 2 := by split <;> decide
    have z3 : ((c * R + q.2.1) * 2 + (if q.2.2.1 = true then 1 else 0) + 1) * L ≤ 2 * R * 2 * L := Nat.mul_le_mul_right L (by omega)
    rw [Nat.succ_mul] at z3
    omega
  rwa [List.length_map] at h2
end BR

set_option maxHeartbeats 2000000
/-! dicts whose keys are tuples of ints, bools, texts and None -/
namespace L2
open PySem PySem.Spec PyProof.Rows
/-- the value v counts as the leaf k -/
def lfIs : Leaf → V → Prop
  | .none, v => v = .non
  | .num i, v => v = .int i ∨ ∃ b : Bool, v = .bl b ∧ i = if b = true then 1 else 0
  | .text x, v => v = .str x
theorem lf_is {k : Leaf} {v : V} {u : Value} (h : lfIs k v) (r : RelV v u) : Leaf.isOf k u = true := by
  cases k with
  | none =>
    cases (show v = .non from h)
    cases (show u = Value.none from r)
    rfl
  | num i =>
    rcases (show v = .int i ∨ ∃ b : Bool, v = .bl b ∧ i = if b = true then 1 else 0 from h) with rfl | ⟨b, rfl, e⟩
    · obtain ⟨t, rfl⟩ := r
      exact decide_eq_true rfl
    · cases (show u = Value.bool b from r)
      exact decide_eq_true e.symm
  | text x =>
    cases (show v = .str x from h)
    obtain ⟨t, rfl⟩ := r
    show Value.isStrOf x (.str x t) = true
    simp [Value.isStrOf]
abbrev LKey := List Leaf
/-- a tuple that is the key k stands at b -/
def KeyAt (H : Hp) (b : Addr) (k : LKey) : Prop := ∃ xs, H b = some (.tup xs) ∧ Paired lfIs k xs
theorem lfs_are {P : Program} {w : World} : ∀ {ks : LKey} {xs : List V} {us : List Value}, Paired lfIs ks xs → Vals xs us → ItemsAre (leafKind P w) ks us
  | [], _, _, .nil, .nil => .nil
  | _ :: _, _, _, .cons h t, .cons r rs => .cons (lf_is h r) (lfs_are t rs)
abbrev dxK (P : Program) (w : World) : HeapKind P w LKey := tupleKind (leafKind P w)
section
variable {P : Program} {w : World} {H H' : Hp} {h : Heap} {a b d : Addr}
theorem KeyAt.is {k : LKey} (x : KeyAt H b k) (ok : HOk P w H h) : (dxK P w).is h k b := by
  obtain ⟨xs, e, r⟩ := x
  obtain ⟨_, its, rv, o, h1, h2, n, h3⟩ := (show ObjOk P w H h b (.tup xs) from ok b _ e)
  exact ⟨o, its.toArray, n, h1, h2, h3, by simpa using lfs_are r rv⟩
theorem KeyAt.kt {k : LKey} (x : KeyAt H b k) (kt : ∀ c ys, H c = some (.tup ys) → H' c = some (.tup ys)) : KeyAt H' b k := let ⟨xs, e, r⟩ := x; ⟨xs, kt _ _ e, r⟩
abbrev DE := LKey × Addr × V
abbrev DW := LKey × Addr × Value
abbrev DRel : List DE → List DW → Prop := Paired fun (p : DE) (q : DW) => p.1 = q.1 ∧ p.2.1 = q.2.1 ∧ RelV p.2.2 q.2.2
def dxR (P : Program) (w : World) (a : Addr) (kvs : List DE) (h : Heap) : Prop := kvs.length ≤ sizeLine ∧ (a == sysModules) = false ∧
  ∃ xs : List DW, DRel kvs xs ∧ ∃ o es ep, h.get? a = some o ∧ o.ExactDict ∧ o.data = .dict es ep ∧ es.toList = xs.map (entryOfKey (dxK P w)) ∧ (xs.map (·.1)).Nodup
/-- the dict at a with these entries: key, the tuple that is the key, value -/
def DX (P : Program) (w : World) (a : Addr) (kvs : List DE) : HO := .ext (dxR P w a kvs)
theorem dx_ok {kvs : List DE} (R : dxR P w a kvs h) : ObjOk P w H h a (DX P w a kvs) := by
  obtain ⟨z, y, xs, r, o, es, ep, h1, h2⟩ := id R
  refine ⟨R, ⟨o, h1⟩, fun g1 g2 p k => ?_⟩
  obtain ⟨z, y, xs, r, o, es, ep, h1, h2⟩ := p
  exact ⟨z, y, xs, r, o, es, ep, k _ h1, h2⟩
/-- the dict at d: keys and values -/
def DxAt (P : Program) (w : World) (H : Hp) (d : Addr) (ps : List (LKey × V)) : Prop := ∃ kvs : List DE, H d = some (DX P w d kvs) ∧ kvs.map (fun p => (p.1, p.2.2)) = ps ∧ ∀ p ∈ kvs, KeyAt H p.2.1 p.1
theorem DxAt.kt {ps : List (LKey × V)} (x : DxAt P w H d ps) (hd : ∀ o, H d = some o → H' d = some o) (kt : ∀ c ys, H c = some (.tup ys) → H' c = some (.tup ys)) : DxAt P w H' d ps :=
  let ⟨kvs, e, m, k⟩ := x; ⟨kvs, hd _ e, m, fun p hp => (k p hp).kt kt⟩
theorem DxAt.same {ps : List (LKey × V)} (x : DxAt P w H d ps) (s : ∀ b o, H b = some o → H' b = some o) : DxAt P w H' d ps := x.kt (fun _ e => s _ _ e) fun _ _ e => s _ _ e
theorem dx_val {kvs : List DE} {xs : List DW} (r : DRel kvs xs) (k : LKey) : RelO (valV (kvs.map fun p => (p.1, p.2.2)) k) ((atKey xs k).map (·.2)) := by
  induction r with
  | nil => exact True.intro
  | @cons p q ps qs h t ih =>
    obtain ⟨h1, h2, h3⟩ := h
    rw [List.map_cons]
    by_cases e : p.1 = k
    · have b : atKey (q :: qs) k = some q.2 := by simp [atKey, List.find?_cons, h1.symm.trans e]
      rw [valV_pos e, b]
      exact h3
    · have b : atKey (q :: qs) k = atKey qs k := by
        have e' : ¬ q.1 = k := fun z => e (h1.trans z)
        simp [atKey, List.find?_cons, e']
      rw [valV_neg e, b]
      exact ih
theorem dx_of {kvs : List DE} (ok : HOk P w H h) (e : H d = some (DX P w d kvs)) (ka : ∀ p ∈ kvs, KeyAt H p.2.1 p.1) : kvs.length ≤ sizeLine ∧ (d == sysModules) = false ∧ ∃ xs, DRel kvs xs ∧ h.DictOfH (dxK P w) d xs := by
  obtain ⟨z, y, xs, r, o, es, ep, h1, h2, h3, h4, h5⟩ := (ok d _ e).1
  refine ⟨z, y, xs, r, o, es, ep, h1, h2, h3, h4, fun x hx => ?_, h5⟩
  have all : ∀ {l : List DE} {m : List DW}, DRel l m → (∀ p ∈ l, KeyAt H p.2.1 p.1) → ∀ x ∈ m, (dxK P w).is h x.1 x.2.1 := by
    intro l m q
    induction q with
    | nil => intro _ x hx; cases hx
    | @cons p q ps qs hq t ih =>
      intro g x hx
      rcases List.mem_cons.mp hx with rfl | hx
      · have := (g p List.mem_cons_self).is ok
        rw [hq.1, hq.2.1] at this
        exact this
      · exact ih (fun p hp => g p (List.mem_cons_of_mem _ hp)) x hx
  exact all r ka x hx
end
section
variable {X : Cx}
theorem op_in_dx (hu : X.A.units + 1 < cLine) : OpR X (compareOp .In) (fun x y H Q => ∃ d b ps k, x = .ref b ∧ y = .ref d ∧ DxAt X.prog X.w H d ps ∧ KeyAt H b k ∧ Q (.bl (valV ps k).isSome) H) := by
  intro pins s σ H x y v u Q I rx ry h
  obtain ⟨d, b, ps, k, rfl, rfl, ⟨kvs, e, rfl, ka⟩, hk, q⟩ := h
  cases rx
  cases ry
  obtain ⟨z, hd, xs, r, dd⟩ := dx_of I.hok e ka
  refine wpAny_in_heap (tupleKind_room_in1 hu) (hk.is I.hok) hd dd ?_
  have e2 := (dx_val r k).isSome_eq
  rw [Option.isSome_map] at e2
  rw [← e2]
  exact ⟨.bl _, H, I.tok _, rfl, q⟩
theorem op_notIn_dx (hu : X.A.units + 1 < cLine) : OpR X (compareOp .NotIn) (fun x y H Q => ∃ d b ps k, x = .ref b ∧ y = .ref d ∧ DxAt X.prog X.w H d ps ∧ KeyAt H b k ∧ Q (.bl (!(valV ps k).isSome)) H) := by
  intro pins s σ H x y v u Q I rx ry h
  obtain ⟨d, b, ps, k, rfl, rfl, ⟨kvs, e, rfl, ka⟩, hk, q⟩ := h
  cases rx
  cases ry
  obtain ⟨z, hd, xs, r, dd⟩ := dx_of I.hok e ka
  refine wpAny_notIn_heap (tupleKind_room_in1 hu) (hk.is I.hok) hd dd ?_
  have e2 := (dx_val r k).isSome_eq
  rw [Option.isSome_map] at e2
  rw [← e2]
  exact ⟨.bl _, H, I.tok _, rfl, q⟩
theorem ix_dx (hu : X.A.units + 1 < cLine) : IxR X (fun x y H Q => ∃ d b ps k v, x = .ref d ∧ y = .ref b ∧ DxAt X.prog X.w H d ps ∧ KeyAt H b k ∧ valV ps k = some v ∧ Q v H) := by
  intro value slice pins s σ H x y v u Q I rx ry h hs
  obtain ⟨d, b, ps, k, r, rfl, rfl, ⟨kvs, e, rfl, ka⟩, hk, hv, q⟩ := h
  cases rx
  cases ry
  obtain ⟨z, hd, xs, rel, dd⟩ := dx_of I.hok e ka
  obtain ⟨w', hw, rw'⟩ := RelO.some_of (v := r) (o := (atKey xs k).map (·.2)) (by rw [← hv]; exact dx_val rel k)
  obtain ⟨p, hp, hp2⟩ := Option.map_eq_some_iff.mp hw
  refine tail_any dd.typeIs slot_dict_getitem.lookup (wpAny_getItem_heap (tupleKind_room_in1 hu) (hk.is I.hok) dd hp ?_) hs
  rw [hp2]
  exact ⟨r, H, I.tok _, rw', q⟩
/-- d[b] = v, the key is new -/
theorem set_dx (hu : X.A.units + 1 < cLine) : PSet X (fun o i v H Q => ∃ d b kvs k, o = .ref d ∧ i = .ref b ∧ H d = some (DX X.prog X.w d kvs) ∧ (∀ p ∈ kvs, KeyAt H p.2.1 p.1) ∧ KeyAt H b k ∧ valV (kvs.map fun p => (p.1, p.2.2)) k = none ∧ kvs.length < sizeLine ∧
    Q (upd H d (DX X.prog X.w d (kvs ++ [(k, b, v)])))) := by
  intro pins s σ H o i v ov iv u Q I ro ri rv h
  obtain ⟨d, b, kvs, k, rfl, rfl, e, ka, hk, hv, hl, q⟩ := h
  cases ro
  cases ri
  obtain ⟨z, hd, xs, rel, dd⟩ := dx_of I.hok e ka
  have hlen := Paired.length rel
  have hn : atKey xs k = none := by
    have e2 := (dx_val rel k).isSome_eq
    rw [Option.isSome_map, hv] at e2
    cases hx : atKey xs k with
    | none => rfl
    | some p => rw [hx] at e2; cases e2
  refine wpAny_setItem_heap (hsz := by rw [← hlen]; exact z) (tupleKind_room_in1 hu) (hk.is I.hok) dd fun h' dd' hs => ?_
  have es : storedH xs k b u = xs ++ [(k, b, u)] := by
    unfold storedH
    rw [hn]
    rfl
  rw [es] at dd'
  obtain ⟨ob, en, ep, hq, h2, h3, h4, _, h5⟩ := dd'
  refine ⟨_, I.write (x := d) (e := d) (by rw [e]; exact True.intro) (.inl rfl) (fun c y hb z => (hs.2 c hb).trans z) ⟨ob, hq⟩ (dx_ok ⟨?_, hd, _, Paired.snoc rel ⟨rfl, rfl, rv⟩, ob, en, ep, hq, h2, h3, h4, h5⟩), q⟩
  rw [List.length_append]
  exact hl
theorem pe_dnewX {pos : Pos} : PE X (.Dict [] [] pos) (fun _ H Q => ∀ p, H p = none → Q (.ref p) (upd H p (DX X.prog X.w p []))) := ⟨fun pins s σ H Q I h =>
  wpAny_Dict_empty ⟨.ref s.heap.objs.size, _, I.laid (a := s.heap.objs.size) (o := DX X.prog X.w s.heap.objs.size []) (t' := s.toks) (fun _ _ q => Heap.get?_push_of_some _ q) (Nat.le_refl _)
    (dx_ok ⟨Nat.zero_le _, beq_eq_false_iff_ne.mpr (Ne.symm (Nat.ne_of_lt I.big)), [], .nil, _, #[], 0, Heap.get?_push_size _ rfl, ⟨rfl, rfl, rfl⟩, rfl, rfl, List.nodup_nil⟩), rfl, h _ (I.hok.fresh (Nat.le_refl _))⟩⟩
end
end L2

set_option maxHeartbeats 2000000
/-! what serves every row -/
namespace L2
open PySem PySem.Spec PyProof.Rows
theorem PI.or {X : Cx} {tg l : Expr} {w1 w2 : TI} (h1 : PI X tg l w1) (h2 : PI X tg l w2) : PI X tg l (fun σ H R => w1 σ H R ∨ w2 σ H R) :=
  ⟨fun pins s σ H R I h => h.elim (h1.run pins s σ H R I) (h2.run pins s σ H R I)⟩
/-- a list or a tuple -/
def Sq (K : PySem.W.Frag) (H : Hp) (a : Addr) (xs : List V) : Prop := SqL K H a xs ∨ SqT K H a xs
theorem SqT.up {K : PySem.W.Frag} {H H' : Hp} {a : Addr} {xs : List V} (h : SqT K H a xs) (e : Same H H') : SqT K H' a xs :=
  h.elim (fun h => .inl (h.elim (fun h => .inl (e _ _ h)) fun ⟨o, h⟩ => .inr ⟨o, e _ _ h⟩)) fun h => .inr h
theorem SqL.up {K : PySem.W.Frag} {H H' : Hp} {a : Addr} {xs : List V} (h : SqL K H a xs) (e : Same H H') : SqL K H' a xs :=
  h.elim (fun h => .inl (h.elim (fun h => .inl (e _ _ h)) fun ⟨o, h⟩ => .inr ⟨o, e _ _ h⟩)) fun h => .inr h
theorem Sq.up {K : PySem.W.Frag} {H H' : Hp} {a : Addr} {xs : List V} (h : Sq K H a xs) (e : Same H H') : Sq K H' a xs := h.imp (fun h => SqL.up h e) fun h => SqT.up h e
theorem walk_l {K : PySem.W.Frag} {a : Addr} {xs : List V} : Walk (Itl K a) xs.length (fun H => SqL K H a xs) (YAt xs) :=
  ⟨fun i H hi q => ⟨xs, xs[i], q, by simp [hi]⟩, fun H q => ⟨xs, q, Nat.le_refl _⟩, fun i H x H' hi q y => ⟨y.1, y.2 xs q⟩⟩
theorem walk_t {K : PySem.W.Frag} {a : Addr} {xs : List V} : Walk (Itt K a) xs.length (fun H => SqT K H a xs) (YAt xs) :=
  ⟨fun i H hi q => ⟨xs, xs[i], q, by simp [hi]⟩, fun H q => ⟨xs, q, Nat.le_refl _⟩, fun i H x H' hi q y => ⟨y.1, y.2 xs q⟩⟩
/-- how a value that is a list or a tuple of xs stands, as one of the two -/
inductive Kind where
  | l | t
def Sk (K : PySem.W.Frag) (k : Kind) (H : Hp) (a : Addr) (xs : List V) : Prop := match k with
  | .l => SqL K H a xs
  | .t => SqT K H a xs
theorem Sk.sq {K : PySem.W.Frag} {k : Kind} {H : Hp} {a : Addr} {xs : List V} (h : Sk K k H a xs) : Sq K H a xs := by
  cases k
  · exact .inl h
  · exact .inr h
theorem Sk.up {K : PySem.W.Frag} {k : Kind} {H H' : Hp} {a : Addr} {xs : List V} (h : Sk K k H a xs) (e : Same H H') : Sk K k H' a xs := by
  cases k
  · exact SqL.up h e
  · exact SqT.up h e
theorem Sq.kind {K : PySem.W.Frag} {H : Hp} {a : Addr} {xs : List V} (h : Sq K H a xs) : ∃ k, Sk K k H a xs := h.elim (fun h => ⟨.l, h⟩) fun h => ⟨.t, h⟩
def ItSq (K : PySem.W.Frag) (k : Kind) (a : Addr) : It := match k with
  | .l => Itl K a
  | .t => Itt K a
theorem walk_k {K : PySem.W.Frag} {k : Kind} {a : Addr} {xs : List V} : Walk (ItSq K k a) xs.length (fun H => Sk K k H a xs) (YAt xs) := by
  cases k
  · exact walk_l
  · exact walk_t
/-- a walk over a list or a tuple -/
def iSq (K : PySem.W.Frag) (tl : TE) : TI := fun σ H R => ∃ k : Kind, tl σ H fun x H1 => ∃ a, x = .ref a ∧ (∃ xs, Sk K k H1 a xs) ∧ R (ItSq K k a) H1
theorem pi_sq {X : Cx} {tg l : Expr} {tl : TE} (hl : PE X l tl) : PI X tg l (iSq X.K tl) := by
  refine ⟨fun pins s σ H R I ⟨k, h⟩ => ?_⟩
  cases k
  · exact (pi_list hl).run pins s σ H R I h
  · exact (pi_tup hl).run pins s σ H R I h
/-! ### comprehensions -/
section
variable {J : It} {n : Nat} {G : Hp → Prop} {xs : List V} {g : TG} {tt : TT} {te : TE} {vs : List Nat} {σ : L2.St} {H1 : Hp} {D : Addr} {Qd : Hp → Prop}
theorem new_ {H : Hp} {p : Addr} {o : HO} (hp : H p = none) : Same H (upd H p o) := fun b u e => by
  rw [upd_ne (ne_of_none e hp)]
  exact e
/-- all but D is as it was -/
def But (D : Addr) (H H' : Hp) : Prop := ∀ c o, c ≠ D → H c = some o → H' c = some o
/-- the values are made one after another, the heap of before stays -/
theorem lc_acc (w : Walk J n G (YAt xs)) (hn : n ≤ sizeLine) (hD : H1 D = none) (hG : ∀ H, Same H1 H → G H) (A : Nat → List V → Hp → Prop) (hl : ∀ i acc H, A i acc H → acc.length ≤ i) (A0 : A 0 [] (upd H1 D (.lst [])))
    (hs : ∀ (i : Nat) (x : V) (H : Hp) (acc : List V) (Φ : V → Hp → Prop) (Ψ : Hp → Prop), i < n → xs[i]? = some x → Same H1 H → H D = some (.lst acc) → A i acc H →
      (∀ y H4, Same H H4 → H4 D = some (.lst acc) → (∀ H5, H5 D = some (.lst (acc ++ [y])) → But D H4 H5 → But D H5 H4 → A (i + 1) (acc ++ [y]) H5) → Φ y H4) →
      g x (wipe σ vs) H fun σ2 H2 => wipe σ2 vs = wipe σ vs ∧ tt σ2 H2 fun b H3 => if b = true then te σ2 H3 Φ else Ψ H3)
    (hd : ∀ H acc, Same H1 H → H D = some (.lst acc) → A n acc H → Qd H) :
    ∃ W : Nat → Nat → Hp → Prop, (∃ m, W 0 m (upd H1 D (.lst []))) ∧ ∀ i m H, W i m H →
      (J.stop i H ∧ Qd H) ∨ (J.go i H ∧ ∃ Nx : Hp → Prop, (∀ H', Nx H' → ∃ m', m' < m ∧ W (i + 1) m' H') ∧ ∀ x H', J.yld i H x H' → g x (wipe σ vs) H' fun σ2 H2 => wipe σ2 vs = wipe σ vs ∧ tt σ2 H2 fun b H3 =>
        if b = true then te σ2 H3 fun y H4 => ∃ acc, H4 D = some (.lst acc) ∧ acc.length < sizeLine ∧ Nx (upd H4 D (.lst (acc ++ [y]))) else Nx H3) := by
  refine lc_it w (fun i H => Same H1 H ∧ ∃ acc, H D = some (.lst acc) ∧ A i acc H) ⟨new_ hD, [], upd_same, A0⟩ (fun i H _ p => hG H p.1) (fun i x H H' hi p y => ?_) fun H p => ?_
  · obtain ⟨rfl, hx⟩ := y
    obtain ⟨sm, acc, hd', ha⟩ := p
    refine hs i x _ acc _ _ hi hx sm hd' ha fun y H4 s4 d4 k => ⟨acc, d4, Nat.lt_of_lt_of_le (Nat.lt_of_le_of_lt (hl _ _ _ ha) hi) hn, fun c o e => ?_, acc ++ [y], upd_same, k _ upd_same (fun c o cd e => ?_) fun c o cd e => ?_⟩
    · rw [upd_ne (ne_of_none e hD)]
      exact s4 _ _ (sm _ _ e)
    · rw [upd_ne cd]
      exact e
    · rw [upd_ne cd] at e
      exact e
  · obtain ⟨sm, acc, hd', ha⟩ := p
    exact hd H acc sm hd' ha
/-- values that do not hang on the heap -/
theorem lc_same (w : Walk J n G (YAt xs)) (hn : n ≤ sizeLine) (hD : H1 D = none) (hG : ∀ H, Same H1 H → G H) (ys : List V) (hy : ys.length = n)
    (hs : ∀ (i : Nat) (x y : V) (H : Hp) (Φ : V → Hp → Prop) (Ψ : Hp → Prop), xs[i]? = some x → ys[i]? = some y → Same H1 H → (∀ H4, Same H H4 → Φ y H4) →
      g x (wipe σ vs) H fun σ2 H2 => wipe σ2 vs = wipe σ vs ∧ tt σ2 H2 fun b H3 => if b = true then te σ2 H3 Φ else Ψ H3)
    (hd : ∀ H, Same H1 H → H D = some (.lst ys) → Qd H) :
    ∃ W : Nat → Nat → Hp → Prop, (∃ m, W 0 m (upd H1 D (.lst []))) ∧ ∀ i m H, W i m H →
      (J.stop i H ∧ Qd H) ∨ (J.go i H ∧ ∃ Nx : Hp → Prop, (∀ H', Nx H' → ∃ m', m' < m ∧ W (i + 1) m' H') ∧ ∀ x H', J.yld i H x H' → g x (wipe σ vs) H' fun σ2 H2 => wipe σ2 vs = wipe σ vs ∧ tt σ2 H2 fun b H3 =>
        if b = true then te σ2 H3 fun y H4 => ∃ acc, H4 D = some (.lst acc) ∧ acc.length < sizeLine ∧ Nx (upd H4 D (.lst (acc ++ [y]))) else Nx H3) := by
  refine lc_acc w hn hD hG (fun i acc _ => acc = ys.take i) (fun i acc H e => by rw [e, List.length_take]; omega) (by rw [List.take_zero]) (fun i x H acc Φ Ψ hi hx sm hd' ha k => ?_) fun H acc sm hd' ha => hd H sm ?_
  · have hi' : i < ys.length := by omega
    have ey : ys[i]? = some ys[i] := List.getElem?_eq_getElem hi'
    refine hs i x ys[i] H Φ Ψ hx ey sm fun H4 s4 => k _ H4 s4 (s4 _ _ hd') fun H5 _ _ _ => ?_
    rw [ha, List.take_add_one, ey]
    rfl
  · rw [hd', ha, ← hy, List.take_length]
end
/-! ### x in an instance with the own method -/
section
variable {X : Cx} {CX : CXT} {k : Nat} {C f : Addr} {fd : FuncData} {ps : List Str} {sp : Sp} {E : XK}
theorem op_inOwn (hs : PySem.W.findIn X.K (.ref C) "__contains__" = some (some (.ref f))) (hf : PySem.W.isFn X.K (.ref f) = true) (F : FnOk X.prog X.w X.K X.mg X.base CX k f fd ps sp) (hr : Room k X.A) (hb : Binds X.K fd ps []) (hx : Passes CX X E) :
    OpR X (compareOp .In) (fun x y H Q => ∃ a dx fs, y = .ref a ∧ H a = some (.ins C dx fs) ∧ sp [.ref a, x] H (fun v H' => ∃ b, v = .bl b ∧ Q (.bl b) H') E) := by
  intro pins s σ H x y v u Q I rx ry h
  obtain ⟨a, dx, fs, rfl, ha, q⟩ := h
  cases ry
  obtain ⟨mA, J, _⟩ := ins_get I.hok ha
  obtain ⟨od, J, _⟩ := J.look
  obtain ⟨m, hF⟩ := I.fr
  refine PySem.W.in_K hF I.ok.mod.kin J hs hf ?_
  refine wpAny_mono (run_fn (us := [.ref a, v]) (vs := [.ref a, x]) F hr hb .nil hx I (.cons rfl (.cons rx .nil)) q) (fun w s' z => ?_) fun _ _ z => z
  obtain ⟨v', H', I', rv, b, rfl, q'⟩ := z
  cases rv
  exact wpAny_truthy_bool ⟨.bl b, H', I', rfl, q'⟩
theorem op_notInOwn (hs : PySem.W.findIn X.K (.ref C) "__contains__" = some (some (.ref f))) (hf : PySem.W.isFn X.K (.ref f) = true) (F : FnOk X.prog X.w X.K X.mg X.base CX k f fd ps sp) (hr : Room k X.A) (hb : Binds X.K fd ps []) (hx : Passes CX X E) :
    OpR X (compareOp .NotIn) (fun x y H Q => ∃ a dx fs, y = .ref a ∧ H a = some (.ins C dx fs) ∧ sp [.ref a, x] H (fun v H' => ∃ b, v = .bl b ∧ Q (.bl (!b)) H') E) := by
  intro pins s σ H x y v u Q I rx ry h
  obtain ⟨a, dx, fs, rfl, ha, q⟩ := h
  cases ry
  obtain ⟨mA, J, _⟩ := ins_get I.hok ha
  obtain ⟨od, J, _⟩ := J.look
  obtain ⟨m, hF⟩ := I.fr
  refine PySem.W.notIn_K hF I.ok.mod.kin J hs hf ?_
  refine wpAny_mono (run_fn (us := [.ref a, v]) (vs := [.ref a, x]) F hr hb .nil hx I (.cons rfl (.cons rx .nil)) q) (fun w s' z => ?_) fun _ _ z => z
  obtain ⟨v', H', I', rv, b, rfl, q'⟩ := z
  cases rv
  exact wpAny_truthy_bool ⟨.bl (!b), H', I', rfl, q'⟩
end
end L2

set_option maxHeartbeats 2000000
namespace L2
open PySem PySem.Spec PyProof.Rows RZ
/-! ### zip, slices of lists and tuples -/
theorem walk_zipT {K : PySem.W.Frag} {a b : Addr} {xs ys : List V} {n : Nat} (hn : n = min xs.length ys.length) : Walk (ItzT K a b) n (fun H => SqT K H a xs ∧ SqT K H b ys) (YPair (fun i => xs[i]?) (fun i => ys[i]?)) :=
  ⟨fun i H hi q => ⟨xs, ys, xs[i]'(by omega), ys[i]'(by omega), q.1, q.2, List.getElem?_eq_getElem _, List.getElem?_eq_getElem _⟩,
    fun H q => ⟨xs, ys, q.1, q.2, by omega⟩, fun i H v H' hi q y => by
      obtain ⟨T, x, y', rfl, hT, rfl, f1, f2⟩ := y
      exact ⟨T, x, y', rfl, hT, rfl, f1 xs q.1, f2 ys q.2⟩⟩
def ItZk (K : PySem.W.Frag) (k : Kind) (a b : Addr) : It := match k with
  | .l => Itz K a b
  | .t => ItzT K a b
theorem walk_zk {K : PySem.W.Frag} {k : Kind} {a b : Addr} {xs ys : List V} {n : Nat} (hn : n = min xs.length ys.length) : Walk (ItZk K k a b) n (fun H => Sk K k H a xs ∧ Sk K k H b ys) (YPair (fun i => xs[i]?) (fun i => ys[i]?)) := by
  cases k
  · exact walk_zip hn
  · exact walk_zipT hn
theorem zip_k {K : PySem.W.Frag} {k : Kind} {H : Hp} {a b : Addr} {xs ys : List V} {R : It → Hp → Prop} (ha : Sk K k H a xs) (hb : Sk K k H b ys) (h : R (ItZk K k a b) H) :
    (SqL K H a xs ∧ SqL K H b ys ∧ R (Itz K a b) H) ∨ (SqT K H a xs ∧ SqT K H b ys ∧ R (ItzT K a b) H) := by
  cases k
  · exact .inl ⟨ha, hb, h⟩
  · exact .inr ⟨ha, hb, h⟩
theorem cut_all {xs : List V} {lo hi : Option Int} (h : HT.sIx xs.length 0 lo = 0 ∧ HT.sIx xs.length xs.length hi = xs.length) : cutV xs lo hi = xs := by
  unfold cutV
  rw [h.1, h.2, List.drop_zero, Nat.sub_zero, List.take_length]
theorem sl_k {K : PySem.W.Frag} {k : Kind} {H : Hp} {a : Addr} {xs : List V} {lo hi : Option Int} {Q : V → Hp → Prop} (ha : Sk K k H a xs) (h : ∀ p H', Same H H' → Sk K k H' p (cutV xs lo hi) → Q (.ref p) H') :
    rSlL K (.ref a) lo hi H Q ∨ rSlA K (.ref a) lo hi H Q := by
  cases k
  · exact .inl ⟨a, xs, rfl, ha, fun p hp => h p _ (new_ hp) (SqL.of upd_same)⟩
  · exact .inr ⟨a, xs, rfl, ha, fun w => h a H (fun _ _ e => e) (by rw [cut_all w]; exact ha), fun _ p hp => h p _ (new_ hp) (SqT.of upd_same)⟩
theorem cut_1 (xs : List V) : cutV xs (some (1 : Int)) none = xs.drop 1 := by
  unfold cutV
  rw [show (1 : Int) = ((1 : Nat) : Int) from rfl, HT.sIx_nat, HT.sIx_none]
  rcases Nat.eq_zero_or_pos xs.length with h | h
  · have : xs = [] := List.length_eq_zero_iff.mp h
    subst this
    rfl
  · rw [Nat.min_eq_left h, List.take_of_length_le (by rw [List.length_drop]; exact Nat.le_refl _)]
theorem cut_to (xs : List V) (n : Nat) : cutV xs none (some (n : Int)) = xs.take n := by
  unfold cutV
  rw [HT.sIx_nat, HT.sIx_none, List.drop_zero, Nat.sub_zero]
  rcases Nat.le_total n xs.length with h | h
  · rw [Nat.min_eq_left h]
  · rw [Nat.min_eq_right h, List.take_length, List.take_of_length_le h]
/-! ### small words -/
theorem take_succ' {α : Type} {l : List α} {i : Nat} {x : α} (h : l[i]? = some x) : l.take (i + 1) = l.take i ++ [x] := by
  rw [List.take_add_one, h]
  rfl
theorem ifD_no {p A B : Prop} [Decidable p] (h : ¬ p) (q : B) : if decide p = true then A else B := by
  rw [decide_eq_false h]
  exact iteF q
theorem ifD_yes {p A B : Prop} [Decidable p] (h : p) (q : A) : if decide p = true then A else B := by
  rw [decide_eq_true h]
  exact iteT q
theorem ifD_2 {p A B : Prop} [Decidable p] (h1 : p → A) (h2 : ¬ p → B) : if decide p = true then A else B := by
  by_cases h : p
  · exact ifD_yes h (h1 h)
  · exact ifD_no h (h2 h)
theorem ifB_2 {b : Bool} {A B : Prop} (h1 : b = true → A) (h2 : b = false → B) : if b = true then A else B := by
  cases b
  · exact iteF (h2 rfl)
  · exact iteT (h1 rfl)
theorem Same.none {H H' : Hp} {x : Addr} (s : Same H H') (h : H' x = Option.none) : H x = Option.none := by
  cases e : H x with
  | none => rfl
  | some o => rw [s _ _ e] at h; cases h
theorem all_true (n : Nat) : (List.replicate n true).all id = true := by
  rw [List.all_eq_true]
  intro x hx
  rw [(List.mem_replicate.mp hx).2]
  rfl
theorem boot_isi : bootBuiltins "isinstance" = some (.builtin "isinstance") := by decide +kernel
theorem boot_int' : bootBuiltins "int" = some (.type "int") := by decide +kernel
theorem boot_bool' : bootBuiltins "bool" = some (.type "bool") := by decide +kernel
theorem boot_tuple' : bootBuiltins "tuple" = some (.type "tuple") := by decide +kernel
theorem boot_list' : bootBuiltins "list" = some (.type "list") := by decide +kernel
theorem boot_all' : bootBuiltins "all" = some (.builtin "all") := by decide +kernel
structure Df (K : PySem.W.Frag) (mg : Str → Option Value) (x : Str) (st : Stmt) (f : Addr) (fd : FuncData) (ps : List Str) : Prop where
  F : Fun K x x st f fd
  B : Binds K fd ps []
  M : mg x = some (.ref f)
def rTupK (K : PySem.W.Frag) : List V → Hp → (V → Hp → Prop) → Prop := fun xs H Q => ∃ p ys, xs = [.ref p] ∧ ((SqL K H p ys ∧ ∀ l, H l = none → Q (.ref l) (upd H l (.tup ys))) ∨ (SqT K H p ys ∧ Q (.ref p) H))
theorem call_tupleK {X : Cx} {K : PySem.W.Frag} (h : X.K = K) : CallR X (.type "tuple") (rTupK K) := h ▸ call_tuple_of
def rLstK (K : PySem.W.Frag) : List V → Hp → (V → Hp → Prop) → Prop := fun xs H Q => ∃ p ys, xs = [.ref p] ∧ (SqL K H p ys ∨ SqT K H p ys) ∧ ∀ l, H l = none → Q (.ref l) (upd H l (.lst ys))
theorem call_listK {X : Cx} {K : PySem.W.Frag} (h : X.K = K) : CallR X (.type "list") (rLstK K) := h ▸ call_list_of
def rLenK (K : PySem.W.Frag) : List V → Hp → (V → Hp → Prop) → Prop := fun xs H Q => ∃ p ys, xs = [.ref p] ∧ (SqL K H p ys ∨ SqT K H p ys) ∧ Q (.int ys.length) H
theorem call_lenK {X : Cx} {K : PySem.W.Frag} (h : X.K = K) : CallR X (.builtin "len") (rLenK K) := h ▸ call_len_seq
def rIxTK (K : PySem.W.Frag) : R2 := fun x y H Q => ∃ p xs i v, x = .ref p ∧ y = .int i ∧ SqT K H p xs ∧ atI xs i = some v ∧ Q v H
theorem ix_tupK {X : Cx} {K : PySem.W.Frag} (h : X.K = K) : IxR X (rIxTK K) := h ▸ ix_tup
/-! ### what stands at each place of a list of references -/
def Ea {α : Type} (H : Hp) (P : Hp → Addr → α → Prop) (xs : List V) (ds : List α) : Prop := xs.length = ds.length ∧ ∀ (i : Nat) (x : V) (r : α), xs[i]? = some x → ds[i]? = some r → ∃ c, x = .ref c ∧ P H c r
section
variable {α : Type} {H H' : Hp} {P P' : Hp → Addr → α → Prop} {xs ys : List V} {ds es : List α} {c : Addr} {r : α}
theorem Ea.imp (e : Ea H P xs ds) (f : ∀ c r, P H c r → P' H' c r) : Ea H' P' xs ds := ⟨e.1, fun i x r h1 h2 => let ⟨c, hx, q⟩ := e.2 i x r h1 h2; ⟨c, hx, f c r q⟩⟩
theorem Ea.nil : Ea H P [] [] := ⟨rfl, fun i x r h _ => by simp at h⟩
theorem Ea.append (e : Ea H P xs ds) (e' : Ea H P ys es) : Ea H P (xs ++ ys) (ds ++ es) := by
  refine ⟨by rw [List.length_append, List.length_append, e.1, e'.1], fun i x r h1 h2 => ?_⟩
  rcases Nat.lt_or_ge i xs.length with hi | hi
  · rw [List.getElem?_append_left hi] at h1
    rw [List.getElem?_append_left (by rw [← e.1]; exact hi)] at h2
    exact e.2 i x r h1 h2
  · rw [List.getElem?_append_right hi] at h1
    rw [List.getElem?_append_right (by rw [← e.1]; exact hi), ← e.1] at h2
    exact e'.2 _ x r h1 h2
theorem Ea.one (q : P H c r) : Ea H P [.ref c] [r] := by
  refine ⟨rfl, fun i x r' h1 h2 => ?_⟩
  match i, h1, h2 with
  | 0, h1, h2 =>
    cases h1
    cases h2
    exact ⟨c, rfl, q⟩
  | (j + 1), h1, _ => simp at h1
theorem Ea.push (e : Ea H P xs ds) (q : P H c r) : Ea H P (xs ++ [.ref c]) (ds ++ [r]) := e.append (.one q)
theorem Ea.get (e : Ea H P xs ds) {i : Nat} {r : α} (h : ds[i]? = some r) : ∃ c, xs[i]? = some (.ref c) ∧ P H c r := by
  have hi : i < xs.length := by rw [e.1]; exact (List.getElem?_eq_some_iff.mp h).1
  obtain ⟨c, hc, q⟩ := e.2 i _ r (List.getElem?_eq_getElem hi) h
  exact ⟨c, by rw [List.getElem?_eq_getElem hi, hc], q⟩
theorem Ea.at_ (e : Ea H P xs ds) {i : Nat} {x : V} (h : xs[i]? = some x) : ∃ c r, x = .ref c ∧ ds[i]? = some r ∧ P H c r := by
  have hi : i < ds.length := by rw [← e.1]; exact (List.getElem?_eq_some_iff.mp h).1
  obtain ⟨c, hc, q⟩ := e.2 i _ _ h (List.getElem?_eq_getElem hi)
  exact ⟨c, _, hc, List.getElem?_eq_getElem hi, q⟩
end
/-- a tuple at c of what r is written as -/
def TupOf {α : Type} (f : α → List V) (H : Hp) (c : Addr) (r : α) : Prop := H c = some (.tup (f r))
section
variable {α : Type} {f : α → List V} {H H' : Hp} {xs : List V} {ds : List α} {c p C dx : Addr} {r : α}
theorem TupOf.lst {ys zs : List V} (q : TupOf f H c r) (hD : H p = some (.lst ys)) : TupOf f (upd H p (.lst zs)) c r := by
  unfold TupOf
  rw [upd_ne (ne_of (H := H) q hD (by intro z; cases z))]
  exact q
theorem TupOf.ins {fs : List (Str × V)} {o : HO} (q : TupOf f H c r) (hp : H p = some (.ins C dx fs)) : TupOf f (upd H p o) c r := by
  unfold TupOf
  rw [upd_ne (ne_of (H := H) q hp (by intro z; cases z))]
  exact q
theorem TupOf.but {ys : List V} (q : TupOf f H c r) (hD : H p = some (.lst ys)) (b : But p H H') : TupOf f H' c r := b _ _ (ne_of (H := H) q hD (by intro z; cases z)) q
theorem Ea.same (e : Ea H (TupOf f) xs ds) (s : Same H H') : Ea H' (TupOf f) xs ds := e.imp fun c r q => s _ _ q
end
end L2

set_option maxHeartbeats 2000000
namespace PA
/-- below 2 ^ n in size -/
abbrev Sm (n : Nat) (x : Int) : Prop := x.natAbs < 2 ^ n
theorem Sm.mono {n m : Nat} {x : Int} (h : Sm n x) (hn : n ≤ m) : Sm m x := Nat.lt_of_lt_of_le h (Nat.pow_le_pow_right (by decide) hn)
theorem Sm.mul {n m k : Nat} {x y : Int} (hx : Sm n x) (hy : Sm m y) (h : n + m ≤ k) : Sm k (x * y) := by
  refine Sm.mono (n := n + m) ?_ h
  unfold Sm
  rw [Int.natAbs_mul, Nat.pow_add]
  exact Nat.mul_lt_mul'' hx hy
theorem Sm.add {n k : Nat} {x y : Int} (hx : Sm n x) (hy : Sm n y) (h : n + 1 ≤ k) : Sm k (x + y) := by
  refine Sm.mono (n := n + 1) ?_ h
  unfold Sm at *
  rw [Nat.pow_succ]
  omega
theorem Sm.sub {n k : Nat} {x y : Int} (hx : Sm n x) (hy : Sm n y) (h : n + 1 ≤ k) : Sm k (x - y) := by
  refine Sm.mono (n := n + 1) ?_ h
  unfold Sm at *
  rw [Nat.pow_succ]
  omega
theorem Sm.neg {n : Nat} {x : Int} (hx : Sm n x) : Sm n (-x) := by
  unfold Sm at *
  rw [Int.natAbs_neg]
  exact hx
theorem Sm.le {n : Nat} {x y : Int} (hx : Sm n x) (h : y.natAbs ≤ x.natAbs) : Sm n y := Nat.lt_of_le_of_lt h hx
theorem Sm.one {n : Nat} (h : 0 < n) : Sm n 1 := by
  show (1 : Int).natAbs < 2 ^ n
  exact Nat.one_lt_two_pow (by omega)

/-- the divisor that a Ratio shortens by -/
def shr (t b : Int) : Int := if b < 0 then -((Nat.gcd t.natAbs b.natAbs : Nat) : Int) else ((Nat.gcd t.natAbs b.natAbs : Nat) : Int)
/-- lowest terms -/
structure Low (T B : Int) : Prop where
  pos : 0 < B
  cop : Nat.gcd T.natAbs B.natAbs = 1
theorem low_one (i : Int) : Low i 1 := ⟨by decide, Nat.gcd_one_right _⟩
theorem gcd_key {a b c d g : Nat} (h1 : a = c * g) (h2 : b = d * g) : Nat.gcd a b = Nat.gcd c d * g := by
  rw [h1, h2]
  exact Nat.gcd_mul_right _ _ _
theorem rat_mk {t b : Int} (hb : b ≠ 0) : shr t b ≠ 0 ∧ (shr t b).natAbs ≤ b.natAbs ∧ Low (t.fdiv (shr t b)) (b.fdiv (shr t b)) ∧ (t.fdiv (shr t b)) * b = t * (b.fdiv (shr t b)) ∧
    (t.fdiv (shr t b)).natAbs ≤ t.natAbs ∧ (b.fdiv (shr t b)).natAbs ≤ b.natAbs := by
  have hg : 0 < Nat.gcd t.natAbs b.natAbs := Nat.gcd_pos_of_pos_right _ (Int.natAbs_pos.mpr hb)
  have hgb : Nat.gcd t.natAbs b.natAbs ≤ b.natAbs := Nat.gcd_le_right _ (Int.natAbs_pos.mpr hb)
  have hsn : (shr t b).natAbs = Nat.gcd t.natAbs b.natAbs := by
    unfold shr
    split
    · rw [Int.natAbs_neg, Int.natAbs_natCast]
    · rw [Int.natAbs_natCast]
  have hs0 : shr t b ≠ 0 := by
    intro z
    rw [z] at hsn
    simp at hsn
    omega
  have dv : ∀ y : Int, (Nat.gcd t.natAbs b.natAbs) ∣ y.natAbs → ∃ q : Int, y = q * shr t b := by
    intro y hy
    have h1 : ((Nat.gcd t.natAbs b.natAbs : Nat) : Int) ∣ y := Int.ofNat_dvd_left.mpr hy
    obtain ⟨q, hq⟩ := h1
    unfold shr
    split
    · exact ⟨-q, by rw [Int.neg_mul_neg, Int.mul_comm]; exact hq⟩
    · exact ⟨q, by rw [Int.mul_comm]; exact hq⟩
  obtain ⟨T, hT⟩ := dv t (Nat.gcd_dvd_left _ _)
  obtain ⟨B, hB⟩ := dv b (Nat.gcd_dvd_right _ _)
  have eT : t.fdiv (shr t b) = T := by
    conv => lhs; lhs; rw [hT]
    exact Int.mul_fdiv_cancel _ hs0
  have eB : b.fdiv (shr t b) = B := by
    conv => lhs; lhs; rw [hB]
    exact Int.mul_fdiv_cancel _ hs0
  rw [eT, eB]
  have nT : t.natAbs = T.natAbs * Nat.gcd t.natAbs b.natAbs := by
    conv => lhs; rw [hT, Int.natAbs_mul, hsn]
  have nB : b.natAbs = B.natAbs * Nat.gcd t.natAbs b.natAbs := by
    conv => lhs; rw [hB, Int.natAbs_mul, hsn]
  refine ⟨hs0, by rw [hsn]; exact hgb, ⟨?_, ?_⟩, ?_, ?_, ?_⟩
  · have hB0 : B ≠ 0 := by
      intro z
      rw [z, Int.zero_mul] at hB
      exact hb hB
    rcases Int.lt_or_gt_of_ne hB0 with h | h
    · exfalso
      unfold shr at hB
      split at hB
      · rename_i hneg
        have : 0 < B * -((Nat.gcd t.natAbs b.natAbs : Nat) : Int) := Int.mul_pos_of_neg_of_neg h (by omega)
        omega
      · rename_i hneg
        have : B * ((Nat.gcd t.natAbs b.natAbs : Nat) : Int) < 0 := Int.mul_neg_of_neg_of_pos h (by omega)
        omega
    · exact h
  · have e : Nat.gcd t.natAbs b.natAbs = Nat.gcd T.natAbs B.natAbs * Nat.gcd t.natAbs b.natAbs := by
      exact gcd_key nT nB
    have e2 : 1 * Nat.gcd t.natAbs b.natAbs = Nat.gcd T.natAbs B.natAbs * Nat.gcd t.natAbs b.natAbs := by rw [Nat.one_mul]; exact e
    exact (Nat.eq_of_mul_eq_mul_right hg e2).symm
  · calc T * b = T * (B * shr t b) := by rw [← hB]
      _ = (T * shr t b) * B := by rw [Int.mul_comm B, ← Int.mul_assoc]
      _ = t * B := by rw [← hT]
  · rw [nT]; exact Nat.le_mul_of_pos_right _ hg
  · rw [nB]; exact Nat.le_mul_of_pos_right _ hg
/-- a fraction has one lowest form -/
theorem Low.uniq {T B T' B' : Int} (h : Low T B) (h' : Low T' B') (e : T * B' = T' * B) : T = T' ∧ B = B' := by
  have n : T.natAbs * B'.natAbs = T'.natAbs * B.natAbs := by rw [← Int.natAbs_mul, ← Int.natAbs_mul, e]
  have d1 : B.natAbs ∣ B'.natAbs := by
    have : B.natAbs ∣ T.natAbs * B'.natAbs := ⟨T'.natAbs, by rw [n, Nat.mul_comm]⟩
    exact (Nat.Coprime.symm h.cop).dvd_of_dvd_mul_left this
  have d2 : B'.natAbs ∣ B.natAbs := by
    have : B'.natAbs ∣ T'.natAbs * B.natAbs := ⟨T.natAbs, by rw [← n, Nat.mul_comm]⟩
    exact (Nat.Coprime.symm h'.cop).dvd_of_dvd_mul_left this
  have eB : B = B' := by
    have := Nat.dvd_antisymm d1 d2
    have p1 := h.pos
    have p2 := h'.pos
    omega
  subst eB
  have hB : B ≠ 0 := by have := h.pos; omega
  exact ⟨Int.eq_of_mul_eq_mul_right hB e, rfl⟩
theorem Low.neg {T B : Int} (h : Low T B) : Low (-T) B := ⟨h.pos, by rw [Int.natAbs_neg]; exact h.cop⟩
/-- a = n / d and b = n / d -/
theorem cross {a b n d x y : Int} (hb : b ≠ 0) (h1 : a * d = n * b) (h2 : n * y = x * d) (hd : d ≠ 0) : a * y = x * b := by
  have : (a * y) * d = (x * b) * d := by
    calc (a * y) * d = (a * d) * y := by rw [Int.mul_assoc, Int.mul_comm y, ← Int.mul_assoc]
      _ = (n * b) * y := by rw [h1]
      _ = (n * y) * b := by rw [Int.mul_assoc, Int.mul_comm b, ← Int.mul_assoc]
      _ = (x * d) * b := by rw [h2]
      _ = (x * b) * d := by rw [Int.mul_assoc, Int.mul_comm d, ← Int.mul_assoc]
  exact Int.eq_of_mul_eq_mul_right hd this
end PA

set_option maxHeartbeats 2000000
namespace PLow
open PySem PySem.W PySem.Calls PyProof.Rows
section
variable {prog : Program} {w : World} {M : Model} {A : Around} {E : Value → Shared → Prop} {s : Shared} {K : Frag} {x C L f : Addr} {h₀ : Heap} {m : Str → Option Value} {ox : Obj} {od : Option Obj} {nm : String}

/-- an int's own slot declines an instance -/
theorem add_declines {a : Int} {t : Tok} {R : PySem.Fin → Shared → Prop} (ho : s.heap.get? x = some ox) (hd : ∀ v, ox.data ≠ .prim v) (h : R (.done (.ret .notImplemented)) s) :
    wpAny (model prog w) A (Builtin.«int.__add__» ⟨[Value.int a t, Value.ref x], []⟩) R E s := by
  obtain ⟨hp, g, d, tk, os⟩ := s
  wp_walk
  split
  · rename_i e
    exact absurd e (hd _)
  · wp_walk
    exact h
theorem sub_declines {a : Int} {t : Tok} {R : PySem.Fin → Shared → Prop} (ho : s.heap.get? x = some ox) (hd : ∀ v, ox.data ≠ .prim v) (h : R (.done (.ret .notImplemented)) s) :
    wpAny (model prog w) A (Builtin.«int.__sub__» ⟨[Value.int a t, Value.ref x], []⟩) R E s := by
  obtain ⟨hp, g, d, tk, os⟩ := s
  wp_walk
  split
  · rename_i e
    exact absurd e (hd _)
  · wp_walk
    exact h
theorem mul_declines {a : Int} {t : Tok} {R : PySem.Fin → Shared → Prop} (ho : s.heap.get? x = some ox) (hd : ∀ v, ox.data ≠ .prim v) (h : R (.done (.ret .notImplemented)) s) :
    wpAny (model prog w) A (Builtin.«int.__mul__» ⟨[Value.int a t, Value.ref x], []⟩) R E s := by
  obtain ⟨hp, g, d, tk, os⟩ := s
  wp_walk
  split
  · rename_i e
    exact absurd e (hd _)
  · wp_walk
    exact h

/-- the left operand's own slot, the right one declines: an int and an instance with the reflected method -/
theorem rbin {op : Operator} {id : String} {a : Int} {t : Tok} {B : Builtin} {Q : Value → Shared → Prop} {g : Addr} (F : Fr h₀ L s.heap m) (X₀ : K.In h₀) (I : InstAt s.heap x ox C od) (hc : selfFirst K C = true)
    (hs : findIn K (.ref C) (PySem.dunder op.info.2) = some (some (.ref g))) (hr : findIn K (.ref C) (dunderR op.info.2) = some (some (.ref f))) (hf : isFn K (.ref f) = true)
    (hfT : fillsNumberSlot (.type "int") op.info.2 = pure true) (hsub : subIn K (.ref C) (.type "int") = some false)
    (slot : Slot "int" (PySem.dunder op.info.2) id) (entry : entryFor table id = some B) (args : argsOk id ⟨[Value.int a t, .ref x], []⟩)
    (dec : ∀ (A : Around) (E : Value → Shared → Prop) (R : PySem.Fin → Shared → Prop), R (.done (.ret .notImplemented)) s → wpAny (model prog w) A (B ⟨[Value.int a t, .ref x], []⟩) R E s)
    (h : wpAny (model prog w) A (call (.ref f) [.ref x, .int a t]) (PySem.W.CmpBack Q) E s) : wpAny (model prog w) A (binaryOp op (.int a t) (.ref x)) Q E s := by
  have X := X₀.keeps F.keep
  obtain ⟨cd, rest, hcd, hm⟩ := ksp_first hc
  rcases hi : op.info with ⟨sym, nm'⟩
  rw [hi] at hs hr hfT slot
  dsimp only at hs hr hfT slot
  have one := ksp_try X I hr hf h
  have L0 : Looks (model prog w) s.heap (typeOf (.int a t)) (.type "int") := Looks.of_pure rfl
  have L1 : Looks (model prog w) s.heap (typeOf (.ref x)) (.ref C) := I.type
  have L3 : Looks (model prog w) s.heap (fillsNumberSlot (.ref C) nm') true := fills_K X hcd hm hs
  have L5 : Looks (model prog w) s.heap (isSubtype (.ref C) (.type "int")) false := looks_subIn X hsub
  have hne : (Value.type "int" == Value.ref C) = false := Bool.eq_false_iff.mpr fun q => by cases beq_iff_eq.mp q
  have hpy : numberSlotInPython (.type "int") nm' = pure false := rfl
  simp only [binaryOp, hi]
  refine wpAny_holding (wpAny_bind ?_)
  unfold binaryOp1
  refine wpAny_bind (L0.here (wpAny_bind (L1.here (wpAny_bind (wpAny_of_eq hfT ?_)))))
  simp only [hne, Bool.false_eq_true, if_false]
  refine wpAny_bind (L3.here ?_)
  simp only [Bool.and_self, if_true]
  refine wpAny_bind (L5.here ?_)
  simp only [Bool.false_eq_true, if_false, pure_bind, Bool.not_false, Bool.and_self, if_true, hpy]
  refine wpAny_bind (wpAny_tryMethod_declines (id := id) (typeIs_int s a t) slot ?_)
  refine GQ.call_here slot (typeIs_int s a t) entry args (dec _ _ _ ?_)
  refine ⟨rfl, ?_⟩
  refine wpAny_bind (wpAny_mono one (fun r s' hr' => ?_) fun _ _ e => e)
  obtain ⟨v, rfl, hq⟩ := hr'
  dsimp only
  exact wpAny_bind (wpAny_rule (wpAny_pure (wpAny_pure hq)))

/-- abs(x) by the own method -/
theorem abs_own {Q : Value → Shared → Prop} (F : Fr h₀ L s.heap m) (X₀ : K.In h₀) (I : InstAt s.heap x ox C od) (hs : findIn K (.ref C) "__abs__" = some (some (.ref f))) (hf : isFn K (.ref f) = true)
    (h : wpAny (model prog w) A.in1 (call (.ref f) [.ref x]) Q E s) : wpAny (model prog w) A (call (.builtin "abs") [.ref x]) Q E s := by
  refine call_function_entry kind_abs plain_abs entry_abs (args_abs _) ?_
  unfold Builtin.«abs»
  refine wpAny_bind (m := oneArg "abs" _) (wpAny_pure ?_)
  refine wpAny_bind (special_fn (X₀.keeps F.keep) I hs (beq_iff_eq.mp hf) ?_)
  exact wpAny_mono h (fun v s' q => wpAny_pure ⟨v, rfl, q⟩) fun _ _ z => z
end
end PLow

namespace L2
open PySem PySem.Spec PyProof.Rows
section
variable {X : Cx} {CX : CXT} {k : Nat} {C f g : Addr} {fd : FuncData} {ps : List Str} {sp : Sp} {E : XK} {op : Operator}
theorem cmpBack_of {pins : List (Addr × Obj)} {σ : St} {Q : VK} {u : Value} {s' : Shared} (h : EP X pins σ Q u s') : PySem.W.CmpBack (EP X pins σ Q) u s' := by
  obtain ⟨v, H', I, r, q⟩ := id h
  cases v with
  | non => cases (show u = Value.none from r); exact h
  | bl b => cases (show u = Value.bool b from r); exact h
  | int i => obtain ⟨t, e⟩ := (show ∃ t, u = Value.int i t from r); cases e; exact h
  | str x => obtain ⟨t, e⟩ := (show ∃ t, u = Value.str x t from r); cases e; exact h
  | byt b => obtain ⟨t, e⟩ := (show ∃ t, u = Value.bytes b t from r); cases e; exact h
  | flt b => obtain ⟨t, e⟩ := (show ∃ t, u = Value.float b t from r); cases e; exact h
  | ref a => cases (show u = Value.ref a from r); exact h
  | ty n => cases (show u = Value.type n from r); exact h
/-- what of the class an own operator asks: f the method, g the reflected one -/
structure OwnOp (K : PySem.W.Frag) (C f g : Addr) (op : Operator) : Prop where
  first : PySem.W.selfFirst K C = true
  at_ : PySem.W.findIn K (.ref C) (PySem.dunder op.info.2) = some (some (.ref f))
  fn : PySem.W.isFn K (.ref f) = true
  ar : PySem.W.findIn K (.ref C) (dunderR op.info.2) = some (some (.ref g))
  fr : PySem.W.isFn K (.ref g) = true
  sub : PySem.W.subIn K (.type "int") (.ref C) = some false
  sub' : PySem.W.subIn K (.ref C) (.type "int") = some false
/-- x op y, x an instance with the own method, y an instance of the same class -/
theorem op_ownR (O : OwnOp X.K C f g op) (F : FnOk X.prog X.w X.K X.mg X.base CX k f fd ps sp) (hr : Room k X.A) (hb : Binds X.K fd ps []) (hx : Passes CX X E) :
    OpR X (binaryOp op) (fun x y H Q => ∃ a b dx dy fs gs, x = .ref a ∧ y = .ref b ∧ H a = some (.ins C dx fs) ∧ H b = some (.ins C dy gs) ∧ sp [.ref a, .ref b] H Q E) := by
  intro pins s σ H x y v u Q I rx ry h
  obtain ⟨a, b, dx, dy, fs, gs, rfl, rfl, ha, hb', q⟩ := h
  cases rx
  cases ry
  obtain ⟨mA, J, _⟩ := ins_get I.hok ha
  obtain ⟨mB, J', _⟩ := ins_get I.hok hb'
  obtain ⟨od, J, _⟩ := J.look
  obtain ⟨od', J', _⟩ := J'.look
  obtain ⟨m, hF⟩ := I.fr
  refine PySem.W.binop_K hF I.ok.mod.kin J J'.type O.first O.at_ O.fn ?_
  exact wpAny_mono (run_fn (us := [.ref a, .ref b]) (vs := [.ref a, .ref b]) F hr hb .nil hx I (.cons rfl (.cons rfl .nil)) q) (fun _ _ z => cmpBack_of z) fun _ _ z => z
/-- x op i, i an int -/
theorem op_ownI {fo ro : Option Value} (O : OwnOp X.K C f g op) (h1 : PySem.W.findIn X.K (.type "int") (PySem.dunder op.info.2) = some fo) (h2 : PySem.W.findIn X.K (.type "int") (dunderR op.info.2) = some ro)
    (F : FnOk X.prog X.w X.K X.mg X.base CX k f fd ps sp) (hr : Room k X.A) (hb : Binds X.K fd ps []) (hx : Passes CX X E) :
    OpR X (binaryOp op) (fun x y H Q => ∃ a i dx fs, x = .ref a ∧ y = .int i ∧ H a = some (.ins C dx fs) ∧ sp [.ref a, .int i] H Q E) := by
  intro pins s σ H x y v u Q I rx ry h
  obtain ⟨a, i, dx, fs, rfl, rfl, ha, q⟩ := h
  cases rx
  obtain ⟨t, rfl⟩ := ry
  obtain ⟨mA, J, _⟩ := ins_get I.hok ha
  obtain ⟨od, J, _⟩ := J.look
  obtain ⟨m, hF⟩ := I.fr
  refine PySem.W.ksp_binT hF I.ok.mod.kin J rfl O.first O.at_ O.fn O.ar (.inr ⟨_, rfl⟩) h1 h2 O.sub ?_
  exact wpAny_mono (run_fn (us := [.ref a, .int i t]) (vs := [.ref a, .int i]) F hr hb .nil hx I (.cons rfl (.cons ⟨t, rfl⟩ .nil)) q) (fun _ _ z => cmpBack_of z) fun _ _ z => z
/-- i op x, i an int: the reflected method, F of g -/
theorem op_ownL {id : String} {B : Builtin} (O : OwnOp X.K C f g op) (hfT : fillsNumberSlot (.type "int") op.info.2 = pure true)
    (slot : PySem.Slot "int" (PySem.dunder op.info.2) id) (entry : entryFor table id = some B) (args : ∀ i t x, argsOk id ⟨[Value.int i t, .ref x], []⟩)
    (dec : ∀ (i : Int) (t : Tok) (x : Addr) (ox : Obj) (s : Shared), s.heap.get? x = some ox → (∀ v, ox.data ≠ .prim v) → ∀ (A : Around) (E : Value → Shared → Prop) (R : PySem.Fin → Shared → Prop), R (.done (.ret .notImplemented)) s →
      wpAny (model X.prog X.w) A (B ⟨[Value.int i t, .ref x], []⟩) R E s)
    (F : FnOk X.prog X.w X.K X.mg X.base CX k g fd ps sp) (hr : Room k X.A) (hb : Binds X.K fd ps []) (hx : Passes CX X E) :
    OpR X (binaryOp op) (fun x y H Q => ∃ a i dx fs, x = .int i ∧ y = .ref a ∧ H a = some (.ins C dx fs) ∧ sp [.ref a, .int i] H Q E) := by
  intro pins s σ H x y v u Q I rx ry h
  obtain ⟨a, i, dx, fs, rfl, rfl, ha, q⟩ := h
  obtain ⟨t, rfl⟩ := rx
  cases ry
  obtain ⟨mA, J, _⟩ := ins_get I.hok ha
  have ho := J.obj
  obtain ⟨od, J, _⟩ := J.look
  obtain ⟨m, hF⟩ := I.fr
  refine PLow.rbin hF I.ok.mod.kin J O.first O.at_ O.ar O.fr hfT O.sub' slot entry (args _ _ _) (dec i t a _ s ho (fun v z => by simp [PySem.W.instObj] at z)) ?_
  exact wpAny_mono (run_fn (us := [.ref a, .int i t]) (vs := [.ref a, .int i]) F hr hb .nil hx I (.cons rfl (.cons ⟨t, rfl⟩ .nil)) q) (fun _ _ z => cmpBack_of z) fun _ _ z => z
/-- -x -/
theorem un_own (hs : PySem.W.findIn X.K (.ref C) "__neg__" = some (some (.ref f))) (hf : PySem.W.isFn X.K (.ref f) = true) (F : FnOk X.prog X.w X.K X.mg X.base CX k f fd ps sp) (hr : Room k X.A) (hb : Binds X.K fd ps []) (hx : Passes CX X E) :
    UnR X (unaryOp .USub) (fun x H Q => ∃ a dx fs, x = .ref a ∧ H a = some (.ins C dx fs) ∧ sp [.ref a] H Q E) := by
  intro pins s σ H x v Q I rx h
  obtain ⟨a, dx, fs, rfl, ha, q⟩ := h
  cases rx
  obtain ⟨mA, J, _⟩ := ins_get I.hok ha
  obtain ⟨od, J, _⟩ := J.look
  obtain ⟨m, hF⟩ := I.fr
  refine PySem.W.ksp_neg hF I.ok.mod.kin J hs hf ?_
  exact run_fn (us := [.ref a]) (vs := [.ref a]) F hr hb .nil hx I (.cons rfl .nil) q
/-- abs(x) -/
theorem call_absOwn (hs : PySem.W.findIn X.K (.ref C) "__abs__" = some (some (.ref f))) (hf : PySem.W.isFn X.K (.ref f) = true) (F : FnOk X.prog X.w X.K X.mg X.base CX k f fd ps sp) (hr : Room (k + 1) X.A) (hb : Binds X.K fd ps []) (hx : Passes CX X E) :
    CallR X (.builtin "abs") (fun xs H Q => ∃ a dx fs, xs = [.ref a] ∧ H a = some (.ins C dx fs) ∧ sp [.ref a] H Q E) := by
  intro pins s σ H xs us Q I r h
  obtain ⟨a, dx, fs, rfl, ha, q⟩ := h
  cases r with
  | cons r1 r2 =>
    cases r2
    cases r1
    obtain ⟨mA, J, _⟩ := ins_get I.hok ha
    obtain ⟨od, J, _⟩ := J.look
    obtain ⟨m, hF⟩ := I.fr
    refine PLow.abs_own hF I.ok.mod.kin J hs hf ?_
    have hl := F.len _ _ _ _ q
    have r2 : Vals [V.ref a] [Value.ref a] := .cons rfl .nil
    refine wpAny_call (codeAny_mono (F.run X.A.in1 X.stack s H ⟨[.ref a], []⟩ [.ref a] [.ref a] Q E hr.in1 I.env0.in1 (by
      have := hb s [.ref a] I.kIn (by simpa using hl)
      simpa using this) r2 q) fun r s' hq => ?_)
    cases r with
    | error e => exact hx pins σ H s e s' I hq
    | ok fl =>
      cases fl with
      | ret w => exact I.after hq
      | next => exact False.elim hq
      | brk => exact False.elim hq
      | cont => exact False.elim hq
/-- // by any divisor but 0 below 2 ^ 9000 in size -/
def CDivS (_ j : Int) : Prop := j ≠ 0 ∧ j.natAbs.log2 < 9000
theorem op_fdivS : OpR X (binaryOp .FloorDiv) (rI CDivS fun i j => .int (i.fdiv j)) := opI fun i j _ _ _ _ _ hc q =>
  floordiv_int hc.1 q (.inl (PyProof.noPylong_of_log2 hc.2))
end
end L2

set_option maxHeartbeats 2000000
namespace PLow
open PySem PySem.W PySem.Calls PyProof.Rows
section
variable {prog : Program} {w : World} {A : Around} {E : Value → Shared → Prop} {s : Shared} {K : Frag} {x C L f : Addr} {h₀ : Heap} {m : Str → Option Value} {ox : Obj} {od : Option Obj}
/-- bool(x) by the own method -/
theorem bool_own {Q : Value → Shared → Prop} (F : Fr h₀ L s.heap m) (X₀ : K.In h₀) (I : InstAt s.heap x ox C od) (hs : findIn K (.ref C) "__bool__" = some (some (.ref f))) (hf : isFn K (.ref f) = true)
    (h : wpAny (model prog w) A.in1.in1 (call (.ref f) [.ref x]) (PySem.W.BoolBack fun b s' => Q (.bool b) s') E s) : wpAny (model prog w) A (call (.type "bool") [.ref x]) Q E s := by
  refine callType_newIn (S := fun A R s' => s' = s ∧ wpAny (model prog w) A.in1 (call (.ref f) [.ref x]) (PySem.W.BoolBack fun b s' => R (.ok (.ret (.bool b))) s') (fun e s' => R (.error e) s') s) PySem.F.called_bool PySem.F.newNe_bool (PySem.F.typeCall_bool_1 _) (PySem.F.newCall_bool_1 _)
    (fun obj => PySem.F.args_object_init_2 obj _) PySem.F.entry_bool_new ?_ ⟨rfl, ?_⟩
  · rintro A R s' ⟨rfl, hc⟩
    have tr : ∀ {Q' : Bool → Shared → Prop}, wpAny (model prog w) A.in1 (call (.ref f) [.ref x]) (PySem.W.BoolBack Q') (fun e s' => R (.error e) s') s' → wpAny (model prog w) A.in1 (truthy (.ref x)) Q' (fun e s' => R (.error e) s') s' := fun z => truthy_K F X₀ I hs hf z
    have f1 := PySem.F.conv_sub_bool
    refine wpAny_bind (m := isType _) (wpAny_pure ?_)
    dsimp only
    simp only [Bool.not_true, Bool.false_eq_true, if_false]
    refine wpAny_bind (wpAny_of_eq f1 ?_)
    simp only [Bool.not_true, Bool.false_eq_true, if_false]
    refine wpAny_bind (m := someArgs _ _ _ _) (wpAny_pure ?_)
    dsimp only
    refine wpAny_bind (tr (wpAny_mono hc (fun v s' hv => ?_) fun _ _ z => z))
    cases v <;> first | exact hv.elim | skip
    exact wpAny_pure hv
  · refine wpAny_mono h (fun v s' hv => ?_) fun _ _ z => z
    cases v <;> first | exact hv.elim | skip
    exact ⟨rfl, hv⟩
end
end PLow
namespace L2
open PySem PySem.Spec PyProof.Rows
section
variable {X : Cx} {CX : CXT} {k : Nat} {C f : Addr} {fd : FuncData} {ps : List Str} {sp : Sp} {E : XK} {op : CmpOp}
/-- an own comparison -/
structure OwnC (K : PySem.W.Frag) (C f : Addr) (op : CmpOp) : Prop where
  at_ : PySem.W.findIn K (.ref C) (cmpInfo op).2.1 = some (some (.ref f))
  fn : PySem.W.isFn K (.ref f) = true
  sub : PySem.W.subIn K (.type "int") (.ref C) = some false
theorem rich_own (O : OwnC X.K C f op) (F : FnOk X.prog X.w X.K X.mg X.base CX k f fd ps sp) (hr : Room k X.A) (hb : Binds X.K fd ps []) (hx : Passes CX X E) {pins : List (Addr × Obj)} {s : Shared} {σ : St} {H : Hp} {y : V} {u : Value} {Q : VK} {a dx : Addr} {fs : List (Str × V)}
    (I : Inv X pins σ H s) (ha : H a = some (.ins C dx fs)) (ry : RelV y u) (hy : (∃ i, y = .int i) ∨ ∃ b dy gs, y = .ref b ∧ H b = some (.ins C dy gs)) (q : sp [.ref a, y] H Q E) :
    wpAny (model X.prog X.w) X.A (richCompare op (.ref a) u) (EP X pins σ Q) X.xe s := by
  obtain ⟨mA, J, _⟩ := ins_get I.hok ha
  obtain ⟨od, J, _⟩ := J.look
  obtain ⟨m, hF⟩ := I.fr
  have fin : wpAny (model X.prog X.w) X.A (call (.ref f) [.ref a, u]) (PySem.W.CmpBack (EP X pins σ Q)) X.xe s :=
    wpAny_mono (run_fn (us := [.ref a, u]) (vs := [.ref a, y]) F hr hb .nil hx I (.cons rfl (.cons ry .nil)) q) (fun _ _ z => cmpBack_of z) fun _ _ z => z
  rcases hy with ⟨i, rfl⟩ | ⟨b, dy, gs, rfl, hb'⟩
  · obtain ⟨t, rfl⟩ := ry
    refine PySem.W.cmp_K (op := op) (tb := .type "int") hr.units0 hF I.ok.mod.kin J (PySem.W.Looks.of_pure rfl) ?_ O.at_ O.fn fin
    unfold PySem.W.notFirst
    rw [O.sub]
    simp
  · cases ry
    obtain ⟨mB, J', _⟩ := ins_get I.hok hb'
    obtain ⟨od', J', _⟩ := J'.look
    exact PySem.W.cmp_K (op := op) (tb := .ref C) hr.units0 hF I.ok.mod.kin J J'.type (by simp [PySem.W.notFirst]) O.at_ O.fn fin
def rOwnC (C : Addr) (sp : Sp) (E : XK) : R2 := fun x y H Q => ∃ a dx fs, x = .ref a ∧ H a = some (.ins C dx fs) ∧ ((∃ i, y = .int i) ∨ ∃ b dy gs, y = .ref b ∧ H b = some (.ins C dy gs)) ∧ sp [x, y] H Q E
theorem op_ownC (O : OwnC X.K C f op) (F : FnOk X.prog X.w X.K X.mg X.base CX k f fd ps sp) (hr : Room k X.A) (hb : Binds X.K fd ps []) (hx : Passes CX X E) (hc : ∀ v u, compareOp op v u = richCompare op v u := by intro _ _; rfl) : OpR X (compareOp op) (rOwnC C sp E) := by
  intro pins s σ H x y v u Q I rx ry h
  obtain ⟨a, dx, fs, rfl, ha, hy, q⟩ := h
  cases rx
  rw [hc]
  exact rich_own O F hr hb hx I ha ry hy q
/-- a call of a built-in class whose own method answers, two levels in -/
theorem run_in2 {pins : List (Addr × Obj)} {σ : St} {H : Hp} {s : Shared} {Q : VK} {a : Addr} (F : FnOk X.prog X.w X.K X.mg X.base CX k f fd ps sp) (hr : Room (k + 2) X.A) (hb : Binds X.K fd ps []) (hx : Passes CX X E) (I : Inv X pins σ H s) (q : sp [.ref a] H Q E) :
    wpAny (model X.prog X.w) X.A.in1.in1 (call (.ref f) [.ref a]) (EP X pins σ Q) X.xe s := by
  have hl := F.len _ _ _ _ q
  have r2 : Vals [V.ref a] [Value.ref a] := .cons rfl .nil
  refine wpAny_call (codeAny_mono (F.run X.A.in1.in1 X.stack s H ⟨[.ref a], []⟩ [.ref a] [.ref a] Q E hr.in1.in1 I.env0.in1.in1 (by
    have := hb s [.ref a] I.kIn (by simpa using hl)
    simpa using this) r2 q) fun r s' hq => ?_)
  cases r with
  | error e => exact hx pins σ H s e s' I hq
  | ok fl =>
    cases fl with
    | ret w => exact I.after hq
    | next => exact False.elim hq
    | brk => exact False.elim hq
    | cont => exact False.elim hq
/-- bool(x) -/
theorem call_boolOwn (hs : PySem.W.findIn X.K (.ref C) "__bool__" = some (some (.ref f))) (hf : PySem.W.isFn X.K (.ref f) = true) (F : FnOk X.prog X.w X.K X.mg X.base CX k f fd ps sp) (hr : Room (k + 2) X.A) (hb : Binds X.K fd ps []) (hx : Passes CX X E) :
    CallR X (.type "bool") (fun xs H Q => ∃ a dx fs, xs = [.ref a] ∧ H a = some (.ins C dx fs) ∧ sp [.ref a] H (fun v H' => ∃ b, v = .bl b ∧ Q (.bl b) H') E) := by
  intro pins s σ H xs us Q I r h
  obtain ⟨a, dx, fs, rfl, ha, q⟩ := h
  obtain ⟨u, rfl, ru⟩ := vals1 r
  cases ru
  obtain ⟨mA, J, _⟩ := ins_get I.hok ha
  obtain ⟨od, J, _⟩ := J.look
  obtain ⟨m, hF⟩ := I.fr
  refine PLow.bool_own hF I.ok.mod.kin J hs hf (wpAny_mono (run_in2 F hr hb hx I q) (fun u s' z => ?_) fun _ _ z => z)
  obtain ⟨v, H', I', rv, b, rfl, q'⟩ := z
  cases rv
  exact ⟨.bl b, H', I', rfl, q'⟩
/-- str(x) -/
theorem call_strOwn (hs : PySem.W.findIn X.K (.ref C) "__str__" = some (some (.ref f))) (hf : PySem.W.isFn X.K (.ref f) = true) (F : FnOk X.prog X.w X.K X.mg X.base CX k f fd ps sp) (hr : Room (k + 2) X.A) (hb : Binds X.K fd ps []) (hx : Passes CX X E) :
    CallR X (.type "str") (fun xs H Q => ∃ a dx fs, xs = [.ref a] ∧ H a = some (.ins C dx fs) ∧ sp [.ref a] H (fun v H' => ∃ b, v = .str b ∧ Q (.str b) H') E) := by
  intro pins s σ H xs us Q I r h
  obtain ⟨a, dx, fs, rfl, ha, q⟩ := h
  obtain ⟨u, rfl, ru⟩ := vals1 r
  cases ru
  obtain ⟨mA, J, _⟩ := ins_get I.hok ha
  obtain ⟨od, J, _⟩ := J.look
  have hu := hr.units
  refine PySem.W.kso_call (by show X.A.units + 1 + 1 < cLine; omega) I.kIn J hs hf (wpAny_mono (run_in2 F hr hb hx I q) (fun u s' z => ?_) fun _ _ z => z)
  obtain ⟨v, H', I', rv, b, rfl, q'⟩ := z
  obtain ⟨t, rfl⟩ := rv
  exact ⟨.str b, H', I', ⟨t, rfl⟩, q'⟩
end
end L2

set_option maxHeartbeats 4000000
namespace L2
open PySem PySem.Spec PyProof.Rows
/-! ### static methods -/
theorem entry_sm : entryFor table "staticmethod.__get__" = some Builtin.«staticmethod.__get__» := entryFor_of_tree rfl
theorem args_sm (a b c : Value) : argsOk "staticmethod.__get__" { pos := [a, b, c] } := rfl
theorem slot_sm : Slot "staticmethod" (Str.ofString "__get__") "staticmethod.__get__" := by
  refine Slot.of (owner := "staticmethod") (n := "__get__") ?_ ?_ ?_ ?_ ?_ ?_
  · rw [typeLookup_type, builtinLookup_eq_fast]
    rfl
  · decide +kernel
  · decide +kernel
  · decide +kernel
  · left; decide +kernel
  · rw [isSubtype_type]
    rfl
theorem sm_get {prog : Program} {w : World} {A : Around} {s : Shared} {K : PySem.W.Frag} {p C : Addr} {R : Result → Shared → Prop} {f obj : Value} {rest : List Value} (h : K.In s.heap) (hr : PySem.W.recIn K p "staticmethod" = some (f :: rest)) (k : R (.ok (.ret f)) s) :
    codeAny (model prog w) A (.call (.builtin "staticmethod.__get__") { pos := [.ref p, obj, .ref C] }) R s := by
  obtain ⟨d, sl, e⟩ := PySem.W.rec_of h hr
  refine codeAny_call_builtin slot_sm.plain entry_sm (slot_sm.check _ _ _ _ _ _ _ _ ⟨_, e, rfl⟩ (args_sm _ _ _) ?_)
  show wpAny _ _ (Builtin.«staticmethod.__get__» { pos := [.ref p, obj, .ref C] }) _ _ s
  unfold Builtin.«staticmethod.__get__»
  rw [PySem.W.dga_cls]
  refine wpAny_bind (PySem.W.nd_pure ?_)
  refine wpAny_bind ?_
  unfold field
  refine wpAny_bind ?_
  unfold fieldsOf
  refine wpAny_bind (PySem.W.nd_load e ?_)
  refine PySem.W.nd_pure ?_
  refine wpAny_pure ?_
  have e0 : (f :: rest).toArray[0]? = some f := by simp
  rw [e0]
  refine wpAny_pure ?_
  unfold ret
  refine wpAny_pure ?_
  exact k
structure SMet (K : PySem.W.Frag) (C : Addr) (mc : Value) (m : Str) (p g : Addr) : Prop where
  at_ : PySem.W.findCls K (.ref C) mc m = some (.get (.builtin "staticmethod.__get__") (.ref p) .none (.ref C))
  rc : ∃ rest, PySem.W.recIn K p "staticmethod" = some (.ref g :: rest)
  hi : PySem.W.handedIn (.ref g) = true
theorem getsm_ok {X : Cx} {pins : List (Addr × Obj)} {σ : L2.St} {H : Hp} {s : Shared} {C p g : Addr} {mc : Value} {m : Str} {A : Around} {E : Value → Shared → Prop} {b : Bool} {Q : Value → Shared → Prop}
    (I : L2.Inv X pins σ H s) (r : ClX.CRead X.K C mc) (c : SMet X.K C mc m p g) (k : ∀ s', L2.Inv X pins σ H s' → Q (.ref g) s') : wpAny (model X.prog X.w) A (getAttr (.ref C) m b) Q E s := by
  obtain ⟨rest, hr⟩ := c.rc
  exact PySem.W.cls_bind I.kIn r.rd c.at_ (wpAny_call (sm_get I.kIn hr (PySem.W.handed_on c.hi (k _ (I.tok _)))))
theorem getmethsm_ok {X : Cx} {pins : List (Addr × Obj)} {σ : L2.St} {H : Hp} {s : Shared} {C p g : Addr} {mc : Value} {m : Str} {A : Around} {E : Value → Shared → Prop} {pl : Sem Bool} {Q : Value × List Value → Shared → Prop}
    (I : L2.Inv X pins σ H s) (r : ClX.CRead X.K C mc) (c : SMet X.K C mc m p g) (k : ∀ s', L2.Inv X pins σ H s' → Q (.ref g, []) s') : wpAny (model X.prog X.w) A (getMethod (.ref C) m pl) Q E s :=
  PySem.W.method_cls I.kIn r.ga (getsm_ok I r c k)
def tSMeth (C : Addr) (sp : Sp) (E : XK) (ta : TE) (t : TA) : TE := fun σ H Q => ta σ H fun x H1 => x = .ref C ∧ t σ H1 fun vs H2 => sp vs H2 Q E
theorem pe_smeth {X : Cx} {CX : CXT} {k : Nat} {C p g : Addr} {fd : FuncData} {ps : List Str} {mc : Value} {sp : Sp} {E : XK} {o e : PySem.Expr} {es : List PySem.Expr} {m : Str} {pos apos : Pos} {ta : TE} {t : TA} {pl : Sem Bool}
    (ho : PE X o ta) (r : ClX.CRead X.K C mc) (c : SMet X.K C mc m p g) (F : FnOk X.prog X.w X.K X.mg X.base CX k g fd ps sp) (hr : Room k X.A) (kp : PySem.W.keepIn X.K (.ref g) = true) (hb : Binds X.K fd ps []) (hx : Passes CX X E) (ha : PA X (e :: es) t)
    (hs : starEach (e :: es) X.env = (false, eval e X.env) :: starEach es X.env := by rfl) (hpl : ((backTo pos (starEach es X.env)).any fun x => x.fst) = false := by rfl)
    (he : eval ((o.Attribute m apos).Call (e :: es) [] pos) X.env = (do
      let ov ← eval o X.env
      standAt apos.atName
      let __x ← holding [ov] (getMethod ov m pl)
      match __x with
      | (f, first) => callWith pos f first (backTo pos (starEach (e :: es) X.env)) (backToKw pos (keywordEach [] X.env))) := by rfl) :
    PE X ((o.Attribute m apos).Call (e :: es) [] pos) (tSMeth C sp E ta t) := by
  refine ⟨fun pins s σ H Q I h => PySem.W.methodCall_KW (pl := pl) (thn (ho.run pins s σ H _ I h) fun v s1 q => ?_) he⟩
  obtain ⟨x, H1, I1, rx, rfl, q⟩ := q
  cases rx
  refine getmethsm_ok I1 r c fun s2 I2 => ?_
  refine PySem.W.callWith_K I2.ok.mod.kin kp (thn (ha.run pos pins s2 σ H1 _ I2 q) fun us s3 q3 => ?_) hs hpl
  obtain ⟨vs, H3, I3, rv, q3⟩ := q3
  exact ⟨I3.kIn, run_fn F hr hb .nil hx I3 rv (by simpa using q3)⟩
end L2

set_option maxHeartbeats 4000000
namespace L2
open PySem PySem.Spec PyProof.Rows
/-- a static method, called where an except suite reads the slots -/
def tSMethS (C : Addr) (sp : Sp) (E : St → XK) (ta : TE) (t : TA) : TE := fun σ H Q => ta σ H fun x H1 => x = .ref C ∧ t σ H1 fun vs H2 => sp vs H2 Q (E σ)
theorem pe_smethS {X : Cx} {CX : CXT} {k : Nat} {C p g : Addr} {fd : FuncData} {ps : List Str} {mc : Value} {sp : Sp} {E : St → XK} {o e : PySem.Expr} {es : List PySem.Expr} {m : Str} {pos apos : Pos} {ta : TE} {t : TA} {pl : Sem Bool}
    (ho : PE X o ta) (r : ClX.CRead X.K C mc) (c : SMet X.K C mc m p g) (F : FnOk X.prog X.w X.K X.mg X.base CX k g fd ps sp) (hr : Room k X.A) (kp : PySem.W.keepIn X.K (.ref g) = true) (hb : Binds X.K fd ps []) (hx : ∀ σ, PassesAt CX X σ (E σ)) (ha : PA X (e :: es) t)
    (hs : starEach (e :: es) X.env = (false, eval e X.env) :: starEach es X.env := by rfl) (hpl : ((backTo pos (starEach es X.env)).any fun x => x.fst) = false := by rfl)
    (he : eval ((o.Attribute m apos).Call (e :: es) [] pos) X.env = (do
      let ov ← eval o X.env
      standAt apos.atName
      let __x ← holding [ov] (getMethod ov m pl)
      match __x with
      | (f, first) => callWith pos f first (backTo pos (starEach (e :: es) X.env)) (backToKw pos (keywordEach [] X.env))) := by rfl) :
    PE X ((o.Attribute m apos).Call (e :: es) [] pos) (tSMethS C sp E ta t) := by
  refine ⟨fun pins s σ H Q I h => PySem.W.methodCall_KW (pl := pl) (thn (ho.run pins s σ H _ I h) fun v s1 q => ?_) he⟩
  obtain ⟨x, H1, I1, rx, rfl, q⟩ := q
  cases rx
  refine getmethsm_ok I1 r c fun s2 I2 => ?_
  refine PySem.W.callWith_K I2.ok.mod.kin kp (thn (ha.run pos pins s2 σ H1 _ I2 q) fun us s3 q3 => ?_) hs hpl
  obtain ⟨vs, H3, I3, rv, q3⟩ := q3
  exact ⟨I3.kIn, run_fnS F hr hb (hx σ) I3 rv q3⟩
end L2

set_option maxHeartbeats 2000000
/-! a written dict of ints -/
namespace L2
open PySem PySem.Spec PyProof.Rows
/-- the entries of {1: 1, 4: 2, 9: 3, 16: 4} -/
def esM (x1 x2 x3 x4 y1 y2 y3 y4 : Tok) : Array DictEntry := #[⟨1, .int 1 x1, .int 1 y1⟩, ⟨4, .int 4 x2, .int 2 y2⟩, ⟨9, .int 9 x3, .int 3 y3⟩, ⟨16, .int 16 x4, .int 4 y4⟩]
structure KMarks (K : PySem.W.Frag) (d : Addr) : Prop where
  at_ : ∃ x1 x2 x3 x4 y1 y2 y3 y4 n, K.lookup d = some ⟨.type "dict", none, .dict (esM x1 x2 x3 x4 y1 y2 y3 y4) n, #[]⟩
  low : (d == sysModules) = false
/-- 1, 4, 9, 16 by their roots -/
inductive Root : Int → Int → Prop where
  | r1 : Root 1 1
  | r2 : Root 4 2
  | r3 : Root 9 3
  | r4 : Root 16 4
theorem root_find {k v : Int} (r : Root k v) (x1 x2 x3 x4 y1 y2 y3 y4 : Tok) : ∃ t, findBy Value.isInt (esM x1 x2 x3 x4 y1 y2 y3 y4) k = some (.int v t) := by
  cases r
  · exact ⟨y1, rfl⟩
  · exact ⟨y2, rfl⟩
  · exact ⟨y3, rfl⟩
  · exact ⟨y4, rfl⟩
section
variable {X : Cx} {d : Addr}
theorem KMarks.map (D : KMarks X.K d) {pins : List (Addr × Obj)} {σ : St} {H : Hp} {s : Shared} (I : Inv X pins σ H s) : ∃ x1 x2 x3 x4 y1 y2 y3 y4, s.heap.MapOf (PySem.intKind X.prog X.w) d (fun k => findBy Value.isInt (esM x1 x2 x3 x4 y1 y2 y3 y4) k) := by
  obtain ⟨x1, x2, x3, x4, y1, y2, y3, y4, n, e⟩ := D.at_
  refine ⟨x1, x2, x3, x4, y1, y2, y3, y4, _, _, n, I.kIn _ _ e, ⟨rfl, rfl, rfl⟩, rfl, ?_, fun _ => rfl⟩
  intro en hen
  have hm : en ∈ (esM x1 x2 x3 x4 y1 y2 y3 y4).toList := Array.mem_toList_iff.mpr hen
  rcases List.mem_cons.mp hm with rfl | hm
  · exact ⟨1, by simp [PySem.intKind, Value.isInt], (by show (1 : Int) = hashInt 1; decide +kernel)⟩
  rcases List.mem_cons.mp hm with rfl | hm
  · exact ⟨4, by simp [PySem.intKind, Value.isInt], (by show (4 : Int) = hashInt 4; decide +kernel)⟩
  rcases List.mem_cons.mp hm with rfl | hm
  · exact ⟨9, by simp [PySem.intKind, Value.isInt], (by show (9 : Int) = hashInt 9; decide +kernel)⟩
  rcases List.mem_cons.mp hm with rfl | hm
  · exact ⟨16, by simp [PySem.intKind, Value.isInt], (by show (16 : Int) = hashInt 16; decide +kernel)⟩
  cases hm
theorem op_notIn_km (D : KMarks X.K d) : OpR X (compareOp .NotIn) (fun x y H Q => ∃ k v, x = .int k ∧ y = .ref d ∧ Root k v ∧ Q (.bl false) H) := by
  intro pins s σ H x y v u Q I rx ry h
  obtain ⟨k, r, rfl, rfl, hr, q⟩ := h
  obtain ⟨t, rfl⟩ := rx
  cases ry
  obtain ⟨x1, x2, x3, x4, y1, y2, y3, y4, hm⟩ := D.map I
  obtain ⟨tk, ef⟩ := root_find hr x1 x2 x3 x4 y1 y2 y3 y4
  refine wpAny_notIn_of (k := k) (by simp [PySem.intKind, Value.isInt]) D.low hm ?_
  rw [ef]
  exact ⟨.bl false, H, I.tok _, rfl, q⟩
theorem ix_km (D : KMarks X.K d) : IxR X (fun x y H Q => ∃ k v, x = .ref d ∧ y = .int k ∧ Root k v ∧ Q (.int v) H) := by
  intro value slice pins s σ H x y v u Q I rx ry h hs
  obtain ⟨k, r, rfl, rfl, hr, q⟩ := h
  obtain rfl : v = Value.ref d := rx
  obtain ⟨t, rfl⟩ := ry
  obtain ⟨x1, x2, x3, x4, y1, y2, y3, y4, hm⟩ := D.map I
  obtain ⟨tk, ef⟩ := root_find hr x1 x2 x3 x4 y1 y2 y3 y4
  exact tail_any hm.typeIs slot_dict_getitem.lookup (wpAny_getItem_of (k := k) (by simp [PySem.intKind, Value.isInt]) hm ef ⟨.int r, H, I.tok _, ⟨tk, rfl⟩, q⟩) hs
/-- the four keys -/
def isRt (k : Int) : Bool := decide (k = 1) || decide (k = 4) || decide (k = 9) || decide (k = 16)
theorem isRt_root {k : Int} (h : isRt k = true) : ∃ v, Root k v := by
  unfold isRt at h
  simp only [Bool.or_eq_true, decide_eq_true_eq] at h
  rcases h with ((rfl | rfl) | rfl) | rfl
  · exact ⟨_, .r1⟩
  · exact ⟨_, .r2⟩
  · exact ⟨_, .r3⟩
  · exact ⟨_, .r4⟩
theorem root_not {k : Int} (h : isRt k = false) (x1 x2 x3 x4 y1 y2 y3 y4 : Tok) : findBy Value.isInt (esM x1 x2 x3 x4 y1 y2 y3 y4) k = none := by
  unfold isRt at h
  simp only [Bool.or_eq_false_iff, decide_eq_false_iff_not] at h
  obtain ⟨⟨⟨h1, h4⟩, h9⟩, h16⟩ := h
  unfold findBy
  rw [Option.map_eq_none_iff, Array.find?_eq_none]
  intro e he
  have hm : e ∈ (esM x1 x2 x3 x4 y1 y2 y3 y4).toList := Array.mem_toList_iff.mpr he
  rcases List.mem_cons.mp hm with rfl | hm
  · simp [Value.isInt, Ne.symm h1]
  rcases List.mem_cons.mp hm with rfl | hm
  · simp [Value.isInt, Ne.symm h4]
  rcases List.mem_cons.mp hm with rfl | hm
  · simp [Value.isInt, Ne.symm h9]
  rcases List.mem_cons.mp hm with rfl | hm
  · simp [Value.isInt, Ne.symm h16]
  cases hm
theorem op_notIn_kx (D : KMarks X.K d) : OpR X (compareOp .NotIn) (fun x y H Q => ∃ k, x = .int k ∧ y = .ref d ∧ Q (.bl (!isRt k)) H) := by
  intro pins s σ H x y v u Q I rx ry h
  obtain ⟨k, rfl, rfl, q⟩ := h
  obtain ⟨t, rfl⟩ := rx
  cases ry
  obtain ⟨x1, x2, x3, x4, y1, y2, y3, y4, hm⟩ := D.map I
  cases e : isRt k with
  | true =>
    obtain ⟨r, hr⟩ := isRt_root e
    obtain ⟨tk, ef⟩ := root_find hr x1 x2 x3 x4 y1 y2 y3 y4
    refine wpAny_notIn_of (k := k) (by simp [PySem.intKind, Value.isInt]) D.low hm ?_
    rw [ef]
    rw [e] at q
    exact ⟨.bl false, H, I.tok _, rfl, q⟩
  | false =>
    refine wpAny_notIn_of (k := k) (by simp [PySem.intKind, Value.isInt]) D.low hm ?_
    rw [root_not e]
    rw [e] at q
    exact ⟨.bl true, H, I.tok _, rfl, q⟩
end
/-! len(x) by the own method -/
section
variable {X : Cx} {CX : CXT} {k : Nat} {C f : Addr} {fd : FuncData} {ps : List Str} {sp : Sp} {E : XK}
theorem call_lenOwn (hs : PySem.W.findIn X.K (.ref C) "__len__" = some (some (.ref f))) (hf : PySem.W.isFn X.K (.ref f) = true) (F : FnOk X.prog X.w X.K X.mg X.base CX k f fd ps sp) (hr : Room (k + 1) X.A) (hb : Binds X.K fd ps []) (hx : Passes CX X E) :
    CallR X (.builtin "len") (fun xs H Q => ∃ a dx fs, xs = [.ref a] ∧ H a = some (.ins C dx fs) ∧ sp [.ref a] H (fun v H' => ∃ n : Nat, v = .int n ∧ n ≤ 1000 ∧ Q (.int n) H') E) := by
  intro pins s σ H xs us Q I r h
  obtain ⟨a, dx, fs, rfl, ha, q⟩ := h
  obtain ⟨u, rfl, ru⟩ := vals1 r
  cases ru
  obtain ⟨mA, J, _⟩ := ins_get I.hok ha
  obtain ⟨od, J, _⟩ := J.look
  obtain ⟨m, hF⟩ := I.fr
  refine PySem.W.len_K hF I.ok.mod.kin J hs hf ?_
  have hl := F.len _ _ _ _ q
  have r2 : Vals [V.ref a] [Value.ref a] := .cons rfl .nil
  refine wpAny_call (codeAny_mono (F.run X.A.in1 X.stack s H ⟨[.ref a], []⟩ [.ref a] [.ref a] _ E hr.in1 I.env0.in1 (by
    have := hb s [.ref a] I.kIn (by simpa using hl)
    simpa using this) r2 q) fun r s' hq => ?_)
  cases r with
  | error e => exact hx pins σ H s e s' I hq
  | ok fl =>
    cases fl with
    | ret w =>
      obtain ⟨v, H', I', rv, n, rfl, hn, q'⟩ := I.after hq
      obtain ⟨t, rfl⟩ := rv
      exact ⟨⟨by omega, by omega⟩, .int n, H', I'.tok _, ⟨_, rfl⟩, q'⟩
    | next => exact False.elim hq
    | brk => exact False.elim hq
    | cont => exact False.elim hq
end
end L2

set_option maxHeartbeats 4000000
namespace PA
open PySem L2 RZ
open C8 (pss_cut tCut)
def top (i : Nat) : Stmt := PySem.Challenge.pw_pairahead_k25_broken_claims.main.body.getD i (.Pass ⟨0, 0, 0, 0⟩)
abbrev sIsInt : Stmt := top 8
abbrev sBelow : Stmt := top 9
abbrev sInit : Stmt := inClass (top 52) 0
abbrev sReadSt : Stmt := top 11
abbrev sReadRow : Stmt := top 58
abbrev sRead : Stmt := inClass (top 52) 1
abbrev sDraw : Stmt := top 64
abbrev sStart : Stmt := top 65
abbrev sPick : Stmt := top 66
abbrev sSame : Stmt := top 67
abbrev sTable : Stmt := top 70
abbrev sLaw : Stmt := top 77
abbrev sCheck : Stmt := top 55
abbrev sIsRow : Stmt := top 56
/-! ### cells: what stands in a table, right or wrong -/
inductive Cell (H : Hp) : V → Prop
  | int (i : Int) : Cell H (.int i)
  | bl (b : Bool) : Cell H (.bl b)
  | non : Cell H .non
  | str (s : Str) : Cell H (.str s)
  | tup {a : Addr} {xs : List V} (h : H a = some (.tup xs)) : Cell H (.ref a)
  | lst {a : Addr} {xs : List V} (h : H a = some (.lst xs)) : Cell H (.ref a)
/-- tuples stay, lists stay lists -/
def Kin (H H' : Hp) : Prop := ∀ c, (∀ xs, H c = some (.tup xs) → H' c = some (.tup xs)) ∧ ∀ xs, H c = some (.lst xs) → ∃ ys, H' c = some (.lst ys)
theorem Kin.refl (H : Hp) : Kin H H := fun c => ⟨fun _ h => h, fun xs h => ⟨xs, h⟩⟩
theorem Kin.trans {H H1 H2 : Hp} (h : Kin H H1) (h' : Kin H1 H2) : Kin H H2 := fun c => ⟨fun xs e => (h' c).1 xs ((h c).1 xs e), fun xs e => by
  obtain ⟨ys, q⟩ := (h c).2 xs e
  exact (h' c).2 ys q⟩
theorem Kin.same {H H' : Hp} (s : Same H H') : Kin H H' := fun c => ⟨fun xs e => s _ _ e, fun xs e => ⟨xs, s _ _ e⟩⟩
theorem Kin.lst {H : Hp} {p : Addr} {xs ys : List V} (h : H p = some (.lst xs)) : Kin H (upd H p (.lst ys)) := fun c => by
  by_cases e : c = p
  · subst e
    exact ⟨fun zs q => (by rw [h] at q; cases q), fun zs q => ⟨ys, upd_same⟩⟩
  · rw [upd_ne e]
    exact ⟨fun zs q => q, fun zs q => ⟨zs, q⟩⟩
theorem Kin.ins {H H' : Hp} {p C dx : Addr} {fs : List (Str × V)} (hp : H p = some (.ins C dx fs)) (kp : ∀ c o, H c = some o → c ≠ p → H' c = some o) : Kin H H' := fun c => by
  refine ⟨fun xs e => kp _ _ e ?_, fun xs e => ⟨xs, kp _ _ e ?_⟩⟩
  · rintro rfl; rw [hp] at e; cases e
  · rintro rfl; rw [hp] at e; cases e
theorem Cell.kin {H H' : Hp} {v : V} (c : Cell H v) (k : Kin H H') : Cell H' v := by
  cases c with
  | int i => exact .int i
  | bl b => exact .bl b
  | non => exact .non
  | str s => exact .str s
  | tup h => exact .tup ((k _).1 _ h)
  | lst h => obtain ⟨ys, q⟩ := (k _).2 _ h; exact .lst q
def isI : V → Bool
  | .int _ => true
  | _ => false
def isB : V → Bool
  | .bl _ => true
  | _ => false
def below (n : Nat) : V → Bool
  | .int i => decide (0 ≤ i) && decide (i < (n : Int))
  | _ => false
def rowOk (n : Nat) : List V → Bool
  | [a, f, b, g] => below n a && below n b && (isB f && isB g)
  | _ => false
def tabOk (rows : List (List V)) (starts : List V) : Bool :=
  (decide (1 ≤ rows.length) && decide (rows.length ≤ 48)) && rows.all (rowOk rows.length) && isRt (starts.length : Int) && starts.all (below rows.length)
theorem Cell.ty {K : PySem.W.Frag} {H : Hp} {v : V} (c : Cell H v) : ∃ t, TyX K H v (.type t) ∧ PySem.W.kitOne K (.type t) (.type "int") = some (isI v || isB v) ∧ PySem.W.kitOne K (.type t) (.type "bool") = some (isB v) := by
  cases c with
  | int i => exact ⟨"int", .base (.int i), kit_ty (b := "int") (r := true) (by decide +kernel), kit_ty (b := "bool") (r := false) (by decide +kernel)⟩
  | bl b => exact ⟨"bool", .base (.bl b), kit_ty (b := "int") (r := true) (by decide +kernel), kit_ty (b := "bool") (r := true) (by decide +kernel)⟩
  | non => exact ⟨"NoneType", .base .non, kit_ty (b := "int") (r := false) (by decide +kernel), kit_ty (b := "bool") (r := false) (by decide +kernel)⟩
  | str s => exact ⟨"str", .base (.str s), kit_ty (b := "int") (r := false) (by decide +kernel), kit_ty (b := "bool") (r := false) (by decide +kernel)⟩
  | tup h => exact ⟨"tuple", .base (.tup h), kit_ty (b := "int") (r := false) (by decide +kernel), kit_ty (b := "bool") (r := false) (by decide +kernel)⟩
  | lst h => exact ⟨"list", .base (.lst h), kit_ty (b := "int") (r := false) (by decide +kernel), kit_ty (b := "bool") (r := false) (by decide +kernel)⟩
/-! ### data -/
abbrev Rw := Int × Bool × Int × Bool
def rv (r : Rw) : List V := [.int r.1, .bl r.2.1, .int r.2.2.1, .bl r.2.2.2]
def RwOk (n : Nat) (r : Rw) : Prop := (0 ≤ r.1 ∧ r.1 < n) ∧ 0 ≤ r.2.2.1 ∧ r.2.2.1 < n
/-- what stands at each place of a list of references -/
def Each (H : Hp) (P : Hp → Addr → Rw → Prop) (xs : List V) (rows : List Rw) : Prop := xs.length = rows.length ∧ ∀ (i : Nat) (x : V) (r : Rw), xs[i]? = some x → rows[i]? = some r → ∃ c, x = .ref c ∧ P H c r
def isT (H : Hp) (c : Addr) (r : Rw) : Prop := H c = some (.tup (rv r))
def isLT (H : Hp) (c : Addr) (r : Rw) : Prop := H c = some (.tup (rv r)) ∨ H c = some (.lst (rv r))
theorem Each.imp {H H' : Hp} {P P' : Hp → Addr → Rw → Prop} {xs : List V} {rows : List Rw} (e : Each H P xs rows) (f : ∀ c r, P H c r → P' H' c r) : Each H' P' xs rows := ⟨e.1, fun i x r h1 h2 => let ⟨c, hx, q⟩ := e.2 i x r h1 h2; ⟨c, hx, f c r q⟩⟩
theorem Each.sameT {H H' : Hp} {xs : List V} {rows : List Rw} (e : Each H isT xs rows) (s : Same H H') : Each H' isT xs rows := e.imp fun c r q => s _ _ q
theorem Each.sameLT {H H' : Hp} {xs : List V} {rows : List Rw} (e : Each H isLT xs rows) (s : Same H H') : Each H' isLT xs rows := e.imp fun c r q => q.elim (fun q => .inl (s _ _ q)) fun q => .inr (s _ _ q)
theorem Each.nil {H : Hp} {P : Hp → Addr → Rw → Prop} : Each H P [] [] := ⟨rfl, fun i x r h _ => by simp at h⟩
theorem Each.push {H : Hp} {P : Hp → Addr → Rw → Prop} {xs : List V} {rows : List Rw} {c : Addr} {r : Rw} (e : Each H P xs rows) (q : P H c r) : Each H P (xs ++ [.ref c]) (rows ++ [r]) := by
  refine ⟨by rw [List.length_append, List.length_append, e.1]; rfl, fun i x r' h1 h2 => ?_⟩
  rcases Nat.lt_or_ge i xs.length with hi | hi
  · rw [List.getElem?_append_left hi] at h1
    rw [List.getElem?_append_left (by rw [← e.1]; exact hi)] at h2
    exact e.2 i x r' h1 h2
  · rw [List.getElem?_append_right hi] at h1
    rw [List.getElem?_append_right (by rw [← e.1]; exact hi), ← e.1] at h2
    cases hk : i - xs.length with
    | zero =>
      rw [hk] at h1 h2
      have h1' : V.ref c = x := by simpa using h1
      have h2' : r = r' := by simpa using h2
      exact ⟨c, h1'.symm, h2' ▸ q⟩
    | succ k =>
      rw [hk] at h1
      simp at h1
/-- a list is changed: tuples stay -/
theorem isT.lst {H : Hp} {c D : Addr} {r : Rw} {xs ys : List V} (q : isT H c r) (hD : H D = some (.lst xs)) : isT (upd H D (.lst ys)) c r := by
  unfold isT
  rw [upd_ne (ne_of (H := H) q hD (by intro z; cases z))]
  exact q
def rf (R S : Addr) (k : Int) : List (Str × V) := putF "marks" (.int k) (putF "starts" (.ref S) (putF "rows" (.ref R) []))
theorem rs_ : ¬ (("rows" : Str) = "starts") := by decide +kernel
theorem rm_ : ¬ (("rows" : Str) = "marks") := by decide +kernel
theorem sm_ : ¬ (("starts" : Str) = "marks") := by decide +kernel
theorem rf_rows (R S : Addr) (k : Int) : (rf R S k).lookup ("rows" : Str) = some (.ref R) := by
  unfold rf
  rw [lookup_putF, if_neg rm_, lookup_putF, if_neg rs_, lookup_putF, if_pos rfl]
theorem rf_starts (R S : Addr) (k : Int) : (rf R S k).lookup ("starts" : Str) = some (.ref S) := by
  unfold rf
  rw [lookup_putF, if_neg sm_, lookup_putF, if_pos rfl]
theorem rf_marks (R S : Addr) (k : Int) : (rf R S k).lookup ("marks" : Str) = some (.int k) := by
  unfold rf
  rw [lookup_putF, if_pos rfl]
theorem rf_no (R S : Addr) (k : Int) {m : Str} (h1 : ¬ m = "marks") (h2 : ¬ m = "starts") (h3 : ¬ m = "rows") : (rf R S k).lookup m = none := by
  unfold rf
  rw [lookup_putF, if_neg h1, lookup_putF, if_neg h2, lookup_putF, if_neg h3]
  all_goals rfl
/-- a Rule stands at p -/
def RuleAt (K : PySem.W.Frag) (C : Addr) (H : Hp) (p : Addr) (rows : List Rw) (starts : List Int) (k : Int) : Prop := ∃ dx R S refs, H p = some (.ins C dx (rf R S k)) ∧ H R = some (.tup refs) ∧ Each H isT refs rows ∧ SqT K H S (starts.map V.int)
theorem SqT.up {K : PySem.W.Frag} {H H' : Hp} {a : Addr} {xs : List V} (h : SqT K H a xs) (e : Same H H') : SqT K H' a xs :=
  h.elim (fun h => .inl (h.elim (fun h => .inl (e _ _ h)) fun ⟨o, h⟩ => .inr ⟨o, e _ _ h⟩)) fun h => .inr h
theorem RuleAt.same {K : PySem.W.Frag} {C : Addr} {H H' : Hp} {p : Addr} {rows : List Rw} {starts : List Int} {k : Int} (r : RuleAt K C H p rows starts k) (s : Same H H') : RuleAt K C H' p rows starts k := by
  obtain ⟨dx, R, S, refs, h1, h2, h3, h4⟩ := r
  exact ⟨dx, R, S, refs, s _ _ h1, s _ _ h2, h3.sameT s, SqT.up h4 s⟩
theorem Same.new {H : Hp} {p : Addr} {o : HO} (hp : H p = none) : Same H (upd H p o) := new_ hp
structure Txt (K : PySem.W.Frag) (mg : Str → Option Value) (C : Addr) : Prop where
  cl : Cls K C
  nR : NoAttr K C "rows"
  nS : NoAttr K C "starts"
  nM : NoAttr K C "marks"
  mgC : mg "Rule" = some (.ref C)
  isi : mg "isinstance" = none
  int_ : mg "int" = none
  bool_ : mg "bool" = none
  list_ : mg "list" = none
  tup_ : mg "tuple" = none
  len_ : mg "len" = none
  all_ : mg "all" = none
  zip_ : mg "zip" = none
  range_ : mg "range" = none
  most : ∃ t, mg "MOST_ROWS" = some (.int 48 t)
  marks : ∃ d, mg "MARKS_OF_STARTS" = some (.ref d) ∧ KMarks K d
/-- an error class X, caught as P -/
structure TxtX (K : PySem.W.Frag) (mg : Str → Option Value) (X P : Addr) : Prop where
  x : PySem.W.excIn K X [.type "ValueError", .type "Exception", .type "BaseException", .type "object"] "ValueError.__new__" = true
  g : mg "InvalidRule" = some (.ref X)
  k : PySem.W.keepIn K (.ref X) = true
  b : PySem.W.subIn K (.ref X) (.type "BaseException") = some true
  t : PySem.W.typeIn K (.ref X) = some (.type "type")
  gP : mg "PairError" = some (.ref P)
  e : PySem.W.exmOne K (.ref X) (.ref P) = some true
  ex : PySem.W.exmOne K (.ref X) (.ref X) = some true
theorem ifN_yes {p A B : Prop} [Decidable p] (h : ¬ p) (q : A) : if (!decide p) = true then A else B := by
  rw [decide_eq_false h]
  exact iteT q
theorem ifN_2 {p A B : Prop} [Decidable p] (h1 : ¬ p → A) (h2 : p → B) : if (!decide p) = true then A else B := by
  by_cases h : p
  · rw [decide_eq_true h]
    exact iteF (h2 h)
  · exact ifN_yes h (h1 h)
structure DfA (K : PySem.W.Frag) (mg : Str → Option Value) (y x : Str) (st : Stmt) (f : Addr) (fd : FuncData) (ps : List Str) : Prop where
  F : Fun K x x st f fd
  B : Binds K fd ps []
  M : mg y = some (.ref f)
/-! ### promises -/
def spIsInt : Sp := fun vs H Q _ => ∃ v, vs = [v] ∧ Cell H v ∧ Q (.bl (isI v)) H
def spBelow : Sp := fun vs H Q _ => ∃ (v : V) (n : Nat), vs = [v, .int (n : Int)] ∧ Cell H v ∧ Q (.bl (below n v)) H
def spIsRow : Sp := fun vs H Q _ => ∃ (p : Addr) (xs : List V) (n : Nat), vs = [.ref p, .int (n : Int)] ∧ H p = some (.tup xs) ∧ (∀ x ∈ xs, Cell H x) ∧ Q (.bl (rowOk n xs)) H
section
variable {P : Program} {w : World} {K : PySem.W.Frag} {mg : Str → Option Value} {base : Heap} {C : Addr}
theorem scIsInt : FnScope ["value"] ["value"] (defScope sIsInt) := ⟨rfl, rfl, rfl, by decide +kernel, rfl, by decide +kernel, by decide +kernel⟩
theorem ok_isInt {f : Addr} {fd : FuncData} (F : Fun K "is_integer" "is_integer" sIsInt f fd) (T : Txt K mg C) : FnOk P w K mg base CX0 1 f fd ["value"] spIsInt := by
  refine F.ok scIsInt (fun vs H Q E h => ?_) (fun cdv A outer s H vs Q E hr h => ?_)
  · obtain ⟨i, rfl, _⟩ := h
    rfl
  · obtain ⟨v, rfl, hc, k⟩ := h
    refine ⟨_, pss_one (ps_ret (pe_and (pe_callB call_isi (by rfl) T.isi boot_isi (pa_cons (pv 0) (pa_cons (pe_bltn (v := .ty "int") (by rfl) T.int_ boot_int' rfl) pa_nil)))
      (pe_one (pe_not (pe_callB call_isi (by rfl) T.isi boot_isi (pa_cons (pv 0) (pa_cons (pe_bltn (v := .ty "bool") (by rfl) T.bool_ boot_bool' rfl) pa_nil))))))), ?_⟩
    obtain ⟨t, ht, k1, k2⟩ := hc.ty (K := K)
    refine ⟨_, rfl, _, _, _, _, _, rfl, .ty _, ht, k1, _, rfl, ?_⟩
    cases v with
    | int i => exact iteT ⟨_, rfl, _, _, _, _, _, rfl, .ty _, ht, k2, _, rfl, k⟩
    | bl b => exact iteT ⟨_, rfl, _, _, _, _, _, rfl, .ty _, ht, k2, _, rfl, k⟩
    | _ => exact iteF k
theorem scBelow : FnScope ["value", "count"] ["value", "count"] (defScope sBelow) := ⟨rfl, rfl, rfl, by decide +kernel, rfl, by decide +kernel, by decide +kernel⟩
theorem ok_below {f g : Addr} {fd gd : FuncData} (F : Fun K "is_below" "is_below" sBelow f fd) (T : Txt K mg C) (D : Df K mg "is_integer" sIsInt g gd ["value"]) : FnOk P w K mg base CX0 2 f fd ["value", "count"] spBelow := by
  have G : FnOk P w K mg base CX0 1 g gd ["value"] spIsInt := ok_isInt D.F T
  refine F.ok scBelow (fun vs H Q E h => ?_) (fun cdv A outer s H vs Q E hr h => ?_)
  · obtain ⟨v, c, rfl, _⟩ := h
    rfl
  · obtain ⟨v, n, rfl, hc, k⟩ := h
    refine ⟨_, pss_one (ps_ret (pe_and (pe_call G hr rfl D.M D.F.kp D.B .nil pass0 (pa_cons (pv 0) pa_nil)) (pe_one (pe_chain op_le op_lt pe_int (pv 0) (pv 1))))), ?_⟩
    refine ⟨_, rfl, v, rfl, hc, _, rfl, ?_⟩
    cases v with
    | int i =>
      refine iteT ⟨_, rfl, _, _, rfl, rfl, _, rfl, ifD_2 (fun h0 => ⟨_, rfl, _, _, rfl, rfl, ?_⟩) fun h0 => ?_⟩
      · show Q (V.bl (decide (i < (n : Int)))) H
        have e : below n (.int i) = decide (i < (n : Int)) := by show (decide (0 ≤ i) && decide (i < (n : Int))) = _; rw [decide_eq_true h0, Bool.true_and]
        rw [← e]
        exact k
      · have e : below n (.int i) = false := by show (decide (0 ≤ i) && decide (i < (n : Int))) = _; rw [decide_eq_false h0, Bool.false_and]
        rw [e] at k
        exact k
    | _ => exact iteF k
theorem scIsRow : FnScope ["row", "count", "next_ahead", "falls", "next_behind", "goes"] ["row", "count"] (defScope sIsRow) := ⟨rfl, rfl, rfl, by decide +kernel, rfl, by decide +kernel, by decide +kernel⟩
theorem ok_isRow {f g1 g2 : Addr} {fd gd1 gd2 : FuncData} (F : Fun K "_is_row" "_is_row" sIsRow f fd) (T : Txt K mg C) (D1 : Df K mg "is_integer" sIsInt g1 gd1 ["value"]) (D2 : Df K mg "is_below" sBelow g2 gd2 ["value", "count"]) : FnOk P w K mg base CX0 3 f fd ["row", "count"] spIsRow := by
  have G : FnOk P w K mg base CX0 2 g2 gd2 ["value", "count"] spBelow := ok_below D2.F T D1
  refine F.ok scIsRow (fun vs H Q E h => ?_) (fun cdv A outer s H vs Q E hr h => ?_)
  · obtain ⟨p, r, n, rfl, _⟩ := h
    rfl
  · obtain ⟨p, xs, n, rfl, hp, hc, k⟩ := h
    refine ⟨_, pss_cons (ps_if (pt_cmpR op_ne (pe_callB call_len_seq (by rfl) T.len_ PySem.boot_len (pa_cons (pv 0) pa_nil)) pe_int (nomark _)) (pss_one (ps_ret pe_bl)) pss_nil)
      (pss_cons (ps_asg (pv 0) (pg_tup rfl (pgs_cons (pg_name (i := 2) scIsRow.nd rfl (Or.inl rfl)) (pgs_cons (pg_name (i := 3) scIsRow.nd rfl (Or.inl rfl)) (pgs_cons (pg_name (i := 4) scIsRow.nd rfl (Or.inl rfl)) (pgs_cons (pg_name (i := 5) scIsRow.nd rfl (Or.inl rfl)) pgs_nil))))))
      (pss_cons (ps_if (PW.pt (pw_or (pt_not (pt_val (pe_call G hr rfl D2.M D2.F.kp D2.B .nil pass0 (pa_cons (pv 2) (pa_cons (pv 1) pa_nil))))) (pw_or1 (pt_not (pt_val (pe_call G hr rfl D2.M D2.F.kp D2.B .nil pass0 (pa_cons (pv 4) (pa_cons (pv 1) pa_nil)))))))) (pss_one (ps_ret pe_bl)) pss_nil)
      (pss_one (ps_ret (pe_and (pe_callB call_isi (by rfl) T.isi boot_isi (pa_cons (pv 3) (pa_cons (pe_bltn (v := .ty "bool") (by rfl) T.bool_ boot_bool' rfl) pa_nil))) (pe_one (pe_callB call_isi (by rfl) T.isi boot_isi (pa_cons (pv 5) (pa_cons (pe_bltn (v := .ty "bool") (by rfl) T.bool_ boot_bool' rfl) pa_nil))))))))), ?_⟩
    refine ⟨_, rfl, p, _, rfl, .inr (SqT.of hp), rfl, _, rfl, ?_⟩
    by_cases h4 : xs.length = 4
    · obtain ⟨a, fl, b, go, rfl⟩ : ∃ a fl b go, xs = [a, fl, b, go] := by
        match xs, h4 with
        | [a, fl, b, go], _ => exact ⟨a, fl, b, go, rfl⟩
      have ca := hc a (by simp)
      have cb := hc b (by simp)
      have cf := hc fl (by simp)
      have cg := hc go (by simp)
      refine iteNS rfl ?_
      refine ⟨_, rfl, p, _, rfl, SqT.of hp, rfl, _, _, rfl, _, _, rfl, _, _, rfl, _, _, rfl, rfl, ?_⟩
      refine ⟨_, rfl, _, rfl, a, _, rfl, ca, _, rfl, ?_⟩
      have hk : Q (V.bl ((below n a && below n b) && (isB fl && isB go))) H := k
      cases ea : below n a with
      | false =>
        rw [ea] at hk
        exact iteT hk
      | true =>
        refine iteF ⟨_, rfl, _, rfl, b, _, rfl, cb, _, rfl, ?_⟩
        cases eb : below n b with
        | false =>
          rw [ea, eb] at hk
          exact iteT hk
        | true =>
          refine iteF ?_
          rw [ea, eb] at hk
          obtain ⟨t, ht, _, k2⟩ := cf.ty (K := K)
          obtain ⟨t', ht', _, k2'⟩ := cg.ty (K := K)
          refine ⟨_, rfl, _, _, _, _, _, rfl, .ty _, ht, k2, _, rfl, ?_⟩
          cases ef : isB fl with
          | false =>
            rw [ef] at hk
            exact iteF hk
          | true =>
            rw [ef] at hk
            exact iteT ⟨_, rfl, _, _, _, _, _, rfl, .ty _, ht', k2', hk⟩
    · refine ifN_yes (by intro z; injection z with z; exact h4 (by omega)) ?_
      have e : rowOk n xs = false := by
        unfold rowOk
        split
        · exact absurd rfl h4
        · rfl
      rw [e] at k
      exact k
end
end PA

set_option maxHeartbeats 4000000
namespace PA
open PySem L2 RZ
open C8 (pss_cut tCut)
abbrev isC : Hp → Addr → List V → Prop := TupOf id
def spCheck (K : PySem.W.Frag) (X : Addr) : Sp := fun vs H Q E => ∃ (R S : Addr) (refs : List V) (rows : List (List V)) (starts : List V), vs = [.ref R, .ref S] ∧ H R = some (.tup refs) ∧ Ea H isC refs rows ∧ SqT K H S starts ∧
  rows.length ≤ 9000 ∧ starts.length ≤ 9000 ∧ (∀ r ∈ rows, ∀ x ∈ r, Cell H x) ∧ (∀ x ∈ starts, Cell H x) ∧
  (tabOk rows starts = true → ∀ H', Same H H' → Q .non H') ∧ (tabOk rows starts = false → ∀ H', Same H H' → E (.ref X) none H')
section
variable {P : Program} {w : World} {K : PySem.W.Frag} {mg : Str → Option Value} {base : Heap} {C X PE_ : Addr}
theorem scCheck : FnScope ["rows", "starts", "row", "state"] ["rows", "starts"] (defScope sCheck) := ⟨rfl, rfl, rfl, by decide +kernel, rfl, by decide +kernel, by decide +kernel⟩
theorem ok_check {f g1 g2 g3 : Addr} {fd gd1 gd2 gd3 : FuncData} (F : Fun K "_check_table" "_check_table" sCheck f fd) (T : Txt K mg C) (TX : TxtX K mg X PE_) (D1 : Df K mg "is_integer" sIsInt g1 gd1 ["value"]) (D2 : Df K mg "is_below" sBelow g2 gd2 ["value", "count"]) (D3 : DfA K mg "is_row_rules" "_is_row" sIsRow g3 gd3 ["row", "count"]) : FnOk P w K mg base (L2.CX P w) 4 f fd ["rows", "starts"] (spCheck K X) := by
  have G2 : FnOk P w K mg base CX0 3 g2 gd2 ["value", "count"] spBelow := (ok_below D2.F T D1).mono (by decide)
  have G3 : FnOk P w K mg base CX0 3 g3 gd3 ["row", "count"] spIsRow := ok_isRow D3.F T D1 D2
  obtain ⟨tm, hmost⟩ := T.most
  obtain ⟨dm, hdm, km⟩ := T.marks
  refine F.okX scCheck (fun vs H Q E h => ?_) (fun cdv A outer s H vs Q E hr h => ?_)
  · obtain ⟨R, S, _, _, _, rfl, _⟩ := h
    rfl
  · obtain ⟨R, S, refs, rows, starts, rfl, hR, hE, hS, h60, s60, hcr, hcs, kg, kb⟩ := h
    refine ⟨_, pss_cons (ps_if (pt_not (pt_chain op_le op_le pe_int (pe_callB call_len_seq (by rfl) T.len_ PySem.boot_len (pa_cons (pv 0) pa_nil)) (pe_glob (v := .int 48) rfl hmost ⟨_, rfl⟩)))
        (pss_one (ps_raise rfl (takes_of rfl rfl rfl rfl) (pmk_own PySem.F.excBase_ValueError TX.x TX.g TX.k (raises_own TX.b TX.t) (by rfl)))) pss_nil)
      (pss_cons (ps_if (pt_not (pt_val (pe_callB (cr_all rfl) (by rfl) T.all_ boot_all' (pa_cons (pe_lc (own := [("row", 2)]) (g := gName 2) (tt := tYes) (by rfl) scCheck.nd (pi_tup (pv 0)) (blkOk_by (N := ["rows", "starts", "row", "state"]) (sc := defScope sCheck) (by decide +kernel))
          (fun _ _ _ _ _ => pg_name (i := 2) scCheck.nd rfl (Or.inl rfl)) (fun _ _ _ _ _ => pts_nil)
          (fun _ _ _ _ _ => pe_call G3 hr rfl D3.M D3.F.kp D3.B .nil pass0 (pa_cons (pv 2) (pa_cons (pe_callB (call_lenK (K := K) rfl) (by rfl) T.len_ PySem.boot_len (pa_cons (pv 0) pa_nil)) pa_nil)))) pa_nil))))
        (pss_one (ps_raise rfl (takes_of rfl rfl rfl rfl) (pmk_own PySem.F.excBase_ValueError TX.x TX.g TX.k (raises_own TX.b TX.t) (by rfl)))) pss_nil)
      (pss_cons (ps_if (pt_cmpR (op_notIn_kx km) (pe_callB call_len_seq (by rfl) T.len_ PySem.boot_len (pa_cons (pv 1) pa_nil)) (pe_glob (v := .ref dm) rfl hdm rfl) rfl)
        (pss_one (ps_raise rfl (takes_of rfl rfl rfl rfl) (pmk_own PySem.F.excBase_ValueError TX.x TX.g TX.k (raises_own TX.b TX.t) (by rfl)))) pss_nil)
      (pss_one (ps_if (pt_not (pt_val (pe_callB (cr_all rfl) (by rfl) T.all_ boot_all' (pa_cons (pe_lc (own := [("state", 3)]) (g := gName 3) (tt := tYes) (by rfl) scCheck.nd (pi_tup (pv 1)) (blkOk_by (N := ["rows", "starts", "row", "state"]) (sc := defScope sCheck) (by decide +kernel))
          (fun _ _ _ _ _ => pg_name (i := 3) scCheck.nd rfl (Or.inl rfl)) (fun _ _ _ _ _ => pts_nil)
          (fun _ _ _ _ _ => pe_call G2 hr rfl D2.M D2.F.kp D2.B .nil pass0 (pa_cons (pv 3) (pa_cons (pe_callB (call_lenK (K := K) rfl) (by rfl) T.len_ PySem.boot_len (pa_cons (pv 0) pa_nil)) pa_nil)))) pa_nil))))
        (pss_one (ps_raise rfl (takes_of rfl rfl rfl rfl) (pmk_own PySem.F.excBase_ValueError TX.x TX.g TX.k (raises_own TX.b TX.t) (by rfl)))) pss_nil)))), ?_⟩
    have hlr : refs.length = rows.length := hE.1
    refine ⟨_, rfl, ?_⟩
    refine ⟨R, _, rfl, .inr (SqT.of hR), _, _, rfl, rfl, _, rfl, ?_⟩
    rw [hlr]
    by_cases h1 : 1 ≤ rows.length
    rotate_left
    · refine ifD_no (by omega) ?_
      have e1 : tabOk rows starts = false := by
        unfold tabOk
        rw [decide_eq_false h1]
        simp
      exact ⟨false, rfl, iteT (kb e1 H fun _ _ e => e)⟩
    refine ifD_yes (by omega) ⟨_, _, rfl, rfl, _, rfl, ?_⟩
    by_cases h48 : rows.length ≤ 48
    rotate_left
    · have e1 : tabOk rows starts = false := by
        unfold tabOk
        rw [decide_eq_false h48]
        simp
      rw [decide_eq_false (by omega)]
      exact iteT (kb e1 H fun _ _ e => e)
    rw [decide_eq_true (by omega)]
    refine iteF ?_
    refine ⟨_, rfl, R, rfl, ⟨_, SqT.of hR⟩, fun Dd hD => ?_⟩
    refine lc_same (xs := refs) (walk_t (K := K) (a := R) (xs := refs)) (by rw [hlr]; exact Nat.le_trans h60 (by decide)) hD (fun H' s' => SqT.of (s' _ _ hR)) ((rows.map (rowOk rows.length)).map V.bl) (by simp [hlr]) (fun i x y H' Φ Ψ hx hy sm k => ?_) fun H1 s1 hd1 => ?_
    · rw [List.getElem?_map, Option.map_eq_some_iff] at hy
      obtain ⟨y, hy, rfl⟩ := hy
      rw [List.getElem?_map, Option.map_eq_some_iff] at hy
      obtain ⟨r, hq, rfl⟩ := hy
      obtain ⟨c, rfl, hc⟩ := hE.2 i x _ hx hq
      refine ⟨rfl, ?_⟩
      dsimp only [tYes]
      rw [if_pos rfl]
      refine ⟨_, rfl, _, rfl, R, _, rfl, .inr (SqT.of (sm _ _ hR)), c, r, rows.length, congrArg (fun z : Nat => [V.ref c, V.int (z : Int)]) hlr, sm _ _ hc, fun z hz => (hcr r (List.mem_of_getElem? hq) z hz).kin (Kin.same sm), k H' fun _ _ e => e⟩
    refine ⟨Dd, _, rfl, SqL.of hd1, ?_⟩
    cases hrow : (rows.map (rowOk rows.length)).all id with
    | false =>
      have e1 : tabOk rows starts = false := by
        have : rows.all (rowOk rows.length) = false := by
          rw [← hrow, List.all_map]
          rfl
        unfold tabOk
        rw [this]
        simp
      exact ⟨false, rfl, iteT (kb e1 H1 s1)⟩
    | true =>
    have hrow' : rows.all (rowOk rows.length) = true := by
      rw [← hrow, List.all_map]
      rfl
    refine ⟨true, rfl, iteF ?_⟩
    have hS1 := SqT.up hS s1
    refine ⟨_, rfl, S, _, rfl, .inr (hS1), (starts.length : Int), rfl, rfl, _, rfl, ?_⟩
    cases hrt : isRt (starts.length : Int) with
    | false =>
      have e1 : tabOk rows starts = false := by
        unfold tabOk
        rw [hrt]
        simp
      exact iteT (kb e1 H1 s1)
    | true =>
    refine iteF ?_
    refine ⟨_, rfl, S, rfl, ⟨_, hS1⟩, fun De hE' => ?_⟩
    refine lc_same (xs := starts) (walk_t (K := K) (a := S) (xs := starts)) (Nat.le_trans s60 (by decide)) hE' (fun H' s' => SqT.up hS1 s') ((starts.map (below rows.length)).map V.bl) (by simp) (fun i x y H' Φ Ψ hx hy sm k => ?_) fun H2 s2 hd2 => ?_
    · rw [List.getElem?_map, Option.map_eq_some_iff] at hy
      obtain ⟨y, hy, rfl⟩ := hy
      rw [List.getElem?_map, Option.map_eq_some_iff] at hy
      obtain ⟨r, hq, rfl⟩ := hy
      rw [hx] at hq
      cases hq
      refine ⟨rfl, ?_⟩
      dsimp only [tYes]
      rw [if_pos rfl]
      exact ⟨_, rfl, _, rfl, R, _, rfl, .inr (SqT.of (sm _ _ (s1 _ _ hR))), x, rows.length, congrArg (fun z : Nat => [x, V.int (z : Int)]) hlr, (hcs x (List.mem_of_getElem? hx)).kin (Kin.same (s1.trans sm)), k H' fun _ _ e => e⟩
    refine ⟨De, _, rfl, SqL.of hd2, ?_⟩
    cases hst : (starts.map (below rows.length)).all id with
    | false =>
      have e1 : tabOk rows starts = false := by
        have : starts.all (below rows.length) = false := by
          rw [← hst, List.all_map]
          rfl
        unfold tabOk
        rw [this]
        simp
      exact ⟨false, rfl, iteT (kb e1 H2 (s1.trans s2))⟩
    | true =>
    have hst' : starts.all (below rows.length) = true := by
      rw [← hst, List.all_map]
      rfl
    refine ⟨true, rfl, iteF (kg ?_ H2 (s1.trans s2))⟩
    unfold tabOk
    rw [decide_eq_true h1, decide_eq_true h48, hrow', hrt, hst']
    rfl
end
end PA

set_option maxHeartbeats 4000000
namespace PA
open PySem L2 RZ
open C8 (pss_cut tCut)
/-- a tuple or a list at c of the cells -/
def TLc (H : Hp) (c : Addr) (r : List V) : Prop := H c = some (.tup r) ∨ H c = some (.lst r)
theorem rf2_rows (R S : Addr) : (putF "starts" (.ref S) (putF "rows" (.ref R) [])).lookup ("rows" : Str) = some (V.ref R) := by
  rw [lookup_putF, if_neg rs_, lookup_putF, if_pos rfl]
theorem rf2_starts (R S : Addr) : (putF "starts" (.ref S) (putF "rows" (.ref R) [])).lookup ("starts" : Str) = some (V.ref S) := by
  rw [lookup_putF, if_pos rfl]
/-- what is good for a Rule -/
structure Good (rows : List Rw) (starts : List Int) (k : Int) : Prop where
  one : 1 ≤ rows.length
  most : rows.length ≤ 48
  ok : ∀ r ∈ rows, RwOk rows.length r
  root : Root (starts.length : Int) k
  st : ∀ s ∈ starts, 0 ≤ s ∧ s < (rows.length : Int)
theorem SqT.keep {K : PySem.W.Frag} {H H' : Hp} {a p C dx : Addr} {fs : List (Str × V)} {xs : List V} (h : SqT K H a xs) (hp : H p = some (.ins C dx fs)) (kp : ∀ c o, H c = some o → c ≠ p → H' c = some o) : SqT K H' a xs := by
  rcases h with (h | ⟨ob, h⟩) | h
  · exact .inl (.inl (kp _ _ h (ne_of h hp (by intro z; cases z))))
  · exact .inl (.inr ⟨ob, kp _ _ h (ne_of h hp (by intro z; cases z))⟩)
  · exact .inr h
theorem below_back {n : Nat} {v : V} (h : below n v = true) : ∃ i : Int, v = .int i ∧ 0 ≤ i ∧ i < (n : Int) := by
  cases v with
  | int i =>
    have h : (decide ((0 : Int) ≤ i) && decide (i < (n : Int))) = true := h
    rw [Bool.and_eq_true, decide_eq_true_eq, decide_eq_true_eq] at h
    exact ⟨i, rfl, h.1, h.2⟩
  | _ => cases h
theorem row_back {n : Nat} {r : List V} (h : rowOk n r = true) : ∃ l, r = rv l ∧ RwOk n l := by
  match r, h with
  | [a, f, b, g], h =>
    have h : (below n a && below n b && (isB f && isB g)) = true := h
    simp only [Bool.and_eq_true] at h
    obtain ⟨i, rfl, hi⟩ := below_back h.1.1
    obtain ⟨j, rfl, hj⟩ := below_back h.1.2
    cases f with
    | bl f =>
      cases g with
      | bl g => exact ⟨(i, f, j, g), rfl, hi, hj.1, hj.2⟩
      | _ => cases h.2.2
    | _ => cases h.2.1
theorem tab_back {rows : List (List V)} {starts : List V} (h : tabOk rows starts = true) : ∃ rs ss k, rows = rs.map rv ∧ starts = ss.map V.int ∧ Good rs ss k := by
  unfold tabOk at h
  simp only [Bool.and_eq_true, decide_eq_true_eq, List.all_eq_true] at h
  obtain ⟨⟨⟨h1, hr⟩, hrt⟩, hs⟩ := h
  have all : ∀ rows' : List (List V), (∀ r ∈ rows', ∃ l, r = rv l ∧ RwOk rows.length l) → ∃ ls : List Rw, rows' = ls.map rv ∧ ∀ l ∈ ls, RwOk rows.length l := by
    intro rows'
    induction rows' with
    | nil => exact fun _ => ⟨[], rfl, fun _ h => by cases h⟩
    | cons r rs ih =>
      intro hh
      obtain ⟨l, rfl, ol⟩ := hh r (by simp)
      obtain ⟨ls, rfl, o⟩ := ih fun r hr => hh r (List.mem_cons_of_mem _ hr)
      refine ⟨l :: ls, rfl, fun x hx => ?_⟩
      rcases List.mem_cons.mp hx with rfl | hx
      · exact ol
      · exact o x hx
  have alls : ∀ st : List V, (∀ v ∈ st, ∃ i : Int, v = .int i ∧ 0 ≤ i ∧ i < (rows.length : Int)) → ∃ ss : List Int, st = ss.map V.int ∧ ∀ s ∈ ss, 0 ≤ s ∧ s < (rows.length : Int) := by
    intro st
    induction st with
    | nil => exact fun _ => ⟨[], rfl, fun _ h => by cases h⟩
    | cons r rs ih =>
      intro hh
      obtain ⟨l, rfl, ol⟩ := hh r (by simp)
      obtain ⟨ls, rfl, o⟩ := ih fun r hr => hh r (List.mem_cons_of_mem _ hr)
      refine ⟨l :: ls, rfl, fun x hx => ?_⟩
      rcases List.mem_cons.mp hx with rfl | hx
      · exact ol
      · exact o x hx
  obtain ⟨rs, e, o⟩ := all rows fun r h => row_back (hr r h)
  obtain ⟨ss, e2, o2⟩ := alls starts fun v h => below_back (hs v h)
  obtain ⟨k, hk⟩ := isRt_root hrt
  have el : rows.length = rs.length := by rw [e, List.length_map]
  have el2 : starts.length = ss.length := by rw [e2, List.length_map]
  rw [el] at h1 o o2
  rw [el2] at hk
  exact ⟨rs, ss, k, e, e2, ⟨h1.1, h1.2, o, hk, o2⟩⟩
theorem Ea.rows {H : Hp} {refs : List V} {rs : List Rw} (e : Ea H isC refs (rs.map rv)) : Each H isT refs rs :=
  ⟨by have := e.1; rwa [List.length_map] at this, fun i x r h1 h2 => e.2 i x (rv r) h1 (by rw [List.getElem?_map, h2]; rfl)⟩
def spInit (K : PySem.W.Frag) (C X : Addr) : Sp := fun vs H Q E => ∃ (p dx G S : Addr) (refs : List V) (rows : List (List V)) (starts : List V), vs = [.ref p, .ref G, .ref S] ∧ H p = some (.ins C dx []) ∧
  (H G = some (.lst refs) ∨ H G = some (.tup refs)) ∧ Ea H TLc refs rows ∧ (H S = some (.lst starts) ∨ SqT K H S starts) ∧
  rows.length ≤ 9000 ∧ starts.length ≤ 9000 ∧ (∀ r ∈ rows, ∀ x ∈ r, Cell H x) ∧ (∀ x ∈ starts, Cell H x) ∧
  (∀ rs ss k H', rows = rs.map rv → starts = ss.map V.int → Good rs ss k → RuleAt K C H' p rs ss k → (∀ c o, H c = some o → c ≠ p → H' c = some o) → Q .non H') ∧
  (tabOk rows starts = false → ∀ H', (∀ c o, H c = some o → c ≠ p → H' c = some o) → E (.ref X) none H')
abbrev FunI (K : PySem.W.Frag) (f : Addr) (fd : FuncData) (dd : Addr) : Prop := FunD K "__init__" "Rule.__init__" (defArgs sInit) (defBody sInit) (defScope sInit) [V.ref dd] [] f fd
section
variable {P : Program} {w : World} {K : PySem.W.Frag} {mg : Str → Option Value} {base : Heap} {C X PE_ : Addr}
theorem scInit : FnScope ["self", "rows", "starts", "row"] ["self", "rows", "starts"] (defScope sInit) := ⟨rfl, rfl, rfl, by decide +kernel, rfl, by decide +kernel, by decide +kernel⟩
theorem tab_root {rows : List (List V)} {starts : List V} (h : tabOk rows starts = true) : ∃ k, Root (starts.length : Int) k := by
  unfold tabOk at h
  simp only [Bool.and_eq_true] at h
  exact isRt_root h.1.2
theorem ok_init {f g1 g2 g3 g4 dd : Addr} {fd gd1 gd2 gd3 gd4 : FuncData} (F : FunI K f fd dd) (T : Txt K mg C) (TX : TxtX K mg X PE_) (D1 : Df K mg "is_integer" sIsInt g1 gd1 ["value"]) (D2 : Df K mg "is_below" sBelow g2 gd2 ["value", "count"]) (D3 : DfA K mg "is_row_rules" "_is_row" sIsRow g3 gd3 ["row", "count"]) (D4 : Df K mg "_check_table" sCheck g4 gd4 ["rows", "starts"]) : FnOk P w K mg base (L2.CX P w) 5 f fd ["self", "rows", "starts"] (spInit K C X) := by
  have G4 : FnOk P w K mg base (L2.CX P w) 4 g4 gd4 ["rows", "starts"] (spCheck K X) := ok_check D4.F T TX D1 D2 D3
  obtain ⟨dm, hdm, km⟩ := T.marks
  refine F.ok scInit (fun vs H Q E h => ?_) (fun cdv A outer s H vs Q E hr h => ?_)
  · obtain ⟨p, dx, G, S, _, _, _, rfl, _⟩ := h
    rfl
  · obtain ⟨p, dx, G, S, refs, rows, starts, rfl, hp, hG, hE, hS, h60, s60, hcr, hcs, kg, kb⟩ := h
    refine ⟨_, pss_cut (ps_fld (pv 0) (pe_callTy call_tuple_of (by rfl) T.tup_ boot_tuple' (pa_cons (pe_lc (own := [("row", 3)]) (g := gName 3) (tt := tYes) (by rfl) scInit.nd (pi_sq (pv 1)) (blkOk_by (N := ["self", "rows", "starts", "row"]) (sc := defScope sInit) (by decide +kernel))
          (fun _ _ _ _ _ => pg_name (i := 3) scInit.nd rfl (Or.inl rfl)) (fun _ _ _ _ _ => pts_nil)
          (fun _ _ _ _ _ => pe_callTy (call_tupleK (K := K) rfl) (by rfl) T.tup_ boot_tuple' (pa_cons (pv 3) pa_nil))) pa_nil)) rfl)
      (pss_cut (ps_fld (pv 0) (pe_callTy call_tuple_of (by rfl) T.tup_ boot_tuple' (pa_cons (pv 2) pa_nil)) rfl)
      (pss_cons (ps_expr (pe_call (E := E) G4 hr rfl D4.M D4.F.kp D4.B .nil (passes_call (takes_of rfl rfl rfl rfl) (fun _ _ _ _ z => z)) (pa_cons (pe_fld (pv 0) rfl) (pa_cons (pe_fld (pv 0) rfl) pa_nil))))
      (pss_one (ps_fld (pv 0) (pe_ix (ix_km km) (pe_glob (v := .ref dm) rfl hdm rfl) (pe_callB call_len_seq (by rfl) T.len_ PySem.boot_len (pa_cons (pe_fld (pv 0) rfl) pa_nil)) (fun _ _ => rfl)) rfl)))), ?_⟩
    have hlr : refs.length = rows.length := hE.1
    have hsz : refs.length ≤ sizeLine := by rw [hlr]; exact Nat.le_trans h60 (by decide)
    refine ⟨fun σ' H' => σ' = [some (.ref p), some (.ref G), some (.ref S), none] ∧ ∃ R refs', H' p = some (.ins C dx (putF "rows" (.ref R) [])) ∧ H' R = some (.tup refs') ∧ Ea H' isC refs' rows ∧ (∀ c o, H c = some o → c ≠ p → H' c = some o), ?_, ?_⟩
    · obtain ⟨k, hk⟩ : ∃ k, Sk K k H G refs := by
        rcases hG with hG | hG
        · exact ⟨.l, SqL.of hG⟩
        · exact ⟨.t, SqT.of hG⟩
      refine ⟨k, _, rfl, G, rfl, ⟨_, hk⟩, fun Dd hD => ?_⟩
      refine lc_acc (xs := refs) (walk_k (k := k)) hsz hD (fun H' s' => hk.up s') (fun i acc H' => Ea H' isC acc (rows.take i)) (fun i acc H' e => by rw [e.1, List.length_take]; omega) (by rw [List.take_zero]; exact Ea.nil) (fun i x H' acc Φ Ψ hi hx sm hd he kf => ?_) fun H1 acc s1 hd he => ?_
      · obtain ⟨c, r, rfl, hl, hc⟩ := hE.at_ hx
        refine ⟨rfl, ?_⟩
        dsimp only [tYes]
        rw [if_pos rfl]
        rcases hc with hc | hc
        · refine ⟨_, rfl, c, _, rfl, .inr ⟨SqT.of (sm _ _ hc), kf _ H' (fun _ _ e => e) hd fun H5 h5 b1 b2 => ?_⟩⟩
          rw [take_succ' hl]
          exact Ea.push (he.imp fun c' r' q => TupOf.but q hd b1) (TupOf.but (f := id) (sm _ _ hc) hd b1)
        · refine ⟨_, rfl, c, _, rfl, .inl ⟨SqL.of (sm _ _ hc), fun q hq => ?_⟩⟩
          have sq := new_ (o := .tup r) hq
          refine kf _ _ sq (sq _ _ hd) fun H5 h5 b1 b2 => ?_
          rw [take_succ' hl]
          exact Ea.push (he.imp fun c' r' z => TupOf.but (f := id) (sq _ _ z) (sq _ _ hd) b1) (TupOf.but (f := id) upd_same (sq _ _ hd) b1)
      · rw [hlr, List.take_length] at he
        refine ⟨Dd, _, rfl, .inl ⟨SqL.of hd, fun l hl => ?_⟩⟩
        have sl := new_ (o := .tup acc) hl
        have hp1 := sl _ _ (s1 _ _ hp)
        refine ⟨_, rfl, p, C, dx, _, rfl, hp1, T.cl, T.nR, (by show 0 < 1000; decide), rfl, l, acc, upd_same, ?_, ?_, fun c o e hc => by rw [upd_ne hc]; exact sl _ _ (s1 _ _ e)⟩
        · rw [upd_ne (ne_of hp1 upd_same (by intro z; cases z)).symm]
          exact upd_same
        · exact (he.same sl).imp fun c r q => TupOf.ins (f := id) q hp1
    rintro _ H1 ⟨rfl, R, refs', hp1, hR1, hE1, kp1⟩
    have hS1 : H1 S = some (.lst starts) ∨ SqT K H1 S starts := by
      rcases hS with h | h
      · exact .inl (kp1 _ _ h (ne_of h hp (by intro z; cases z)))
      · exact .inr (SqT.keep h hp kp1)
    refine ⟨fun σ' H' => σ' = [some (.ref p), some (.ref G), some (.ref S), none] ∧ ∃ S', H' p = some (.ins C dx (putF "starts" (.ref S') (putF "rows" (.ref R) []))) ∧ H' R = some (.tup refs') ∧ Ea H' isC refs' rows ∧ SqT K H' S' starts ∧ (∀ c o, H c = some o → c ≠ p → H' c = some o), ?_, ?_⟩
    · rcases hS1 with hS1 | hS1
      · refine ⟨_, rfl, S, _, rfl, .inl ⟨SqL.of hS1, fun l hl => ?_⟩⟩
        have sl := new_ (o := .tup starts) hl
        have hp2 := sl _ _ hp1
        refine ⟨_, rfl, p, C, dx, _, rfl, hp2, T.cl, T.nS, (by show 1 < 1000; decide), rfl, l, upd_same, ?_, ?_, ?_, ?_⟩
        · rw [upd_ne (ne_of (sl _ _ hR1) hp2 (by intro z; cases z))]
          exact sl _ _ hR1
        · exact (hE1.same sl).imp fun c' r' q => TupOf.ins (f := id) q hp2
        · refine SqT.of ?_
          rw [upd_ne (ne_of hp2 upd_same (by intro z; cases z)).symm]
          exact upd_same
        · intro c o e hc
          rw [upd_ne hc]
          exact sl _ _ (kp1 _ _ e hc)
      · refine ⟨_, rfl, S, _, rfl, .inr ⟨hS1, ?_⟩⟩
        refine ⟨_, rfl, p, C, dx, _, rfl, hp1, T.cl, T.nS, (by show 1 < 1000; decide), rfl, S, upd_same, ?_, ?_, ?_, ?_⟩
        · rw [upd_ne (ne_of hR1 hp1 (by intro z; cases z))]
          exact hR1
        · exact hE1.imp fun c' r' q => TupOf.ins (f := id) q hp1
        · exact SqT.keep hS1 hp1 fun c o e hc => by rw [upd_ne hc]; exact e
        · intro c o e hc
          rw [upd_ne hc]
          exact kp1 _ _ e hc
    rintro _ H2 ⟨rfl, S', hp2, hR2, hE2, hS2, kp2⟩
    have kin : Kin H H2 := Kin.ins hp kp2
    refine ⟨_, rfl, p, C, dx, _, _, rfl, hp2, T.cl, T.nR, rf2_rows R S', _, rfl, p, C, dx, _, _, rfl, hp2, T.cl, T.nS, rf2_starts R S', R, S', refs', rows, starts, rfl, hR2, hE2, hS2, h60, s60, fun r hr x hx => (hcr r hr x hx).kin kin, fun x hx => (hcs x hx).kin kin, fun ok H3 s3 => ?_, fun bad H3 s3 => kb bad H3 fun c o e hc => s3 _ _ (kp2 c o e hc)⟩
    obtain ⟨rs, ss, k, e1, e2, gd⟩ := tab_back ok
    have hS3 := SqT.up hS2 s3
    refine ⟨_, rfl, p, C, dx, _, _, rfl, s3 _ _ hp2, T.cl, T.nS, rf2_starts R S', S', _, rfl, .inr hS3, (starts.length : Int), k, rfl, rfl, (by rw [e2, List.length_map]; exact gd.root), ?_⟩
    refine ⟨_, rfl, p, C, dx, _, rfl, s3 _ _ hp2, T.cl, T.nM, (by show 2 < 1000; decide), ?_⟩
    subst e1
    subst e2
    refine kg rs ss k _ rfl rfl gd ⟨dx, R, S', refs', upd_same, ?_, ?_, ?_⟩ ?_
    · rw [upd_ne (ne_of (s3 _ _ hR2) (s3 _ _ hp2) (by intro z; cases z))]
      exact s3 _ _ hR2
    · exact Ea.rows ((hE2.same s3).imp fun c' r' q => TupOf.ins (f := id) q (s3 _ _ hp2))
    · exact SqT.keep hS3 (s3 _ _ hp2) fun c o e hc => by rw [upd_ne hc]; exact e
    · intro c o e hc
      rw [upd_ne hc]
      exact s3 _ _ (kp2 _ _ e hc)
end
end PA

set_option maxHeartbeats 2000000
namespace PA
open PySem L2 RZ
open C8 (pss_cut tCut)
/-! ### data of ints -/
theorem ints_lay : ∀ ns : List Int, PyData.canLayAll0 (ns.map PyData.int) = true
  | [] => by simp [PyData.canLayAll0]
  | z :: zs => by simp [PyData.canLayAll0, PyData.canLay0, ints_lay zs]
theorem ints_depth : ∀ ns : List Int, PyData.depthAll (ns.map PyData.int) ≤ 2
  | [] => by simp [PyData.depthAll]
  | z :: zs => by
    have h1 := ints_depth zs
    simp only [List.map_cons, PyData.depthAll, PyData.depth]
    omega
theorem ints_shaped (ns : List Int) : SeqAt.shaped (.list (ns.map PyData.int)) = true := by
  have h1 := ints_depth ns
  have h2 : PyData.depth (.list (ns.map PyData.int)) ≤ 64 := by
    simp only [PyData.depth]
    omega
  show (PyData.canLay0 (.list (ns.map PyData.int)) && decide (PyData.depth (.list (ns.map PyData.int)) ≤ 64)) = true
  rw [Bool.and_eq_true]
  exact ⟨by simp only [PyData.canLay0]; exact ints_lay ns, decide_eq_true h2⟩
theorem dp_ints {K : PySem.W.Frag} {H : Hp} : ∀ ns : List Int, DpAll K H (ns.map V.int) (ns.map PyData.int)
  | [] => .nil
  | z :: zs => .cons (.int z) (dp_ints zs)
theorem ints_nil (ns : List Int) : PyData.eqv (.list (ns.map PyData.int)) (.list []) = ns.isEmpty := by
  cases ns with
  | nil => simp [PyData.eqv, PyData.eqvAll]
  | cons z zs => simp [PyData.eqv, PyData.eqvAll]
/-! ### the stream of draws: the list at a, the numbers left at l, n draws made -/
def StreamAt (H : Hp) (a l : Addr) (n : Nat) : Prop := a ≠ l ∧ ∃ (ns : List Int) (x z : Int), H a = some (.lst [.ref l, .int x, .int (n : Int), .int z]) ∧ H l = some (.lst (ns.map V.int)) ∧ ns.length ≤ 63 ∧ 0 ≤ x ∧ 0 ≤ z ∧ z < 2147483647
/-- all but the stream is kept -/
def Keep (a l : Addr) (H H' : Hp) : Prop := ∀ c o, c ≠ a → c ≠ l → H c = some o → H' c = some o
theorem Keep.refl (a l : Addr) (H : Hp) : Keep a l H H := fun _ _ _ _ h => h
theorem Keep.trans {a l : Addr} {H H1 H2 : Hp} (h : Keep a l H H1) (h' : Keep a l H1 H2) : Keep a l H H2 := fun c o x y e => h' c o x y (h c o x y e)
theorem Keep.of {a l : Addr} {H H' : Hp} (h : Same H H') : Keep a l H H' := fun c o _ _ e => h c o e
theorem StreamAt.same {H H' : Hp} {a l : Addr} {n : Nat} (h : StreamAt H a l n) (s : Same H H') : StreamAt H' a l n := by
  obtain ⟨ne, ns, x, z, h1, h2, h3⟩ := h
  exact ⟨ne, ns, x, z, s _ _ h1, s _ _ h2, h3⟩
def spDraw : Sp := fun vs H Q _ => ∃ (a l : Addr) (n : Nat) (many : Int), vs = [.ref a, .int many] ∧ StreamAt H a l n ∧ n ≤ 100000 ∧ 0 < many ∧ Sm 9000 many ∧
  ∀ (r : Int) (H' : Hp), 0 ≤ r → r < many → StreamAt H' a l (n + 1) → Keep a l H H' → Q (.int r) H'
section
variable {P : Program} {w : World} {K : PySem.W.Frag} {mg : Str → Option Value} {base : Heap} {C : Addr}
theorem scDraw : FnScope ["_law_stream", "_law_many", "_law_digit", "_law_mixed"] ["_law_stream", "_law_many"] (defScope sDraw) := ⟨rfl, rfl, rfl, by decide +kernel, rfl, by decide +kernel, by decide +kernel⟩
theorem ok_draw {f : Addr} {fd : FuncData} (F : Fun K "_law_draw" "_law_draw" sDraw f fd) (T : Txt K mg C) : FnOk P w K mg base CX0 1 f fd ["_law_stream", "_law_many"] spDraw := by
  refine F.ok scDraw (fun vs H Q E h => ?_) (fun cdv A outer s H vs Q E hr h => ?_)
  · obtain ⟨a, l, n, many, rfl, _⟩ := h
    rfl
  · obtain ⟨a, l, n, many, rfl, ⟨ne, ns, x, z, h1, h2, hl, hx, hz0, hz1⟩, hn, hm, hms, k⟩ := h
    have hW : ∀ j : Int, CDivW j many := fun j => ⟨hm, Nat.lt_of_lt_of_le (PySem.Flt.log2_lt_of (by decide) hms) (Nat.le_refl _)⟩
    refine ⟨_, pss_cut (ps_asg (pe_op op_add (pe_ix ix_list (pv 0) pe_int (fun _ _ => rfl)) pe_int) (pg_sub (pv 0) pe_int set_list))
      (pss_cut (ps_if (PW.pt (pw_and (pt_cmpR op_eq (pe_ix ix_list (pv 0) pe_int (fun _ _ => rfl)) pe_int (nomark _)) (pw_and1 (pt_cmpR (op_neD hr.units) (pe_ix ix_list (pv 0) pe_int (fun _ _ => rfl)) (pe_lst pa_nil) (nomark _)))))
        (pss_cons (ps_asg (pe_bm PySem.F.plainAttrs_list PySem.F.slot_list_pop PySem.F.type_list_pop mt_popAt (pe_ix ix_list (pv 0) pe_int (fun _ _ => rfl)) (pa_cons pe_int pa_nil)) (pg_sub (pv 0) pe_int set_list))
          (pss_one (ps_if (pt_cmpR op_lt (pe_ix ix_list (pv 0) pe_int (fun _ _ => rfl)) (pe_op op_pow pe_int pe_int) (nomark _))
            (pss_cons (ps_asg (pe_op op_mod (pe_callTy call_int1 (by rfl) T.int_ boot_int' (pa_cons (pe_op op_add (pe_op op_add (pe_op op_mul (pe_ix ix_list (pv 0) pe_int (fun _ _ => rfl)) pe_int) (pe_ix ix_list (pv 0) pe_int (fun _ _ => rfl))) pe_int) pa_nil)) pe_int) (pg_sub (pv 0) pe_int set_list))
              (pss_one (ps_asg pe_int (pg_sub (pv 0) pe_int set_list)))) pss_nil))) pss_nil)
      (pss_cons (ps_if (pt_cmpR op_gt (pe_ix ix_list (pv 0) pe_int (fun _ _ => rfl)) pe_int (nomark _))
        (pss_cons (ps_set (i := 2) scDraw.nd rfl (Or.inl rfl) (pe_op op_mod (pe_callTy call_int1 (by rfl) T.int_ boot_int' (pa_cons (pe_ix ix_list (pv 0) pe_int (fun _ _ => rfl)) pa_nil)) (pv 1)))
          (pss_cons (ps_asg (pe_op op_fdivW (pe_ix ix_list (pv 0) pe_int (fun _ _ => rfl)) (pv 1)) (pg_sub (pv 0) pe_int set_list))
            (pss_one (ps_ret (pv 2))))) pss_nil)
      (pss_cons (ps_set (i := 3) scDraw.nd rfl (Or.inl rfl) (pe_op op_mod (pe_op op_pow (pe_op op_add (pe_op op_add (pe_ix ix_list (pv 0) pe_int (fun _ _ => rfl)) (pe_op op_mul pe_int (pe_ix ix_list (pv 0) pe_int (fun _ _ => rfl)))) pe_int) pe_int) pe_int))
      (pss_one (ps_ret (pe_op op_mod (pe_op op_mod (pe_op op_pow (pe_op op_add (pe_op op_add (pe_op op_mul (pv 3) pe_int) (pe_op op_mul (pe_op op_mul pe_int (pe_ix ix_list (pv 0) pe_int (fun _ _ => rfl))) (pe_ix ix_list (pv 0) pe_int (fun _ _ => rfl)))) pe_int) pe_int) pe_int) (pv 1))))))), ?_⟩
    refine ⟨fun σ' H' => σ' = [some (V.ref a), some (V.int many), none, none] ∧ H' = upd H a (.lst [.ref l, .int x, .int ((n : Int) + 1), .int z]), ?_, ?_⟩
    · exact ⟨_, rfl, a, _, 2, _, rfl, rfl, SqL.of h1, rfl, _, _, rfl, rfl, _, rfl, a, _, 2, 2, rfl, rfl, h1, rfl, rfl, rfl⟩
    rintro _ _ ⟨rfl, rfl⟩
    refine ⟨fun σ' H' => σ' = [some (V.ref a), some (V.int many), none, none] ∧ ∃ (ns' : List Int) (x' z' : Int), H' a = some (.lst [.ref l, .int x', .int ((n : Int) + 1), .int z']) ∧ H' l = some (.lst (ns'.map V.int)) ∧ ns'.length ≤ 63 ∧ 0 ≤ x' ∧ 0 ≤ z' ∧ z' < 2147483647 ∧ Keep a l H H', ?_, ?_⟩
    · have kp1 : Keep a l H (upd H a (.lst [.ref l, .int x, .int ((n : Int) + 1), .int z])) := fun c o ca _ e => by rw [upd_ne ca]; exact e
      have hl1 : (upd H a (.lst [.ref l, .int x, .int ((n : Int) + 1), .int z])) l = some (.lst (ns.map V.int)) := by rw [upd_ne ne.symm]; exact h2
      refine ⟨_, rfl, a, _, 1, _, rfl, rfl, SqL.of upd_same, rfl, rfl, _, rfl, ifD_2 (fun hx0 => ?_) (fun _ => iteF ?_)⟩
      · refine ⟨_, rfl, a, _, 0, _, rfl, rfl, SqL.of upd_same, rfl, Nat.zero_le _, fun p hp => ?_⟩
        have npa : a ≠ p := fun e => by rw [← e, upd_same] at hp; cases hp
        have npl : l ≠ p := ne_of_none hl1 hp
        have kp2 : Keep a l H (upd (upd H a (.lst [.ref l, .int x, .int ((n : Int) + 1), .int z])) p (.lst [])) := fun c o ca cl e => by
          rw [upd_ne (ne_of_none (kp1 c o ca cl e) hp)]; exact kp1 c o ca cl e
        refine ⟨.list (ns.map PyData.int), .list [], .lst (SqL.of (by rw [upd_ne npl]; exact hl1)) (dp_ints ns), .lst (SqL.of upd_same) .nil, ints_shaped ns, ints_shaped [], _, rfl, ?_⟩
        rw [ints_nil]
        cases ns with
        | nil => exact iteF ⟨rfl, [], x, z, by rw [upd_ne npa, upd_same], by rw [upd_ne npl]; exact hl1, Nat.zero_le _, hx, hz0, hz1, kp2⟩
        | cons y ys =>
          refine iteT ?_
          have ga : (upd (upd H a (.lst [.ref l, .int x, .int ((n : Int) + 1), .int z])) p (.lst [])) a = some (.lst [.ref l, .int x, .int ((n : Int) + 1), .int z]) := by rw [upd_ne npa, upd_same]
          have gl : (upd (upd H a (.lst [.ref l, .int x, .int ((n : Int) + 1), .int z])) p (.lst [])) l = some (.lst ((y :: ys).map V.int)) := by rw [upd_ne npl]; exact hl1
          generalize (upd (upd H a (.lst [.ref l, .int x, .int ((n : Int) + 1), .int z])) p (.lst [])) = Hb at ga gl kp2
          refine ⟨_, rfl, a, _, 0, _, rfl, rfl, SqL.of ga, rfl, .inl ⟨rfl, _, SqL.of gl⟩, l, _, 0, 0, .int y, rfl, rfl, gl, by decide, by decide, (ixN_seq (Evl.ixN_nat (j := 0) (by simp))).1, rfl, ?_⟩
          have ga2 : (upd Hb l (.lst (((y :: ys).map V.int).eraseIdx 0))) a = some (.lst [.ref l, .int x, .int ((n : Int) + 1), .int z]) := by rw [upd_ne ne]; exact ga
          refine ⟨_, rfl, a, _, 1, 1, rfl, rfl, ga2, rfl, ?_⟩
          have kp3 : ∀ o, Keep a l H (upd (upd Hb l (.lst (((y :: ys).map V.int).eraseIdx 0))) a o) := fun o c u ca cl e => by rw [upd_ne ca, upd_ne cl]; exact kp2 c u ca cl e
          have gl3 : ∀ o, (upd (upd Hb l (.lst (((y :: ys).map V.int).eraseIdx 0))) a o) l = some (.lst (ys.map V.int)) := fun o => by rw [upd_ne ne.symm, upd_same]; rfl
          have hys : ys.length ≤ 63 := Nat.le_trans (Nat.le_succ _) hl
          refine ⟨_, rfl, a, _, 1, _, rfl, rfl, SqL.of upd_same, rfl, 10, 18, rfl, rfl, (by show CPow 10 18; unfold CPow; decide), _, _, rfl, rfl, _, rfl, ifD_2 (fun hy => ?_) (fun hy => ?_)⟩
          · refine ⟨_, rfl, a, _, 3, _, rfl, rfl, SqL.of upd_same, rfl, _, _, rfl, rfl, .inr (by decide), _, rfl, a, _, 1, _, rfl, rfl, SqL.of upd_same, rfl, _, _, rfl, rfl, _, _, rfl, rfl, .inl ⟨_, rfl, _, _, rfl, rfl, (by show (0 : Int) < 2147483647; decide), _, rfl, a, _, 3, 3, rfl, rfl, upd_same, rfl, ?_⟩⟩
            refine ⟨_, rfl, a, _, 1, 1, rfl, rfl, upd_same, rfl, ?_⟩
            rw [upd_upd, upd_upd]
            exact ⟨rfl, ys, 0, (z * 31 + y + 7) % 2147483647, upd_same, gl3 _, hys, by decide, Int.emod_nonneg _ (by decide), Int.emod_lt_of_pos _ (by decide), kp3 _⟩
          · exact ⟨rfl, ys, y, z, upd_same, gl3 _, hys, by
              have h18 : (0 : Int) ≤ 10 ^ (18 : Int).toNat := by decide
              omega, hz0, hz1, kp3 _⟩
      · exact ⟨rfl, ns, x, z, upd_same, hl1, hl, hx, hz0, hz1, kp1⟩
    rintro _ H1 ⟨rfl, ns', x', z', g1, g2, gl, gx, gz0, gz1, kp⟩
    refine ⟨_, rfl, a, _, 1, _, rfl, rfl, SqL.of g1, rfl, _, _, rfl, rfl, _, rfl, ifD_2 (fun hp => ?_) (fun _ => ?_)⟩
    · refine ⟨_, rfl, a, _, 1, _, rfl, rfl, SqL.of g1, rfl, .inl ⟨_, rfl, _, rfl, _, _, rfl, rfl, hm, ?_⟩⟩
      refine ⟨_, rfl, a, _, 1, _, rfl, rfl, SqL.of g1, rfl, _, rfl, _, _, rfl, rfl, hW _, _, rfl, a, _, 1, 1, rfl, rfl, g1, rfl, _, rfl, ?_⟩
      refine k (x' % many) _ (Int.emod_nonneg _ (by omega)) (Int.emod_lt_of_pos _ hm) ⟨ne, ns', x' / many, z', upd_same, by rw [upd_ne ne.symm]; exact g2, gl, Int.ediv_nonneg gx (by omega), gz0, gz1⟩ fun c o ca cl e => by
        rw [upd_ne ca]; exact kp c o ca cl e
    · have hn' : (n : Int) ≤ 100000 := by omega
      have hn0 : (0 : Int) ≤ n := by omega
      refine ⟨_, rfl, a, _, 3, _, rfl, rfl, SqL.of g1, rfl, _, rfl, a, _, 2, _, rfl, rfl, SqL.of g1, rfl, _, _, rfl, rfl, .inl (by decide), _, _, rfl, rfl, _, _, rfl, rfl, _, _, rfl, rfl, ?_, _, _, rfl, rfl, (by show (0 : Int) < 2147483629; decide), ?_⟩
      · show CPow _ 5
        refine ⟨by decide, by decide, ?_⟩
        have e64 : (2 : Nat) ^ 64 = 18446744073709551616 := by decide
        rw [e64]
        omega
      · generalize hmx : ((z' + 104729 * ((n : Int) + 1) + 17) ^ (5 : Int).toNat) % 2147483629 = mx
        have m0 : 0 ≤ mx := by rw [← hmx]; exact Int.emod_nonneg _ (by decide)
        have m1 : mx < 2147483629 := by rw [← hmx]; exact Int.emod_lt_of_pos _ (by decide)
        refine ⟨_, rfl, _, _, rfl, rfl, .inr (by decide), _, rfl, a, _, 2, _, rfl, rfl, SqL.of g1, rfl, _, _, rfl, rfl, .inl (by decide), _, rfl, a, _, 2, _, rfl, rfl, SqL.of g1, rfl, _, _, rfl, rfl, .inr ?_, _, _, rfl, rfl, _, _, rfl, rfl, _, _, rfl, rfl, ?_, _, _, rfl, rfl, (by show (0 : Int) < 1000000007; decide), _, rfl, _, _, rfl, rfl, hm, ?_⟩
        · have e64 : (2 : Int) ^ 64 = 18446744073709551616 := by decide
          rw [e64]
          omega
        · show CPow _ 3
          refine ⟨by decide, by decide, ?_⟩
          have e64 : (2 : Nat) ^ 64 = 18446744073709551616 := by decide
          rw [e64]
          have q0 : 0 ≤ 40503 * ((n : Int) + 1) * ((n : Int) + 1) := Int.mul_nonneg (by omega) (by omega)
          have q1 : 40503 * ((n : Int) + 1) * ((n : Int) + 1) ≤ 40503 * 100001 * 100001 := Int.mul_le_mul (by omega) (by omega) (by omega) (by decide)
          omega
        · exact k _ _ (Int.emod_nonneg _ (by omega)) (Int.emod_lt_of_pos _ hm) ⟨ne, ns', x', z', g1, g2, gl, gx, gz0, gz1⟩ kp
end
theorem sm9000 {x : Int} {n : Nat} (h : Sm n x) (hn : n ≤ 9000) : Sm 9000 x := h.mono hn
theorem sm_small {x : Int} (h : x.natAbs < 8) : Sm 9000 x := sm9000 (n := 3) h (by decide)
def spStart (K : PySem.W.Frag) : Sp := fun vs H Q _ => ∃ (p : Addr) (ns : List Int), vs = [.ref p] ∧ SqL K H p (ns.map V.int) ∧ ns.length ≤ 63 ∧ ∀ (a l : Addr) (H' : Hp), StreamAt H' a l 0 → H a = none → H l = none → Same H H' → Q (.ref a) H'
section
variable {P : Program} {w : World} {K : PySem.W.Frag} {mg : Str → Option Value} {base : Heap} {C : Addr}
theorem scStart : FnScope ["_law_script"] ["_law_script"] (defScope sStart) := ⟨rfl, rfl, rfl, by decide +kernel, rfl, by decide +kernel, by decide +kernel⟩
theorem ok_start {f : Addr} {fd : FuncData} (F : Fun K "_law_start" "_law_start" sStart f fd) (T : Txt K mg C) : FnOk P w K mg base CX0 1 f fd ["_law_script"] (spStart K) := by
  refine F.ok scStart (fun vs H Q E h => ?_) (fun cdv A outer s H vs Q E hr h => ?_)
  · obtain ⟨p, ns, rfl, _⟩ := h
    rfl
  · obtain ⟨p, ns, rfl, hS, hl, k⟩ := h
    refine ⟨_, pss_one (ps_ret (pe_lst (pa_cons (pe_callTy call_list_of (by rfl) T.list_ boot_list' (pa_cons (pv 0) pa_nil)) (pa_cons pe_int (pa_cons pe_int (pa_cons pe_int pa_nil)))))), ?_⟩
    refine ⟨_, rfl, p, _, rfl, .inl hS, fun l hl' => ⟨by show 4 ≤ sizeLine; decide, fun a ha => ?_⟩⟩
    have nal : a ≠ l := fun e => by rw [e, upd_same] at ha; cases ha
    have ha0 : H a = Option.none := by rw [upd_ne nal] at ha; exact ha
    exact k a l _ ⟨nal, ns, 0, 0, upd_same, by rw [upd_ne nal.symm, upd_same], hl, by decide, by decide, by decide⟩ ha0 hl' ((new_ hl').trans (new_ ha))
end
theorem StreamAt.ne {H : Hp} {a l p : Addr} {n : Nat} (S : StreamAt H a l n) (h : H p = none) : p ≠ a ∧ p ≠ l := by
  obtain ⟨ne, ns, x, z, h1, h2, _⟩ := S
  exact ⟨(ne_of_none h1 h).symm, (ne_of_none h2 h).symm⟩
theorem sm48 {z : Int} (h1 : 1 ≤ z) (h2 : z ≤ 48) : Sm 9000 z := by
  refine sm9000 (n := 6) ?_ (by decide)
  have e : (2 : Nat) ^ 6 = 64 := by decide
  show z.natAbs < 2 ^ 6
  rw [e]
  omega
theorem StreamAt.at_ {H : Hp} {a l : Addr} {n m : Nat} (S : StreamAt H a l n) (e : n = m) : StreamAt H a l m := e ▸ S
theorem StreamAt.lst {H : Hp} {a l p : Addr} {n : Nat} {xs ys : List V} (S : StreamAt H a l n) (hp : H p = some (.lst xs)) (pa : p ≠ a) (pl : p ≠ l) : StreamAt (upd H p (.lst ys)) a l n := by
  obtain ⟨ne, ns, x, z, h1, h2, h3⟩ := S
  exact ⟨ne, ns, x, z, by rw [upd_ne pa.symm]; exact h1, by rw [upd_ne pl.symm]; exact h2, h3⟩

def spPick : Sp := fun vs H Q _ => ∃ (a l L : Addr) (n : Nat) (xs : List V), vs = [.ref a, .ref L] ∧ StreamAt H a l n ∧ n ≤ 20000 ∧ H L = some (.lst xs) ∧ L ≠ a ∧ L ≠ l ∧ 1 ≤ xs.length ∧ xs.length ≤ 48 ∧
  ∀ (i : Nat) (x : V) (H' : Hp), xs[i]? = some x → StreamAt H' a l (n + 1) → Keep a l H H' → Q x H'
section
variable {P : Program} {w : World} {K : PySem.W.Frag} {mg : Str → Option Value} {base : Heap} {C : Addr}
theorem scPick : FnScope ["_law_stream", "_law_some"] ["_law_stream", "_law_some"] (defScope sPick) := ⟨rfl, rfl, rfl, by decide +kernel, rfl, by decide +kernel, by decide +kernel⟩
theorem ok_pick {f g : Addr} {fd gd : FuncData} (F : Fun K "_law_pick" "_law_pick" sPick f fd) (T : Txt K mg C) (D : Df K mg "_law_draw" sDraw g gd ["_law_stream", "_law_many"]) : FnOk P w K mg base CX0 2 f fd ["_law_stream", "_law_some"] spPick := by
  have G : FnOk P w K mg base CX0 1 g gd ["_law_stream", "_law_many"] spDraw := ok_draw D.F T
  refine F.ok scPick (fun vs H Q E h => ?_) (fun cdv A outer s H vs Q E hr h => ?_)
  · obtain ⟨a, l, L, n, _, rfl, _⟩ := h
    rfl
  · obtain ⟨a, l, L, n, xs, rfl, S0, hn, hL, La, Ll, h1, h48, kk⟩ := h
    refine ⟨_, pss_one (ps_ret (pe_ix ix_list (pv 1) (pe_call G hr rfl D.M D.F.kp D.B .nil pass0 (pa_cons (pv 0) (pa_cons (pe_callB call_len_seq (by rfl) T.len_ PySem.boot_len (pa_cons (pv 1) pa_nil)) pa_nil))) (fun _ _ => rfl))), ?_⟩
    refine ⟨_, rfl, _, rfl, _, rfl, L, xs, rfl, .inl (SqL.of hL), a, l, n, _, rfl, S0, by omega, by omega, sm48 (by omega) (by omega), fun r H1 r0 r1 S1 kp1 => ?_⟩
    have hi : r.toNat < xs.length := by omega
    have hx : xs[r.toNat]? = some xs[r.toNat] := List.getElem?_eq_getElem hi
    have ha := atI_nat hx
    rw [Int.toNat_of_nonneg r0] at ha
    exact ⟨L, xs, r, _, rfl, rfl, SqL.of (kp1 _ _ La Ll hL), ha, kk _ _ H1 hx S1 kp1⟩
end
end PA

set_option maxHeartbeats 4000000
namespace PA
open PySem L2 RZ
/-! ### a comprehension over zip -/
section
variable {K : PySem.W.Frag} {a b : Addr} {xs ys : List V} {g : TG} {tt : TT} {te : TE} {vs : List Nat} {σ : L2.St} {H1 : Hp} {D : Addr} {Qd : Hp → Prop}
theorem lc_zipL (hl : xs.length = ys.length) (Pv : Nat → Hp → Prop) (h0 : Pv 0 (upd H1 D (.lst []))) (hq : ∀ i H, Pv i H → SqL K H a xs ∧ SqL K H b ys)
    (hs : ∀ (i : Nat) (x y : V) (T : Addr) (H : Hp), xs[i]? = some x → ys[i]? = some y → Pv i H → H T = none → g (.ref T) (wipe σ vs) (upd H T (.tup [x, y])) fun σ2 H2 => wipe σ2 vs = wipe σ vs ∧ tt σ2 H2 fun c H3 =>
      if c = true then te σ2 H3 fun z H4 => ∃ acc, H4 D = some (.lst acc) ∧ acc.length < sizeLine ∧ Pv (i + 1) (upd H4 D (.lst (acc ++ [z]))) else Pv (i + 1) H3) (hd : ∀ H, Pv xs.length H → Qd H) :
    ∃ W : Nat → Nat → Hp → Prop, (∃ m, W 0 m (upd H1 D (.lst []))) ∧ ∀ i m H, W i m H →
      ((Itz K a b).stop i H ∧ Qd H) ∨ ((Itz K a b).go i H ∧ ∃ Nx : Hp → Prop, (∀ H', Nx H' → ∃ m', m' < m ∧ W (i + 1) m' H') ∧ ∀ x H', (Itz K a b).yld i H x H' → g x (wipe σ vs) H' fun σ2 H2 => wipe σ2 vs = wipe σ vs ∧ tt σ2 H2 fun c H3 =>
        if c = true then te σ2 H3 fun z H4 => ∃ acc, H4 D = some (.lst acc) ∧ acc.length < sizeLine ∧ Nx (upd H4 D (.lst (acc ++ [z]))) else Nx H3) := by
  refine ⟨fun i m H => m = xs.length - i ∧ i ≤ xs.length ∧ Pv i H, ⟨xs.length, rfl, Nat.zero_le _, h0⟩, ?_⟩
  rintro i m H ⟨rfl, hi, p⟩
  obtain ⟨qx, qy⟩ := hq i H p
  by_cases hlt : i < xs.length
  · have hx : xs[i]? = some xs[i] := List.getElem?_eq_getElem hlt
    have hlt2 : i < ys.length := by omega
    have hy : ys[i]? = some ys[i] := List.getElem?_eq_getElem hlt2
    refine .inr ⟨⟨xs, ys, _, _, qx, qy, hx, hy⟩, Pv (i + 1), fun H' p' => ⟨xs.length - (i + 1), by omega, rfl, hlt, p'⟩, fun v H' y => ?_⟩
    obtain ⟨T, x', y', rfl, hT, rfl, f1, f2⟩ := y
    exact hs i x' y' T H (f1 xs qx) (f2 ys qy) p hT
  · have e : i = xs.length := by omega
    subst e
    exact .inl ⟨⟨xs, ys, qx, qy, Or.inl (Nat.le_refl _)⟩, hd H p⟩
theorem lc_zipT (hl : xs.length = ys.length) (Pv : Nat → Hp → Prop) (h0 : Pv 0 (upd H1 D (.lst []))) (hq : ∀ i H, Pv i H → SqT K H a xs ∧ SqT K H b ys)
    (hs : ∀ (i : Nat) (x y : V) (T : Addr) (H : Hp), xs[i]? = some x → ys[i]? = some y → Pv i H → H T = none → g (.ref T) (wipe σ vs) (upd H T (.tup [x, y])) fun σ2 H2 => wipe σ2 vs = wipe σ vs ∧ tt σ2 H2 fun c H3 =>
      if c = true then te σ2 H3 fun z H4 => ∃ acc, H4 D = some (.lst acc) ∧ acc.length < sizeLine ∧ Pv (i + 1) (upd H4 D (.lst (acc ++ [z]))) else Pv (i + 1) H3) (hd : ∀ H, Pv xs.length H → Qd H) :
    ∃ W : Nat → Nat → Hp → Prop, (∃ m, W 0 m (upd H1 D (.lst []))) ∧ ∀ i m H, W i m H →
      ((ItzT K a b).stop i H ∧ Qd H) ∨ ((ItzT K a b).go i H ∧ ∃ Nx : Hp → Prop, (∀ H', Nx H' → ∃ m', m' < m ∧ W (i + 1) m' H') ∧ ∀ x H', (ItzT K a b).yld i H x H' → g x (wipe σ vs) H' fun σ2 H2 => wipe σ2 vs = wipe σ vs ∧ tt σ2 H2 fun c H3 =>
        if c = true then te σ2 H3 fun z H4 => ∃ acc, H4 D = some (.lst acc) ∧ acc.length < sizeLine ∧ Nx (upd H4 D (.lst (acc ++ [z]))) else Nx H3) := by
  refine ⟨fun i m H => m = xs.length - i ∧ i ≤ xs.length ∧ Pv i H, ⟨xs.length, rfl, Nat.zero_le _, h0⟩, ?_⟩
  rintro i m H ⟨rfl, hi, p⟩
  obtain ⟨qx, qy⟩ := hq i H p
  by_cases hlt : i < xs.length
  · have hx : xs[i]? = some xs[i] := List.getElem?_eq_getElem hlt
    have hlt2 : i < ys.length := by omega
    have hy : ys[i]? = some ys[i] := List.getElem?_eq_getElem hlt2
    refine .inr ⟨⟨xs, ys, _, _, qx, qy, hx, hy⟩, Pv (i + 1), fun H' p' => ⟨xs.length - (i + 1), by omega, rfl, hlt, p'⟩, fun v H' y => ?_⟩
    obtain ⟨T, x', y', rfl, hT, rfl, f1, f2⟩ := y
    exact hs i x' y' T H (f1 xs qx) (f2 ys qy) p hT
  · have e : i = xs.length := by omega
    subst e
    exact .inl ⟨⟨xs, ys, qx, qy, Or.inl (Nat.le_refl _)⟩, hd H p⟩
end
/-! ### two values that are the same, to the depth n: ints, bools, lists and tuples of such -/
inductive Two (K : PySem.W.Frag) (H : Hp) : Nat → V → V → Prop where
  | bl (n : Nat) (b : Bool) : Two K H n (.bl b) (.bl b)
  | int (n : Nat) (i : Int) : Two K H n (.int i) (.int i)
  | non (n : Nat) : Two K H n .non .non
  | str (n : Nat) (x : Str) : Two K H n (.str x) (.str x)
  | lst {n : Nat} {a b : Addr} {xs ys : List V} (ha : H a = some (.lst xs)) (hb : H b = some (.lst ys)) (hl : xs.length = ys.length) (hsz : xs.length ≤ sizeLine) (hi : ∀ (i : Nat) (x y : V), xs[i]? = some x → ys[i]? = some y → Two K H n x y) : Two K H (n + 1) (.ref a) (.ref b)
  | tup {n : Nat} {a b : Addr} {xs ys : List V} (ha : SqT K H a xs) (hb : SqT K H b ys) (hl : xs.length = ys.length) (hsz : xs.length ≤ sizeLine) (hi : ∀ (i : Nat) (x y : V), xs[i]? = some x → ys[i]? = some y → Two K H n x y) : Two K H (n + 1) (.ref a) (.ref b)
theorem Two.same {K : PySem.W.Frag} {H H' : Hp} {n : Nat} {x y : V} (t : Two K H n x y) (s : Same H H') : Two K H' n x y := by
  induction t with
  | bl n b => exact .bl n b
  | int n i => exact .int n i
  | non n => exact .non n
  | str n x => exact .str n x
  | lst ha hb hl hz _ ih => exact .lst (s _ _ ha) (s _ _ hb) hl hz ih
  | tup ha hb hl hz _ ih => exact .tup (SqT.up ha s) (SqT.up hb s) hl hz ih
theorem tyT {K : PySem.W.Frag} {H : Hp} {a : Addr} {xs : List V} (h : SqT K H a xs) : TyX K H (.ref a) (.type "tuple") := by
  rcases h with (h | ⟨ob, h⟩) | ⟨o, its, n, h1, h2, _⟩
  · exact .base (.tup h)
  · exact .fTuple h
  · exact .kTuple h1 h2
def spSame (K : PySem.W.Frag) (n : Nat) : Sp := fun vs H Q _ => ∃ x y, vs = [x, y] ∧ Two K H n x y ∧ ∀ H', Same H H' → Q (.bl true) H'
section
variable {P : Program} {w : World} {K : PySem.W.Frag} {mg : Str → Option Value} {base : Heap} {C : Addr}
theorem scSame : FnScope ["_law_found", "_law_due", "_law_one", "_law_other"] ["_law_found", "_law_due"] (defScope sSame) := ⟨rfl, rfl, rfl, by decide +kernel, rfl, by decide +kernel, by decide +kernel⟩
theorem kit2 {t : String} {b1 b2 r : Bool} (h1 : kitB t "list" = some b1) (h2 : kitB t "tuple" = some b2) (hr : (b1 || b2) = r) : PySem.W.kitAny K (.type t) [.type "list", .type "tuple"] = some r := by
  subst hr
  refine kitAny_cons (b := b1) (kit_ty h1) (fun e => ?_) (fun e => by rw [e]; rfl)
  subst e
  refine kitAny_cons (b := b2) (kit_ty h2) (fun e => ?_) (fun e => by rw [e]; rfl)
  subst e
  exact kitAny_nil
theorem kit3 {t : String} (h1 : kitB t "int" = some false) (h2 : kitB t "list" = some false) (h3 : kitB t "tuple" = some false) : PySem.W.kitAny K (.type t) [.type "int", .type "list", .type "tuple"] = some false := by
  refine kitAny_cons (b := false) (kit_ty h1) (fun _ => ?_) (fun e => by cases e)
  refine kitAny_cons (b := false) (kit_ty h2) (fun _ => ?_) (fun e => by cases e)
  refine kitAny_cons (b := false) (kit_ty h3) (fun _ => ?_) (fun e => by cases e)
  exact kitAny_nil
theorem ok_same {f : Addr} {fd : FuncData} (D : Df K mg "_law_same" sSame f fd ["_law_found", "_law_due"]) (T : Txt K mg C) : ∀ n : Nat, FnOk P w K mg base CX0 (n + 1) f fd ["_law_found", "_law_due"] (spSame K n) := by
  have hlen : ∀ n, ∀ vs H Q E, spSame K n vs H Q E → vs.length = (["_law_found", "_law_due"] : List Str).length := fun n vs H Q E h => by
    obtain ⟨x, y, rfl, _⟩ := h
    rfl
  intro n
  induction n with
  | zero =>
    refine D.F.ok scSame (hlen 0) (fun cdv A outer s H vs Q E hr h => ?_)
    obtain ⟨x, y, rfl, t, k⟩ := h
    cases t with
    | int _ i =>
      refine ⟨_, pss_cons (ps_if (pt_val (pe_callB call_isiT (by rfl) T.isi boot_isi (pa_cons (pv 1) (pa_cons (pe_tup (pa_cons (pe_bltn (v := .ty "list") (by rfl) T.list_ boot_list' rfl) (pa_cons (pe_bltn (v := .ty "tuple") (by rfl) T.tup_ boot_tuple' rfl) pa_nil))) pa_nil)))) pss_never pss_nil)
      (pss_cons (ps_if (pt_val (pe_callB call_isi (by rfl) T.isi boot_isi (pa_cons (pv 1) (pa_cons (pe_bltn (v := .ty "int") (by rfl) T.int_ boot_int' rfl) pa_nil))))
        (pss_one (ps_ret (pe_and (pe_callB call_isi (by rfl) T.isi boot_isi (pa_cons (pv 0) (pa_cons (pe_bltn (v := .ty "int") (by rfl) T.int_ boot_int' rfl) pa_nil)))
          (pe_and (pe_cmpR op_eq (pe_callB call_isi (by rfl) T.isi boot_isi (pa_cons (pv 0) (pa_cons (pe_bltn (v := .ty "bool") (by rfl) T.bool_ boot_bool' rfl) pa_nil))) (pe_callB call_isi (by rfl) T.isi boot_isi (pa_cons (pv 1) (pa_cons (pe_bltn (v := .ty "bool") (by rfl) T.bool_ boot_bool' rfl) pa_nil))) (nomark _))
            (pe_one (pe_cmpR op_eq (pv 0) (pv 1) (nomark _))))))) pss_nil) pss_never), ?_⟩
      refine ⟨_, rfl, by show 2 ≤ sizeLine; decide, fun tp htp => ⟨_, tp, _, _, [.type "list", .type "tuple"], _, rfl, upd_same, .cons (.ty _) (.cons (.ty _) .nil), .base (.int i), kit2 (b1 := false) (b2 := false) (by decide +kernel) (by decide +kernel) rfl, _, rfl, iteF ?_⟩⟩
      refine ⟨_, rfl, _, _, _, _, _, rfl, .ty _, .base (.int i), kit_ty (b := "int") (r := true) (by decide +kernel), _, rfl, iteT ?_⟩
      refine ⟨_, rfl, _, _, _, _, _, rfl, .ty _, .base (.int i), kit_ty (b := "int") (r := true) (by decide +kernel), _, rfl, iteT ?_⟩
      refine ⟨_, rfl, _, _, _, _, _, rfl, .ty _, .base (.int i), kit_ty (b := "bool") (r := false) (by decide +kernel), _, rfl, _, _, _, _, _, rfl, .ty _, .base (.int i), kit_ty (b := "bool") (r := false) (by decide +kernel), rfl, _, rfl, ifD_yes rfl ?_⟩
      refine ⟨_, rfl, _, rfl, rfl, ?_⟩
      show Q (V.bl (decide (V.int i = V.int i))) _
      rw [decide_eq_true rfl]
      exact k _ (new_ htp)
    | bl _ b =>
      refine ⟨_, pss_cons (ps_if (pt_val (pe_callB call_isiT (by rfl) T.isi boot_isi (pa_cons (pv 1) (pa_cons (pe_tup (pa_cons (pe_bltn (v := .ty "list") (by rfl) T.list_ boot_list' rfl) (pa_cons (pe_bltn (v := .ty "tuple") (by rfl) T.tup_ boot_tuple' rfl) pa_nil))) pa_nil)))) pss_never pss_nil)
      (pss_cons (ps_if (pt_val (pe_callB call_isi (by rfl) T.isi boot_isi (pa_cons (pv 1) (pa_cons (pe_bltn (v := .ty "int") (by rfl) T.int_ boot_int' rfl) pa_nil))))
        (pss_one (ps_ret (pe_and (pe_callB call_isi (by rfl) T.isi boot_isi (pa_cons (pv 0) (pa_cons (pe_bltn (v := .ty "int") (by rfl) T.int_ boot_int' rfl) pa_nil)))
          (pe_and (pe_cmpR op_eq (pe_callB call_isi (by rfl) T.isi boot_isi (pa_cons (pv 0) (pa_cons (pe_bltn (v := .ty "bool") (by rfl) T.bool_ boot_bool' rfl) pa_nil))) (pe_callB call_isi (by rfl) T.isi boot_isi (pa_cons (pv 1) (pa_cons (pe_bltn (v := .ty "bool") (by rfl) T.bool_ boot_bool' rfl) pa_nil))) (nomark _))
            (pe_one (pe_cmpR op_eq (pv 0) (pv 1) (nomark _))))))) pss_nil) pss_never), ?_⟩
      refine ⟨_, rfl, by show 2 ≤ sizeLine; decide, fun tp htp => ⟨_, tp, _, _, [.type "list", .type "tuple"], _, rfl, upd_same, .cons (.ty _) (.cons (.ty _) .nil), .base (.bl b), kit2 (b1 := false) (b2 := false) (by decide +kernel) (by decide +kernel) rfl, _, rfl, iteF ?_⟩⟩
      refine ⟨_, rfl, _, _, _, _, _, rfl, .ty _, .base (.bl b), kit_ty (b := "int") (r := true) (by decide +kernel), _, rfl, iteT ?_⟩
      refine ⟨_, rfl, _, _, _, _, _, rfl, .ty _, .base (.bl b), kit_ty (b := "int") (r := true) (by decide +kernel), _, rfl, iteT ?_⟩
      refine ⟨_, rfl, _, _, _, _, _, rfl, .ty _, .base (.bl b), kit_ty (b := "bool") (r := true) (by decide +kernel), _, rfl, _, _, _, _, _, rfl, .ty _, .base (.bl b), kit_ty (b := "bool") (r := true) (by decide +kernel), rfl, _, rfl, ifD_yes rfl ?_⟩
      refine ⟨_, rfl, _, rfl, rfl, ?_⟩
      show Q (V.bl (decide (V.bl b = V.bl b))) _
      rw [decide_eq_true rfl]
      exact k _ (new_ htp)
    | non _ =>
      refine ⟨_, pss_cons (ps_if (pt_val (pe_callB call_isiT (by rfl) T.isi boot_isi (pa_cons (pv 1) (pa_cons (pe_tup (pa_cons (pe_bltn (v := .ty "list") (by rfl) T.list_ boot_list' rfl) (pa_cons (pe_bltn (v := .ty "tuple") (by rfl) T.tup_ boot_tuple' rfl) pa_nil))) pa_nil)))) pss_never pss_nil)
      (pss_cons (ps_if (pt_val (pe_callB call_isi (by rfl) T.isi boot_isi (pa_cons (pv 1) (pa_cons (pe_bltn (v := .ty "int") (by rfl) T.int_ boot_int' rfl) pa_nil)))) pss_never pss_nil)
      (pss_one (ps_ret (pe_and (pe_cmpR op_eq (pv 0) (pv 1) (nomark _)) (pe_one (pe_cmpR op_is_bl (pe_callB call_isiT (by rfl) T.isi boot_isi (pa_cons (pv 0) (pa_cons (pe_tup (pa_cons (pe_bltn (v := .ty "int") (by rfl) T.int_ boot_int' rfl) (pa_cons (pe_bltn (v := .ty "list") (by rfl) T.list_ boot_list' rfl) (pa_cons (pe_bltn (v := .ty "tuple") (by rfl) T.tup_ boot_tuple' rfl) pa_nil)))) pa_nil))) pe_bl (nomark _))))))), ?_⟩
      refine ⟨_, rfl, by show 2 ≤ sizeLine; decide, fun tp htp => ⟨_, tp, _, _, [.type "list", .type "tuple"], _, rfl, upd_same, .cons (.ty _) (.cons (.ty _) .nil), .base .non, kit2 (b1 := false) (b2 := false) (by decide +kernel) (by decide +kernel) rfl, _, rfl, iteF ?_⟩⟩
      refine ⟨_, rfl, _, _, _, _, _, rfl, .ty _, .base .non, kit_ty (b := "int") (r := false) (by decide +kernel), _, rfl, iteF ?_⟩
      refine ⟨_, rfl, _, rfl, rfl, _, rfl, ifD_yes rfl ?_⟩
      refine ⟨_, rfl, by show 3 ≤ sizeLine; decide, fun tq htq => ⟨_, tq, _, _, [.type "int", .type "list", .type "tuple"], _, rfl, upd_same, .cons (.ty _) (.cons (.ty _) (.cons (.ty _) .nil)), .base .non, kit3 (by decide +kernel) (by decide +kernel) (by decide +kernel), _, _, rfl, rfl, ?_⟩⟩
      exact k _ ((new_ htp).trans (new_ htq))
    | str _ x =>
      refine ⟨_, pss_cons (ps_if (pt_val (pe_callB call_isiT (by rfl) T.isi boot_isi (pa_cons (pv 1) (pa_cons (pe_tup (pa_cons (pe_bltn (v := .ty "list") (by rfl) T.list_ boot_list' rfl) (pa_cons (pe_bltn (v := .ty "tuple") (by rfl) T.tup_ boot_tuple' rfl) pa_nil))) pa_nil)))) pss_never pss_nil)
      (pss_cons (ps_if (pt_val (pe_callB call_isi (by rfl) T.isi boot_isi (pa_cons (pv 1) (pa_cons (pe_bltn (v := .ty "int") (by rfl) T.int_ boot_int' rfl) pa_nil)))) pss_never pss_nil)
      (pss_one (ps_ret (pe_and (pe_cmpR op_eq (pv 0) (pv 1) (nomark _)) (pe_one (pe_cmpR op_is_bl (pe_callB call_isiT (by rfl) T.isi boot_isi (pa_cons (pv 0) (pa_cons (pe_tup (pa_cons (pe_bltn (v := .ty "int") (by rfl) T.int_ boot_int' rfl) (pa_cons (pe_bltn (v := .ty "list") (by rfl) T.list_ boot_list' rfl) (pa_cons (pe_bltn (v := .ty "tuple") (by rfl) T.tup_ boot_tuple' rfl) pa_nil)))) pa_nil))) pe_bl (nomark _))))))), ?_⟩
      refine ⟨_, rfl, by show 2 ≤ sizeLine; decide, fun tp htp => ⟨_, tp, _, _, [.type "list", .type "tuple"], _, rfl, upd_same, .cons (.ty _) (.cons (.ty _) .nil), .base (.str x), kit2 (b1 := false) (b2 := false) (by decide +kernel) (by decide +kernel) rfl, _, rfl, iteF ?_⟩⟩
      refine ⟨_, rfl, _, _, _, _, _, rfl, .ty _, .base (.str x), kit_ty (b := "int") (r := false) (by decide +kernel), _, rfl, iteF ?_⟩
      refine ⟨_, rfl, _, rfl, rfl, _, rfl, ifD_yes rfl ?_⟩
      refine ⟨_, rfl, by show 3 ≤ sizeLine; decide, fun tq htq => ⟨_, tq, _, _, [.type "int", .type "list", .type "tuple"], _, rfl, upd_same, .cons (.ty _) (.cons (.ty _) (.cons (.ty _) .nil)), .base (.str x), kit3 (by decide +kernel) (by decide +kernel) (by decide +kernel), _, _, rfl, rfl, ?_⟩⟩
      exact k _ ((new_ htp).trans (new_ htq))
  | succ n ih =>
    refine D.F.ok scSame (hlen (n + 1)) (fun cdv A outer s H vs Q E hr h => ?_)
    obtain ⟨x, y, rfl, t, k⟩ := h
    cases t with
    | int _ i =>
      refine ⟨_, pss_cons (ps_if (pt_val (pe_callB call_isiT (by rfl) T.isi boot_isi (pa_cons (pv 1) (pa_cons (pe_tup (pa_cons (pe_bltn (v := .ty "list") (by rfl) T.list_ boot_list' rfl) (pa_cons (pe_bltn (v := .ty "tuple") (by rfl) T.tup_ boot_tuple' rfl) pa_nil))) pa_nil)))) pss_never pss_nil)
      (pss_cons (ps_if (pt_val (pe_callB call_isi (by rfl) T.isi boot_isi (pa_cons (pv 1) (pa_cons (pe_bltn (v := .ty "int") (by rfl) T.int_ boot_int' rfl) pa_nil))))
        (pss_one (ps_ret (pe_and (pe_callB call_isi (by rfl) T.isi boot_isi (pa_cons (pv 0) (pa_cons (pe_bltn (v := .ty "int") (by rfl) T.int_ boot_int' rfl) pa_nil)))
          (pe_and (pe_cmpR op_eq (pe_callB call_isi (by rfl) T.isi boot_isi (pa_cons (pv 0) (pa_cons (pe_bltn (v := .ty "bool") (by rfl) T.bool_ boot_bool' rfl) pa_nil))) (pe_callB call_isi (by rfl) T.isi boot_isi (pa_cons (pv 1) (pa_cons (pe_bltn (v := .ty "bool") (by rfl) T.bool_ boot_bool' rfl) pa_nil))) (nomark _))
            (pe_one (pe_cmpR op_eq (pv 0) (pv 1) (nomark _))))))) pss_nil) pss_never), ?_⟩
      refine ⟨_, rfl, by show 2 ≤ sizeLine; decide, fun tp htp => ⟨_, tp, _, _, [.type "list", .type "tuple"], _, rfl, upd_same, .cons (.ty _) (.cons (.ty _) .nil), .base (.int i), kit2 (b1 := false) (b2 := false) (by decide +kernel) (by decide +kernel) rfl, _, rfl, iteF ?_⟩⟩
      refine ⟨_, rfl, _, _, _, _, _, rfl, .ty _, .base (.int i), kit_ty (b := "int") (r := true) (by decide +kernel), _, rfl, iteT ?_⟩
      refine ⟨_, rfl, _, _, _, _, _, rfl, .ty _, .base (.int i), kit_ty (b := "int") (r := true) (by decide +kernel), _, rfl, iteT ?_⟩
      refine ⟨_, rfl, _, _, _, _, _, rfl, .ty _, .base (.int i), kit_ty (b := "bool") (r := false) (by decide +kernel), _, rfl, _, _, _, _, _, rfl, .ty _, .base (.int i), kit_ty (b := "bool") (r := false) (by decide +kernel), rfl, _, rfl, ifD_yes rfl ?_⟩
      refine ⟨_, rfl, _, rfl, rfl, ?_⟩
      show Q (V.bl (decide (V.int i = V.int i))) _
      rw [decide_eq_true rfl]
      exact k _ (new_ htp)
    | bl _ b =>
      refine ⟨_, pss_cons (ps_if (pt_val (pe_callB call_isiT (by rfl) T.isi boot_isi (pa_cons (pv 1) (pa_cons (pe_tup (pa_cons (pe_bltn (v := .ty "list") (by rfl) T.list_ boot_list' rfl) (pa_cons (pe_bltn (v := .ty "tuple") (by rfl) T.tup_ boot_tuple' rfl) pa_nil))) pa_nil)))) pss_never pss_nil)
      (pss_cons (ps_if (pt_val (pe_callB call_isi (by rfl) T.isi boot_isi (pa_cons (pv 1) (pa_cons (pe_bltn (v := .ty "int") (by rfl) T.int_ boot_int' rfl) pa_nil))))
        (pss_one (ps_ret (pe_and (pe_callB call_isi (by rfl) T.isi boot_isi (pa_cons (pv 0) (pa_cons (pe_bltn (v := .ty "int") (by rfl) T.int_ boot_int' rfl) pa_nil)))
          (pe_and (pe_cmpR op_eq (pe_callB call_isi (by rfl) T.isi boot_isi (pa_cons (pv 0) (pa_cons (pe_bltn (v := .ty "bool") (by rfl) T.bool_ boot_bool' rfl) pa_nil))) (pe_callB call_isi (by rfl) T.isi boot_isi (pa_cons (pv 1) (pa_cons (pe_bltn (v := .ty "bool") (by rfl) T.bool_ boot_bool' rfl) pa_nil))) (nomark _))
            (pe_one (pe_cmpR op_eq (pv 0) (pv 1) (nomark _))))))) pss_nil) pss_never), ?_⟩
      refine ⟨_, rfl, by show 2 ≤ sizeLine; decide, fun tp htp => ⟨_, tp, _, _, [.type "list", .type "tuple"], _, rfl, upd_same, .cons (.ty _) (.cons (.ty _) .nil), .base (.bl b), kit2 (b1 := false) (b2 := false) (by decide +kernel) (by decide +kernel) rfl, _, rfl, iteF ?_⟩⟩
      refine ⟨_, rfl, _, _, _, _, _, rfl, .ty _, .base (.bl b), kit_ty (b := "int") (r := true) (by decide +kernel), _, rfl, iteT ?_⟩
      refine ⟨_, rfl, _, _, _, _, _, rfl, .ty _, .base (.bl b), kit_ty (b := "int") (r := true) (by decide +kernel), _, rfl, iteT ?_⟩
      refine ⟨_, rfl, _, _, _, _, _, rfl, .ty _, .base (.bl b), kit_ty (b := "bool") (r := true) (by decide +kernel), _, rfl, _, _, _, _, _, rfl, .ty _, .base (.bl b), kit_ty (b := "bool") (r := true) (by decide +kernel), rfl, _, rfl, ifD_yes rfl ?_⟩
      refine ⟨_, rfl, _, rfl, rfl, ?_⟩
      show Q (V.bl (decide (V.bl b = V.bl b))) _
      rw [decide_eq_true rfl]
      exact k _ (new_ htp)
    | non _ =>
      refine ⟨_, pss_cons (ps_if (pt_val (pe_callB call_isiT (by rfl) T.isi boot_isi (pa_cons (pv 1) (pa_cons (pe_tup (pa_cons (pe_bltn (v := .ty "list") (by rfl) T.list_ boot_list' rfl) (pa_cons (pe_bltn (v := .ty "tuple") (by rfl) T.tup_ boot_tuple' rfl) pa_nil))) pa_nil)))) pss_never pss_nil)
      (pss_cons (ps_if (pt_val (pe_callB call_isi (by rfl) T.isi boot_isi (pa_cons (pv 1) (pa_cons (pe_bltn (v := .ty "int") (by rfl) T.int_ boot_int' rfl) pa_nil)))) pss_never pss_nil)
      (pss_one (ps_ret (pe_and (pe_cmpR op_eq (pv 0) (pv 1) (nomark _)) (pe_one (pe_cmpR op_is_bl (pe_callB call_isiT (by rfl) T.isi boot_isi (pa_cons (pv 0) (pa_cons (pe_tup (pa_cons (pe_bltn (v := .ty "int") (by rfl) T.int_ boot_int' rfl) (pa_cons (pe_bltn (v := .ty "list") (by rfl) T.list_ boot_list' rfl) (pa_cons (pe_bltn (v := .ty "tuple") (by rfl) T.tup_ boot_tuple' rfl) pa_nil)))) pa_nil))) pe_bl (nomark _))))))), ?_⟩
      refine ⟨_, rfl, by show 2 ≤ sizeLine; decide, fun tp htp => ⟨_, tp, _, _, [.type "list", .type "tuple"], _, rfl, upd_same, .cons (.ty _) (.cons (.ty _) .nil), .base .non, kit2 (b1 := false) (b2 := false) (by decide +kernel) (by decide +kernel) rfl, _, rfl, iteF ?_⟩⟩
      refine ⟨_, rfl, _, _, _, _, _, rfl, .ty _, .base .non, kit_ty (b := "int") (r := false) (by decide +kernel), _, rfl, iteF ?_⟩
      refine ⟨_, rfl, _, rfl, rfl, _, rfl, ifD_yes rfl ?_⟩
      refine ⟨_, rfl, by show 3 ≤ sizeLine; decide, fun tq htq => ⟨_, tq, _, _, [.type "int", .type "list", .type "tuple"], _, rfl, upd_same, .cons (.ty _) (.cons (.ty _) (.cons (.ty _) .nil)), .base .non, kit3 (by decide +kernel) (by decide +kernel) (by decide +kernel), _, _, rfl, rfl, ?_⟩⟩
      exact k _ ((new_ htp).trans (new_ htq))
    | str _ x =>
      refine ⟨_, pss_cons (ps_if (pt_val (pe_callB call_isiT (by rfl) T.isi boot_isi (pa_cons (pv 1) (pa_cons (pe_tup (pa_cons (pe_bltn (v := .ty "list") (by rfl) T.list_ boot_list' rfl) (pa_cons (pe_bltn (v := .ty "tuple") (by rfl) T.tup_ boot_tuple' rfl) pa_nil))) pa_nil)))) pss_never pss_nil)
      (pss_cons (ps_if (pt_val (pe_callB call_isi (by rfl) T.isi boot_isi (pa_cons (pv 1) (pa_cons (pe_bltn (v := .ty "int") (by rfl) T.int_ boot_int' rfl) pa_nil)))) pss_never pss_nil)
      (pss_one (ps_ret (pe_and (pe_cmpR op_eq (pv 0) (pv 1) (nomark _)) (pe_one (pe_cmpR op_is_bl (pe_callB call_isiT (by rfl) T.isi boot_isi (pa_cons (pv 0) (pa_cons (pe_tup (pa_cons (pe_bltn (v := .ty "int") (by rfl) T.int_ boot_int' rfl) (pa_cons (pe_bltn (v := .ty "list") (by rfl) T.list_ boot_list' rfl) (pa_cons (pe_bltn (v := .ty "tuple") (by rfl) T.tup_ boot_tuple' rfl) pa_nil)))) pa_nil))) pe_bl (nomark _))))))), ?_⟩
      refine ⟨_, rfl, by show 2 ≤ sizeLine; decide, fun tp htp => ⟨_, tp, _, _, [.type "list", .type "tuple"], _, rfl, upd_same, .cons (.ty _) (.cons (.ty _) .nil), .base (.str x), kit2 (b1 := false) (b2 := false) (by decide +kernel) (by decide +kernel) rfl, _, rfl, iteF ?_⟩⟩
      refine ⟨_, rfl, _, _, _, _, _, rfl, .ty _, .base (.str x), kit_ty (b := "int") (r := false) (by decide +kernel), _, rfl, iteF ?_⟩
      refine ⟨_, rfl, _, rfl, rfl, _, rfl, ifD_yes rfl ?_⟩
      refine ⟨_, rfl, by show 3 ≤ sizeLine; decide, fun tq htq => ⟨_, tq, _, _, [.type "int", .type "list", .type "tuple"], _, rfl, upd_same, .cons (.ty _) (.cons (.ty _) (.cons (.ty _) .nil)), .base (.str x), kit3 (by decide +kernel) (by decide +kernel) (by decide +kernel), _, _, rfl, rfl, ?_⟩⟩
      exact k _ ((new_ htp).trans (new_ htq))
    | @lst _ a b xs ys ha hb hl hsz hi =>
      refine ⟨_, pss_cons (ps_if (pt_val (pe_callB call_isiT (by rfl) T.isi boot_isi (pa_cons (pv 1) (pa_cons (pe_tup (pa_cons (pe_bltn (v := .ty "list") (by rfl) T.list_ boot_list' rfl) (pa_cons (pe_bltn (v := .ty "tuple") (by rfl) T.tup_ boot_tuple' rfl) pa_nil))) pa_nil))))
      (pss_cons (ps_if (PW.pt (pw_or (pt_cmpR op_ne (pe_callB call_isi (by rfl) T.isi boot_isi (pa_cons (pv 0) (pa_cons (pe_bltn (v := .ty "list") (by rfl) T.list_ boot_list' rfl) pa_nil))) (pe_callB call_isi (by rfl) T.isi boot_isi (pa_cons (pv 1) (pa_cons (pe_bltn (v := .ty "list") (by rfl) T.list_ boot_list' rfl) pa_nil))) (nomark _)) (pw_or1 (pt_cmpR op_ne (pe_callB call_isi (by rfl) T.isi boot_isi (pa_cons (pv 0) (pa_cons (pe_bltn (v := .ty "tuple") (by rfl) T.tup_ boot_tuple' rfl) pa_nil))) (pe_callB call_isi (by rfl) T.isi boot_isi (pa_cons (pv 1) (pa_cons (pe_bltn (v := .ty "tuple") (by rfl) T.tup_ boot_tuple' rfl) pa_nil))) (nomark _))))) pss_never pss_nil)
        (pss_one (ps_ret (pe_and (pe_cmpR op_eq (pe_callB call_len_seq (by rfl) T.len_ PySem.boot_len (pa_cons (pv 0) pa_nil)) (pe_callB call_len_seq (by rfl) T.len_ PySem.boot_len (pa_cons (pv 1) pa_nil)) (nomark _))
          (pe_one (pe_callB (cr_all rfl) (by rfl) T.all_ boot_all' (pa_cons (pe_lc (own := [("_law_one", 2), ("_law_other", 3)]) (g := gTup K 2 (gCons (gName 2) (gCons (gName 3) gNil))) (tt := tYes) (by rfl) scSame.nd (pi_zipA (by rfl) T.zip_ (pa_cons (pv 0) (pa_cons (pv 1) pa_nil))) (blkOk_by (N := ["_law_found", "_law_due", "_law_one", "_law_other"]) (sc := defScope sSame) (by decide +kernel))
            (fun _ _ _ _ _ => by exact pg_tup rfl (pgs_cons (pg_name (i := 2) scSame.nd rfl (Or.inl rfl)) (pgs_cons (pg_name (i := 3) scSame.nd rfl (Or.inl rfl)) pgs_nil))) (fun _ _ _ _ _ => pts_nil)
            (fun _ _ _ _ _ => pe_call ih hr rfl D.M D.F.kp D.B .nil pass0 (pa_cons (pv 2) (pa_cons (pv 3) pa_nil)))) pa_nil))))))) pss_nil) pss_never, ?_⟩
      refine ⟨_, rfl, by show 2 ≤ sizeLine; decide, fun tp htp => ?_⟩
      have s1 : Same H (upd H tp (.tup [.ty "list", .ty "tuple"])) := new_ htp
      have hA := s1 _ _ ha
      have hB := s1 _ _ hb
      refine ⟨_, tp, _, _, [.type "list", .type "tuple"], _, rfl, upd_same, .cons (.ty _) (.cons (.ty _) .nil), .base (.lst hB), kit2 (b1 := true) (b2 := false) (by decide +kernel) (by decide +kernel) rfl, _, rfl, iteT ?_⟩
      refine ⟨_, rfl, _, _, _, _, _, rfl, .ty _, .base (.lst hA), kit_ty (b := "list") (r := true) (by decide +kernel), _, rfl, _, _, _, _, _, rfl, .ty _, .base (.lst hB), kit_ty (b := "list") (r := true) (by decide +kernel), rfl, _, rfl, iteNS rfl ?_⟩
      refine ⟨_, rfl, _, _, _, _, _, rfl, .ty _, .base (.lst hA), kit_ty (b := "tuple") (r := false) (by decide +kernel), _, rfl, _, _, _, _, _, rfl, .ty _, .base (.lst hB), kit_ty (b := "tuple") (r := false) (by decide +kernel), rfl, _, rfl, iteNS rfl ?_⟩
      refine ⟨_, rfl, _, _, rfl, .inl (SqL.of hA), _, rfl, _, _, rfl, .inl (SqL.of hB), rfl, _, rfl, ifD_yes (by rw [hl]) ?_⟩
      refine ⟨_, rfl, _, rfl, _, _, xs, ys, rfl, .inl ⟨SqL.of hA, SqL.of hB, fun Dd hD => ?_⟩⟩
      refine lc_zipL hl (fun i H' => Same (upd H tp (.tup [.ty "list", .ty "tuple"])) H' ∧ H' Dd = some (.lst ((List.replicate i true).map V.bl))) ⟨new_ hD, upd_same⟩ (fun i H' q => ⟨SqL.of (q.1 _ _ hA), SqL.of (q.1 _ _ hB)⟩) ?_ ?_
      · rintro i x y tt H' hx hy ⟨sm, hd⟩ ht
        refine ⟨tt, _, rfl, SqT.of upd_same, rfl, _, _, rfl, _, _, rfl, rfl, rfl, ?_⟩
        dsimp only [tYes]
        rw [if_pos rfl]
        have s2 : Same H' (upd H' tt (.tup [x, y])) := new_ ht
        refine ⟨_, rfl, _, rfl, x, y, rfl, ((hi i x y hx hy).same s1).same (sm.trans s2), fun H2 s3 => ⟨_, s3 _ _ (s2 _ _ hd), ?_, ?_, ?_⟩⟩
        · rw [List.length_map, List.length_replicate]
          exact Nat.lt_of_lt_of_le (List.getElem?_eq_some_iff.mp hx).1 hsz
        · intro c o e
          rw [upd_ne (ne_of_none e hD)]
          exact s3 _ _ (s2 _ _ (sm _ _ e))
        · rw [upd_same, List.replicate_succ', List.map_append]
          rfl
      · rintro H' ⟨sm, hd⟩
        refine ⟨Dd, _, rfl, SqL.of hd, ?_⟩
        have ea : (List.replicate xs.length true).all id = true := by
          rw [List.all_eq_true]
          intro x hx
          rw [(List.mem_replicate.mp hx).2]
          rfl
        rw [ea]
        exact k _ (s1.trans sm)
    | @tup _ a b xs ys ha hb hl hsz hi =>
      refine ⟨_, pss_cons (ps_if (pt_val (pe_callB call_isiT (by rfl) T.isi boot_isi (pa_cons (pv 1) (pa_cons (pe_tup (pa_cons (pe_bltn (v := .ty "list") (by rfl) T.list_ boot_list' rfl) (pa_cons (pe_bltn (v := .ty "tuple") (by rfl) T.tup_ boot_tuple' rfl) pa_nil))) pa_nil))))
      (pss_cons (ps_if (PW.pt (pw_or (pt_cmpR op_ne (pe_callB call_isi (by rfl) T.isi boot_isi (pa_cons (pv 0) (pa_cons (pe_bltn (v := .ty "list") (by rfl) T.list_ boot_list' rfl) pa_nil))) (pe_callB call_isi (by rfl) T.isi boot_isi (pa_cons (pv 1) (pa_cons (pe_bltn (v := .ty "list") (by rfl) T.list_ boot_list' rfl) pa_nil))) (nomark _)) (pw_or1 (pt_cmpR op_ne (pe_callB call_isi (by rfl) T.isi boot_isi (pa_cons (pv 0) (pa_cons (pe_bltn (v := .ty "tuple") (by rfl) T.tup_ boot_tuple' rfl) pa_nil))) (pe_callB call_isi (by rfl) T.isi boot_isi (pa_cons (pv 1) (pa_cons (pe_bltn (v := .ty "tuple") (by rfl) T.tup_ boot_tuple' rfl) pa_nil))) (nomark _))))) pss_never pss_nil)
        (pss_one (ps_ret (pe_and (pe_cmpR op_eq (pe_callB call_len_seq (by rfl) T.len_ PySem.boot_len (pa_cons (pv 0) pa_nil)) (pe_callB call_len_seq (by rfl) T.len_ PySem.boot_len (pa_cons (pv 1) pa_nil)) (nomark _))
          (pe_one (pe_callB (cr_all rfl) (by rfl) T.all_ boot_all' (pa_cons (pe_lc (own := [("_law_one", 2), ("_law_other", 3)]) (g := gTup K 2 (gCons (gName 2) (gCons (gName 3) gNil))) (tt := tYes) (by rfl) scSame.nd (pi_zipA (by rfl) T.zip_ (pa_cons (pv 0) (pa_cons (pv 1) pa_nil))) (blkOk_by (N := ["_law_found", "_law_due", "_law_one", "_law_other"]) (sc := defScope sSame) (by decide +kernel))
            (fun _ _ _ _ _ => by exact pg_tup rfl (pgs_cons (pg_name (i := 2) scSame.nd rfl (Or.inl rfl)) (pgs_cons (pg_name (i := 3) scSame.nd rfl (Or.inl rfl)) pgs_nil))) (fun _ _ _ _ _ => pts_nil)
            (fun _ _ _ _ _ => pe_call ih hr rfl D.M D.F.kp D.B .nil pass0 (pa_cons (pv 2) (pa_cons (pv 3) pa_nil)))) pa_nil))))))) pss_nil) pss_never, ?_⟩
      refine ⟨_, rfl, by show 2 ≤ sizeLine; decide, fun tp htp => ?_⟩
      have s1 : Same H (upd H tp (.tup [.ty "list", .ty "tuple"])) := new_ htp
      have hA := SqT.up ha s1
      have hB := SqT.up hb s1
      refine ⟨_, tp, _, _, [.type "list", .type "tuple"], _, rfl, upd_same, .cons (.ty _) (.cons (.ty _) .nil), tyT hB, kit2 (b1 := false) (b2 := true) (by decide +kernel) (by decide +kernel) rfl, _, rfl, iteT ?_⟩
      refine ⟨_, rfl, _, _, _, _, _, rfl, .ty _, tyT hA, kit_ty (b := "list") (r := false) (by decide +kernel), _, rfl, _, _, _, _, _, rfl, .ty _, tyT hB, kit_ty (b := "list") (r := false) (by decide +kernel), rfl, _, rfl, iteNS rfl ?_⟩
      refine ⟨_, rfl, _, _, _, _, _, rfl, .ty _, tyT hA, kit_ty (b := "tuple") (r := true) (by decide +kernel), _, rfl, _, _, _, _, _, rfl, .ty _, tyT hB, kit_ty (b := "tuple") (r := true) (by decide +kernel), rfl, _, rfl, iteNS rfl ?_⟩
      refine ⟨_, rfl, _, _, rfl, .inr (hA), _, rfl, _, _, rfl, .inr (hB), rfl, _, rfl, ifD_yes (by rw [hl]) ?_⟩
      refine ⟨_, rfl, _, rfl, _, _, xs, ys, rfl, .inr ⟨hA, hB, fun Dd hD => ?_⟩⟩
      refine lc_zipT hl (fun i H' => Same (upd H tp (.tup [.ty "list", .ty "tuple"])) H' ∧ H' Dd = some (.lst ((List.replicate i true).map V.bl))) ⟨new_ hD, upd_same⟩ (fun i H' q => ⟨SqT.up hA q.1, SqT.up hB q.1⟩) ?_ ?_
      · rintro i x y tt H' hx hy ⟨sm, hd⟩ ht
        refine ⟨tt, _, rfl, SqT.of upd_same, rfl, _, _, rfl, _, _, rfl, rfl, rfl, ?_⟩
        dsimp only [tYes]
        rw [if_pos rfl]
        have s2 : Same H' (upd H' tt (.tup [x, y])) := new_ ht
        refine ⟨_, rfl, _, rfl, x, y, rfl, ((hi i x y hx hy).same s1).same (sm.trans s2), fun H2 s3 => ⟨_, s3 _ _ (s2 _ _ hd), ?_, ?_, ?_⟩⟩
        · rw [List.length_map, List.length_replicate]
          exact Nat.lt_of_lt_of_le (List.getElem?_eq_some_iff.mp hx).1 hsz
        · intro c o e
          rw [upd_ne (ne_of_none e hD)]
          exact s3 _ _ (s2 _ _ (sm _ _ e))
        · rw [upd_same, List.replicate_succ', List.map_append]
          rfl
      · rintro H' ⟨sm, hd⟩
        refine ⟨Dd, _, rfl, SqL.of hd, ?_⟩
        have ea : (List.replicate xs.length true).all id = true := by
          rw [List.all_eq_true]
          intro x hx
          rw [(List.mem_replicate.mp hx).2]
          rfl
        rw [ea]
        exact k _ (s1.trans sm)
end
end PA

set_option maxHeartbeats 4000000
namespace PA
open PySem L2 RZ
open C8 (pss_cut tCut)
theorem atI_nat {α : Type} {xs : List α} {i : Nat} {x : α} (h : xs[i]? = some x) : atI xs (i : Int) = some x := by
  unfold atI
  rw [Evl.ixN_nat (List.getElem?_eq_some_iff.mp h).1]
  exact h
theorem isT.kp {H H' : Hp} {a l c : Addr} {n : Nat} {r : Rw} (q : isT H c r) (S : StreamAt H a l n) (k : Keep a l H H') : isT H' c r := by
  obtain ⟨ne, ns, x, z, h1, h2, _⟩ := S
  exact k _ _ (ne_of (H := H) q h1 (by intro z; cases z)) (ne_of (H := H) q h2 (by intro z; cases z)) q
def spTable : Sp := fun vs H Q _ => ∃ (a l : Addr) (n : Nat) (most marks : Int), vs = [.ref a, .int most, .int marks] ∧ StreamAt H a l n ∧ n ≤ 1000 ∧ 1 ≤ most ∧ most ≤ 48 ∧ 1 ≤ marks ∧ marks ≤ 4 ∧
  ∀ (t R S : Addr) (refs : List V) (rows : List Rw) (starts : List Int) (k : Int) (n' : Nat) (H' : Hp), H' t = some (.tup [.ref R, .ref S, .int k]) → H' R = some (.lst refs) → Each H' isT refs rows → H' S = some (.lst (starts.map V.int)) → Good rows starts k →
    StreamAt H' a l n' → n' ≤ n + 300 → Keep a l H H' → R ≠ a → R ≠ l → S ≠ a → S ≠ l → H R = none → H S = none → Q (.ref t) H'
section
variable {P : Program} {w : World} {K : PySem.W.Frag} {mg : Str → Option Value} {base : Heap} {C : Addr}
theorem scTable : FnScope ["_law_stream", "_law_most", "_law_marks", "_law_size", "_law_many", "_law_rows", "_law_k", "_law_low", "_law_high"] ["_law_stream", "_law_most", "_law_marks"] (defScope sTable) := ⟨rfl, rfl, rfl, by decide +kernel, rfl, by decide +kernel, by decide +kernel⟩
theorem ok_table {f g : Addr} {fd gd : FuncData} (F : Fun K "_law_m_table" "_law_m_table" sTable f fd) (T : Txt K mg C) (D : Df K mg "_law_draw" sDraw g gd ["_law_stream", "_law_many"]) : FnOk P w K mg base CX0 2 f fd ["_law_stream", "_law_most", "_law_marks"] spTable := by
  have G : FnOk P w K mg base CX0 1 g gd ["_law_stream", "_law_many"] spDraw := ok_draw D.F T
  refine F.ok scTable (fun vs H Q E h => ?_) (fun cdv A outer s H vs Q E hr h => ?_)
  · obtain ⟨a, l, n, _, _, rfl, _⟩ := h
    rfl
  · obtain ⟨a, l, n, most, marks, rfl, S0, hn, m1, m48, k1, k4, kk⟩ := h
    refine ⟨_, pss_cut (ps_asg (pe_tup (pa_cons (pe_op op_add pe_int (pe_call G hr rfl D.M D.F.kp D.B .nil pass0 (pa_cons (pv 0) (pa_cons (pv 1) pa_nil)))) (pa_cons (pe_op op_add pe_int (pe_call G hr rfl D.M D.F.kp D.B .nil pass0 (pa_cons (pv 0) (pa_cons (pv 2) pa_nil)))) pa_nil)))
        (pg_tup rfl (pgs_cons (pg_name (i := 3) scTable.nd rfl (Or.inr rfl)) (pgs_cons (pg_name (i := 4) scTable.nd rfl (Or.inl rfl)) pgs_nil))))
      (pss_cons (ps_set (i := 5) scTable.nd rfl (Or.inl rfl) (pe_lst pa_nil))
      (pss_cut (ps_for PassesOwn.never rfl (pi_range1 (by rfl) T.range_ (pa_cons (pv 3) pa_nil)) (pg_name (i := 6) scTable.nd rfl (Or.inl rfl))
        (pss_cons (ps_par (i := 7) (j := 8) (by rfl) scTable.nd rfl rfl (by decide) rfl rfl (pa_cons (pe_call G hr rfl D.M D.F.kp D.B .nil pass0 (pa_cons (pv 0) (pa_cons (pv 3) pa_nil))) (pa_cons (pe_call G hr rfl D.M D.F.kp D.B .nil pass0 (pa_cons (pv 0) (pa_cons (pv 3) pa_nil))) pa_nil)) (by rfl))
        (pss_one (ps_expr (pe_bm PySem.F.plainAttrs_list PySem.F.slot_list_append PySem.F.type_list_append mt_append (pv 5) (pa_cons (pe_tup (pa_cons (pv 7) (pa_cons (pe_cmpR op_eq (pe_call G hr rfl D.M D.F.kp D.B .nil pass0 (pa_cons (pv 0) (pa_cons pe_int pa_nil))) pe_int (nomark _)) (pa_cons (pv 8) (pa_cons (pe_cmpR op_eq (pe_call G hr rfl D.M D.F.kp D.B .nil pass0 (pa_cons (pv 0) (pa_cons pe_int pa_nil))) pe_int (nomark _)) pa_nil))))) pa_nil))))))
      (pss_one (ps_ret (pe_tup (pa_cons (pv 5) (pa_cons (pe_lc (own := [("_law_k", 6)]) (g := gName 6) (tt := tYes) (by rfl) scTable.nd (pi_range1 (by rfl) T.range_ (pa_cons (pe_op op_mul (pv 4) (pv 4)) pa_nil)) (blkOk_by (N := ["_law_stream", "_law_most", "_law_marks", "_law_size", "_law_many", "_law_rows", "_law_k", "_law_low", "_law_high"]) (sc := defScope sTable) (by decide +kernel))
          (fun _ _ _ _ _ => pg_name (i := 6) scTable.nd rfl (Or.inl rfl)) (fun _ _ _ _ _ => pts_nil)
          (fun _ _ _ _ _ => pe_call G hr rfl D.M D.F.kp D.B .nil pass0 (pa_cons (pv 0) (pa_cons (pv 3) pa_nil)))) (pa_cons (pv 4) pa_nil)))))))), ?_⟩
    have e24 := @sm48
    refine ⟨fun σ' H' => ∃ (sz mn : Nat), 1 ≤ sz ∧ sz ≤ 48 ∧ 1 ≤ mn ∧ mn ≤ 4 ∧ σ' = [some (V.ref a), some (V.int most), some (V.int marks), some (V.int (sz : Int)), some (V.int (mn : Int)), none, none, none, none] ∧ StreamAt H' a l (n + 2) ∧ Keep a l H H', ?_, ?_⟩
    · refine ⟨_, rfl, _, rfl, a, l, n, most, rfl, S0, by omega, by omega, e24 m1 m48, fun r1 H1 r10 r11 S1 kp1 => ⟨_, _, rfl, rfl, ?_⟩⟩
      refine ⟨_, rfl, _, rfl, a, l, n + 1, marks, rfl, S1, by omega, by omega, e24 k1 (by omega), fun r2 H2 r20 r21 S2 kp2 => ⟨_, _, rfl, rfl, by show 2 ≤ sizeLine; decide, fun tp htp => ?_⟩⟩
      refine ⟨tp, _, rfl, SqT.of upd_same, rfl, _, _, rfl, _, _, rfl, rfl, ?_⟩
      refine ⟨(1 + r1).toNat, (1 + r2).toNat, by omega, by omega, by omega, by omega, ?_, S2.same (Same.new htp), (kp1.trans kp2).trans (Keep.of (Same.new htp))⟩
      rw [Int.toNat_of_nonneg (by omega), Int.toNat_of_nonneg (by omega)]
      rfl
    rintro _ H2 ⟨sz, mn, sz1, sz48, mn1, mn4, rfl, S2, kp2⟩
    refine ⟨Nat.zero_le _, fun R hR0 => ?_⟩
    obtain ⟨Ra, Rl⟩ := S2.ne hR0
    have HR : H R = none := by
      cases e : H R with
      | none => rfl
      | some o => have := kp2 R o Ra Rl e; rw [hR0] at this; cases this
    refine ⟨fun σ' H' => ∃ x6 x7 x8 refs rows, σ' = [some (V.ref a), some (V.int most), some (V.int marks), some (V.int (sz : Int)), some (V.int (mn : Int)), some (V.ref R), x6, x7, x8] ∧ StreamAt H' a l (n + 2 + 4 * sz) ∧ Keep a l H H' ∧ H' R = some (.lst refs) ∧ Each H' isT refs rows ∧ rows.length = sz ∧ (∀ r ∈ rows, RwOk sz r), ?_, ?_⟩
    · refine ⟨_, rfl, (sz : Int), rfl, by omega, by omega, ?_⟩
      refine for_range (n := sz) (fun i σ' H' => ∃ x6 x7 x8 refs rows, σ' = [some (V.ref a), some (V.int most), some (V.int marks), some (V.int (sz : Int)), some (V.int (mn : Int)), some (V.ref R), x6, x7, x8] ∧ StreamAt H' a l (n + 2 + 4 * i) ∧ Keep a l H H' ∧ H' R = some (.lst refs) ∧ Each H' isT refs rows ∧ rows.length = i ∧ (∀ r ∈ rows, RwOk sz r)) ?_ ?_ ?_
      · refine ⟨none, none, none, [], [], rfl, S2.same (Same.new hR0), kp2.trans (Keep.of (Same.new hR0)), upd_same, Each.nil, rfl, fun r hr => by cases hr⟩
      · rintro i _ H3 hi ⟨x6, x7, x8, refs, rows, rfl, S3, kp3, hR, hE, hlen, hok⟩
        refine ⟨_, rfl, _, rfl, a, l, _, _, rfl, S3, by omega, by omega, e24 (by omega) (by omega), fun r1 H4 r10 r11 S4 kp4 => ?_⟩
        refine ⟨_, rfl, _, rfl, a, l, _, _, rfl, S4, by omega, by omega, e24 (by omega) (by omega), fun r2 H5 r20 r21 S5 kp5 => ⟨_, _, rfl, ?_⟩⟩
        have hR5 : H5 R = some (.lst refs) := kp5 _ _ Ra Rl (kp4 _ _ Ra Rl hR)
        refine ⟨_, rfl, .inl ⟨rfl, _, SqL.of hR5⟩, ?_⟩
        refine ⟨_, rfl, ?_⟩
        refine ⟨_, rfl, a, l, _, _, rfl, S5, by omega, by decide, e24 (by decide) (by decide), fun r3 H6 r30 r31 S6 kp6 => ⟨rfl, ?_⟩⟩
        refine ⟨_, rfl, ?_⟩
        refine ⟨_, rfl, a, l, _, _, rfl, S6, by omega, by decide, e24 (by decide) (by decide), fun r4 H7 r40 r41 S7 kp7 => ⟨rfl, by show 4 ≤ sizeLine; decide, fun tp htp => ?_⟩⟩
        have hR7 : H7 R = some (.lst refs) := kp7 _ _ Ra Rl (kp6 _ _ Ra Rl hR5)
        have kp37 : Keep a l H3 H7 := ((kp4.trans kp5).trans kp6).trans kp7
        have hE7 : Each H7 isT refs rows := hE.imp fun c r q => q.kp S3 kp37
        have hR8 := Same.new (o := .tup [.int r1, .bl (decide (V.int r3 = V.int 0)), .int r2, .bl (decide (V.int r4 = V.int 0))]) htp _ _ hR7
        have hE8 : Each _ isT refs rows := hE7.sameT (Same.new (o := .tup [.int r1, .bl (decide (V.int r3 = V.int 0)), .int r2, .bl (decide (V.int r4 = V.int 0))]) htp)
        refine ⟨R, refs, _, rfl, rfl, hR8, ?_, ?_⟩
        · rw [hE.1, hlen]
          exact Nat.lt_of_lt_of_le hi (Nat.le_trans sz48 (by decide))
        refine ⟨_, _, _, _, rows ++ [(r1, decide (V.int r3 = V.int 0), r2, decide (V.int r4 = V.int 0))], rfl, ?_, ?_, upd_same, ?_, ?_, ?_⟩
        · refine StreamAt.at_ (n := n + 2 + 4 * i + 4) ?_ (by omega)
          exact (S7.same (Same.new htp)).lst hR8 Ra Rl
        · intro c o ca cl e
          rw [upd_ne (ne_of_none e HR)]
          exact Same.new htp _ _ ((kp3.trans kp37) c o ca cl e)
        · exact (hE8.imp fun c r q => q.lst hR8).push ((show isT _ tp (r1, decide (V.int r3 = V.int 0), r2, decide (V.int r4 = V.int 0)) from upd_same).lst hR8)
        · rw [List.length_append, hlen]
          rfl
        · intro r hr
          rcases List.mem_append.mp hr with hr | hr
          · exact hok r hr
          · cases List.mem_singleton.mp hr
            exact ⟨⟨r10, r11⟩, r20, r21⟩
      · rintro σ' H' ⟨x6, x7, x8, refs, rows, rfl, S3, kp3, hR, hE, hlen, hok⟩
        exact ⟨x6, x7, x8, refs, rows, rfl, S3, kp3, hR, hE, hlen, hok⟩
    rintro _ H3 ⟨x6, x7, x8, refs, rows, rfl, S3, kp3, hR, hE, hlen, hok⟩
    have hm : ((mn : Int) * (mn : Int)).toNat = mn * mn := by
      rw [← Int.natCast_mul, Int.toNat_natCast]
    have hmm : mn * mn ≤ 16 := Nat.mul_le_mul mn4 mn4
    have hmi : (mn : Int) * (mn : Int) = ((mn * mn : Nat) : Int) := (Int.natCast_mul mn mn).symm
    refine ⟨_, rfl, ?_⟩
    refine ⟨_, rfl, _, rfl, _, _, rfl, rfl, .inl ⟨by omega, by omega⟩, _, rfl, by omega, by omega, fun Dd hD => ?_⟩
    obtain ⟨Da, Dl⟩ := S3.ne hD
    refine lc_range (n := ((mn : Int) * (mn : Int)).toNat) (fun i H' => StreamAt H' a l (n + 2 + 4 * sz + i) ∧ Keep a l H3 H' ∧ ∃ zs : List Int, H' Dd = some (.lst (zs.map V.int)) ∧ zs.length = i ∧ ∀ z ∈ zs, 0 ≤ z ∧ z < (sz : Int)) ?_ ?_ ?_
    · exact ⟨S3.same (Same.new hD), Keep.of (Same.new hD), [], upd_same, rfl, fun z hz => by cases hz⟩
    · rintro i H4 hi ⟨S4, kp4, zs, hd, hl, hz⟩
      rw [hm] at hi
      refine ⟨rfl, ?_⟩
      dsimp only [tYes]
      rw [if_pos rfl]
      refine ⟨_, rfl, _, rfl, a, l, _, _, rfl, S4, by omega, by omega, e24 (by omega) (by omega), fun r H5 r0 r1 S5 kp5 => ?_⟩
      have hd5 := kp5 _ _ Da Dl hd
      refine ⟨_, hd5, ?_, ?_, ?_, zs ++ [r], ?_, ?_, ?_⟩
      · rw [List.length_map, hl]
        exact Nat.lt_of_lt_of_le (Nat.lt_of_lt_of_le hi hmm) (by decide)
      · exact S5.lst hd5 Da Dl
      · intro c o ca cl e
        rw [upd_ne (ne_of_none e hD)]
        exact kp5 _ _ ca cl (kp4 _ _ ca cl e)
      · rw [upd_same, List.map_append]
        rfl
      · rw [List.length_append, hl]
        rfl
      · intro z hz'
        rcases List.mem_append.mp hz' with hz' | hz'
        · exact hz z hz'
        · cases List.mem_singleton.mp hz'
          exact ⟨r0, r1⟩
    · rintro H4 ⟨S4, kp4, zs, hd, hl, hz⟩
      rw [hm] at hl S4
      refine ⟨_, rfl, by show 3 ≤ sizeLine; decide, fun tp htp => ?_⟩
      have hR4 := kp4 _ _ Ra Rl hR
      have hD0 : H Dd = none := by
        cases e : H Dd with
        | none => rfl
        | some o => have := kp3 Dd o Da Dl e; rw [hD] at this; cases this
      refine kk tp R Dd refs rows zs mn _ _ upd_same (Same.new htp _ _ hR4) ?_ (Same.new htp _ _ hd) ⟨by omega, by omega, ?_, ?_, ?_⟩ (S4.same (Same.new htp)) (by omega) ((kp3.trans kp4).trans (Keep.of (Same.new htp))) Ra Rl Da Dl HR hD0
      · exact (hE.imp fun c r q => q.kp S3 kp4).sameT (Same.new htp)
      · intro r hr
        rw [hlen]
        exact hok r hr
      · rw [hl]
        rcases (by omega : mn = 1 ∨ mn = 2 ∨ mn = 3 ∨ mn = 4) with rfl | rfl | rfl | rfl
        · exact .r1
        · exact .r2
        · exact .r3
        · exact .r4
      · intro z hz'
        rw [hlen]
        exact hz z hz'
end
end PA

set_option maxHeartbeats 4000000
/-! list(text): a new list of its signs -/
namespace ZS
open PySem PySem.Spec PyProof.Rows
section
variable {prog : Program} {w : World} {A : Around} {E : Value → Shared → Prop} {s : Shared}
theorem hint_str {x : Str} {t : Tok} {Q : Bool → Shared → Prop} (h : Q false s) : wpAny (model prog w) A (Builtin.List.listLengthHint (.str x t)) Q E s := by
  have hT : s.TypeIs (.str x t) "str" := typeIs_str s x t
  unfold Builtin.List.listLengthHint
  refine wpAny_bind (wpAny_specialOf hT PySem.F.slot_str_len.lookup ?_)
  generalize hid : ("str.__len__" : String) = id0
  wp_delta
  rw [show splitId id0 = some ("str", "__len__") from by subst hid; decide +kernel]
  subst hid
  refine wpAny_bind (wpAny_isInstance (T := "str") (b := true) hT (by rw [isSubtype_type]; kernel_rfl) ?_)
  refine wpAny_ite_split (fun hab => absurd hab (by decide)) (fun _ => ?_)
  refine wpAny_ite_split (fun _ => ?_) (fun hab => absurd (by decide +kernel) hab)
  refine wpAny_bind (wpAny_typeOf hT ?_)
  exact wpAny_pure h
theorem extend_str {R : Result → Shared → Prop} (hh : A.handled = none) (x : Str) (t : Tok) (S : Addr) (res : Value) (c₀ : Nat) (hS : s.heap.get? S = some { cls := .type "list", data := .seq #[] c₀ })
    (hR : ∀ h' tk acc' c', (∀ b o, b ≠ S → s.heap.get? b = some o → h'.get? b = some o) → h'.get? S = some { cls := .type "list", dict := none, data := .seq acc' c', slots := #[] } →
      ItemsOf (SignAt x) acc' x.cps.size → R (.ok (.ret res)) { s with heap := h', toks := tk }) (hn : x.cps.size ≤ sizeLine) :
    wpAny (model prog w) A.in1 (Builtin.List.listExtendWith (.ref S) (.str x t) res)
      (fun fin s' => match fin with | .done f => R (.ok f) s' | .again c' => c'.quiet = true ∧ codeAny (model prog w) A c' R s') (fun e s' => R (.error e) s') s := by
  have hSI : S ≠ s.heap.objs.size := Nat.ne_of_lt (Heap.lt_size hS)
  have hSf : S ∉ [s.heap.objs.size] := fun hm => hSI (List.mem_singleton.mp hm)
  unfold Builtin.List.listExtendWith
  refine wpAny_bind (wpAny_typeOf (T := "str") (v := .str x t) (typeIs_str s x t) ?_)
  have h1 : Builtin.List.listSameRef (.ref S) (.str x t) = false := rfl
  have h2 : (Value.type "str" == Value.type "list") = false := by decide
  have h3 : (Value.type "str" == Value.type "tuple") = false := by decide
  simp only [h1, h2, h3, Bool.or_false, Bool.false_eq_true, if_false]
  refine wpAny_bind ?_
  cases ha : x.cps.all (· < 128)
  · refine wpAny_pyIter_wide ha ?_
    refine wpAny_bind (wpAny_holding (hint_str ?_))
    rw [if_neg (by first | decide | decide +kernel)]
    have W := Walks.strWide (prog := prog) (w := w) (A := A.in1) hh s.heap.objs.size x t
    have hst : (s.heap.push { cls := .type "str_iterator", data := .fields #[.str x t, .int 0 0] }).IsStrIter s.heap.objs.size "str_iterator" x t 0 := ⟨_, Heap.get?_push_size _ rfl, rfl, rfl⟩
    refine wpAny_pure ⟨plainId_quiet PySem.F.plain_extend_loop _, codeAny_extend_loopS W.toS hn _ hSf _ x.cps.size 0 _ _ _ rfl (Nat.zero_le _) hst (Heap.get?_push_of_some _ hS) (ItemsOf.nil _) fun s' acc' c' hm hS' hacc => ?_⟩
    rw [Moved.eq_with hm]
    refine hR s'.heap s'.toks acc' c' (fun b ob hb e => hm.heap b ob (fun hmem => ?_) (Heap.get?_push_of_some _ e)) hS' hacc
    rcases List.mem_cons.mp hmem with e' | hmem
    · exact hb e'
    · exact absurd (Heap.lt_size e) (by rw [List.mem_singleton.mp hmem]; exact Nat.lt_irrefl _)
  · refine wpAny_pyIter_ascii ha ?_
    refine wpAny_bind (wpAny_holding (hint_str ?_))
    rw [if_neg (by first | decide | decide +kernel)]
    have W := Walks.strAscii (prog := prog) (w := w) (A := A.in1) hh s.heap.objs.size x t
    have hst : (s.heap.push { cls := .type "str_ascii_iterator", data := .fields #[.str x t, .int 0 0] }).IsStrIter s.heap.objs.size "str_ascii_iterator" x t 0 := ⟨_, Heap.get?_push_size _ rfl, rfl, rfl⟩
    refine wpAny_pure ⟨plainId_quiet PySem.F.plain_extend_loop _, codeAny_extend_loopS W.toS hn _ hSf _ x.cps.size 0 _ _ _ rfl (Nat.zero_le _) hst (Heap.get?_push_of_some _ hS) (ItemsOf.nil _) fun s' acc' c' hm hS' hacc => ?_⟩
    rw [Moved.eq_with hm]
    refine hR s'.heap s'.toks acc' c' (fun b ob hb e => hm.heap b ob (fun hmem => ?_) (Heap.get?_push_of_some _ e)) hS' hacc
    rcases List.mem_cons.mp hmem with e' | hmem
    · exact hb e'
    · exact absurd (Heap.lt_size e) (by rw [List.mem_singleton.mp hmem]; exact Nat.lt_irrefl _)
theorem list_init_str {R : Result → Shared → Prop} (hh : A.handled = none) (x : Str) (t : Tok) (S : Addr) (hS : s.heap.get? S = some { cls := .type "list", data := .seq #[] })
    (hR : ∀ h' tk acc' c', (∀ b o, b ≠ S → s.heap.get? b = some o → h'.get? b = some o) → h'.get? S = some { cls := .type "list", dict := none, data := .seq acc' c', slots := #[] } →
      ItemsOf (SignAt x) acc' x.cps.size → R (.ok (.ret .none)) { s with heap := h', toks := tk }) (hn : x.cps.size ≤ sizeLine) :
    wpAny (model prog w) A.in1 (Builtin.«list.__init__» ⟨[.ref S, .str x t], []⟩)
      (fun fin s' => match fin with | .done f => R (.ok f) s' | .again c' => c'.quiet = true ∧ codeAny (model prog w) A c' R s') (fun e s' => R (.error e) s') s := by
  show wpAny _ _ (do let old ← Builtin.List.listItems (.ref S); Builtin.List.listUpdate (.ref S) (fun _ => #[]); letGo old.toList.reverse; Builtin.List.listExtendWith (.ref S) (.str x t) .none) _ _ s
  refine wpAny_bind ?_
  unfold Builtin.List.listItems
  refine wpAny_bind (wpAny_seqItems hS rfl (wpAny_pure ?_))
  show wpAny _ _ (updateSeq S (fun _ => #[]) >>= fun _ => letGo (#[] : Array Value).toList.reverse >>= fun _ => Builtin.List.listExtendWith (.ref S) (.str x t) .none) _ _ s
  refine wpAny_bind (wpAny_updateSeq hS rfl ?_)
  have hS₂ := Heap.get?_update_self (Obj.mapSeq (fun _ => (#[] : Array Value))) hS rfl
  have oth : ∀ b o, b ≠ S → s.heap.get? b = some o → (s.heap.update S (Obj.mapSeq (fun _ => (#[] : Array Value)))).get? b = some o :=
    fun b o hb e => (Heap.get?_update_other _ _ (Ne.symm hb)).trans e
  refine wpAny_bind (wpAny_letGo ?_)
  refine extend_str hh x t S .none _ hS₂ (fun h' tk acc' c' hk hS' hacc => ?_) hn
  exact hR h' tk acc' c' (fun b o hb e => hk b o hb (oth b o hb e)) hS' hacc
theorem call_list_strW {x : Str} {t : Tok} {Q : Value → Shared → Prop} (hh : A.handled = none) (hn : x.cps.size ≤ sizeLine)
    (hQ : ∀ h' tk acc' c', (∀ b o, s.heap.get? b = some o → h'.get? b = some o) →
      h'.get? s.heap.objs.size = some { cls := .type "list", dict := none, data := .seq acc' c', slots := #[] } → ItemsOf (SignAt x) acc' x.cps.size → Q (.ref s.heap.objs.size) { s with heap := h', toks := tk }) :
    wpAny (model prog w) A (call (.type "list") [.str x t]) Q E s := by
  refine callType_codes (Q₁ := fun obj s₁ => obj = .ref s.heap.objs.size ∧ s₁ = { s with heap := s.heap.push { cls := .type "list", data := .seq #[] } }) PySem.F.called_list (PySem.F.typeCall_list_1 _) PySem.F.entry_list_init
    (code_list_new _ ⟨rfl, rfl⟩) fun obj s₁ h₁ => ?_
  obtain ⟨rfl, rfl⟩ := h₁
  have hS : (s.heap.push { cls := .type "list", data := .seq #[] }).get? s.heap.objs.size = some { cls := .type "list", data := .seq #[] } := Heap.get?_push_size _ rfl
  refine ⟨⟨_, hS, rfl⟩, PySem.F.args_list_init_2 _ _, list_init_str (A := A.in1) hh x t _ hS (fun h' tk acc' c' hk hS' hacc => ?_) hn⟩
  exact ⟨rfl, hQ h' tk acc' c' (fun b o e => hk b o (Nat.ne_of_lt (Heap.lt_size e)) (Heap.get?_push_of_some _ e)) hS' hacc⟩
end
end ZS
namespace L2
open PySem PySem.Spec PyProof.Rows
/-- the signs of a text -/
def signs (x : Str) : List Str := x.cps.toList.map fun c => ⟨#[c]⟩
theorem call_list_str {X : Cx} (hc : X.calm = true) : CallR X (.type "list") (fun xs H Q => ∃ x : Str, xs = [.str x] ∧ x.length ≤ sizeLine ∧ ∀ q, H q = none → Q (.ref q) (upd H q (.lst ((signs x).map V.str)))) := by
  intro pins s σ H xs us Q I r h
  obtain ⟨x, rfl, hz, q⟩ := h
  cases r with
  | cons rx rr =>
    cases rr
    obtain ⟨t, rfl⟩ := rx
    refine ZS.call_list_strW (I.ok.hd hc) hz fun h' tk acc c' hk e hi => ?_
    have hl : x.cps.toList.length = x.cps.size := by simp
    refine ⟨.ref s.heap.objs.size, upd H s.heap.objs.size (.lst ((signs x).map V.str)), I.laid hk (Nat.le_refl _) ⟨by unfold signs; rw [List.length_map, List.length_map, hl]; exact hz, acc.toList, c', ?_, by rw [Array.toArray_toList]; exact e⟩, rfl, q _ (I.hok.fresh (Nat.le_refl _))⟩
    refine vals_of_idx _ _ (by unfold signs; rw [List.length_map, List.length_map, hl, Array.length_toList]; exact hi.1) fun j u hj => ?_
    obtain ⟨c, t', hcx, rfl⟩ := hi.2 j u (by rw [← Array.getElem?_toList]; exact hj)
    exact ⟨.str ⟨#[c]⟩, by unfold signs; rw [List.getElem?_map, List.getElem?_map, Array.getElem?_toList, hcx]; rfl, ⟨_, rfl⟩⟩
end L2

set_option maxHeartbeats 4000000
namespace PA.CL
open PySem L2 RZ
open C8 (pss_cut tCut)
open PA (sIsInt sBelow)
open TC (Lc LOk GoodL verds)
open TS (rdW)
abbrev sInit : Stmt := inClass (top 36) 0
abbrev sCheck : Stmt := top 37
abbrev sIsRow : Stmt := top 38
abbrev sClaim : Stmt := top 73
/-! ### cells: what stands in a table, right or wrong -/
inductive Cell (H : Hp) : V → Prop
  | int (i : Int) : Cell H (.int i)
  | bl (b : Bool) : Cell H (.bl b)
  | non : Cell H .non
  | str (s : Str) : Cell H (.str s)
  | ti {a : Addr} {i : Int} (h : H a = some (.tup [.int i])) : Cell H (.ref a)
  | ts {a : Addr} {s : Str} (h : H a = some (.tup [.str s])) (hs : PyData.strOk s = true) : Cell H (.ref a)
theorem Cell.kin {H H' : Hp} {v : V} (c : Cell H v) (k : ∀ c xs, H c = some (.tup xs) → H' c = some (.tup xs)) : Cell H' v := by
  cases c with
  | int i => exact .int i
  | bl b => exact .bl b
  | non => exact .non
  | str s => exact .str s
  | ti h => exact .ti (k _ _ h)
  | ts h hs => exact .ts (k _ _ h) hs
def isI : V → Bool
  | .int _ => true
  | _ => false
def isB : V → Bool
  | .bl _ => true
  | _ => false
def below (n : Nat) : V → Bool
  | .int i => decide (0 ≤ i) && decide (i < (n : Int))
  | _ => false
def vOk : V → Bool
  | .str s => decide (s ∈ verds)
  | _ => false
def rowOk (n : Nat) : List V → Bool
  | [a, b, v] => below n a && (below n b && vOk v)
  | _ => false
theorem row_len {n : Nat} {xs : List V} (h : xs.length ≠ 3) : rowOk n xs = false := by
  match xs, h with
  | [], _ => rfl
  | [_], _ => rfl
  | [_, _], _ => rfl
  | [_, _, _], h => exact absurd rfl h
  | _ :: _ :: _ :: _ :: _, _ => rfl
def tabOk (rows : List (List V)) : Bool := (decide (1 ≤ rows.length) && decide (rows.length ≤ 48)) && rows.all (rowOk rows.length)
theorem Cell.ty {K : PySem.W.Frag} {H : Hp} {v : V} (c : Cell H v) : ∃ t, TyX K H v (.type t) ∧ PySem.W.kitOne K (.type t) (.type "int") = some (isI v || isB v) ∧ PySem.W.kitOne K (.type t) (.type "bool") = some (isB v) := by
  cases c with
  | int i => exact ⟨"int", .base (.int i), kit_ty (b := "int") (r := true) (by decide +kernel), kit_ty (b := "bool") (r := false) (by decide +kernel)⟩
  | bl b => exact ⟨"bool", .base (.bl b), kit_ty (b := "int") (r := true) (by decide +kernel), kit_ty (b := "bool") (r := true) (by decide +kernel)⟩
  | non => exact ⟨"NoneType", .base .non, kit_ty (b := "int") (r := false) (by decide +kernel), kit_ty (b := "bool") (r := false) (by decide +kernel)⟩
  | str s => exact ⟨"str", .base (.str s), kit_ty (b := "int") (r := false) (by decide +kernel), kit_ty (b := "bool") (r := false) (by decide +kernel)⟩
  | ti h => exact ⟨"tuple", .base (.tup h), kit_ty (b := "int") (r := false) (by decide +kernel), kit_ty (b := "bool") (r := false) (by decide +kernel)⟩
  | ts h hs => exact ⟨"tuple", .base (.tup h), kit_ty (b := "int") (r := false) (by decide +kernel), kit_ty (b := "bool") (r := false) (by decide +kernel)⟩
/-! ### a verdict among the four -/
theorem eqv_strs (x : Str) (xs : List Str) : ((xs.map PyData.str).any fun z => PyData.eqv z (.str x)) = decide (x ∈ xs) := by
  induction xs with
  | nil => simp
  | cons y ys ih =>
    rw [List.map_cons, List.any_cons, ih]
    have e : PyData.eqv (.str y) (.str x) = decide (x = y) := by
      show (y == x) = _
      rw [Bool.eq_iff_iff, decide_eq_true_eq, beq_iff_eq]
      exact ⟨fun h => h.symm, fun h => h.symm⟩
    rw [e]
    by_cases h : x = y
    · simp [h]
    · simp [h]
theorem eqv_no {d : PyData} (h : ∀ x, PyData.eqv (.str x) d = false) (xs : List Str) : ((xs.map PyData.str).any fun z => PyData.eqv z d) = false := by
  rw [List.any_eq_false]
  intro z hz
  obtain ⟨x, _, rfl⟩ := List.mem_map.mp hz
  rw [h x]
  decide
theorem eqV_strs (a b : Str) : eqV (.str a) (.str b) = decide (a = b) := by
  show (a == b) = decide (a = b)
  rw [Bool.eq_iff_iff]
  simp
abbrev tx (ss : List Str) : List V := ss.map V.str
theorem inV_tx (s : Str) (ss : List Str) : inV (.str s) (tx ss) = decide (s ∈ ss) := by
  unfold inV
  rw [Bool.eq_iff_iff, List.any_eq_true]
  simp only [decide_eq_true_eq]
  constructor
  · rintro ⟨x, hx, e⟩
    obtain ⟨z, hz, rfl⟩ := List.mem_map.mp hx
    rw [eqV_strs, decide_eq_true_eq] at e
    rw [← e]
    exact hz
  · intro h
    exact ⟨.str s, List.mem_map.mpr ⟨s, h, rfl⟩, by rw [eqV_strs, decide_eq_true_eq]⟩
theorem tx_flat (ss : List Str) : (tx ss).all flatV = true := by
  rw [List.all_eq_true]
  intro x hx
  obtain ⟨z, _, rfl⟩ := List.mem_map.mp hx
  rfl
theorem inV_no {v : V} (h : ∀ x : Str, eqV (.str x) v = false) (ss : List Str) : inV v (tx ss) = false := by
  unfold inV
  rw [List.any_eq_false]
  intro z hz
  obtain ⟨x, _, rfl⟩ := List.mem_map.mp hz
  rw [h x]
  decide
/-- a cell is a flat value that is in the verdicts or not, or data -/
theorem Cell.dp {K : PySem.W.Frag} {H : Hp} {v : V} (c : Cell H v) : (flatV v = true ∧ inV v (tx verds) = vOk v) ∨ ∃ d, Dp K H v d ∧ d.canLay0 = true ∧ d.depth ≤ 10 ∧ ((verds.map PyData.str).any fun z => PyData.eqv z d) = vOk v := by
  cases c with
  | int i => exact .inl ⟨rfl, inV_no (fun x => rfl) _⟩
  | bl b => exact .inl ⟨rfl, inV_no (fun x => rfl) _⟩
  | non => exact .inl ⟨rfl, inV_no (fun x => rfl) _⟩
  | str s => exact .inl ⟨rfl, inV_tx s _⟩
  | ti h => exact .inr ⟨.tuple [.int _], .tup (SqT.of h) (.cons (.int _) .nil), by simp [PyData.canLay0, PyData.canLayAll0], by simp [PyData.depth, PyData.depthAll], eqv_no (fun x => by simp [PyData.eqv]) _⟩
  | ts h hs => exact .inr ⟨.tuple [.str _], .tup (SqT.of h) (.cons (.str _) .nil), by simp [PyData.canLay0, PyData.canLayAll0, hs], by simp [PyData.depth, PyData.depthAll], eqv_no (fun x => by simp [PyData.eqv]) _⟩
theorem OpR.or {X : Cx} {op : Value → Value → Sem Value} {r r' : R2} (h : OpR X op r) (h' : OpR X op r') : OpR X op (fun x y H Q => r x y H Q ∨ r' x y H Q) := by
  intro pins s σ H x y v u Q I rx ry q
  rcases q with q | q
  · exact h pins s σ H x y v u Q I rx ry q
  · exact h' pins s σ H x y v u Q I rx ry q
theorem verds_dp {K : PySem.W.Frag} {H : Hp} : ∀ xs : List Str, DpAll K H (xs.map V.str) (xs.map PyData.str)
  | [] => .nil
  | x :: xs => .cons (.str x) (verds_dp xs)
def rInDT (K : PySem.W.Frag) : R2 := fun x y H Q => ∃ d ds, Dp K H x d ∧ Dp K H y (.tuple ds) ∧ d.canLay0 = true ∧ PyData.canLayAll0 ds = true ∧ d.depth ≤ 10 ∧ Q (.bl (ds.any fun z => PyData.eqv z d)) H
theorem op_inDT {X : Cx} (hu : X.A.units + 64 < cLine) : OpR X (compareOp .In) (rInDT X.K) := by
  intro pins s σ H x y v u Q I rx ry h
  obtain ⟨d, ds, hd, he, sd, se, hp, q⟩ := h
  obtain ⟨as, r1⟩ := Dp.reads I d x v hd rx
  obtain ⟨bs, r2⟩ := Dp.reads I (.tuple ds) y u he ry
  exact SeqAt.in_tuple_reads r2 r1 se sd (by omega) ⟨.bl _, H, I, rfl, q⟩
/-! ### data: lines -/
def ev : Option Nat → V
  | none => .non
  | some n => .int (n : Int)
def lv (l : Lc) : List V := [.int (l.1 : Int), .int (l.2.1 : Int), .str l.2.2]
abbrev isLn : Hp → Addr → Lc → Prop := TupOf lv
theorem cell_ev {H : Hp} (o : Option Nat) : Cell H (ev o) := by
  cases o with
  | none => exact .non
  | some n => exact .int n
theorem cell_lv {H : Hp} {l : Lc} : ∀ x ∈ lv l, Cell H x := fun x hx => by
  simp only [lv, List.mem_cons, List.not_mem_nil, or_false] at hx
  rcases hx with rfl | rfl | rfl
  · exact .int _
  · exact .int _
  · exact .str _
theorem below_nat {n m : Nat} : below n (.int (m : Int)) = true ↔ m < n := by
  show (decide ((0 : Int) ≤ (m : Int)) && decide ((m : Int) < (n : Int))) = true ↔ _
  rw [Bool.and_eq_true, decide_eq_true_eq, decide_eq_true_eq]
  exact ⟨fun h => by omega, fun h => ⟨by omega, by omega⟩⟩
theorem row_lv {n : Nat} {l : Lc} : rowOk n (lv l) = true ↔ LOk n l := by
  show (below n (.int (l.1 : Int)) && (below n (.int (l.2.1 : Int)) && decide (l.2.2 ∈ verds))) = true ↔ _
  rw [Bool.and_eq_true, Bool.and_eq_true, below_nat, below_nat, decide_eq_true_eq]
  exact Iff.rfl
theorem tab_lv {ls : List Lc} : tabOk (ls.map lv) = true ↔ GoodL ls := by
  unfold tabOk
  rw [List.length_map, Bool.and_eq_true, Bool.and_eq_true, decide_eq_true_eq, decide_eq_true_eq, List.all_eq_true]
  constructor
  · rintro ⟨⟨h1, h2⟩, h3⟩
    exact ⟨h1, h2, fun l hl => row_lv.mp (h3 _ (List.mem_map.mpr ⟨l, hl, rfl⟩))⟩
  · rintro ⟨h1, h2, h3⟩
    refine ⟨⟨h1, h2⟩, fun x hx => ?_⟩
    obtain ⟨l, hl, rfl⟩ := List.mem_map.mp hx
    exact row_lv.mpr (h3 l hl)
structure Txt (K : PySem.W.Frag) (mg : Str → Option Value) : Prop where
  isi : mg "isinstance" = none
  int_ : mg "int" = none
  bool_ : mg "bool" = none
  list_ : mg "list" = none
  tup_ : mg "tuple" = none
  str_ : mg "str" = none
  len_ : mg "len" = none
  all_ : mg "all" = none
  zip_ : mg "zip" = none
  range_ : mg "range" = none
  max_ : mg "max" = none
  most : ∃ t, mg "MOST_ROWS" = some (.int 48 t)
  verd : ∃ d, mg "VERDICTS" = some (.ref d) ∧ ∀ H, SqT K H d (verds.map V.str)
/-- an error class X, caught as P -/
structure TxtX (K : PySem.W.Frag) (mg : Str → Option Value) (X P : Addr) : Prop where
  x : PySem.W.excIn K X [.type "ValueError", .type "Exception", .type "BaseException", .type "object"] "ValueError.__new__" = true
  g : mg "InvalidClaim" = some (.ref X)
  k : PySem.W.keepIn K (.ref X) = true
  b : PySem.W.subIn K (.ref X) (.type "BaseException") = some true
  t : PySem.W.typeIn K (.ref X) = some (.type "type")
  gP : mg "PairError" = some (.ref P)
  e : PySem.W.exmOne K (.ref X) (.ref P) = some true
  ex : PySem.W.exmOne K (.ref X) (.ref X) = some true
/-! ### promises -/
def spIsInt : Sp := fun vs H Q _ => ∃ v, vs = [v] ∧ Cell H v ∧ Q (.bl (isI v)) H
def spBelow : Sp := fun vs H Q _ => ∃ (v : V) (n : Nat), vs = [v, .int (n : Int)] ∧ Cell H v ∧ Q (.bl (below n v)) H
def spIsRow : Sp := fun vs H Q _ => ∃ (p : Addr) (xs : List V) (n : Nat), vs = [.ref p, .int (n : Int)] ∧ H p = some (.tup xs) ∧ (∀ x ∈ xs, Cell H x) ∧ ∀ H', Same H H' → Q (.bl (rowOk n xs)) H'
section
variable {P : Program} {w : World} {K : PySem.W.Frag} {mg : Str → Option Value} {base : Heap} {C : Addr}
theorem scIsInt : FnScope ["value"] ["value"] (defScope sIsInt) := ⟨rfl, rfl, rfl, by decide +kernel, rfl, by decide +kernel, by decide +kernel⟩
theorem ok_isInt {f : Addr} {fd : FuncData} (F : Fun K "is_integer" "is_integer" sIsInt f fd) (T : Txt K mg) : FnOk P w K mg base CX0 1 f fd ["value"] spIsInt := by
  refine F.ok scIsInt (fun vs H Q E h => ?_) (fun cdv A outer s H vs Q E hr h => ?_)
  · obtain ⟨i, rfl, _⟩ := h
    rfl
  · obtain ⟨v, rfl, hc, k⟩ := h
    refine ⟨_, pss_one (ps_ret (pe_and (pe_callB call_isi (by rfl) T.isi boot_isi (pa_cons (pv 0) (pa_cons (pe_bltn (v := .ty "int") (by rfl) T.int_ boot_int' rfl) pa_nil)))
      (pe_one (pe_not (pe_callB call_isi (by rfl) T.isi boot_isi (pa_cons (pv 0) (pa_cons (pe_bltn (v := .ty "bool") (by rfl) T.bool_ boot_bool' rfl) pa_nil))))))), ?_⟩
    obtain ⟨t, ht, k1, k2⟩ := hc.ty (K := K)
    refine ⟨_, rfl, _, _, _, _, _, rfl, .ty _, ht, k1, _, rfl, ?_⟩
    cases v with
    | int i => exact iteT ⟨_, rfl, _, _, _, _, _, rfl, .ty _, ht, k2, _, rfl, k⟩
    | bl b => exact iteT ⟨_, rfl, _, _, _, _, _, rfl, .ty _, ht, k2, _, rfl, k⟩
    | _ => exact iteF k
theorem scBelow : FnScope ["value", "count"] ["value", "count"] (defScope sBelow) := ⟨rfl, rfl, rfl, by decide +kernel, rfl, by decide +kernel, by decide +kernel⟩
theorem ok_below {f g : Addr} {fd gd : FuncData} (F : Fun K "is_below" "is_below" sBelow f fd) (T : Txt K mg) (D : Df K mg "is_integer" sIsInt g gd ["value"]) : FnOk P w K mg base CX0 2 f fd ["value", "count"] spBelow := by
  have G : FnOk P w K mg base CX0 1 g gd ["value"] spIsInt := ok_isInt D.F T
  refine F.ok scBelow (fun vs H Q E h => ?_) (fun cdv A outer s H vs Q E hr h => ?_)
  · obtain ⟨v, c, rfl, _⟩ := h
    rfl
  · obtain ⟨v, n, rfl, hc, k⟩ := h
    refine ⟨_, pss_one (ps_ret (pe_and (pe_call G hr rfl D.M D.F.kp D.B .nil pass0 (pa_cons (pv 0) pa_nil)) (pe_one (pe_chain op_le op_lt pe_int (pv 0) (pv 1))))), ?_⟩
    refine ⟨_, rfl, v, rfl, hc, _, rfl, ?_⟩
    cases v with
    | int i =>
      refine iteT ⟨_, rfl, _, _, rfl, rfl, _, rfl, ifD_2 (fun h0 => ⟨_, rfl, _, _, rfl, rfl, ?_⟩) fun h0 => ?_⟩
      · show Q (V.bl (decide (i < (n : Int)))) H
        have e : below n (.int i) = decide (i < (n : Int)) := by show (decide (0 ≤ i) && decide (i < (n : Int))) = _; rw [decide_eq_true h0, Bool.true_and]
        rw [← e]
        exact k
      · have e : below n (.int i) = false := by show (decide (0 ≤ i) && decide (i < (n : Int))) = _; rw [decide_eq_false h0, Bool.false_and]
        rw [e] at k
        exact k
    | _ => exact iteF k
theorem scIsRow : FnScope ["row", "count"] ["row", "count"] (defScope sIsRow) := ⟨rfl, rfl, rfl, by decide +kernel, rfl, by decide +kernel, by decide +kernel⟩
theorem ok_isRow {f g1 g2 : Addr} {fd gd1 gd2 : FuncData} (F : Fun K "_is_row" "_is_row" sIsRow f fd) (T : Txt K mg) (D1 : Df K mg "is_integer" sIsInt g1 gd1 ["value"]) (D2 : Df K mg "is_below" sBelow g2 gd2 ["value", "count"]) : FnOk P w K mg base CX0 3 f fd ["row", "count"] spIsRow := by
  have G2 : FnOk P w K mg base CX0 2 g2 gd2 ["value", "count"] spBelow := ok_below D2.F T D1
  obtain ⟨VD, hVD, hvd⟩ := T.verd
  refine F.ok scIsRow (fun vs H Q E h => ?_) (fun cdv A outer s H vs Q E hr h => ?_)
  · obtain ⟨p, _, _, rfl, _⟩ := h
    rfl
  · obtain ⟨p, xs, n, rfl, hp, hc, kk⟩ := h
    refine ⟨_, pss_one (ps_ret (pe_and (pe_cmpR op_eq (pe_callB call_len_seq (by rfl) T.len_ PySem.boot_len (pa_cons (pv 0) pa_nil)) pe_int (nomark _))
      (pe_and (pe_call G2 hr rfl D2.M D2.F.kp D2.B .nil pass0 (pa_cons (pe_ix ix_tup (pv 0) pe_int (fun _ _ => rfl)) (pa_cons (pv 1) pa_nil)))
      (pe_and (pe_call G2 hr rfl D2.M D2.F.kp D2.B .nil pass0 (pa_cons (pe_ix ix_tup (pv 0) pe_int (fun _ _ => rfl)) (pa_cons (pv 1) pa_nil)))
      (pe_one (pe_cmpR (OpR.or op_in_seq (op_inDT hr.units)) (pe_ix ix_tup (pv 0) pe_int (fun _ _ => rfl)) (pe_glob (v := .ref VD) rfl hVD rfl) rfl)))))), ?_⟩
    refine ⟨_, rfl, p, _, rfl, .inr (SqT.of hp), rfl, _, rfl, ?_⟩
    by_cases h3 : xs.length = 3
    rotate_left
    · rw [row_len h3] at kk
      refine ifD_no (by intro z; injection z with z; exact h3 (by omega)) ?_
      exact kk H fun _ _ e => e
    obtain ⟨a, b, v, rfl⟩ : ∃ a b v, xs = [a, b, v] := by
      match xs, h3 with
      | [a, b, v], _ => exact ⟨a, b, v, rfl⟩
    have ca := hc a (by simp)
    have cb := hc b (by simp)
    have cv := hc v (by simp)
    have kk : ∀ H', Same H H' → Q (V.bl (below n a && (below n b && vOk v))) H' := kk
    refine ifD_yes rfl ?_
    refine ⟨_, rfl, p, _, 0, _, rfl, rfl, SqT.of hp, rfl, _, rfl, a, n, rfl, ca, _, rfl, ?_⟩
    cases ea : below n a with
    | false =>
      rw [ea] at kk
      exact iteF (kk H fun _ _ e => e)
    | true =>
    rw [ea] at kk
    refine iteT ⟨_, rfl, p, _, 1, _, rfl, rfl, SqT.of hp, rfl, _, rfl, b, n, rfl, cb, _, rfl, ?_⟩
    cases eb : below n b with
    | false =>
      rw [eb] at kk
      exact iteF (kk H fun _ _ e => e)
    | true =>
    rw [eb] at kk
    have vl : PyData.canLayAll0 (verds.map PyData.str) = true := by
      have e1 : PyData.strOk (Str.ofString "none") = true := by decide +kernel
      have e2 : PyData.strOk (Str.ofString "last") = true := by decide +kernel
      have e3 : PyData.strOk (Str.ofString "other") = true := by decide +kernel
      have e4 : PyData.strOk (Str.ofString "free") = true := by decide +kernel
      unfold verds
      simp [PyData.canLayAll0, PyData.canLay0, e1, e2, e3, e4]
    refine iteT ⟨_, rfl, p, _, 2, _, rfl, rfl, SqT.of hp, rfl, ?_⟩
    rcases cv.dp (K := K) with ⟨f1, f2⟩ | ⟨d, hd, l1, l2, l3⟩
    · refine .inl ⟨VD, tx verds, rfl, .inr (hvd H), f1, tx_flat _, ?_⟩
      show Q (V.bl (inV v (tx verds))) H
      rw [f2]
      exact kk H fun _ _ e => e
    · refine .inr ⟨d, verds.map PyData.str, hd, .tup (hvd H) (verds_dp verds), l1, vl, l2, ?_⟩
      rw [l3]
      exact kk H fun _ _ e => e
end
end PA.CL

set_option maxHeartbeats 4000000
namespace PA.CL
open PySem L2 RZ
open C8 (pss_cut tCut)
open TC (Lc LOk GoodL verds)
abbrev isC : Hp → Addr → List V → Prop := TupOf id
/-- a tuple or a list at c of the cells -/
def TLc (H : Hp) (c : Addr) (r : List V) : Prop := H c = some (.tup r) ∨ H c = some (.lst r)
def rsf (T : Addr) : List (Str × V) := putF "rows" (.ref T) []
theorem rsf_rows (T : Addr) : (rsf T).lookup ("rows" : Str) = some (.ref T) := by
  unfold rsf
  rw [lookup_putF, if_pos rfl]
theorem rsf_no (T : Addr) {m : Str} (h1 : ¬ m = "rows") : (rsf T).lookup m = none := by
  unfold rsf
  rw [lookup_putF, if_neg h1]
  all_goals rfl
/-- a Claim of these rows stands at p -/
def RowsAt (C : Addr) (H : Hp) (p : Addr) (rows : List (List V)) : Prop := ∃ dx T refs, H p = some (.ins C dx (rsf T)) ∧ H T = some (.tup refs) ∧ Ea H isC refs rows
/-- what the class Claim is, and Found -/
structure TxtC (K : PySem.W.Frag) (mg : Str → Option Value) (C Fo : Addr) : Prop where
  cl : Cls K C
  nR : NoAttr K C "rows"
  mgC : mg "Claim" = some (.ref C)
  mgF : mg "Found" = some (.ref Fo)
  kl : PySem.W.kitOne K (.type "list") (.ref Fo) = some false
  kt : PySem.W.kitOne K (.type "tuple") (.ref Fo) = some false
def spCheck (X : Addr) : Sp := fun vs H Q E => ∃ (R : Addr) (refs : List V) (rows : List (List V)), vs = [.ref R] ∧ H R = some (.tup refs) ∧ Ea H isC refs rows ∧ rows.length ≤ 9000 ∧ (∀ r ∈ rows, ∀ x ∈ r, Cell H x) ∧
  (tabOk rows = true → ∀ H', Same H H' → Q .non H') ∧ (tabOk rows = false → ∀ H', Same H H' → E (.ref X) none H')
def spInit (C X : Addr) : Sp := fun vs H Q E => ∃ (p dx L : Addr) (refs : List V) (rows : List (List V)), vs = [.ref p, .ref L] ∧ H p = some (.ins C dx []) ∧ (H L = some (.lst refs) ∨ H L = some (.tup refs)) ∧ Ea H TLc refs rows ∧ rows.length ≤ 9000 ∧ (∀ r ∈ rows, ∀ x ∈ r, Cell H x) ∧
  (tabOk rows = true → ∀ H', RowsAt C H' p rows → (∀ c o, H c = some o → c ≠ p → H' c = some o) → Q .non H') ∧
  (tabOk rows = false → ∀ H', (∀ c o, H c = some o → c ≠ p → H' c = some o) → E (.ref X) none H')
section
variable {P : Program} {w : World} {K : PySem.W.Frag} {mg : Str → Option Value} {base : Heap} {C X PE_ Fo : Addr}
theorem scCheck : FnScope ["rows", "row"] ["rows"] (defScope sCheck) := ⟨rfl, rfl, rfl, by decide +kernel, rfl, by decide +kernel, by decide +kernel⟩
theorem ok_check {f g1 g2 g3 : Addr} {fd gd1 gd2 gd3 : FuncData} (F : Fun K "_check_rows" "_check_rows" sCheck f fd) (T : Txt K mg) (TX : TxtX K mg X PE_) (D1 : Df K mg "is_integer" sIsInt g1 gd1 ["value"]) (D2 : Df K mg "is_below" sBelow g2 gd2 ["value", "count"]) (D3 : DfA K mg "is_row_claims" "_is_row" sIsRow g3 gd3 ["row", "count"]) : FnOk P w K mg base (L2.CX P w) 4 f fd ["rows"] (spCheck X) := by
  have G3 : FnOk P w K mg base CX0 3 g3 gd3 ["row", "count"] spIsRow := ok_isRow D3.F T D1 D2
  obtain ⟨tm, hmost⟩ := T.most
  refine F.okX scCheck (fun vs H Q E h => ?_) (fun cdv A outer s H vs Q E hr h => ?_)
  · obtain ⟨R, _, _, rfl, _⟩ := h
    rfl
  · obtain ⟨R, refs, rows, rfl, hR, hE, h60, hcr, kg, kb⟩ := h
    refine ⟨_, pss_cons (ps_if (pt_not (pt_chain op_le op_le pe_int (pe_callB call_len_seq (by rfl) T.len_ PySem.boot_len (pa_cons (pv 0) pa_nil)) (pe_glob (v := .int 48) rfl hmost ⟨_, rfl⟩)))
        (pss_one (ps_raise rfl (takes_of rfl rfl rfl rfl) (pmk_own PySem.F.excBase_ValueError TX.x TX.g TX.k (raises_own TX.b TX.t) (by rfl)))) pss_nil)
      (pss_one (ps_if (pt_not (pt_val (pe_callB (cr_all rfl) (by rfl) T.all_ boot_all' (pa_cons (pe_lc (own := [("row", 1)]) (g := gName 1) (tt := tYes) (by rfl) scCheck.nd (pi_tup (pv 0)) (blkOk_by (N := ["rows", "row"]) (sc := defScope sCheck) (by decide +kernel))
          (fun _ _ _ _ _ => pg_name (i := 1) scCheck.nd rfl (Or.inl rfl)) (fun _ _ _ _ _ => pts_nil)
          (fun _ _ _ _ _ => pe_call G3 hr rfl D3.M D3.F.kp D3.B .nil pass0 (pa_cons (pv 1) (pa_cons (pe_callB (call_lenK (K := K) rfl) (by rfl) T.len_ PySem.boot_len (pa_cons (pv 0) pa_nil)) pa_nil)))) pa_nil))))
        (pss_one (ps_raise rfl (takes_of rfl rfl rfl rfl) (pmk_own PySem.F.excBase_ValueError TX.x TX.g TX.k (raises_own TX.b TX.t) (by rfl)))) pss_nil)), ?_⟩
    have hlr : refs.length = rows.length := hE.1
    refine ⟨_, rfl, ?_⟩
    refine ⟨R, _, rfl, .inr (SqT.of hR), _, _, rfl, rfl, _, rfl, ?_⟩
    rw [hlr]
    by_cases h1 : 1 ≤ rows.length
    rotate_left
    · refine ifD_no (by omega) ?_
      have e1 : tabOk rows = false := by
        unfold tabOk
        rw [decide_eq_false h1]
        simp
      exact ⟨false, rfl, iteT (kb e1 H fun _ _ e => e)⟩
    refine ifD_yes (by omega) ⟨_, _, rfl, rfl, _, rfl, ?_⟩
    by_cases h48 : rows.length ≤ 48
    rotate_left
    · have e1 : tabOk rows = false := by
        unfold tabOk
        rw [decide_eq_false h48]
        simp
      rw [decide_eq_false (by omega)]
      exact iteT (kb e1 H fun _ _ e => e)
    rw [decide_eq_true (by omega)]
    refine iteF ?_
    refine ⟨_, rfl, R, rfl, ⟨_, SqT.of hR⟩, fun Dd hD => ?_⟩
    refine lc_same (xs := refs) (walk_t (K := K) (a := R) (xs := refs)) (by rw [hlr]; exact Nat.le_trans h60 (by decide)) hD (fun H' s' => SqT.of (s' _ _ hR)) ((rows.map (rowOk rows.length)).map V.bl) (by simp [hlr]) (fun i x y H' Φ Ψ hx hy sm k => ?_) fun H1 s1 hd1 => ?_
    · rw [List.getElem?_map, Option.map_eq_some_iff] at hy
      obtain ⟨y, hy, rfl⟩ := hy
      rw [List.getElem?_map, Option.map_eq_some_iff] at hy
      obtain ⟨r, hq, rfl⟩ := hy
      obtain ⟨c, rfl, hc⟩ := hE.2 i x _ hx hq
      refine ⟨rfl, ?_⟩
      dsimp only [tYes]
      rw [if_pos rfl]
      refine ⟨_, rfl, _, rfl, R, _, rfl, .inr (SqT.of (sm _ _ hR)), c, r, rows.length, congrArg (fun z : Nat => [V.ref c, V.int (z : Int)]) hlr, sm _ _ hc, fun z hz => (hcr r (List.mem_of_getElem? hq) z hz).kin fun c xs e => sm _ _ e, k⟩
    refine ⟨Dd, _, rfl, SqL.of hd1, ?_⟩
    have hall : (rows.map (rowOk rows.length)).all id = rows.all (rowOk rows.length) := by
      rw [List.all_map]
      rfl
    rw [hall]
    have etab : tabOk rows = rows.all (rowOk rows.length) := by
      unfold tabOk
      rw [decide_eq_true h1, decide_eq_true h48]
      rfl
    rw [etab] at kg kb
    cases hrow : rows.all (rowOk rows.length) with
    | false => exact ⟨false, rfl, iteT (kb hrow H1 s1)⟩
    | true => exact ⟨true, rfl, iteF (kg hrow H1 s1)⟩
theorem scInit : FnScope ["self", "rows", "row"] ["self", "rows"] (defScope sInit) := ⟨rfl, rfl, rfl, by decide +kernel, rfl, by decide +kernel, by decide +kernel⟩
theorem ok_init {f g1 g2 g3 g4 : Addr} {fd gd1 gd2 gd3 gd4 : FuncData} (F : Fun K "__init__" "Claim.__init__" sInit f fd) (T : Txt K mg) (TC : TxtC K mg C Fo) (TX : TxtX K mg X PE_) (D1 : Df K mg "is_integer" sIsInt g1 gd1 ["value"]) (D2 : Df K mg "is_below" sBelow g2 gd2 ["value", "count"]) (D3 : DfA K mg "is_row_claims" "_is_row" sIsRow g3 gd3 ["row", "count"]) (D4 : Df K mg "_check_rows" sCheck g4 gd4 ["rows"]) :
    FnOk P w K mg base (L2.CX P w) 5 f fd ["self", "rows"] (spInit C X) := by
  have G4 : FnOk P w K mg base (L2.CX P w) 4 g4 gd4 ["rows"] (spCheck X) := ok_check D4.F T TX D1 D2 D3
  refine F.okX scInit (fun vs H Q E h => ?_) (fun cdv A outer s H vs Q E hr h => ?_)
  · obtain ⟨p, dx, L, _, _, rfl, _⟩ := h
    rfl
  · obtain ⟨p, dx, L, refs, rows, rfl, hp, hL, hE, h60, hcr, kg, kb⟩ := h
    refine ⟨_, pss_one (ps_if (pt_val (pe_callB call_isi (by rfl) T.isi boot_isi (pa_cons (pv 1) (pa_cons (pe_glob (v := .ref Fo) rfl TC.mgF rfl) pa_nil)))) pss_never
        (pss_cons (ps_fld (pv 0) (pe_callTy call_tuple_of (by rfl) T.tup_ boot_tuple' (pa_cons (pe_lc (own := [("row", 2)]) (g := gName 2) (tt := tYes) (by rfl) scInit.nd (pi_sq (pv 1)) (blkOk_by (N := ["self", "rows", "row"]) (sc := defScope sInit) (by decide +kernel))
          (fun _ _ _ _ _ => pg_name (i := 2) scInit.nd rfl (Or.inl rfl)) (fun _ _ _ _ _ => pts_nil)
          (fun _ _ _ _ _ => pe_callTy (call_tupleK (K := K) rfl) (by rfl) T.tup_ boot_tuple' (pa_cons (pv 2) pa_nil))) pa_nil)) rfl)
        (pss_one (ps_expr (pe_call (E := E) G4 hr rfl D4.M D4.F.kp D4.B .nil (passes_call (takes_of rfl rfl rfl rfl) (fun _ _ _ _ z => z)) (pa_cons (pe_fld (pv 0) rfl) pa_nil)))))), ?_⟩
    have hlr : refs.length = rows.length := hE.1
    have hsz : refs.length ≤ sizeLine := by rw [hlr]; exact Nat.le_trans h60 (by decide)
    obtain ⟨k, hk, hty⟩ : ∃ k, Sk K k H L refs ∧ ∃ t, TyX K H (.ref L) (.type t) ∧ PySem.W.kitOne K (.type t) (.ref Fo) = some false := by
      rcases hL with hL | hL
      · exact ⟨.l, SqL.of hL, "list", .base (.lst hL), TC.kl⟩
      · exact ⟨.t, SqT.of hL, "tuple", .base (.tup hL), TC.kt⟩
    obtain ⟨t, ht, hkit⟩ := hty
    refine ⟨_, rfl, _, _, _, _, _, rfl, .own Fo, ht, hkit, _, rfl, iteF ?_⟩
    refine ⟨k, _, rfl, L, rfl, ⟨_, hk⟩, fun Dd hD => ?_⟩
    refine lc_acc (xs := refs) (walk_k (k := k)) hsz hD (fun H' s' => hk.up s') (fun i acc H' => Ea H' isC acc (rows.take i)) (fun i acc H' e => by rw [e.1, List.length_take]; omega) (by rw [List.take_zero]; exact Ea.nil) (fun i x H' acc Φ Ψ hi hx sm hd he kf => ?_) fun H1 acc s1 hd he => ?_
    · obtain ⟨c, r, rfl, hl, hc⟩ := hE.at_ hx
      refine ⟨rfl, ?_⟩
      dsimp only [tYes]
      rw [if_pos rfl]
      rcases hc with hc | hc
      · refine ⟨_, rfl, c, _, rfl, .inr ⟨SqT.of (sm _ _ hc), kf _ H' (fun _ _ e => e) hd fun H5 h5 b1 b2 => ?_⟩⟩
        rw [take_succ' hl]
        exact Ea.push (he.imp fun c' r' q => TupOf.but q hd b1) (TupOf.but (f := id) (sm _ _ hc) hd b1)
      · refine ⟨_, rfl, c, _, rfl, .inl ⟨SqL.of (sm _ _ hc), fun q hq => ?_⟩⟩
        have sq := new_ (o := .tup r) hq
        refine kf _ _ sq (sq _ _ hd) fun H5 h5 b1 b2 => ?_
        rw [take_succ' hl]
        exact Ea.push (he.imp fun c' r' z => TupOf.but (f := id) (sq _ _ z) (sq _ _ hd) b1) (TupOf.but (f := id) upd_same (sq _ _ hd) b1)
    · rw [hlr, List.take_length] at he
      refine ⟨Dd, _, rfl, .inl ⟨SqL.of hd, fun l hl => ?_⟩⟩
      have sl := new_ (o := .tup acc) hl
      have hp1 := sl _ _ (s1 _ _ hp)
      refine ⟨_, rfl, p, C, dx, _, rfl, hp1, TC.cl, TC.nR, (by show 0 < 1000; decide), ?_⟩
      have hl1 : ∀ o : HO, (upd (upd H1 l (.tup acc)) p o) l = some (.tup acc) := fun o => by
        rw [upd_ne (ne_of hp1 upd_same (by intro z; cases z)).symm]
        exact upd_same
      have kp : ∀ c o (u : HO), H c = some o → c ≠ p → (upd (upd H1 l (.tup acc)) p u) c = some o := fun c o u e hc => by
        rw [upd_ne hc]
        exact sl _ _ (s1 _ _ e)
      refine ⟨_, rfl, p, C, dx, _, _, rfl, upd_same, TC.cl, TC.nR, rsf_rows l, l, acc, rows, rfl, hl1 _, ?_, h60, fun r hr x hx => (hcr r hr x hx).kin fun c xs e => kp _ _ _ e (ne_of e hp (by intro z; cases z)), fun ok H2 s2 => ?_, fun bad H2 s2 => ?_⟩
      · exact (he.same sl).imp fun c r q => TupOf.ins q hp1
      · refine kg ok H2 ⟨dx, l, acc, s2 _ _ upd_same, s2 _ _ (hl1 _), ?_⟩ fun c o e hc => s2 _ _ (kp _ _ _ e hc)
        exact ((he.same sl).imp fun c r q => TupOf.ins (f := id) q hp1).same s2
      · exact kb bad H2 fun c o e hc => s2 _ _ (kp _ _ _ e hc)
end
end PA.CL

set_option maxHeartbeats 4000000
namespace PA.CL
open PySem L2 RZ
open C8 (pss_cut tCut)
open TC (Lc LOk GoodL verds)
theorem Keep.new {a l : Addr} {H H' : Hp} {p : Addr} {o : HO} (k : Keep a l H H') (hp : H' p = none) : Keep a l H (upd H' p o) := k.trans (Keep.of (new_ hp))
theorem Keep.none {a l : Addr} {H H' : Hp} {p : Addr} (k : Keep a l H H') (pa : p ≠ a) (pl : p ≠ l) (h : H' p = Option.none) : H p = Option.none := by
  cases e : H p with
  | none => rfl
  | some o => rw [k p o pa pl e] at h; cases h
theorem TupOf.kp {α : Type} {f : α → List V} {H H' : Hp} {a l c : Addr} {n : Nat} {r : α} (q : TupOf f H c r) (S : StreamAt H a l n) (k : Keep a l H H') : TupOf f H' c r := by
  obtain ⟨ne, ns, x, z, h1, h2, _⟩ := S
  exact k _ _ (ne_of (H := H) q h1 (by intro z; cases z)) (ne_of (H := H) q h2 (by intro z; cases z)) q
theorem EaKp {α : Type} {f : α → List V} {H H' : Hp} {a l : Addr} {n : Nat} {xs : List V} {ds : List α} (e : Ea H (TupOf f) xs ds) (S : StreamAt H a l n) (k : Keep a l H H') : Ea H' (TupOf f) xs ds := e.imp fun c r q => TupOf.kp (f := f) q S k
theorem keep_upd {a l D : Addr} {H H' : Hp} {o : HO} (k : Keep a l H H') (hD : H D = Option.none) : Keep a l H (upd H' D o) := fun c u ca cl e => by
  rw [upd_ne (ne_of_none e hD)]
  exact k c u ca cl e
theorem sm4 {z : Int} (h1 : 1 ≤ z) (h2 : z ≤ 1000) : Sm 9000 z := by
  refine sm9000 (n := 10) ?_ (by decide)
  have e : (2 : Nat) ^ 10 = 1024 := by decide
  show z.natAbs < 2 ^ 10
  rw [e]
  omega
def spLines : Sp := fun vs H Q _ => ∃ (a l : Addr) (n : Nat) (most : Int), vs = [.ref a, .int most] ∧ StreamAt H a l n ∧ n ≤ 10000 ∧ 1 ≤ most ∧ most ≤ 48 ∧
  ∀ (L : Addr) (refs : List V) (ls : List Lc) (n' : Nat) (H' : Hp), H' L = some (.lst refs) → H L = none → L ≠ a → L ≠ l → Ea H' isLn refs ls → GoodL ls → StreamAt H' a l n' → n' ≤ n + 200 → Keep a l H H' → Q (.ref L) H'
abbrev NCl : List Str := ["_law_stream", "_law_most", "_law_size", "_law_found", "_law_k", "_law_low", "_law_high", "_law_word"]
section
variable {P : Program} {w : World} {K : PySem.W.Frag} {mg : Str → Option Value} {base : Heap} {C : Addr}
theorem scClaim : FnScope NCl ["_law_stream", "_law_most"] (defScope sClaim) := ⟨rfl, rfl, rfl, by decide +kernel, rfl, by decide +kernel, by decide +kernel⟩
theorem ok_claim {f g g2 : Addr} {fd gd gd2 : FuncData} (F : Fun K "_law_m_claim" "_law_m_claim" sClaim f fd) (T : PA.Txt K mg C) (D : Df K mg "_law_draw" sDraw g gd ["_law_stream", "_law_many"]) (D2 : Df K mg "_law_pick" sPick g2 gd2 ["_law_stream", "_law_some"]) : FnOk P w K mg base CX0 3 f fd ["_law_stream", "_law_most"] spLines := by
  have G : FnOk P w K mg base CX0 1 g gd ["_law_stream", "_law_many"] spDraw := ok_draw D.F T
  have G2 : FnOk P w K mg base CX0 2 g2 gd2 ["_law_stream", "_law_some"] spPick := ok_pick D2.F T D
  refine F.ok scClaim (fun vs H Q E h => ?_) (fun cdv A outer s H vs Q E hr h => ?_)
  · obtain ⟨a, l, _, _, rfl, _⟩ := h
    rfl
  · obtain ⟨a, l, n, most, rfl, S0, hn, h1, h48, kk⟩ := h
    have hr1 : Room 1 _ := hr.mono (by decide)
    refine ⟨_, pss_cons (ps_par (i := 2) (j := 3) (by rfl) scClaim.nd rfl rfl (by decide) rfl rfl (pa_cons (pe_op op_add pe_int (pe_call G hr1 rfl D.M D.F.kp D.B .nil pass0 (pa_cons (pv 0) (pa_cons (pv 1) pa_nil)))) (pa_cons (pe_lst pa_nil) pa_nil)) (by rfl))
      (pss_cons (ps_for PassesOwn.never rfl (pi_range1 (by rfl) T.range_ (pa_cons (pv 2) pa_nil)) (pg_name (i := 4) scClaim.nd rfl (Or.inl rfl))
        (pss_cons (ps_par (i := 5) (j := 6) (by rfl) scClaim.nd rfl rfl (by decide) rfl rfl (pa_cons (pe_call G hr1 rfl D.M D.F.kp D.B .nil pass0 (pa_cons (pv 0) (pa_cons (pv 2) pa_nil))) (pa_cons (pe_call G hr1 rfl D.M D.F.kp D.B .nil pass0 (pa_cons (pv 0) (pa_cons (pv 2) pa_nil))) pa_nil)) (by rfl))
        (pss_cons (ps_set (i := 7) scClaim.nd rfl (Or.inl rfl) (pe_call G2 hr rfl D2.M D2.F.kp D2.B .nil pass0 (pa_cons (pv 0) (pa_cons (pe_lst (pa_cons pe_str (pa_cons pe_str (pa_cons pe_str (pa_cons pe_str (pa_cons pe_str (pa_cons pe_str (pa_cons pe_str (pa_cons pe_str pa_nil))))))))) pa_nil))))
        (pss_one (ps_expr (pe_bm PySem.F.plainAttrs_list PySem.F.slot_list_append PySem.F.type_list_append mt_append (pv 3) (pa_cons (pe_tup (pa_cons (pv 5) (pa_cons (pv 6) (pa_cons (pv 7) pa_nil)))) pa_nil)))))))
      (pss_one (ps_ret (pv 3)))), ?_⟩
    refine ⟨_, rfl, _, rfl, a, l, n, most, rfl, S0, by omega, by omega, sm48 (by omega) (by omega), fun r H1 r0 r1 S1 k1 => ⟨_, _, rfl, rfl, ?_⟩⟩
    obtain ⟨sz, hsz⟩ : ∃ sz : Nat, 1 + r = (sz : Int) := ⟨(1 + r).toNat, (Int.toNat_of_nonneg (by omega)).symm⟩
    refine ⟨Nat.zero_le _, fun Dd hD => ?_⟩
    obtain ⟨Da, Dl⟩ := S1.ne hD
    have sD := new_ (o := .lst []) hD
    refine ⟨_, _, rfl, _, rfl, _, rfl, by omega, by omega, ?_⟩
    have e1 : (1 + r).toNat = sz := by omega
    refine for_range (n := (1 + r).toNat) (fun i σ' H' => ∃ n' x4 x5 x6 x7 acc ds, σ' = [some (.ref a), some (.int most), some (.int (1 + r)), some (.ref Dd), x4, x5, x6, x7] ∧ n' ≤ n + 1 + 3 * i ∧ StreamAt H' a l n' ∧ Keep a l H1 H' ∧ H' Dd = some (.lst acc) ∧ Ea H' isLn acc ds ∧ ds.length = i ∧ ∀ d ∈ ds, LOk sz d) ?_ ?_ ?_
    · exact ⟨n + 1, _, _, _, _, [], [], rfl, by omega, S1.same sD, Keep.of sD, upd_same, Ea.nil, rfl, fun d hd => by cases hd⟩
    · rintro i _ H2 hi ⟨n', x4, x5, x6, x7, acc, ds, rfl, hn', S2, k2, hd, he, hl, ho⟩
      rw [e1] at hi
      refine ⟨_, rfl, _, rfl, a, l, n', _, rfl, S2, by omega, by omega, sm48 (by omega) (by omega), fun r1 H3 a0 a1 S3 k3 => ?_⟩
      refine ⟨_, rfl, _, rfl, a, l, n' + 1, _, rfl, S3, by omega, by omega, sm48 (by omega) (by omega), fun r2 H4 b0 b1 S4 k4 => ⟨_, _, rfl, ?_⟩⟩
      refine ⟨_, rfl, by show 8 ≤ sizeLine; decide, fun q hq => ?_⟩
      obtain ⟨qa, ql⟩ := S4.ne hq
      have sq := new_ (o := .lst [V.str "free", V.str "last", V.str "free", V.str "other", V.str "free", V.str "none", V.str "last", V.str "free"]) hq
      refine ⟨a, l, q, n' + 2, _, rfl, S4.same sq, by omega, upd_same, qa, ql, by decide, by decide, fun j x H5 hx S5 k5 => ?_⟩
      obtain ⟨z, rfl, hz⟩ : ∃ z : Str, x = .str z ∧ z ∈ verds := by
        have hm := List.mem_of_getElem? hx
        simp only [List.mem_cons, List.not_mem_nil, or_false] at hm
        rcases hm with rfl | rfl | rfl | rfl | rfl | rfl | rfl | rfl <;> exact ⟨_, rfl, by decide +kernel⟩
      have k25 : Keep a l H2 H5 := ((k3.trans k4).trans (Keep.of sq)).trans k5
      have hd5 := k25 _ _ Da Dl hd
      have he5 := EaKp he S2 k25
      refine ⟨_, rfl, .inl ⟨rfl, _, SqL.of hd5⟩, _, rfl, _, rfl, _, rfl, by show 3 ≤ sizeLine; decide, fun t ht => ?_⟩
      obtain ⟨i1, rfl, hi1⟩ : ∃ i1 : Nat, r1 = (i1 : Int) ∧ i1 < sz := ⟨r1.toNat, by omega, by omega⟩
      obtain ⟨i2, rfl, hi2⟩ : ∃ i2 : Nat, r2 = (i2 : Int) ∧ i2 < sz := ⟨r2.toNat, by omega, by omega⟩
      have st := new_ (o := .tup (lv (i1, i2, z))) ht
      have hd6 := st _ _ hd5
      refine ⟨Dd, acc, _, rfl, rfl, hd6, ?_, ?_⟩
      · rw [he.1, hl]
        exact Nat.lt_of_lt_of_le hi (Nat.le_trans (by omega : sz ≤ 48) (by decide))
      refine ⟨n' + 3, _, _, _, _, acc ++ [.ref t], ds ++ [(i1, i2, z)], rfl, by omega, (S5.same st).lst hd6 Da Dl, keep_upd ((k2.trans k25).trans (Keep.of st)) hD, upd_same, ?_, ?_, ?_⟩
      · exact ((he5.same st).imp fun c r q => TupOf.lst (f := lv) q hd6).push (TupOf.lst (f := lv) (r := (i1, i2, z)) upd_same hd6)
      · rw [List.length_append, hl]
        rfl
      · intro d hd'
        rcases List.mem_append.mp hd' with hd' | hd'
        · exact ho d hd'
        · cases List.mem_singleton.mp hd'
          exact ⟨hi1, hi2, hz⟩
    · rintro _ H2 ⟨n', x4, x5, x6, x7, acc, ds, rfl, hn', S2, k2, hd, he, hl, ho⟩
      rw [e1] at hl hn'
      refine ⟨_, rfl, kk Dd acc ds n' H2 hd (Keep.none k1 Da Dl hD) Da Dl he ⟨by omega, by omega, ?_⟩ S2 (by omega) (k1.trans k2)⟩
      rw [hl]
      exact ho
end
end PA.CL

set_option maxHeartbeats 8000000
/-! the entries of the search for a breaking sequence -/
namespace PA
open PySem L2 RZ
open C8 (pss_cut tCut)
open TC (Lc LOk GoodL verds)
open BR (Node)
abbrev sNext : Stmt := top 44
abbrev sAllowed : Stmt := top 45
abbrev sNumV : Stmt := top 42
def toLr (r : Rw) : BR.Lr := (r.1.toNat, r.2.1, r.2.2.1.toNat, r.2.2.2)
def bnat (b : Bool) : Nat := if b = true then 1 else 0
def lastV : Option Nat → V
  | none => .non
  | some c => .int (c : Int)
def claimV (n : Node) : V := match n.1 with
  | none => .non
  | some _ => .int (n.2.2.2 : Int)
def keyV (n : Node) : List V := [lastV n.1, .int (n.2.1 : Int), .int (bnat n.2.2.1 : Int), claimV n]
def enV (prev : V) (n : Node) : List V := prev :: keyV n
/-- a node that the tables know -/
def NdOk (nr nl : Nat) (n : Node) : Prop := n.2.1 < nr ∧ (∀ b, n.1 = some b → b < 2 ∧ n.2.2.2 < nl)
abbrev isLc : Hp → Addr → Lc → Prop := TupOf CL.lv
theorem rw_map {rows : List Rw} {i : Nat} (h : i < rows.length) : BR.rw_ (rows.map toLr) i = toLr rows[i] := by
  unfold BR.rw_
  rw [List.getD_eq_getElem?_getD, List.getElem?_map, List.getElem?_eq_getElem h]
  rfl
theorem ln_get {ls : List Lc} {i : Nat} (h : i < ls.length) : BR.ln_ ls i = ls[i] := by
  unfold BR.ln_
  rw [List.getD_eq_getElem?_getD, List.getElem?_eq_getElem h]
  rfl
theorem stp_ok {rows : List Rw} {ls : List Lc} {n : Node} {c : Nat} (hr : ∀ r ∈ rows, RwOk rows.length r) (hg : GoodL ls) (ok : NdOk rows.length ls.length n) (hc : c < 2) : NdOk rows.length ls.length (BR.stp (rows.map toLr) ls n c) := by
  obtain ⟨h1, h2⟩ := ok
  have hm := List.getElem_mem h1
  obtain ⟨⟨a0, a1⟩, c0, c1⟩ := hr _ hm
  refine ⟨?_, fun b hb => ⟨by cases hb; exact hc, ?_⟩⟩
  · show (BR.aft (BR.rw_ (rows.map toLr) n.2.1) _).1 < rows.length
    rw [rw_map h1]
    unfold BR.aft
    split
    · show (rows[n.2.1]).2.2.1.toNat < rows.length
      omega
    · show (rows[n.2.1]).1.toNat < rows.length
      omega
  · show BR.stepC ls n.1 n.2.2.2 c < ls.length
    cases e : n.1 with
    | none => exact hg.one
    | some b' =>
      obtain ⟨_, hl⟩ := h2 b' e
      have ol := hg.ok _ (List.getElem_mem hl)
      show (if c = b' then (BR.ln_ ls n.2.2.2).1 else (BR.ln_ ls n.2.2.2).2.1) < ls.length
      rw [ln_get hl]
      split
      · exact ol.1
      · exact ol.2.1
theorem Each.get' {H : Hp} {P : Hp → Addr → Rw → Prop} {xs : List V} {rows : List Rw} {i : Nat} {r : Rw} (e : Each H P xs rows) (h : rows[i]? = some r) : ∃ c, xs[i]? = some (.ref c) ∧ P H c r := by
  have hi : i < xs.length := by rw [e.1]; exact (List.getElem?_eq_some_iff.mp h).1
  have hx : xs[i]? = some xs[i] := List.getElem?_eq_getElem hi
  obtain ⟨c, hc, q⟩ := e.2 i _ r hx h
  exact ⟨c, by rw [hx, hc], q⟩
def spNext : Sp := fun vs H Q _ => ∃ (cr rr t : Addr) (crefs rrefs : List V) (ls : List Lc) (rows : List Rw) (prev : V) (n : Node) (at_ c : Nat), vs = [.ref cr, .ref rr, .ref t, .int (at_ : Int), .int (c : Int)] ∧ H cr = some (.tup crefs) ∧ Ea H isLc crefs ls ∧ H rr = some (.tup rrefs) ∧ Each H isT rrefs rows ∧
  H t = some (.tup (enV prev n)) ∧ GoodL ls ∧ (∀ r ∈ rows, RwOk rows.length r) ∧ NdOk rows.length ls.length n ∧ c < 2 ∧ ∀ p H', Same H H' → H' p = some (.tup (enV (.int (at_ : Int)) (BR.stp (rows.map toLr) ls n c))) → Q (.ref p) H'
abbrev NNext : List Str := ["claim_rows", "rule_rows", "entry", "at", "call", "_", "before", "state", "ahead", "claimed", "next_ahead", "falls", "next_behind", "goes", "changes"]
section
variable {P : Program} {w : World} {K : PySem.W.Frag} {mg : Str → Option Value} {base : Heap} {C X PE_ : Addr}
theorem scNext : FnScope NNext ["claim_rows", "rule_rows", "entry", "at", "call"] (defScope sNext) := ⟨rfl, rfl, rfl, by decide +kernel, rfl, by decide +kernel, by decide +kernel⟩
theorem ok_next {f : Addr} {fd : FuncData} (F : Fun K "_next_entry" "_next_entry" sNext f fd) : FnOk P w K mg base CX0 1 f fd ["claim_rows", "rule_rows", "entry", "at", "call"] spNext := by
  refine F.ok scNext (fun vs H Q E h => ?_) (fun cdv A outer s H vs Q E hr h => ?_)
  · obtain ⟨_, _, _, _, _, _, _, _, _, _, _, rfl, _⟩ := h
    rfl
  · obtain ⟨cr, rr, t, crefs, rrefs, ls, rows, prev, n, at_, c, rfl, hcr, hEc, hrr, hEr, ht, hg, hrw, ok, hc2, kk⟩ := h
    refine ⟨_, pss_cons (ps_asg (pv 2) (pg_tup rfl (pgs_cons (pg_name (i := 5) scNext.nd rfl (Or.inl rfl)) (pgs_cons (pg_name (i := 6) scNext.nd rfl (Or.inl rfl)) (pgs_cons (pg_name (i := 7) scNext.nd rfl (Or.inl rfl)) (pgs_cons (pg_name (i := 8) scNext.nd rfl (Or.inl rfl)) (pgs_cons (pg_name (i := 9) scNext.nd rfl (Or.inl rfl)) pgs_nil)))))))
      (pss_cons (ps_asg (pe_ix ix_tup (pv 1) (pv 7) (fun _ _ => rfl)) (pg_tup rfl (pgs_cons (pg_name (i := 10) scNext.nd rfl (Or.inl rfl)) (pgs_cons (pg_name (i := 11) scNext.nd rfl (Or.inl rfl)) (pgs_cons (pg_name (i := 12) scNext.nd rfl (Or.inl rfl)) (pgs_cons (pg_name (i := 13) scNext.nd rfl (Or.inl rfl)) pgs_nil))))))
      (pss_cut (ps_if (pt_cmpR op_eq (pv 4) (pv 8) (nomark _)) (pss_one (ps_par (i := 7) (j := 14) (by rfl) scNext.nd rfl rfl (by decide) rfl rfl (pa_cons (pv 10) (pa_cons (pv 11) pa_nil)) (by rfl))) (pss_one (ps_par (i := 7) (j := 14) (by rfl) scNext.nd rfl rfl (by decide) rfl rfl (pa_cons (pv 12) (pa_cons (pv 13) pa_nil)) (by rfl))))
      (pss_cut (ps_if (pt_cmpR op_isN (pv 6) pe_non (nomark _)) (pss_one (ps_set (i := 9) scNext.nd rfl (Or.inl rfl) pe_int)) (pss_one (ps_set (i := 9) scNext.nd rfl (Or.inl rfl) (pe_ix ix_tup (pe_ix ix_tup (pv 0) (pv 9) (fun _ _ => rfl)) (pe_ifExp (pt_cmpR op_eq (pv 4) (pv 6) (nomark _)) pe_int pe_int) (fun _ _ => rfl)))))
      (pss_one (ps_ret (pe_tup (pa_cons (pv 3) (pa_cons (pv 4) (pa_cons (pv 7) (pa_cons (pe_ifExp (pt_val (pv 14)) (pe_op op_sub pe_int (pv 8)) (pv 8)) (pa_cons (pv 9) pa_nil))))))))))), ?_⟩
    obtain ⟨h1, h2⟩ := id ok
    obtain ⟨last, st, tu, cl⟩ := n
    have h1 : st < rows.length := h1
    obtain ⟨d, hd, hdT⟩ := Each.get' hEr (List.getElem?_eq_getElem h1)
    have hdT : H d = some (.tup (rv rows[st])) := hdT
    refine ⟨_, rfl, t, _, rfl, SqT.of ht, rfl, _, _, rfl, _, _, rfl, _, _, rfl, _, _, rfl, _, _, rfl, rfl, ?_⟩
    refine ⟨_, rfl, _, rfl, rr, rrefs, ((st : Nat) : Int), .ref d, rfl, rfl, SqT.of hrr, atI_nat hd, d, _, rfl, SqT.of hdT, rfl, _, _, rfl, _, _, rfl, _, _, rfl, _, _, rfl, rfl, ?_⟩
    obtain ⟨⟨a0, a1⟩, c0, c1⟩ := hrw _ (List.getElem_mem h1)
    generalize hrd : rows[st] = r at hdT a0 a1 c0 c1
    have estep : BR.stepR (rows.map toLr) st tu c = ((BR.aft (toLr r) (decide (c = 1) != tu)).1, tu != (BR.aft (toLr r) (decide (c = 1) != tu)).2) := by
      unfold BR.stepR
      rw [rw_map h1, hrd]
    obtain ⟨a, ea⟩ : ∃ a, a = BR.aft (toLr r) (decide (c = 1) != tu) := ⟨_, rfl⟩
    rw [← ea] at estep
    refine ⟨fun σ' H' => H' = H ∧ σ' = [some (.ref cr), some (.ref rr), some (.ref t), some (.int (at_ : Int)), some (.int (c : Int)), some prev, some (lastV last), some (.int (a.1 : Int)), some (.int (bnat tu : Int)), some (claimV (last, st, tu, cl)), some (.int r.1), some (.bl r.2.1), some (.int r.2.2.1), some (.bl r.2.2.2), some (.bl a.2)], ?_, ?_⟩
    · refine ⟨_, rfl, _, rfl, rfl, _, rfl, ifD_2 (fun h => ?_) (fun h => ?_)⟩
      · have hcb : c = bnat tu := by injection h with h; exact Int.ofNat_inj.mp h
        have e0 : (decide (c = 1) != tu) = false := by
          subst hcb
          cases tu <;> rfl
        rw [e0] at ea
        subst ea
        refine ⟨_, rfl, _, rfl, _, _, rfl, rfl, ?_⟩
        have e1 : ((r.1.toNat : Nat) : Int) = r.1 := Int.toNat_of_nonneg a0
        show _ = [_, _, _, _, _, _, _, some (V.int ((r.1.toNat : Nat) : Int)), _, _, _, _, _, _, some (V.bl r.2.1)]
        rw [e1]
        rfl
      · have e0 : (decide (c = 1) != tu) = true := by
          have hcb : c ≠ bnat tu := fun z => h (by rw [z])
          cases tu
          · have : c = 1 := by simp [bnat] at hcb; omega
            subst this
            rfl
          · have : c = 0 := by simp [bnat] at hcb; omega
            subst this
            rfl
        rw [e0] at ea
        subst ea
        refine ⟨_, rfl, _, rfl, _, _, rfl, rfl, ?_⟩
        have e1 : ((r.2.2.1.toNat : Nat) : Int) = r.2.2.1 := Int.toNat_of_nonneg c0
        show _ = [_, _, _, _, _, _, _, some (V.int ((r.2.2.1.toNat : Nat) : Int)), _, _, _, _, _, _, some (V.bl r.2.2.2)]
        rw [e1]
        rfl
    rintro _ H1 ⟨e1, rfl⟩
    cases e1.symm
    refine ⟨fun σ' H' => H' = H ∧ σ' = [some (.ref cr), some (.ref rr), some (.ref t), some (.int (at_ : Int)), some (.int (c : Int)), some prev, some (lastV last), some (.int (a.1 : Int)), some (.int (bnat tu : Int)), some (.int (BR.stepC ls last cl c : Int)), some (.int r.1), some (.bl r.2.1), some (.int r.2.2.1), some (.bl r.2.2.2), some (.bl a.2)], ?_, ?_⟩
    · cases last with
      | none => exact ⟨_, rfl, rfl, _, rfl, iteT ⟨rfl, rfl⟩⟩
      | some b =>
        obtain ⟨hb2, hcl⟩ := h2 b rfl
        have hcl : cl < ls.length := hcl
        obtain ⟨e, he, heT⟩ := hEc.get (List.getElem?_eq_getElem hcl)
        have heT : H e = some (.tup (CL.lv ls[cl])) := heT
        refine ⟨_, rfl, rfl, _, rfl, iteF ?_⟩
        refine ⟨_, rfl, _, rfl, cr, crefs, ((cl : Nat) : Int), .ref e, rfl, rfl, SqT.of hcr, atI_nat he, _, rfl, _, rfl, rfl, _, rfl, ifD_2 (fun h => ?_) (fun h => ?_)⟩
        · have hcb : c = b := by injection h with h; exact Int.ofNat_inj.mp h
          refine ⟨e, _, 0, _, rfl, rfl, SqT.of heT, rfl, rfl, ?_⟩
          show _ = [_, _, _, _, _, _, _, _, _, some (V.int ((if c = b then (BR.ln_ ls cl).1 else (BR.ln_ ls cl).2.1 : Nat) : Int)), _, _, _, _, _]
          rw [if_pos hcb, ln_get hcl]
          rfl
        · have hcb : c ≠ b := fun z => h (by rw [z]; rfl)
          refine ⟨e, _, 1, _, rfl, rfl, SqT.of heT, rfl, rfl, ?_⟩
          show _ = [_, _, _, _, _, _, _, _, _, some (V.int ((if c = b then (BR.ln_ ls cl).1 else (BR.ln_ ls cl).2.1 : Nat) : Int)), _, _, _, _, _]
          rw [if_neg hcb, ln_get hcl]
          rfl
    rintro _ H1 ⟨e1, rfl⟩
    cases e1.symm
    refine ⟨_, rfl, _, rfl, _, rfl, _, rfl, a.2, rfl, ?_⟩
    have fin : ∀ p H', Same H H' → H' p = some (.tup [.int (at_ : Int), .int (c : Int), .int (a.1 : Int), .int (bnat (tu != a.2) : Int), .int (BR.stepC ls last cl c : Int)]) → Q (.ref p) H' := fun p H' s hp => kk p H' s (by
      rw [hp]
      show _ = some (HO.tup [.int (at_ : Int), .int (c : Int), .int ((BR.stepR (rows.map toLr) st tu c).1 : Int), .int (bnat (BR.stepR (rows.map toLr) st tu c).2 : Int), .int (BR.stepC ls last cl c : Int)])
      rw [estep])
    cases ha : a.2 with
    | true =>
      rw [ha] at fin
      refine iteT ⟨_, rfl, _, _, rfl, rfl, _, rfl, by show 5 ≤ sizeLine; decide, fun p hp => fin p _ (new_ hp) ?_⟩
      rw [upd_same]
      cases tu <;> rfl
    | false =>
      rw [ha] at fin
      refine iteF ⟨_, rfl, _, rfl, by show 5 ≤ sizeLine; decide, fun p hp => fin p _ (new_ hp) ?_⟩
      rw [upd_same]
      cases tu <;> rfl
end
end PA

set_option maxHeartbeats 8000000
/-! whether a verdict allows the case that is ahead -/
namespace PA
open PySem L2 RZ
open C8 (pss_cut tCut)
open TC (Lc LOk GoodL verds)
open BR (Node)
structure TxtV (K : PySem.W.Frag) (mg : Str → Option Value) : Prop where
  V_ : ∃ DV o, mg "VERDICTS" = some (.ref DV) ∧ K.lookup DV = some o ∧ o.cls = .type "tuple" ∧ o.dict = none ∧ ∀ H, SqT K H DV (verds.map V.str)
  last : ∃ t, mg "LAST" = some (.int 1 t)
  other : ∃ t, mg "OTHER" = some (.int 2 t)
def vIx (w : Str) : Nat := if w = "none" then 0 else if w = "last" then 1 else if w = "other" then 2 else 3
theorem verds_cases {v : Str} (h : v ∈ verds) : v = "none" ∨ v = "last" ∨ v = "other" ∨ v = "free" := by
  simpa [verds] using h
theorem vIx_at {v : Str} (h : v ∈ verds) : verds[vIx v]? = some v ∧ ∀ m, m < vIx v → verds[m]? ≠ some v := by
  rcases verds_cases h with rfl | rfl | rfl | rfl <;> exact ⟨by decide +kernel, by decide +kernel⟩
theorem vIx_and {v : Str} (h : v ∈ verds) (same : Bool) : (decide (Builtin.bitAnd (vIx v : Int) (if same = true then 1 else 2) ≠ 0)) = BR.allows v same := by
  rcases verds_cases h with rfl | rfl | rfl | rfl <;> cases same <;> decide +kernel
def spNum : Sp := fun vs H Q _ => ∃ (R : Addr) (refs : List V) (ls : List Lc) (i : Nat) (hi : i < ls.length), vs = [.ref R, .int (i : Int)] ∧ H R = some (.tup refs) ∧ Ea H isLc refs ls ∧ GoodL ls ∧ Q (.int (vIx ls[i].2.2 : Int)) H
def spAllow : Sp := fun vs H Q _ => ∃ (cr t : Addr) (crefs : List V) (ls : List Lc) (prev : V) (n : Node) (c : Nat), vs = [.ref cr, .ref t] ∧ H cr = some (.tup crefs) ∧ Ea H isLc crefs ls ∧ GoodL ls ∧ H t = some (.tup (enV prev n)) ∧ n.1 = some c ∧ c < 2 ∧ n.2.2.2 < ls.length ∧ Q (.bl (BR.okN ls n)) H
section
variable {P : Program} {w : World} {K : PySem.W.Frag} {mg : Str → Option Value} {base : Heap} {C X PE_ : Addr}
theorem scNumV : FnScope ["rows", "state"] ["rows", "state"] (defScope sNumV) := ⟨rfl, rfl, rfl, by decide +kernel, rfl, by decide +kernel, by decide +kernel⟩
theorem ok_num {f : Addr} {fd : FuncData} (F : Fun K "_number" "_number" sNumV f fd) (TV : TxtV K mg) : FnOk P w K mg base CX0 1 f fd ["rows", "state"] spNum := by
  obtain ⟨DV, o, hDV, ho, hc, hd, hV⟩ := TV.V_
  refine F.ok scNumV (fun vs H Q E h => ?_) (fun cdv A0 outer s H vs Q E hr h => ?_)
  · obtain ⟨R, _, _, i, _, rfl, _⟩ := h
    rfl
  · obtain ⟨R, refs, ls, i, hi, rfl, hR, hE, gd, kk⟩ := h
    refine ⟨_, pss_one (ps_ret (pe_bm PySem.F.plainAttrs_tuple PySem.F.slot_tuple_index PySem.F.type_tuple_index mt_tup_index (pe_glob (v := .ref DV) rfl hDV rfl) (pa_cons (pe_ix ix_tup (pe_ix ix_tup (pv 0) (pv 1) (fun _ _ => rfl)) pe_int (fun _ _ => rfl)) pa_nil))), ?_⟩
    obtain ⟨c, h1, h2⟩ := hE.get (List.getElem?_eq_getElem hi)
    have h2 : H c = some (.tup (CL.lv ls[i])) := h2
    obtain ⟨e1, e2⟩ := vIx_at (gd.ok _ (List.getElem_mem hi)).2.2
    exact ⟨.inr (.inl ⟨rfl, o, ho, hc, hd⟩), _, rfl, _, rfl, R, refs, _, _, rfl, rfl, SqT.of hR, atI_nat h1, c, _, 2, _, rfl, rfl, SqT.of h2, rfl, DV, verds, ls[i].2.2, vIx ls[i].2.2, rfl, rfl, hV H, e1, e2, kk⟩
abbrev NAllow : List Str := ["claim_rows", "entry", "_", "call", "ahead", "claimed"]
theorem scAllow : FnScope NAllow ["claim_rows", "entry"] (defScope sAllowed) := ⟨rfl, rfl, rfl, by decide +kernel, rfl, by decide +kernel, by decide +kernel⟩
theorem ok_allow {f g : Addr} {fd gd : FuncData} (F : Fun K "_is_allowed" "_is_allowed" sAllowed f fd) (TV : TxtV K mg) (D : Df K mg "_number" sNumV g gd ["rows", "state"]) : FnOk P w K mg base CX0 2 f fd ["claim_rows", "entry"] spAllow := by
  have G : FnOk P w K mg base CX0 1 g gd ["rows", "state"] spNum := ok_num D.F TV
  obtain ⟨tl, hl⟩ := TV.last
  obtain ⟨to, ho⟩ := TV.other
  refine F.ok scAllow (fun vs H Q E h => ?_) (fun cdv A0 outer s H vs Q E hr h => ?_)
  · obtain ⟨_, _, _, _, _, _, _, rfl, _⟩ := h
    rfl
  · obtain ⟨cr, t, crefs, ls, prev, n, c, rfl, hcr, hE, gd, ht, hn, hc2, hcl, kk⟩ := h
    refine ⟨_, pss_cons (ps_asg (pv 1) (pg_tup rfl (pgs_cons (pg_name (i := 2) scAllow.nd rfl (Or.inl rfl)) (pgs_cons (pg_name (i := 3) scAllow.nd rfl (Or.inl rfl)) (pgs_cons (pg_name (i := 2) scAllow.nd rfl (Or.inl rfl)) (pgs_cons (pg_name (i := 4) scAllow.nd rfl (Or.inl rfl)) (pgs_cons (pg_name (i := 5) scAllow.nd rfl (Or.inl rfl)) pgs_nil)))))))
      (pss_one (ps_ret (pe_cmpR op_ne (pe_op op_and (pe_call G hr rfl D.M D.F.kp D.B .nil pass0 (pa_cons (pv 0) (pa_cons (pv 5) pa_nil))) (pe_ifExp (pt_cmpR op_eq (pv 4) (pv 3) (nomark _)) (pe_glob (v := .int 1) rfl hl ⟨_, rfl⟩) (pe_glob (v := .int 2) rfl ho ⟨_, rfl⟩))) pe_int (nomark _)))), ?_⟩
    obtain ⟨last, st, tu, cl⟩ := n
    have hn : last = some c := hn
    subst hn
    have hcl : cl < ls.length := hcl
    refine ⟨_, rfl, t, _, rfl, SqT.of ht, rfl, _, _, rfl, _, _, rfl, _, _, rfl, _, _, rfl, _, _, rfl, rfl, ?_⟩
    refine ⟨_, rfl, _, rfl, cr, crefs, ls, cl, hcl, rfl, hcr, hE, gd, ?_⟩
    have e := vIx_and (gd.ok _ (List.getElem_mem hcl)).2.2 (tu == decide (some c = some 1))
    have fin : ∀ v : Int, v = (if (tu == decide (some c = some 1)) = true then 1 else 2) → Q (.bl !decide (V.int (Builtin.bitAnd (vIx ls[cl].2.2 : Int) v) = V.int 0)) H := fun v hv => by
      have e3 : (!decide (V.int (Builtin.bitAnd (vIx ls[cl].2.2 : Int) v) = V.int 0)) = BR.okN ls (some c, st, tu, cl) := by
        unfold BR.okN
        show _ = BR.allows (BR.ln_ ls cl).2.2 (tu == decide (some c = some 1))
        rw [ln_get hcl, ← e, ← hv]
        by_cases z : Builtin.bitAnd (vIx ls[cl].2.2 : Int) v = 0
        · rw [z]
          rfl
        · rw [decide_eq_true (p := Builtin.bitAnd (vIx ls[cl].2.2 : Int) v ≠ 0) z, decide_eq_false (fun h => z (by injection h))]
          rfl
      rw [e3]
      exact kk
    refine ⟨_, rfl, _, rfl, rfl, _, rfl, ifD_2 (fun h => ?_) (fun h => ?_)⟩
    · refine ⟨_, _, rfl, rfl, rfl, fin 1 ?_⟩
      have h : V.int (bnat tu : Int) = V.int (c : Int) := h
      have hc : bnat tu = c := by injection h with h; exact Int.ofNat_inj.mp h
      subst hc
      cases tu <;> rfl
    · refine ⟨_, _, rfl, rfl, rfl, fin 2 ?_⟩
      have hc : bnat tu ≠ c := fun z => h (by rw [← z]; rfl)
      have h2 : (tu == decide (some c = some 1)) = false := by
        rcases (by omega : c = 0 ∨ c = 1) with rfl | rfl <;> cases tu <;> first | rfl | exact absurd rfl hc
      rw [h2]
      rfl
end
end PA

set_option maxRecDepth 1000000
set_option maxHeartbeats 8000000
namespace PA
open PySem L2 RZ
open C8 (pss_cut tCut)
def natsV (ns : List Nat) : List V := ns.map fun (n : Nat) => V.int ((n : Nat) : Int)
abbrev sWay : Stmt := top 18
/-- the entry of a path: what is before it and the call from there -/
def EnW {N : Type} (S : B2.Sys N) (W : List Nat) (H : Hp) (c : Addr) (p : Nat) : Prop := ∃ x y u v z, H c = some (.tup [x, y, u, v, z]) ∧ (p < S.M → x = .non ∧ y = .non) ∧ ∀ q k, k < 2 → p = B2.child S q k → ∃ i : Nat, W[i]? = some q ∧ x = .int (i : Int) ∧ y = .int (k : Int)
def spWay : Sp := fun vs H Q _ => ∃ (N : Type) (S : B2.Sys N) (W : List Nat) (Es : Addr) (refs : List V) (at' p : Nat), vs = [.ref Es, .int (at' : Int)] ∧ H Es = some (.lst refs) ∧ Ea H (EnW S W) refs W ∧ (∀ i q : Nat, W[i]? = some q → q < S.M → i = q) ∧ W[at']? = some p ∧ (B2.calls S p).length ≤ 10000 ∧
  ∀ u t H', Same H H' → H' u = some (.tup [.int ((B2.root S p : Nat) : Int), .ref t]) → H' t = some (.tup (natsV (B2.calls S p))) → Q (.ref u) H'
section
variable {P : Program} {w : World} {K : PySem.W.Frag} {mg : Str → Option Value} {base : Heap} {C : Addr}
theorem scWay : FnScope ["entries", "at", "calls"] ["entries", "at"] (defScope sWay) := ⟨rfl, rfl, rfl, by decide +kernel, rfl, by decide +kernel, by decide +kernel⟩
theorem ok_way {f : Addr} {fd : FuncData} (F : Fun K "way_to" "way_to" sWay f fd) (T : Txt K mg C) : FnOk P w K mg base CX0 1 f fd ["entries", "at"] spWay := by
  refine F.ok scWay (fun vs H Q E h => ?_) (fun cdv A0 outer s H vs Q E hr h => ?_)
  · obtain ⟨_, _, _, _, _, _, _, rfl, _⟩ := h
    rfl
  · obtain ⟨N, S, W, Es, refs, at0, p, rfl, hEs, hE, hroot, hat, hlen, kk⟩ := h
    refine ⟨_, pss_cons (ps_set (i := 2) scWay.nd rfl (Or.inl rfl) (pe_lst pa_nil))
      (pss_cons (ps_while PassesOwn.never (pt_cmp (pc_notN (pe_ix ix_tup (pe_ix ix_list (pv 0) (pv 1) (fun _ _ => rfl)) pe_int (fun _ _ => rfl))))
        (pss_cons (ps_expr (pe_bm PySem.F.plainAttrs_list PySem.F.slot_list_append PySem.F.type_list_append mt_append (pv 2) (pa_cons (pe_ix ix_tup (pe_ix ix_list (pv 0) (pv 1) (fun _ _ => rfl)) pe_int (fun _ _ => rfl)) pa_nil)))
        (pss_one (ps_set (i := 1) scWay.nd rfl (Or.inl rfl) (pe_ix ix_tup (pe_ix ix_list (pv 0) (pv 1) (fun _ _ => rfl)) pe_int (fun _ _ => rfl))))))
      (pss_one (ps_ret (pe_tup (pa_cons (pv 1) (pa_cons (pe_callTy call_tuple_of (by rfl) T.tup_ boot_tuple' (pa_cons (pe_revL (pv 2)) pa_nil)) pa_nil)))))), ?_⟩
    refine ⟨Nat.zero_le _, fun L hL => ?_⟩
    have sL := Same.new (o := .lst []) hL
    refine ⟨fun m σ' H' => ∃ (a q : Nat) (cs : List Nat), σ' = [some (.ref Es), some (.int (a : Int)), some (.ref L)] ∧ Same H H' ∧ H' L = some (.lst (natsV cs)) ∧ W[a]? = some q ∧ B2.calls S p = B2.calls S q ++ cs.reverse ∧ B2.root S p = B2.root S q ∧ m = q, ⟨p, at0, p, [], rfl, sL, upd_same, hat, by simp, rfl, rfl⟩, ?_⟩
    rintro m _ H1 ⟨a, q, cs, rfl, s1, hL1, ha, hc, hr', rfl⟩
    obtain ⟨c, hca, x, y, u, v, z, hct, hno, hch⟩ := hE.get ha
    have hEs1 := SqL.of (K := K) (s1 _ _ hEs)
    have hct1 := SqT.of (K := K) (s1 _ _ hct)
    have LE : L ≠ Es := (ne_of_none hEs hL).symm
    refine ⟨_, rfl, _, rfl, Es, refs, (a : Int), .ref c, rfl, rfl, hEs1, atI_nat hca, c, _, 1, y, rfl, rfl, hct1, rfl, _, rfl, ?_⟩
    by_cases hM : m < S.M
    · obtain ⟨rfl, rfl⟩ := hno hM
      rw [decide_eq_true rfl]
      refine iteF ?_
      have e1 : B2.calls S p = cs.reverse := by rw [hc, B2.calls_root hM, List.nil_append]
      have e2 : B2.root S p = a := by rw [hr', B2.root_root hM, hroot a m ha hM]
      have e3 : (natsV cs).reverse = natsV (B2.calls S p) := by
        rw [e1]
        unfold natsV
        rw [List.map_reverse]
      refine ⟨_, rfl, _, rfl, L, natsV cs, rfl, SqL.of hL1, fun r hr2 => ?_⟩
      have sr := Same.new (o := .lst (natsV cs).reverse) hr2
      refine ⟨r, _, rfl, .inl ⟨SqL.of upd_same, fun t ht => ⟨by show 2 ≤ sizeLine; decide, fun u hu => ?_⟩⟩⟩
      have st := Same.new (o := .tup (natsV cs).reverse) ht
      have su := Same.new (o := .tup [.int (a : Int), .ref t]) hu
      refine kk u t _ (((s1.trans sr).trans st).trans su) (by rw [upd_same, e2]) (by rw [su _ _ upd_same, e3])
    · obtain ⟨q, k, hk, rfl, hq⟩ := B2.path_cases hM
      obtain ⟨i, hi, rfl, rfl⟩ := hch q k hk rfl
      rw [decide_eq_false (by intro z; cases z)]
      refine iteT ?_
      refine ⟨fun σ' H' => ∃ m', m' < B2.child S q k ∧ ∃ (a q : Nat) (cs : List Nat), σ' = [some (.ref Es), some (.int (a : Int)), some (.ref L)] ∧ Same H H' ∧ H' L = some (.lst (natsV cs)) ∧ W[a]? = some q ∧ B2.calls S p = B2.calls S q ++ cs.reverse ∧ B2.root S p = B2.root S q ∧ m' = q, fun _ _ h => h, ?_⟩
      have hcl : cs.length < 10000 := by
        have := congrArg List.length hc
        rw [List.length_append, List.length_reverse, B2.calls_child hk, List.length_append] at this
        simp only [List.length_singleton] at this
        omega
      have nl : (natsV cs).length < sizeLine := by
        unfold natsV
        rw [List.length_map]
        exact Nat.lt_trans hcl (by decide)
      refine ⟨_, rfl, .inl ⟨rfl, _, SqL.of hL1⟩, _, rfl, _, rfl, Es, refs, (a : Int), .ref c, rfl, rfl, hEs1, atI_nat hca, c, _, 1, .int (k : Int), rfl, rfl, hct1, rfl, L, _, _, rfl, rfl, hL1, nl, ?_⟩
      have s2 : Same H (upd H1 L (.lst (natsV cs ++ [V.int (k : Int)]))) := fun d o z => by
        rw [upd_ne (ne_of_none z hL)]
        exact s1 _ _ z
      refine ⟨_, rfl, _, rfl, Es, refs, (a : Int), .ref c, rfl, rfl, SqL.of (s2 _ _ hEs), atI_nat hca, c, _, 0, .int (i : Int), rfl, rfl, SqT.of (s2 _ _ hct), rfl, q, hq, i, q, cs ++ [k], rfl, s2, (by rw [upd_same]; unfold natsV; rw [List.map_append]; rfl), hi, ?_, ?_, rfl⟩
      · rw [hc, B2.calls_child hk]
        simp
      · rw [hr', B2.root_child hk]
end
end PA

set_option maxHeartbeats 8000000
/-! how the search for a breaking sequence stands -/
namespace PA
open PySem L2 RZ
open C8 (pss_cut tCut)
open TC (Lc LOk GoodL verds)
open BR (Node)
open B2 (nd root calls child)
def qk (n : Node) : LKey := [.num ((n.1.getD 0 : Nat) : Int), .num (n.2.1 : Int), .num (bnat n.2.2.1 : Int), .num (n.2.2.2 : Int)]
theorem qk_inj {n m : Node} (hn : n.1.isSome = true) (hm : m.1.isSome = true) (h : qk n = qk m) : n = m := by
  obtain ⟨a, b, c, d⟩ := n
  obtain ⟨a', b', c', d'⟩ := m
  cases a with
  | none => cases hn
  | some a =>
    cases a' with
    | none => cases hm
    | some a' =>
      simp only [qk, Option.getD, List.cons.injEq, Leaf.num.injEq, and_true] at h
      obtain ⟨h1, h2, h3, h4⟩ := h
      have h1 : a = a' := by omega
      have h2 : b = b' := by omega
      have h3 : bnat c = bnat c' := by omega
      have h4 : d = d' := by omega
      have h5 : c = c' := by cases c <;> cases c' <;> first | rfl | (simp [bnat] at h3)
      rw [h1, h2, h4, h5]
theorem qk_at {H : Hp} {t : Addr} {n : Node} {c : Nat} (hn : n.1 = some c) (h : H t = some (.tup (keyV n))) : KeyAt H t (qk n) := by
  obtain ⟨a, b, x, d⟩ := n
  have hn : a = some c := hn
  subst hn
  exact ⟨_, h, .cons (.inl rfl) (.cons (.inl rfl) (.cons (.inl rfl) (.cons (.inl rfl) .nil)))⟩
theorem qk_val (sn : List Node) (hs : ∀ q ∈ sn, q.1.isSome = true) (n : Node) (hn : n.1.isSome = true) : (valV (sn.map fun q => (qk q, V.bl true)) (qk n)).isSome = decide (n ∈ sn) := by
  induction sn with
  | nil => simp [valV]
  | cons q sn ih =>
    have ih := ih fun x hx => hs x (List.mem_cons_of_mem _ hx)
    rw [List.map_cons]
    by_cases e : qk q = qk n
    · rw [valV_pos e, qk_inj (hs q List.mem_cons_self) hn e]
      simp
    · rw [valV_neg e, ih]
      have : ¬ n = q := fun z => e (by rw [z])
      simp [this]
/-- tuples are kept -/
def TK (H H' : Hp) : Prop := (∀ c ys, H c = some (.tup ys) → H' c = some (.tup ys)) ∧ ∀ c o ys, H c = some (.frz o (.tup ys)) → H' c = some (.frz o (.tup ys))
theorem TK.same {H H' : Hp} (s : Same H H') : TK H H' := ⟨fun c ys e => s _ _ e, fun c o ys e => s _ _ e⟩
theorem TK.lst {H : Hp} {a : Addr} {xs : List V} {o : HO} (h : H a = some (.lst xs)) : TK H (upd H a o) :=
  ⟨fun c ys e => by rw [upd_ne (ne_of e h (by intro z; cases z))]; exact e, fun c o ys e => by rw [upd_ne (ne_of e h (by intro z; cases z))]; exact e⟩
theorem TK.dx {P : Program} {w : World} {H : Hp} {a : Addr} {kvs : List DE} {o : HO} (h : H a = some (DX P w a kvs)) : TK H (upd H a o) :=
  ⟨fun c ys e => by rw [upd_ne (ne_of e h (by intro z; cases z))]; exact e, fun c o ys e => by rw [upd_ne (ne_of e h (by intro z; cases z))]; exact e⟩
/-- an entry of the search -/
def isBE (S : B2.Sys Node) (W : List Nat) (H : Hp) (c : Addr) (p : Nat) : Prop := ∃ x, H c = some (.tup (enV x (nd S p))) ∧ (p < S.M → x = .non ∧ (nd S p).1 = none) ∧ ∀ q k, k < 2 → p = child S q k → ∃ i : Nat, W[i]? = some q ∧ x = .int (i : Int) ∧ (nd S p).1 = some k
section
variable {S : B2.Sys Node} {W W' : List Nat} {H H' : Hp} {c : Addr} {p : Nat}
theorem isBE.way (h : isBE S W H c p) : EnW S W H c p := by
  obtain ⟨x, h1, h2, h3⟩ := h
  exact ⟨x, _, _, _, _, h1, fun l => ⟨(h2 l).1, by rw [(h2 l).2]; rfl⟩, fun q k hk e => (h3 q k hk e).elim fun i z => ⟨i, z.1, z.2.1, by rw [z.2.2]; rfl⟩⟩
theorem isBE.kt (h : isBE S W H c p) (kt : TK H H') : isBE S W H' c p := by
  obtain ⟨x, h1, h2⟩ := h
  exact ⟨x, kt.1 _ _ h1, h2⟩
theorem isBE.grow (h : isBE S W H c p) (pre : ∀ i x : Nat, W[i]? = some x → W'[i]? = some x) : isBE S W' H c p := by
  obtain ⟨x, h1, h2, h3⟩ := h
  exact ⟨x, h1, h2, fun q k hk e => (h3 q k hk e).elim fun i z => ⟨i, pre _ _ z.1, z.2⟩⟩
end
theorem pre_app {W ad : List Nat} : ∀ i x : Nat, W[i]? = some x → (W ++ ad)[i]? = some x := fun i x h => by
  rw [List.getElem?_append_left (List.getElem?_eq_some_iff.mp h).1]
  exact h
/-- the list of entries, the dict of the states seen -/
structure RM (P : Program) (w : World) (H H' : Hp) (Wl Dd : Addr) (S : B2.Sys Node) (W : List Nat) (qs : List (Node)) (acc : List V) (kvs : List DE) : Prop where
  sm : Same H H'
  hW : H' Wl = some (.lst acc)
  eW : Ea H' (isBE S W) acc W
  hD : H' Dd = some (DX P w Dd kvs)
  ka : ∀ p ∈ kvs, KeyAt H' p.2.1 p.1
  em : kvs.map (fun p => (p.1, p.2.2)) = qs.map fun q => (qk q, V.bl true)
section
variable {P : Program} {w : World} {H H' H2 : Hp} {Wl Dd : Addr} {S : B2.Sys Node} {W : List Nat} {qs : List (Node)} {acc : List V} {kvs : List DE}
theorem RM.same (I : RM P w H H' Wl Dd S W qs acc kvs) (s : Same H' H2) : RM P w H H2 Wl Dd S W qs acc kvs :=
  ⟨I.sm.trans s, s _ _ I.hW, I.eW.imp fun c r q => q.kt (.same s), s _ _ I.hD, fun p hp => (I.ka p hp).kt fun b ys e => s _ _ e, I.em⟩
theorem RM.has (I : RM P w H H' Wl Dd S W qs acc kvs) (hs : ∀ q ∈ qs, q.1.isSome = true) (n : Node) (hn : n.1.isSome = true) : (valV (kvs.map fun p => (p.1, p.2.2)) (qk n)).isSome = decide (n ∈ qs) := by
  rw [I.em, qk_val qs hs n hn]
theorem RM.lenK (I : RM P w H H' Wl Dd S W qs acc kvs) : kvs.length = qs.length := by
  have := congrArg List.length I.em
  rw [List.length_map, List.length_map] at this
  exact this
theorem RM.no (I : RM P w H H' Wl Dd S W qs acc kvs) (hs : ∀ q ∈ qs, q.1.isSome = true) {n : Node} (hn : n.1.isSome = true) (h : n ∉ qs) : valV (kvs.map fun p => (p.1, p.2.2)) (qk n) = none := by
  have := I.has hs n hn
  rw [decide_eq_false h] at this
  cases hv : valV (kvs.map fun p => (p.1, p.2.2)) (qk n) with
  | none => rfl
  | some v => rw [hv] at this; cases this
theorem RM.tkD (I : RM P w H H' Wl Dd S W qs acc kvs) {o : HO} : TK H' (upd H' Dd o) := .dx I.hD
theorem RM.tkL (I : RM P w H H' Wl Dd S W qs acc kvs) {o : HO} : TK H' (upd H' Wl o) := .lst I.hW
theorem RM.tk (I : RM P w H H' Wl Dd S W qs acc kvs) {o : HO} {c : Addr} {ys : List V} (e : H' c = some (.tup ys)) : (upd H' Dd o) c = some (.tup ys) := by
  rw [upd_ne (ne_of e I.hD (by intro z; cases z))]
  exact e
theorem RM.tkW (I : RM P w H H' Wl Dd S W qs acc kvs) {o : HO} {c : Addr} {ys : List V} (e : H' c = some (.tup ys)) : (upd H' Wl o) c = some (.tup ys) := by
  rw [upd_ne (ne_of e I.hW (by intro z; cases z))]
  exact e
theorem RM.seen (I : RM P w H H' Wl Dd S W qs acc kvs) (nD : H Dd = none) {n : Node} {t : Addr} {c : Nat} (hn1 : n.1 = some c) (ht : H' t = some (.tup (keyV n))) : RM P w H (upd H' Dd (DX P w Dd (kvs ++ [(qk n, t, V.bl true)]))) Wl Dd S W (qs ++ [n]) acc (kvs ++ [(qk n, t, V.bl true)]) := by
  refine ⟨fun c o e => ?_, ?_, I.eW.imp fun c r q => q.kt I.tkD, upd_same, fun p hp => ?_, ?_⟩
  · rw [upd_ne (ne_of_none e nD)]
    exact I.sm _ _ e
  · rw [upd_ne (ne_of I.hW I.hD (by intro z; cases z))]
    exact I.hW
  · rcases List.mem_append.mp hp with hp | hp
    · exact (I.ka p hp).kt fun c ys e => I.tk e
    · cases List.mem_singleton.mp hp
      exact (qk_at hn1 ht).kt fun c ys e => I.tk e
  · rw [List.map_append, List.map_append, I.em]
    rfl
theorem RM.app (I : RM P w H H' Wl Dd S W qs acc kvs) (nW : H Wl = none) {c : Addr} {p : Nat} (hc : isBE S (W ++ [p]) H' c p) : RM P w H (upd H' Wl (.lst (acc ++ [.ref c]))) Wl Dd S (W ++ [p]) qs (acc ++ [.ref c]) kvs := by
  refine ⟨fun b o e => ?_, upd_same, Ea.push (I.eW.imp fun c r q => (q.kt I.tkL).grow pre_app) (hc.kt I.tkL), ?_, fun p hp => (I.ka p hp).kt fun c ys e => I.tkW e, I.em⟩
  · rw [upd_ne (ne_of_none e nW)]
    exact I.sm _ _ e
  · rw [upd_ne (ne_of I.hW I.hD (by intro z; cases z)).symm]
    exact I.hD
end
/-- what was put in, and the keys -/
structure RJ (S : B2.Sys Node) (W : List Nat) (qs : List Node) : Prop where
  nq : qs.Nodup
  kq : ∀ q ∈ qs, q.1.isSome = true ∧ ∃ r ∈ W, nd S r = q
  len : W.length = S.M + qs.length
  pre : ∃ T, W = List.range S.M ++ T ∧ ∀ x ∈ T, S.M ≤ x
section
variable {S : B2.Sys Node} {W : List Nat} {qs : List Node}
theorem RJ.push (j : RJ S W qs) {p : Nat} (hn : nd S p ∉ qs) (hM : S.M ≤ p) (h1 : (nd S p).1.isSome = true) : RJ S (W ++ [p]) (qs ++ [nd S p]) := by
  refine ⟨LF.nodup_snoc j.nq hn, fun x hx => ?_, ?_, ?_⟩
  · rcases List.mem_append.mp hx with h | h
    · obtain ⟨z0, r, hr, z⟩ := j.kq x h
      exact ⟨z0, r, List.mem_append_left _ hr, z⟩
    · rw [List.mem_singleton.mp h]
      exact ⟨h1, p, List.mem_append_right _ (List.mem_singleton.mpr rfl), rfl⟩
  · rw [List.length_append, List.length_append, j.len]
    rfl
  · obtain ⟨T, e, h⟩ := j.pre
    refine ⟨T ++ [p], by rw [e, List.append_assoc], fun x hx => ?_⟩
    rcases List.mem_append.mp hx with h' | h'
    · exact h x h'
    · rw [List.mem_singleton.mp h']
      exact hM
theorem RJ.root_ix (j : RJ S W qs) : ∀ i q : Nat, W[i]? = some q → q < S.M → i = q := fun i q hi hq => by
  obtain ⟨T, e, h⟩ := j.pre
  rw [e] at hi
  rcases Nat.lt_or_ge i S.M with l | l
  · rw [List.getElem?_append_left (by rw [List.length_range]; exact l), List.getElem?_range l] at hi
    injection hi
  · rw [List.getElem?_append_right (by rw [List.length_range]; exact l)] at hi
    have := h q (List.mem_of_getElem? hi)
    omega
theorem RJ.init : RJ S (List.range S.M) [] :=
  ⟨List.nodup_nil, (fun q hq => (List.not_mem_nil hq).elim), by rw [List.length_range]; rfl, [], by rw [List.append_nil], fun x hx => (List.not_mem_nil hx).elim⟩
end
end PA

set_option maxHeartbeats 8000000
/-! Claim.broken -/
namespace PA
open PySem L2 RZ
open C8 (pss_cut tCut)
open TC (Lc LOk GoodL verds)
open BR (Node)
open B2 (nd root calls child)
theorem u1 {a : Nat} (h : a + 64 < cLine) : a + 1 < cLine := Nat.lt_of_le_of_lt (Nat.add_le_add_left (by decide) a) h
theorem catA {K : PySem.W.Frag} {H : Hp} {a b : Addr} {xs ys : List V} {Q : VK} (ha : H a = some (.tup xs)) (hb : H b = some (.tup ys)) (hl : xs.length + ys.length ≤ sizeLine) (hy : ys ≠ []) (kk : ∀ p H', Same H H' → H' p = some (.tup (xs ++ ys)) → Q (.ref p) H') : rCatA K (.ref a) (.ref b) H Q :=
  ⟨a, b, xs, ys, rfl, rfl, SqT.of ha, SqT.of hb, hl, fun e => kk b H (fun _ _ h => h) (by rw [e]; exact hb), fun _ e => absurd e hy, fun _ _ p hp => kk p _ (Same.new hp) upd_same⟩
theorem pe_fldF {X : Cx} {K : PySem.W.Frag} (hK : X.K = K) {e : PySem.Expr} {f : Str} {pos : Pos} {ta : TE} (h : PE X e ta) (h2 : attributeBase e f X.env (eval e X.env) = eval e X.env := by rfl) : PE X (e.Attribute f pos) (tFld K ta f) := by
  subst hK
  exact pe_fld h h2
abbrev sBroken : Stmt := inClass (top 36) 3
abbrev stZ (st : List Nat) : List Int := st.map fun (n : Nat) => (n : Int)
abbrev bS (rows : List Rw) (st : List Nat) (ls : List Lc) (h0 : 0 < st.length) : B2.Sys Node := BR.sys (rows.map toLr) st ls h0
/-- a claim with these lines -/
def ClaimL (CC : Addr) (H : Hp) (p : Addr) (ls : List Lc) : Prop := ∃ dx R refs, H p = some (.ins CC dx (CL.rsf R)) ∧ H R = some (.tup refs) ∧ Ea H isLc refs ls
/-- what the search gives back for the first path and call -/
def BrkV (H : Hp) (S : B2.Sys Node) (m : Nat) : Option (Nat × Nat) → V → Prop
  | none, v => v = .non
  | some (e, c), v => ∃ t cc, v = .ref t ∧ H t = some (.tup [.int ((root S e / m : Nat) : Int), .int ((root S e % m : Nat) : Int), .ref cc]) ∧ H cc = some (.tup (natsV (calls S e ++ [c])))
def spBroken (K : PySem.W.Frag) (C CC : Addr) : Sp := fun vs H Q _ => ∃ (p r : Addr) (ls : List Lc) (rows : List Rw) (st : List Nat) (m : Nat) (h0 : 0 < st.length), vs = [.ref p, .ref r] ∧ ClaimL CC H p ls ∧ RuleAt K C H r rows (stZ st) (m : Int) ∧ GoodL ls ∧ (∀ x ∈ rows, RwOk rows.length x) ∧ (∀ s ∈ st, s < rows.length) ∧ 0 < m ∧ m ≤ 16 ∧ st.length ≤ 16 ∧ rows.length ≤ 48 ∧
  ∀ o v H', Same H H' → B2.Res (bS rows st ls h0) o → BrkV H' (bS rows st ls h0) m o v → Q v H'
/-- each path leads to a node that the tables know -/
theorem nd_ok {rows : List Rw} {st : List Nat} {ls : List Lc} {h0 : 0 < st.length} (gl : GoodL ls) (hrw : ∀ x ∈ rows, RwOk rows.length x) (hst : ∀ s ∈ st, s < rows.length) (p : Nat) : NdOk rows.length ls.length (nd (bS rows st ls h0) p) := by
  induction p using Nat.strongRecOn with
  | _ p ih =>
    by_cases h : p < (bS rows st ls h0).M
    · rw [B2.nd_root h]
      have h : p < st.length := h
      refine ⟨?_, fun b hb => by cases hb⟩
      show st.getD p 0 < rows.length
      rw [List.getD_eq_getElem?_getD, List.getElem?_eq_getElem h]
      exact hst _ (List.getElem_mem h)
    · obtain ⟨q, c, hc, rfl, hq⟩ := B2.path_cases h
      rw [B2.nd_child hc]
      exact stp_ok hrw gl (ih q hq) hc
theorem nd_last {rows : List Rw} {st : List Nat} {ls : List Lc} {h0 : 0 < st.length} {q c : Nat} (hc : c < 2) : (nd (bS rows st ls h0) (child (bS rows st ls h0) q c)).1 = some c := by
  rw [B2.nd_child hc]
  rfl
theorem RJ.few {rows : List Rw} {st : List Nat} {ls : List Lc} {h0 : 0 < st.length} {W : List Nat} {qs : List Node} (gl : GoodL ls) (hrw : ∀ x ∈ rows, RwOk rows.length x) (hst : ∀ s ∈ st, s < rows.length) (j : RJ (bS rows st ls h0) W qs) : qs.length ≤ 2 * rows.length * 2 * ls.length := by
  refine BR.nfew _ _ j.nq fun q hq => ?_
  obtain ⟨h1, r, _, rfl⟩ := j.kq q hq
  obtain ⟨c, hc⟩ := Option.isSome_iff_exists.mp h1
  obtain ⟨o1, o2⟩ := nd_ok (h0 := h0) gl hrw hst r
  exact ⟨c, hc, (o2 c hc).1, o1, (o2 c hc).2⟩
def BInv (P : Program) (w : World) (H : Hp) (p r Wl Dd : Addr) (S : B2.Sys Node) (bd : Nat) (m : Nat) (σ' : List (Option V)) (H' : Hp) : Prop := ∃ (d : Nat) (W X : List Nat) (qs : List Node) (acc : List V) (kvs : List DE) (x5 x6 x7 x8 : Option V),
  σ' = [some (.ref p), some (.ref r), some (.ref Wl), some (.ref Dd), some (.int ((d : Nat) : Int)), x5, x6, x7, x8, none] ∧ RM P w H H' Wl Dd S W qs acc kvs ∧ RJ S W qs ∧ B2.BI S W d X ∧ d ≤ W.length ∧ d + m = S.M + bd
abbrev NBroken : List Str := ["self", "rule", "entries", "seen", "done", "call", "entry", "start", "calls", "state"]
section
variable {P : Program} {w : World} {K : PySem.W.Frag} {mg : Str → Option Value} {base : Heap} {C CC Fo gN gA gV gW : Addr} {eN eA eV eW : FuncData}
theorem scBroken : FnScope NBroken ["self", "rule"] (defScope sBroken) := ⟨rfl, rfl, rfl, by decide +kernel, rfl, by decide +kernel, by decide +kernel⟩
theorem ok_broken {f : Addr} {fd : FuncData} (F : Fun K "broken" "Claim.broken" sBroken f fd) (T : Txt K mg C) (TC : CL.TxtC K mg CC Fo) (TV : TxtV K mg) (DN : Df K mg "_next_entry" sNext gN eN ["claim_rows", "rule_rows", "entry", "at", "call"]) (DA : Df K mg "_is_allowed" sAllowed gA eA ["claim_rows", "entry"]) (DV : Df K mg "_number" sNumV gV eV ["rows", "state"])
    (DW : Df K mg "way_to" sWay gW eW ["entries", "at"]) : FnOk P w K mg base CX0 3 f fd ["self", "rule"] (spBroken K C CC) := by
  have GN : FnOk P w K mg base CX0 1 gN eN ["claim_rows", "rule_rows", "entry", "at", "call"] spNext := ok_next DN.F
  have GA : FnOk P w K mg base CX0 2 gA eA ["claim_rows", "entry"] spAllow := ok_allow DA.F TV DV
  have GW : FnOk P w K mg base CX0 1 gW eW ["entries", "at"] spWay := ok_way DW.F T
  refine F.ok scBroken (fun vs H Q E h => ?_) (fun cdv A0 outer s H vs Q E hr h => ?_)
  · obtain ⟨p, _, _, _, _, _, _, rfl, _⟩ := h
    rfl
  · obtain ⟨p, r, ls, rows, st, m, h0, rfl, ⟨dc, CR, crefs, hp, hCR, hEc⟩, rB, gl, hrw, hst, hm, m16, st16, r48, kk⟩ := h
    have hu := u1 hr.units
    have hr1 : Room 1 _ := hr.mono (by decide)
    have hr2 : Room 2 _ := hr.mono (by decide)
    refine ⟨_, pss_cons (ps_setLc (i := 2) (own := [("state", 9)]) (g := gName 9) (tt := tYes) (by rfl) scBroken.nd rfl rfl (sw_true rfl rfl rfl (by decide +kernel)) (pi_tup (pe_fld (pv 1) rfl)) (blkOk_by (N := NBroken) (sc := defScope sBroken) (by decide +kernel))
          (fun _ _ _ _ _ => pg_name (i := 9) scBroken.nd rfl (Or.inl rfl)) (fun _ _ _ _ _ => pts_nil)
          (fun _ _ _ _ _ => pe_tup (pa_cons pe_non (pa_cons pe_non (pa_cons (pv 9) (pa_cons pe_int (pa_cons pe_non pa_nil)))))))
      (pss_cons (ps_set (i := 3) scBroken.nd rfl (Or.inl rfl) pe_dnewX)
      (pss_cons (ps_set (i := 4) scBroken.nd rfl (Or.inl rfl) pe_int)
      (pss_cons (ps_while PassesOwn.never (pt_cmpR op_lt (pv 4) (pe_callB call_len_seq (by rfl) T.len_ PySem.boot_len (pa_cons (pv 2) pa_nil)) (nomark _))
        (pss_cons (ps_for PassesOwn.never rfl (pi_tup (pe_tup (pa_cons pe_int (pa_cons pe_int pa_nil)))) (pg_name (i := 5) scBroken.nd rfl (Or.inl rfl))
          (pss_cons (ps_set (i := 6) scBroken.nd rfl (Or.inl rfl) (pe_call GN hr1 rfl DN.M DN.F.kp DN.B .nil pass0 (pa_cons (pe_fld (pv 0) rfl) (pa_cons (pe_fld (pv 1) rfl) (pa_cons (pe_ix ix_list (pv 2) (pv 4) (fun _ _ => rfl)) (pa_cons (pv 4) (pa_cons (pv 5) pa_nil)))))))
          (pss_cons (ps_if (pt_not (pt_val (pe_call GA hr2 rfl DA.M DA.F.kp DA.B .nil pass0 (pa_cons (pe_fld (pv 0) rfl) (pa_cons (pv 6) pa_nil)))))
            (pss_cons (ps_asg (pe_call GW hr1 rfl DW.M DW.F.kp DW.B .nil pass0 (pa_cons (pv 2) (pa_cons (pv 4) pa_nil))) (pg_tup rfl (pgs_cons (pg_name (i := 7) scBroken.nd rfl (Or.inl rfl)) (pgs_cons (pg_name (i := 8) scBroken.nd rfl (Or.inl rfl)) pgs_nil))))
            (pss_one (ps_ret (pe_tup (pa_cons (pe_op op_fdiv (pv 7) (pe_fld (pv 1) rfl)) (pa_cons (pe_op op_mod (pv 7) (pe_fld (pv 1) rfl)) (pa_cons (pe_op op_catA (pv 8) (pe_tup (pa_cons (pv 5) pa_nil))) pa_nil))))))) pss_nil)
          (pss_one (ps_if (pt_cmpR (op_notIn_dx hu) (pe_slice sl_tup (pv 6) (po_some pe_int) po_none) (pv 3) rfl)
            (pss_cons (ps_asg pe_bl (pg_sub (pv 3) (pe_slice sl_tup (pv 6) (po_some pe_int) po_none) (set_dx hu)))
            (pss_one (ps_expr (pe_bm PySem.F.plainAttrs_list PySem.F.slot_list_append PySem.F.type_list_append mt_append (pv 2) (pa_cons (pv 6) pa_nil))))) pss_nil)))))
        (pss_one (ps_aug (i := 4) scBroken.nd rfl (Or.inl rfl) pe_int ip_add))))
      (pss_one (ps_ret pe_non))))), ?_⟩
    obtain ⟨dx, Rr, Sr, refs, hrr, hR, hE, hS⟩ := id rB
    have eM : (bS rows st ls h0).M = st.length := rfl
    refine ⟨_, rfl, r, C, dx, _, _, rfl, hrr, T.cl, T.nS, rf_starts _ _ _, Sr, rfl, ⟨_, hS⟩, fun Wl hW => ?_⟩
    have eWl := Same.new (o := .lst []) hW
    refine lc_tup (K := K) (xs := (stZ st).map V.int) (fun i H' => Same H H' ∧ ∃ acc, H' Wl = some (.lst acc) ∧ Ea H' (isBE (bS rows st ls h0) (List.range st.length)) acc (List.range i)) ?_ ?_ ?_ ?_
    · exact ⟨eWl, [], upd_same, Ea.nil⟩
    · rintro i H' _ ⟨s', _⟩
      exact hS.up s'
    · rintro i x H3 hx ⟨s3, acc, hd, he⟩
      have hi : i < st.length := by
        have := (List.getElem?_eq_some_iff.mp hx).1
        simp only [List.length_map] at this
        exact this
      obtain rfl : x = V.int (st[i] : Int) := by
        rw [List.getElem?_map, List.getElem?_map, List.getElem?_eq_getElem hi] at hx
        cases hx
        rfl
      refine ⟨rfl, ?_⟩
      dsimp only [tYes]
      rw [if_pos rfl]
      refine ⟨_, rfl, by show 5 ≤ sizeLine; decide, fun t1 h1 => ?_⟩
      have e1 := Same.new (o := .tup [V.non, .non, .int (st[i] : Int), .int 0, .non]) h1
      have g1 : (upd H3 t1 (.tup [V.non, .non, .int (st[i] : Int), .int 0, .non])) t1 = some (.tup [V.non, .non, .int (st[i] : Int), .int 0, .non]) := upd_same
      have hd5 := e1 _ _ hd
      generalize (upd H3 t1 (.tup [V.non, .non, .int (st[i] : Int), .int 0, .non])) = H6 at e1 g1 hd5 ⊢
      have hBE : isBE (bS rows st ls h0) (List.range st.length) H6 t1 i := by
        have en : nd (bS rows st ls h0) i = (none, st.getD i 0, false, 0) := B2.nd_root (S := bS rows st ls h0) hi
        refine ⟨.non, ?_, fun _ => ⟨rfl, by rw [en]⟩, fun q k hk e => ?_⟩
        · rw [en, g1, List.getD_eq_getElem?_getD, List.getElem?_eq_getElem hi]
          rfl
        · have := B2.child_ge (S := bS rows st ls h0) q k
          omega
      have s6 := s3.trans e1
      refine ⟨acc, hd5, ?_, ?_, acc ++ [.ref t1], upd_same, ?_⟩
      · rw [he.1, List.length_range]
        exact Nat.lt_of_lt_of_le (by omega : i < 64) (by decide)
      · intro b o e
        rw [upd_ne (ne_of_none e hW)]
        exact s6 _ _ e
      · rw [List.range_succ]
        exact (he.imp fun b r q => (q.kt (.same e1)).kt (.lst hd5)).push (hBE.kt (.lst hd5))
    rintro H3 ⟨s3, acc0, hW3, eW3⟩
    have l3 : ((stZ st).map V.int).length = st.length := by simp
    rw [l3] at eW3
    intro Dd hDn
    have eD := Same.new (o := DX P w Dd []) hDn
    have nD : H Dd = none := L2.Same.none s3 hDn
    have LB : rows.length * ls.length ≤ 48 * 48 := Nat.mul_le_mul r48 gl.most
    have LB2 : 2 * rows.length * 2 * ls.length = 4 * (rows.length * ls.length) := by
      rw [Nat.mul_right_comm 2 rows.length 2, Nat.mul_assoc]
    refine ⟨BInv P w H p r Wl Dd (bS rows st ls h0) (2 * rows.length * 2 * ls.length), ⟨st.length + 2 * rows.length * 2 * ls.length, 0, List.range st.length, [], [], acc0, [], none, none, none, none, rfl, ?_, RJ.init, B2.BI.init, Nat.zero_le _, Nat.zero_add _⟩, ?_⟩
    · exact ⟨s3.trans eD, eD _ _ hW3, eW3.imp fun c r q => q.kt (.same eD), upd_same, fun p hp => (List.not_mem_nil hp).elim, rfl⟩
    rintro n0 _ H4 ⟨d, W, X, qs, acc, kvs, x5, x6, x7, x8, rfl, I, J, b, hdl, hdm⟩
    have hal : acc.length = W.length := I.eW.1
    have fq := J.few gl hrw hst
    have lenW := J.len
    refine ⟨_, rfl, _, rfl, Wl, _, rfl, .inl (SqL.of I.hW), _, _, rfl, rfl, _, rfl, ifD_2 (fun hlt => ?_) (fun hge => ?_)⟩
    · have hlt' : d < W.length := by omega
      refine ⟨fun σ' H' => ∃ m', m' < n0 ∧ BInv P w H p r Wl Dd (bS rows st ls h0) (2 * rows.length * 2 * ls.length) m' σ' H', fun _ _ h => h, ?_⟩
      have he : W[d]? = some W[d] := List.getElem?_eq_getElem hlt'
      generalize W[d] = e at he
      obtain ⟨c, hc, hEn⟩ := I.eW.get he
      have oke := nd_ok (h0 := h0) gl hrw hst e
      refine ⟨by show 2 ≤ sizeLine; decide, fun tp htp => ⟨tp, rfl, ⟨_, SqT.of upd_same⟩, ?_⟩⟩
      have e4 := Same.new (o := .tup [V.int 0, .int 1]) htp
      have I4 := I.same e4
      have hE4 := hEn.kt (.same e4)
      have gtp : (upd H4 tp (.tup [V.int 0, .int 1])) tp = some (.tup [V.int 0, .int 1]) := upd_same
      generalize (upd H4 tp (.tup [V.int 0, .int 1])) = H5 at I4 hE4 gtp ⊢
      have hcl := b.calls_le d e he
      refine for_tup (K := K) (a := tp) (xs := [V.int 0, .int 1]) (fun j σ' H' => ∃ (ad : List Nat) (qs : List Node) (acc : List V) (kvs : List DE) (x5 x6 x7 x8 : Option V), σ' = [some (.ref p), some (.ref r), some (.ref Wl), some (.ref Dd), some (.int ((d : Nat) : Int)), x5, x6, x7, x8, none] ∧ RM P w H H' Wl Dd (bS rows st ls h0) (W ++ ad) qs acc kvs ∧ RJ (bS rows st ls h0) (W ++ ad) qs ∧ ad.Pairwise (· < ·) ∧ (∀ x ∈ ad, ∃ k, k < j ∧ x = child (bS rows st ls h0) e k) ∧ (∀ k, k < j → ¬ B2.Pt (bS rows st ls h0) e k ∧ ∃ r' ∈ W ++ ad, r' ≤ child (bS rows st ls h0) e k ∧ (bS rows st ls h0).Rel (nd (bS rows st ls h0) (child (bS rows st ls h0) e k)) (nd (bS rows st ls h0) r')) ∧ H' tp = some (.tup [V.int 0, .int 1])) ?_ ?_ ?_ ?_
      · refine ⟨[], qs, acc, kvs, _, _, _, _, rfl, ?_, ?_, List.Pairwise.nil, (fun x hx => (List.not_mem_nil hx).elim), (fun k hk => absurd hk (Nat.not_lt_zero _)), gtp⟩
        · rw [List.append_nil]
          exact I4
        · rw [List.append_nil]
          exact J
      · rintro j σ' H' _ ⟨_, _, _, _, _, _, _, _, _, _, _, _, _, _, ht⟩
        exact SqT.of ht
      · rintro j x _ H6 hx ⟨ad, qs6, acc6, kvs6, x5, x6, x7, x8, rfl, I6, J6, so, sub, ch, htp6⟩
        have hj : j < 2 := (List.getElem?_eq_some_iff.mp hx).1
        obtain rfl : x = V.int (j : Int) := by
          rcases j with _ | _ | j
          · cases hx; rfl
          · cases hx; rfl
          · omega
        have al6 := I6.eW.1
        have lenW6 := J6.len
        have fq6 := J6.few gl hrw hst
        obtain ⟨c6, hc6, xe, hcT, hx1, hx2⟩ := I6.eW.get (pre_app _ _ he)
        refine ⟨_, rfl, p, CC, dc, _, _, rfl, I6.sm _ _ hp, TC.cl, TC.nR, CL.rsf_rows _, _, rfl, r, C, dx, _, _, rfl, I6.sm _ _ hrr, T.cl, T.nR, rf_rows _ _ _, _, rfl, _, rfl, Wl, acc6, ((d : Nat) : Int), .ref c6, rfl, rfl, SqL.of I6.hW, atI_nat hc6, _, rfl, _, rfl, ?_⟩
        refine ⟨CR, Rr, c6, crefs, refs, ls, rows, xe, nd (bS rows st ls h0) e, d, j, rfl, I6.sm _ _ hCR, hEc.imp fun c r q => I6.sm _ _ q, I6.sm _ _ hR, hE.sameT I6.sm, hcT, gl, hrw, oke, hj, fun t H7 s7 ht => ?_⟩
        have en : nd (bS rows st ls h0) (child (bS rows st ls h0) e j) = BR.stp (rows.map toLr) ls (nd (bS rows st ls h0) e) j := B2.nd_child hj
        rw [← en] at ht
        have I7 := I6.same s7
        have htp7 := s7 _ _ htp6
        have okc := nd_ok (h0 := h0) gl hrw hst (child (bS rows st ls h0) e j)
        have hl := nd_last (rows := rows) (st := st) (ls := ls) (h0 := h0) (q := e) hj
        refine ⟨_, rfl, p, CC, dc, _, _, rfl, I7.sm _ _ hp, TC.cl, TC.nR, CL.rsf_rows _, _, rfl, CR, t, crefs, ls, .int (d : Int), nd (bS rows st ls h0) (child (bS rows st ls h0) e j), j, rfl, I7.sm _ _ hCR, hEc.imp fun c r q => I7.sm _ _ q, gl, ht, hl, hj, (okc.2 j hl).2, _, rfl, ?_⟩
        have hbad : B2.Pt (bS rows st ls h0) e j ↔ BR.okN ls (nd (bS rows st ls h0) (child (bS rows st ls h0) e j)) = false := by
          rw [en]
          exact Iff.rfl
        generalize hN : nd (bS rows st ls h0) (child (bS rows st ls h0) e j) = N at *
        cases hok : BR.okN ls N with
        | false =>
          refine iteT ?_
          refine ⟨_, rfl, _, rfl, Node, bS rows st ls h0, W ++ ad, Wl, acc6, d, e, rfl, I7.hW, I7.eW.imp fun c r q => q.way, J6.root_ix, pre_app _ _ he, by omega, fun u2 t2 H8 s8 hu8 ht8 => ?_⟩
          refine ⟨u2, _, rfl, SqT.of hu8, rfl, _, _, rfl, _, _, rfl, rfl, ?_⟩
          have I8 := I7.same s8
          have hmm : (0 : Int) < (m : Int) ∧ (m : Int) < 1073741824 := by omega
          refine ⟨_, rfl, _, rfl, r, C, dx, _, _, rfl, I8.sm _ _ hrr, T.cl, T.nM, rf_marks _ _ _, _, _, rfl, rfl, hmm, ?_⟩
          refine ⟨_, rfl, _, rfl, r, C, dx, _, _, rfl, I8.sm _ _ hrr, T.cl, T.nM, rf_marks _ _ _, _, _, rfl, rfl, hmm.1, ?_⟩
          refine ⟨_, rfl, _, rfl, by show 1 ≤ sizeLine; decide, fun t5 h5 => catA (xs := natsV (calls (bS rows st ls h0) e)) (ys := [V.int (j : Int)]) (Same.new h5 _ _ ht8) upd_same ?_ (by intro z; cases z) fun pc H9 s9 hpc => ⟨by show 3 ≤ sizeLine; decide, fun t6 h6 => ?_⟩⟩
          · unfold natsV
            rw [List.length_map]
            exact Nat.le_trans (Nat.add_le_add_right (by omega : (calls (bS rows st ls h0) e).length ≤ 10000) 1) (by decide)
          have s9' := ((Same.new (o := .tup [V.int (j : Int)]) h5).trans s9).trans (Same.new (o := .tup [.int ((root (bS rows st ls h0) e : Nat) / (m : Int)), .int ((root (bS rows st ls h0) e : Nat) % (m : Int)), .ref pc]) h6)
          refine kk (some (e, j)) _ _ (I8.sm.trans s9') (b.found he hj (hbad.mpr hok) fun k hk => (ch k hk).1) ⟨t6, pc, rfl, upd_same, ?_⟩
          rw [Same.new h6 _ _ hpc]
          unfold natsV
          rw [List.map_append]
          rfl
        | true =>
          refine iteF ?_
          have hnp : ¬ B2.Pt (bS rows st ls h0) e j := fun z => by
            have := hbad.mp z
            rw [hok] at this
            cases this
          have hls : N.1.isSome = true := by rw [hl]; rfl
          have his := fun q hq => (J6.kq q hq).1
          have hcut : ¬ (HT.sIx (enV (.int (d : Int)) N).length 0 (some 1) = 0 ∧ HT.sIx (enV (.int (d : Int)) N).length (enV (.int (d : Int)) N).length none = (enV (.int (d : Int)) N).length) := by
            rintro ⟨z, _⟩
            exact absurd z (by show ¬ HT.sIx 5 0 (some 1) = 0; decide)
          refine ⟨_, rfl, _, rfl, t, _, rfl, SqT.of ht, hcut, fun u' hu' => ?_⟩
          have s8 := Same.new (o := .tup (keyV N)) hu'
          have gu : (upd H7 u' (.tup (keyV N))) u' = some (.tup (keyV N)) := upd_same
          have I8 := I7.same s8
          have ht8 := s8 _ _ ht
          have htp8 := s8 _ _ htp7
          have hcv : cutV (enV (.int (d : Int)) N) (some 1) none = keyV N := rfl
          rw [hcv]
          generalize (upd H7 u' (.tup (keyV N))) = H8 at s8 gu I8 ht8 htp8 ⊢
          refine ⟨_, rfl, Dd, u', _, qk N, rfl, rfl, ⟨kvs6, I8.hD, rfl, I8.ka⟩, qk_at hl gu, _, rfl, ?_⟩
          rw [I8.has his N hls]
          by_cases hin : N ∈ qs6
          · rw [decide_eq_true hin]
            refine iteF ?_
            obtain ⟨_, r0, hr0, w1⟩ := J6.kq N hin
            refine ⟨ad, qs6, acc6, kvs6, _, _, _, _, rfl, I8, J6, so, (fun x hx => (sub x hx).imp fun k z => ⟨by omega, z.2⟩), fun k hk => ?_, htp8⟩
            rcases Nat.lt_or_eq_of_le (Nat.le_of_lt_succ hk) with h | rfl
            · exact ch k h
            · refine ⟨hnp, r0, hr0, ?_, ?_⟩
              · rcases List.mem_append.mp hr0 with h | h
                · exact Nat.le_of_lt (b.above he k r0 h)
                · obtain ⟨k0, hk0, rfl⟩ := sub r0 h
                  unfold child
                  omega
              · show nd (bS rows st ls h0) (child (bS rows st ls h0) e k) = nd (bS rows st ls h0) r0
                rw [hN, w1]
          · rw [decide_eq_false hin]
            refine iteT ?_
            refine ⟨_, rfl, _, rfl, _, rfl, t, _, rfl, SqT.of ht8, hcut, fun u2 hu2 => ?_⟩
            have s9 := Same.new (o := .tup (keyV N)) hu2
            have gu2 : (upd H8 u2 (.tup (keyV N))) u2 = some (.tup (keyV N)) := upd_same
            have I9 := I8.same s9
            have ht9 := s9 _ _ ht8
            have htp9 := s9 _ _ htp8
            rw [hcv]
            generalize (upd H8 u2 (.tup (keyV N))) = H9 at s9 gu2 I9 ht9 htp9 ⊢
            refine ⟨Dd, u2, kvs6, qk N, rfl, rfl, I9.hD, I9.ka, qk_at hl gu2, I9.no his hls hin, ?_, ?_⟩
            · rw [I9.lenK]
              exact Nat.lt_of_le_of_lt (by omega : qs6.length ≤ 10000) (by decide)
            have I10 := I9.seen nD hl gu2
            have ht10 := I9.tkD (o := DX P w Dd (kvs6 ++ [(qk N, u2, V.bl true)])) |>.1 _ _ ht9
            have htp10 := I9.tkD (o := DX P w Dd (kvs6 ++ [(qk N, u2, V.bl true)])) |>.1 _ _ htp9
            refine ⟨_, rfl, .inl ⟨rfl, _, SqL.of I10.hW⟩, _, rfl, Wl, acc6, _, rfl, rfl, I10.hW, Nat.lt_of_le_of_lt (by omega : acc6.length ≤ 10000) (by decide), ?_⟩
            have hBE : isBE (bS rows st ls h0) (W ++ ad ++ [child (bS rows st ls h0) e j]) (upd H9 Dd (DX P w Dd (kvs6 ++ [(qk N, u2, V.bl true)]))) t (child (bS rows st ls h0) e j) := by
              refine ⟨.int ((d : Nat) : Int), by rw [hN]; exact ht10, fun hlt => ?_, fun q0 k0 hk0 e0 => ⟨d, ?_, rfl, ?_⟩⟩
              · have := B2.child_ge (S := (bS rows st ls h0)) e j
                omega
              · have e1 : e = q0 := by
                  have := (B2.child_par (S := (bS rows st ls h0)) (p := e) hj).1
                  rw [e0, (B2.child_par (S := (bS rows st ls h0)) (p := q0) hk0).1] at this
                  exact this.symm
                rw [← e1]
                exact pre_app _ _ (pre_app _ _ he)
              · have := (B2.child_par (S := (bS rows st ls h0)) (p := e) hj).2
                rw [e0, (B2.child_par (S := (bS rows st ls h0)) (p := q0) hk0).2] at this
                rw [hN, hl, this]
            have I11 := I10.app hW hBE
            have J11 := J6.push (p := child (bS rows st ls h0) e j) (by rw [hN]; exact hin) (B2.child_ge (S := (bS rows st ls h0)) e j) (by rw [hN]; exact hls)
            rw [hN] at J11
            refine ⟨ad ++ [child (bS rows st ls h0) e j], qs6 ++ [N], acc6 ++ [.ref t], _, _, _, _, _, rfl, by rw [← List.append_assoc]; exact I11, by rw [← List.append_assoc]; exact J11, ?_, ?_, fun k hk => ?_, (TK.lst I10.hW).1 _ _ htp10⟩
            · refine List.pairwise_append.mpr ⟨so, List.pairwise_singleton _ _, fun x hx y hy => ?_⟩
              obtain ⟨k0, hk0, rfl⟩ := sub x hx
              rw [List.mem_singleton.mp hy]
              unfold child
              omega
            · intro x hx
              rcases List.mem_append.mp hx with h | h
              · obtain ⟨k0, hk0, z⟩ := sub x h
                exact ⟨k0, by omega, z⟩
              · exact ⟨j, by omega, List.mem_singleton.mp h⟩
            · rcases Nat.lt_or_eq_of_le (Nat.le_of_lt_succ hk) with h | rfl
              · obtain ⟨z1, r0, z2, z3⟩ := ch k h
                exact ⟨z1, r0, by rw [← List.append_assoc]; exact List.mem_append_left _ z2, z3⟩
              · exact ⟨hnp, child (bS rows st ls h0) e k, by rw [← List.append_assoc]; exact List.mem_append_right _ (List.mem_singleton.mpr rfl), Nat.le_refl _, (bS rows st ls h0).refl _⟩
      · rintro σ' H' ⟨ad, qs6, acc6, kvs6, x5, x6, x7, x8, rfl, I6, J6, so, sub, ch, _⟩
        have al6 := I6.eW.1
        have lenW6 := J6.len
        have fq6 := J6.few gl hrw hst
        have hla : d + 1 ≤ (W ++ ad).length := by
          rw [List.length_append]
          omega
        refine ⟨_, rfl, _, _, rfl, rfl, n0 - 1, by omega, d + 1, W ++ ad, X ++ [e], qs6, acc6, kvs6, _, _, _, _, rfl, I6, J6, b.lead he (fun k hk => (ch k hk).1) so (fun x hx => (sub x hx).imp fun k z => z) (fun k hk => (ch k hk).2), hla, by omega⟩
    · exact kk none _ H4 I.sm (b.none (by omega)) rfl

end
end PA

set_option maxHeartbeats 8000000
/-! the law's own tables: a step, a verdict, a pair -/
namespace PA
open PySem L2 RZ
open C8 (pss_cut tCut)
open TC (Lc LOk GoodL verds)
open BR (Node)
abbrev sAft : Stmt := top 71
abbrev sPair : Stmt := top 72
abbrev sAllows : Stmt := top 74
abbrev Rn := Nat × Bool × Nat × Bool
def rz (r : Rn) : Rw := ((r.1 : Int), r.2.1, (r.2.2.1 : Int), r.2.2.2)
abbrev isR : Hp → Addr → Rn → Prop := fun H c r => isT H c (rz r)
theorem toLr_rz (r : Rn) : toLr (rz r) = r := rfl
theorem map_rz (A : List Rn) : (A.map rz).map toLr = A := by
  rw [List.map_map]
  exact List.map_id A
/-- the law's table: rows, starts, number of marks -/
def TabL (H : Hp) (t : Addr) (A : List Rn) (st : List Nat) (m : Nat) : Prop := ∃ R S refs, H t = some (.tup [.ref R, .ref S, .int (m : Int)]) ∧ H R = some (.lst refs) ∧ Ea H isR refs A ∧ H S = some (.lst (natsV st))
theorem TabL.same {H H' : Hp} {t : Addr} {A : List Rn} {st : List Nat} {m : Nat} (h : TabL H t A st m) (s : Same H H') : TabL H' t A st m :=
  let ⟨R, S, refs, h1, h2, h3, h4⟩ := h; ⟨R, S, refs, s _ _ h1, s _ _ h2, h3.imp fun c r q => s _ _ q, s _ _ h4⟩
structure OkT (A : List Rn) (st : List Nat) (m : Nat) : Prop where
  ok : ∀ r ∈ A, r.1 < A.length ∧ r.2.2.1 < A.length
  sa : ∀ s ∈ st, s < A.length
  len : st.length = m * m
  m1 : 1 ≤ m
  m4 : m ≤ 4
  a1 : 1 ≤ A.length
  a4 : A.length ≤ 48
section
variable {A : List Rn} {st : List Nat} {m : Nat}
theorem OkT.st0 (o : OkT A st m) : 0 < st.length := by
  rw [o.len]
  exact Nat.mul_pos o.m1 o.m1
theorem OkT.st16 (o : OkT A st m) : st.length ≤ 16 := by
  rw [o.len]
  exact Nat.mul_le_mul o.m4 o.m4
theorem rw_at {i : Nat} (h : i < A.length) : BR.rw_ A i = A[i] := by
  unfold BR.rw_
  rw [List.getD_eq_getElem?_getD, List.getElem?_eq_getElem h]
  rfl
theorem stepR_lt (ok : ∀ r ∈ A, r.1 < A.length ∧ r.2.2.1 < A.length) {s c : Nat} {tu : Bool} (h : s < A.length) : (BR.stepR A s tu c).1 < A.length := by
  show (BR.aft (BR.rw_ A s) _).1 < A.length
  rw [rw_at h]
  have := ok _ (List.getElem_mem h)
  unfold BR.aft
  split
  · exact this.2
  · exact this.1
end
def afV (r : Rn) (b : Bool) : List V := [.int ((BR.aft r b).1 : Int), .bl (BR.aft r b).2]
def spAft : Sp := fun vs H Q _ => ∃ (c : Addr) (r : Rn) (b : Bool), vs = [.ref c, .bl b] ∧ isR H c r ∧ ∀ t H', Same H H' → H' t = some (.tup (afV r b)) → Q (.ref t) H'
def spAllows : Sp := fun vs H Q _ => ∃ (z : Str) (b : Bool), vs = [.str z, .bl b] ∧ Q (.bl (BR.allows z b)) H
/-- a pair's state and whether the second case is ahead, behind some calls -/
def prS (A : List Rn) (s : Nat × Bool) (cs : List Nat) : Nat × Bool := cs.foldl (fun s c => BR.stepR A s.1 s.2 c) s
def prV (A : List Rn) (s : Nat × Bool) (cs : List Nat) : List V := (List.range cs.length).map fun i => V.bl (prS A s (cs.take (i + 1))).2
theorem prS_snoc (A : List Rn) (s : Nat × Bool) (cs : List Nat) (c : Nat) : prS A s (cs ++ [c]) = BR.stepR A (prS A s cs).1 (prS A s cs).2 c := by
  unfold prS
  rw [List.foldl_append]
  rfl
theorem prS_lt {A : List Rn} (ok : ∀ r ∈ A, r.1 < A.length ∧ r.2.2.1 < A.length) : ∀ (cs : List Nat) (s : Nat × Bool), s.1 < A.length → (prS A s cs).1 < A.length
  | [], _, h => h
  | c :: cs, s, h => prS_lt ok cs _ (stepR_lt ok h)
def spPair : Sp := fun vs H Q _ => ∃ (t C : Addr) (A : List Rn) (st : List Nat) (lo hi m s0 : Nat) (cs : List Nat), vs = [.ref t, .int (lo : Int), .int (hi : Int), .ref C] ∧ TabL H t A st m ∧ (∀ r ∈ A, r.1 < A.length ∧ r.2.2.1 < A.length) ∧ lo ≤ 10 ∧ m ≤ 4 ∧ hi ≤ 10 ∧ st[lo * m + hi]? = some s0 ∧ s0 < A.length ∧ H C = some (.lst (natsV cs)) ∧ cs.length ≤ 10000 ∧
  ∀ L H', Same H H' → H' L = some (.lst (prV A (s0, false) cs)) → Q (.ref L) H'
theorem one_ne (c : Nat) (t : Bool) : (!decide (V.bl (decide (V.int (c : Int) = V.int 1)) = V.bl t)) = (decide (c = 1) != t) := by
  by_cases h : c = 1
  · subst h
    cases t <;> decide +kernel
  · have h1 : decide (V.int (c : Int) = V.int 1) = false := decide_eq_false fun z => h (by injection z with z; exact Int.ofNat_inj.mp z)
    rw [h1, decide_eq_false h]
    cases t <;> decide +kernel
theorem bl_ne (b t : Bool) : (!decide (V.bl b = V.bl t)) = (b != t) := by cases b <;> cases t <;> decide +kernel
theorem bl_eq (b t : Bool) : (decide (V.bl b = V.bl t)) = (b == t) := by cases b <;> cases t <;> decide +kernel
theorem nat_mad (a b c : Nat) : (a : Int) * (b : Int) + (c : Int) = ((a * b + c : Nat) : Int) := by
  rw [Int.natCast_add, Int.natCast_mul]
section
variable {P : Program} {w : World} {K : PySem.W.Frag} {mg : Str → Option Value} {base : Heap} {C : Addr}
theorem scAft : FnScope ["_law_row", "_law_behind"] ["_law_row", "_law_behind"] (defScope sAft) := ⟨rfl, rfl, rfl, by decide +kernel, rfl, by decide +kernel, by decide +kernel⟩
theorem ok_aft {f : Addr} {fd : FuncData} (F : Fun K "_law_m_after" "_law_m_after" sAft f fd) : FnOk P w K mg base CX0 1 f fd ["_law_row", "_law_behind"] spAft := by
  refine F.ok scAft (fun vs H Q E h => ?_) (fun cdv A0 outer s H vs Q E hr h => ?_)
  · obtain ⟨c, _, _, rfl, _⟩ := h
    rfl
  · obtain ⟨c, r, b, rfl, hc, kk⟩ := h
    refine ⟨_, pss_one (ps_ret (pe_ifExp (pt_val (pv 1)) (pe_tup (pa_cons (pe_ix ix_tup (pv 0) pe_int (fun _ _ => rfl)) (pa_cons (pe_ix ix_tup (pv 0) pe_int (fun _ _ => rfl)) pa_nil))) (pe_tup (pa_cons (pe_ix ix_tup (pv 0) pe_int (fun _ _ => rfl)) (pa_cons (pe_ix ix_tup (pv 0) pe_int (fun _ _ => rfl)) pa_nil))))), ?_⟩
    have hs : SqT K H c (rv (rz r)) := SqT.of hc
    refine ⟨_, rfl, b, rfl, ?_⟩
    cases b with
    | true => exact iteT ⟨_, rfl, c, _, 2, _, rfl, rfl, hs, rfl, _, rfl, c, _, 3, _, rfl, rfl, hs, rfl, by show 2 ≤ sizeLine; decide, fun t ht => kk t _ (Same.new ht) upd_same⟩
    | false => exact iteF ⟨_, rfl, c, _, 0, _, rfl, rfl, hs, rfl, _, rfl, c, _, 1, _, rfl, rfl, hs, rfl, by show 2 ≤ sizeLine; decide, fun t ht => kk t _ (Same.new ht) upd_same⟩
theorem scAllows : FnScope ["_law_word", "_law_same_here"] ["_law_word", "_law_same_here"] (defScope sAllows) := ⟨rfl, rfl, rfl, by decide +kernel, rfl, by decide +kernel, by decide +kernel⟩
theorem ok_allows {f : Addr} {fd : FuncData} (F : Fun K "_law_m_allows" "_law_m_allows" sAllows f fd) : FnOk P w K mg base CX0 1 f fd ["_law_word", "_law_same_here"] spAllows := by
  refine F.ok scAllows (fun vs H Q E h => ?_) (fun cdv A0 outer s H vs Q E hr h => ?_)
  · obtain ⟨_, _, rfl, _⟩ := h
    rfl
  · obtain ⟨z, b, rfl, kk⟩ := h
    refine ⟨_, pss_one (ps_ret (pe_or (pe_cmpR op_eq (pv 0) pe_str (nomark _)) (pe_one (pe_cmpR op_eq (pv 0) (pe_ifExp (pt_val (pv 1)) pe_str pe_str) (nomark _))))), ?_⟩
    have e1 : ∀ x : Str, decide (V.str z = V.str x) = decide (z = x) := fun x => decide_eq_decide.mpr ⟨fun h => by injection h, fun h => by rw [h]⟩
    refine ⟨_, rfl, rfl, _, rfl, ?_⟩
    rw [e1]
    unfold BR.allows at kk
    cases h : decide (z = (Str.ofString "free")) with
    | true =>
      refine iteT ?_
      have h : decide (z = ("free" : Str)) = true := h
      rw [h] at kk
      exact kk
    | false =>
      refine iteF ?_
      have h : decide (z = ("free" : Str)) = false := h
      rw [h] at kk
      refine ⟨_, rfl, _, rfl, b, rfl, ?_⟩
      cases b with
      | true =>
        refine iteT ⟨rfl, ?_⟩
        rw [e1]
        exact kk
      | false =>
        refine iteF ⟨rfl, ?_⟩
        rw [e1]
        exact kk
abbrev NPair : List Str := ["_law_table", "_law_low", "_law_high", "_law_calls", "_law_state", "_law_turned", "_law_found", "_law_call", "_law_change"]
theorem scPair : FnScope NPair ["_law_table", "_law_low", "_law_high", "_law_calls"] (defScope sPair) := ⟨rfl, rfl, rfl, by decide +kernel, rfl, by decide +kernel, by decide +kernel⟩
theorem ok_pair {f g : Addr} {fd gd : FuncData} (F : Fun K "_law_m_pair" "_law_m_pair" sPair f fd) (D : Df K mg "_law_m_after" sAft g gd ["_law_row", "_law_behind"]) : FnOk P w K mg base CX0 2 f fd ["_law_table", "_law_low", "_law_high", "_law_calls"] spPair := by
  have G : FnOk P w K mg base CX0 1 g gd ["_law_row", "_law_behind"] spAft := ok_aft D.F
  refine F.ok scPair (fun vs H Q E h => ?_) (fun cdv A0 outer s H vs Q E hr h => ?_)
  · obtain ⟨t, c, _, _, lo, hi, _, _, _, rfl, _⟩ := h
    rfl
  · obtain ⟨t, c, A, st, lo, hi, m, s0, cs, rfl, ⟨R, S, refs, ht, hR, hE, hS⟩, ok, lo10, m4, hi10, hst, hs0, hc, c10, kk⟩ := h
    refine ⟨_, pss_cons (ps_par3 (i := 4) (j := 5) (l := 6) (by rfl) scPair.nd rfl rfl rfl (by decide) (by decide) (by decide) rfl rfl rfl (pa_cons (pe_ix ix_list (pe_ix ix_tup (pv 0) pe_int (fun _ _ => rfl)) (pe_op op_add (pe_op op_mul (pv 1) (pe_ix ix_tup (pv 0) pe_int (fun _ _ => rfl))) (pv 2)) (fun _ _ => rfl)) (pa_cons pe_bl (pa_cons (pe_lst pa_nil) pa_nil))) (by rfl))
      (pss_cons (ps_for PassesOwn.never rfl (pi_list (pv 3)) (pg_name (i := 7) scPair.nd rfl (Or.inl rfl))
        (pss_cons (ps_asg (pe_call G hr rfl D.M D.F.kp D.B .nil pass0 (pa_cons (pe_ix ix_list (pe_ix ix_tup (pv 0) pe_int (fun _ _ => rfl)) (pv 4) (fun _ _ => rfl)) (pa_cons (pe_cmpR op_ne (pe_cmpR op_eq (pv 7) pe_int (nomark _)) (pv 5) (nomark _)) pa_nil))) (pg_tup rfl (pgs_cons (pg_name (i := 4) scPair.nd rfl (Or.inl rfl)) (pgs_cons (pg_name (i := 8) scPair.nd rfl (Or.inl rfl)) pgs_nil))))
        (pss_cons (ps_set (i := 5) scPair.nd rfl (Or.inl rfl) (pe_cmpR op_ne (pv 5) (pv 8) (nomark _)))
        (pss_one (ps_expr (pe_bm PySem.F.plainAttrs_list PySem.F.slot_list_append PySem.F.type_list_append mt_append (pv 6) (pa_cons (pv 5) pa_nil)))))))
      (pss_one (ps_ret (pv 6)))), ?_⟩
    have hix : atI (natsV st) ((lo : Int) * (m : Int) + (hi : Int)) = some (.int (s0 : Int)) := by
      rw [nat_mad]
      exact atI_nat (by unfold natsV; rw [List.getElem?_map, hst]; rfl)
    refine ⟨_, rfl, t, _, 1, .ref S, rfl, rfl, SqT.of ht, rfl, _, rfl, _, rfl, t, _, 2, .int (m : Int), rfl, rfl, SqT.of ht, rfl, _, _, rfl, rfl, .inr ⟨by omega, by omega⟩, _, rfl, _, _, rfl, rfl, S, _, _, .int (s0 : Int), rfl, rfl, SqL.of hS, hix, Nat.zero_le _, fun L hL => ?_⟩
    have sL := Same.new (o := .lst []) hL
    have gL : (upd H L (.lst [])) L = some (.lst (prV A (s0, false) [])) := upd_same
    refine ⟨_, _, _, rfl, ?_⟩
    refine ⟨_, rfl, c, rfl, ⟨_, SqL.of (sL _ _ hc)⟩, ?_⟩
    refine for_list (K := K) (a := c) (xs := natsV cs) (fun i σ' H' => ∃ x7 x8, σ' = [some (.ref t), some (.int (lo : Int)), some (.int (hi : Int)), some (.ref c), some (.int (((prS A (s0, false) (cs.take i)).1 : Nat) : Int)), some (.bl (prS A (s0, false) (cs.take i)).2), some (.ref L), x7, x8] ∧ Same H H' ∧ H' L = some (.lst (prV A (s0, false) (cs.take i)))) ?_ ?_ ?_ ?_
    · exact ⟨none, none, rfl, sL, gL⟩
    · rintro i σ' H' _ ⟨_, _, _, s', _⟩
      exact SqL.of (s' _ _ hc)
    · rintro i x _ H1 hx ⟨x7, x8, rfl, s1, h1⟩
      unfold natsV at hx
      rw [List.getElem?_map, Option.map_eq_some_iff] at hx
      obtain ⟨b, hb, rfl⟩ := hx
      have p1 : (prS A (s0, false) (cs.take i)).1 < A.length := prS_lt ok _ _ hs0
      have p2 := prS_snoc A (s0, false) (cs.take i) b
      rw [← L2.take_succ' hb] at p2
      have hil := (List.getElem?_eq_some_iff.mp hb).1
      have lt1 : (cs.take i).length = i := by rw [List.length_take]; omega
      have e4 : prV A (s0, false) (cs.take (i + 1)) = prV A (s0, false) (cs.take i) ++ [V.bl (prS A (s0, false) (cs.take (i + 1))).2] := by
        unfold prV
        have lt2 : (cs.take (i + 1)).length = i + 1 := by rw [List.length_take]; omega
        rw [lt1, lt2, List.range_succ, List.map_append]
        congr 1
        · refine List.map_congr_left fun j hj => ?_
          have hj := List.mem_range.mp hj
          rw [List.take_take, List.take_take, Nat.min_eq_left (by omega), Nat.min_eq_left (by omega)]
        · show [V.bl (prS A (s0, false) ((cs.take (i + 1)).take (i + 1))).2] = _
          rw [List.take_take, Nat.min_self]
      have hlp : (prV A (s0, false) (cs.take i)).length = i := by
        unfold prV
        rw [List.length_map, List.length_range, lt1]
      generalize hp : prS A (s0, false) (cs.take i) = p at p1 p2
      obtain ⟨c1, g1, g2⟩ := hE.get (List.getElem?_eq_getElem p1)
      refine ⟨_, rfl, t, _, 0, .ref R, rfl, rfl, SqT.of (s1 _ _ ht), rfl, _, rfl, R, refs, _, .ref c1, rfl, rfl, SqL.of (s1 _ _ hR), atI_nat g1, _, rfl, rfl, _, rfl, rfl, c1, A[p.1], _, rfl, s1 _ _ g2, fun t1 H3 s3 ht1 => ?_⟩
      have est : BR.stepR A p.1 p.2 b = ((BR.aft A[p.1] (decide (b = 1) != p.2)).1, p.2 != (BR.aft A[p.1] (decide (b = 1) != p.2)).2) := by
        unfold BR.stepR
        rw [rw_at p1]
      rw [one_ne] at ht1
      refine ⟨t1, _, rfl, SqT.of ht1, rfl, _, _, rfl, _, _, rfl, rfl, ?_⟩
      refine ⟨_, rfl, _, rfl, rfl, ?_⟩
      have h3 := s3 _ _ h1
      refine ⟨_, rfl, .inl ⟨rfl, _, SqL.of h3⟩, _, rfl, L, _, _, rfl, rfl, h3, ?_, some (.int (b : Int)), some (.bl (BR.aft A[p.1] (decide (b = 1) != p.2)).2), ?_, ?_, ?_⟩
      · rw [hlp]
        exact Nat.lt_of_lt_of_le (by omega : i < 10000) (by decide)
      · rw [bl_ne, p2, est]
        rfl
      · intro d o e
        rw [upd_ne (ne_of_none e hL)]
        exact s3 _ _ (s1 _ _ e)
      · rw [upd_same, bl_ne, e4, p2, est]
    · rintro σ' H5 ⟨x7, x8, rfl, s5, h5⟩
      have hl : (natsV cs).length = cs.length := by unfold natsV; rw [List.length_map]
      rw [hl, List.take_length] at h5
      exact ⟨_, rfl, kk L H5 s5 h5⟩
end
end PA

set_option maxHeartbeats 8000000
/-! how the law's own search stands -/
namespace PA
open PySem L2 RZ
open C8 (pss_cut tCut)
open TC (Lc LOk GoodL verds)
open BR (Node)
open B2 (nd root calls child)
theorem natsV_ints (ns : List Nat) : natsV ns = (ns.map fun (n : Nat) => ((n : Nat) : Int)).map V.int := by
  unfold natsV
  rw [List.map_map]
  rfl
theorem atI_last {xs : List V} {x : V} : atI (xs ++ [x]) (-1) = some x := by
  unfold atI ixN
  rw [List.length_append]
  simp only [List.length_singleton]
  rw [if_neg (by decide), if_pos (by omega)]
  rw [Option.bind_some, show ((-1 : Int) + ((xs.length + 1 : Nat) : Int)).toNat = xs.length by omega, List.getElem?_append_right (Nat.le_refl _), Nat.sub_self]
  rfl
/-- the lines of a claim in a list of the law -/
def LinL (H : Hp) (L : Addr) (ls : List Lc) : Prop := ∃ refs, H L = some (.lst refs) ∧ Ea H isLc refs ls
theorem LinL.same {H H' : Hp} {L : Addr} {ls : List Lc} (h : LinL H L ls) (s : Same H H') : LinL H' L ls := let ⟨refs, h1, h2⟩ := h; ⟨refs, s _ _ h1, h2.imp fun c r q => s _ _ q⟩
abbrev lS (A : List Rn) (st : List Nat) (ls : List Lc) (h0 : 0 < st.length) : B2.Sys Node := BR.sys A st ls h0
/-- the law's tuple of a node -/
def nV (n : Node) : List V := [.int (n.2.2.2 : Int), .int (n.2.1 : Int), .bl n.2.2.1]
/-- the key of a node behind a call -/
def nK (n : Node) : List V := [.int (n.2.2.2 : Int), .int (n.2.1 : Int), .bl n.2.2.1, .int ((n.1.getD 0 : Nat) : Int)]
def pK (n : Node) : LKey := [.num (n.2.2.2 : Int), .num (n.2.1 : Int), .num (if n.2.2.1 = true then 1 else 0), .num ((n.1.getD 0 : Nat) : Int)]
theorem pK_inj {n m : Node} (hn : n.1.isSome = true) (hm : m.1.isSome = true) (h : pK n = pK m) : n = m := by
  obtain ⟨a, b, c, d⟩ := n
  obtain ⟨a', b', c', d'⟩ := m
  cases a with
  | none => cases hn
  | some a =>
    cases a' with
    | none => cases hm
    | some a' =>
      simp only [pK, Option.getD, List.cons.injEq, Leaf.num.injEq, and_true] at h
      obtain ⟨h1, h2, h3, h4⟩ := h
      have h1 : d = d' := by omega
      have h2 : b = b' := by omega
      have h4 : a = a' := by omega
      have h5 : c = c' := by cases c <;> cases c' <;> first | rfl | (simp at h3)
      rw [h1, h2, h4, h5]
theorem pK_at {H : Hp} {t : Addr} {n : Node} (h : H t = some (.tup (nK n))) : KeyAt H t (pK n) :=
  ⟨_, h, .cons (.inl rfl) (.cons (.inl rfl) (.cons (.inr ⟨_, rfl, rfl⟩) (.cons (.inl rfl) .nil)))⟩
theorem pK_val (sn : List Node) (hs : ∀ q ∈ sn, q.1.isSome = true) (n : Node) (hn : n.1.isSome = true) : (valV (sn.map fun q => (pK q, V.bl true)) (pK n)).isSome = decide (n ∈ sn) := by
  induction sn with
  | nil => simp [valV]
  | cons q sn ih =>
    have ih := ih fun x hx => hs x (List.mem_cons_of_mem _ hx)
    rw [List.map_cons]
    by_cases e : pK q = pK n
    · rw [valV_pos e, pK_inj (hs q List.mem_cons_self) hn e]
      simp
    · rw [valV_neg e, ih]
      have : ¬ n = q := fun z => e (by rw [z])
      simp [this]
/-! ### a level as data -/
def eD (S : B2.Sys Node) (m p : Nat) : PyData :=
  .tuple [.tuple [.int ((root S p / m : Nat) : Int), .int ((root S p % m : Nat) : Int)], .list (((calls S p).map fun (n : Nat) => (n : Int)).map PyData.int), .tuple [.int ((nd S p).2.2.2 : Int), .int ((nd S p).2.1 : Int), .bool (nd S p).2.2.1]]
theorem eD_lay (S : B2.Sys Node) (m : Nat) : ∀ l : List Nat, PyData.canLayAll0 (l.map (eD S m)) = true
  | [] => by simp [PyData.canLayAll0]
  | p :: l => by
    have h1 := ints_lay ((calls S p).map fun (n : Nat) => (n : Int))
    simp [PyData.canLayAll0, PyData.canLay0, eD, eD_lay S m l]
    simpa using h1
theorem eD_depth (S : B2.Sys Node) (m : Nat) : ∀ l : List Nat, PyData.depthAll (l.map (eD S m)) ≤ 10
  | [] => by simp [PyData.depthAll]
  | p :: l => by
    have h1 := ints_depth ((calls S p).map fun (n : Nat) => (n : Int))
    have h2 := eD_depth S m l
    simp only [List.map_cons, PyData.depthAll, PyData.depth, eD]
    omega
theorem lvl_shaped (S : B2.Sys Node) (m : Nat) (l : List Nat) : SeqAt.shaped (.list (l.map (eD S m))) = true := by
  have h1 := eD_depth S m l
  have h2 : PyData.depth (.list (l.map (eD S m))) ≤ 64 := by
    simp only [PyData.depth]
    omega
  show (PyData.canLay0 _ && decide (PyData.depth (.list (l.map (eD S m))) ≤ 64)) = true
  rw [Bool.and_eq_true]
  exact ⟨by simp only [PyData.canLay0]; exact eD_lay S m l, decide_eq_true h2⟩
theorem lvl_nil (S : B2.Sys Node) (m : Nat) (l : List Nat) : PyData.eqv (.list (l.map (eD S m))) (.list []) = l.isEmpty := by
  cases l with
  | nil => simp [PyData.eqv, PyData.eqvAll]
  | cons z zs => simp [PyData.eqv, PyData.eqvAll]
def p2V (m r : Nat) : List V := [.int ((r / m : Nat) : Int), .int ((r % m : Nat) : Int)]
/-- a path that stands at c, its calls in a list that is not b -/
def isS (S : B2.Sys Node) (m : Nat) (b : Addr) (H : Hp) (c : Addr) (p : Nat) : Prop := ∃ tr cl nn, H c = some (.tup [.ref tr, .ref cl, .ref nn]) ∧ H tr = some (.tup (p2V m (root S p))) ∧ H cl = some (.lst (natsV (calls S p))) ∧ cl ≠ b ∧ H nn = some (.tup (nV (nd S p)))
section
variable {S : B2.Sys Node} {m : Nat} {b : Addr} {H H' : Hp} {c : Addr} {p : Nat}
theorem isS.kt (h : isS S m b H c p) (kt : ∀ c ys, H c = some (.tup ys) → H' c = some (.tup ys)) (kl : ∀ c ys, c ≠ b → H c = some (.lst ys) → H' c = some (.lst ys)) : isS S m b H' c p := by
  obtain ⟨tr, cl, nn, h1, h2, h3, h4, h5⟩ := h
  exact ⟨tr, cl, nn, kt _ _ h1, kt _ _ h2, kl _ _ h4 h3, h4, kt _ _ h5⟩
theorem isS.same (h : isS S m b H c p) (s : Same H H') : isS S m b H' c p := h.kt (fun _ _ e => s _ _ e) fun _ _ _ e => s _ _ e
theorem isS.fresh {b' : Addr} (h : isS S m b H c p) (n : H b' = none) : isS S m b' H c p := by
  obtain ⟨tr, cl, nn, h1, h2, h3, h4, h5⟩ := h
  exact ⟨tr, cl, nn, h1, h2, h3, ne_of_none h3 n, h5⟩
theorem isS.dp {K : PySem.W.Frag} (h : isS S m b H c p) : Dp K H (.ref c) (eD S m p) := by
  obtain ⟨tr, cl, nn, h1, h2, h3, h4, h5⟩ := h
  rw [natsV_ints] at h3
  exact .tup (SqT.of h1) (.cons (.tup (SqT.of h2) (.cons (.int _) (.cons (.int _) .nil))) (.cons (.lst (SqL.of h3) (dp_ints _)) (.cons (.tup (SqT.of h5) (.cons (.int _) (.cons (.int _) (.cons (.bl _) .nil)))) .nil)))
theorem lvl_dp {K : PySem.W.Frag} : ∀ {xs : List V} {l : List Nat}, Ea H (isS S m b) xs l → DpAll K H xs (l.map (eD S m))
  | [], [], _ => .nil
  | [], _ :: _, e => by cases e.1
  | _ :: _, [], e => by cases e.1
  | x :: xs, r :: rows, e => by
    obtain ⟨c, hx, q⟩ := e.2 0 x r rfl rfl
    subst hx
    exact .cons q.dp (lvl_dp ⟨by have := e.1; simpa using this, fun i y s h1 h2 => e.2 (i + 1) y s (by simpa using h1) (by simpa using h2)⟩)
end
/-- the level that is gone through, the one below, the dict of the nodes seen -/
structure SB (P : Program) (w : World) (H H' : Hp) (Lv Bl Dd : Addr) (S : B2.Sys Node) (m : Nat) (lv ad : List Nat) (ns : List Node) (acc bac : List V) (kvs : List DE) : Prop where
  sm : Same H H'
  hL : H' Lv = some (.lst acc)
  eL : Ea H' (isS S m Bl) acc lv
  hB : H' Bl = some (.lst bac)
  eB : Ea H' (isS S m Bl) bac ad
  hD : H' Dd = some (DX P w Dd kvs)
  ka : ∀ p ∈ kvs, KeyAt H' p.2.1 p.1
  em : kvs.map (fun p => (p.1, p.2.2)) = ns.map fun q => (pK q, V.bl true)
  ne : Lv ≠ Bl
  nB : H Bl = none
  nD : H Dd = none
section
variable {P : Program} {w : World} {H H' H2 : Hp} {Lv Bl Dd : Addr} {S : B2.Sys Node} {m : Nat} {lv ad : List Nat} {ns : List Node} {acc bac : List V} {kvs : List DE}
theorem SB.same (I : SB P w H H' Lv Bl Dd S m lv ad ns acc bac kvs) (s : Same H' H2) : SB P w H H2 Lv Bl Dd S m lv ad ns acc bac kvs :=
  ⟨I.sm.trans s, s _ _ I.hL, I.eL.imp fun c r q => q.same s, s _ _ I.hB, I.eB.imp fun c r q => q.same s, s _ _ I.hD, fun p hp => (I.ka p hp).kt fun b ys e => s _ _ e, I.em, I.ne, I.nB, I.nD⟩
theorem SB.has (I : SB P w H H' Lv Bl Dd S m lv ad ns acc bac kvs) (hs : ∀ q ∈ ns, q.1.isSome = true) (n : Node) (hn : n.1.isSome = true) : (valV (kvs.map fun p => (p.1, p.2.2)) (pK n)).isSome = decide (n ∈ ns) := by
  rw [I.em, pK_val ns hs n hn]
theorem SB.lenK (I : SB P w H H' Lv Bl Dd S m lv ad ns acc bac kvs) : kvs.length = ns.length := by
  have := congrArg List.length I.em
  rw [List.length_map, List.length_map] at this
  exact this
theorem SB.no (I : SB P w H H' Lv Bl Dd S m lv ad ns acc bac kvs) (hs : ∀ q ∈ ns, q.1.isSome = true) {n : Node} (hn : n.1.isSome = true) (h : n ∉ ns) : valV (kvs.map fun p => (p.1, p.2.2)) (pK n) = none := by
  have := I.has hs n hn
  rw [decide_eq_false h] at this
  cases hv : valV (kvs.map fun p => (p.1, p.2.2)) (pK n) with
  | none => rfl
  | some v => rw [hv] at this; cases this
theorem SB.kt (I : SB P w H H' Lv Bl Dd S m lv ad ns acc bac kvs) {o : HO} {c : Addr} {ys : List V} (e : H' c = some (.tup ys)) : (upd H' Dd o) c = some (.tup ys) := by
  rw [upd_ne (ne_of e I.hD (by intro z; cases z))]
  exact e
theorem SB.kl (I : SB P w H H' Lv Bl Dd S m lv ad ns acc bac kvs) {o : HO} {c : Addr} {ys : List V} (e : H' c = some (.lst ys)) : (upd H' Dd o) c = some (.lst ys) := by
  rw [upd_ne (ne_of e I.hD (by intro z; cases z))]
  exact e
theorem SB.ktB (I : SB P w H H' Lv Bl Dd S m lv ad ns acc bac kvs) {o : HO} {c : Addr} {ys : List V} (e : H' c = some (.tup ys)) : (upd H' Bl o) c = some (.tup ys) := by
  rw [upd_ne (ne_of e I.hB (by intro z; cases z))]
  exact e
theorem SB.seen (I : SB P w H H' Lv Bl Dd S m lv ad ns acc bac kvs) {n : Node} {t : Addr} (ht : H' t = some (.tup (nK n))) : SB P w H (upd H' Dd (DX P w Dd (kvs ++ [(pK n, t, V.bl true)]))) Lv Bl Dd S m lv ad (ns ++ [n]) acc bac (kvs ++ [(pK n, t, V.bl true)]) := by
  refine ⟨fun c o e => ?_, I.kl I.hL, I.eL.imp fun c r q => q.kt (fun c ys e => I.kt e) fun c ys _ e => I.kl e, I.kl I.hB, I.eB.imp fun c r q => q.kt (fun c ys e => I.kt e) fun c ys _ e => I.kl e, upd_same, fun p hp => ?_, ?_, I.ne, I.nB, I.nD⟩
  · rw [upd_ne (ne_of_none e I.nD)]
    exact I.sm _ _ e
  · rcases List.mem_append.mp hp with hp | hp
    · exact (I.ka p hp).kt fun c ys e => I.kt e
    · cases List.mem_singleton.mp hp
      exact (pK_at ht).kt fun c ys e => I.kt e
  · rw [List.map_append, List.map_append, I.em]
    rfl
theorem SB.app (I : SB P w H H' Lv Bl Dd S m lv ad ns acc bac kvs) {c : Addr} {p : Nat} (hc : isS S m Bl H' c p) : SB P w H (upd H' Bl (.lst (bac ++ [.ref c]))) Lv Bl Dd S m lv (ad ++ [p]) ns acc (bac ++ [.ref c]) kvs := by
  refine ⟨fun b o e => ?_, ?_, I.eL.imp fun c r q => q.kt (fun c ys e => I.ktB e) fun c ys n e => ?_, upd_same, Ea.push (I.eB.imp fun c r q => q.kt (fun c ys e => I.ktB e) fun c ys n e => ?_) (hc.kt (fun c ys e => I.ktB e) fun c ys n e => ?_), ?_, fun p hp => (I.ka p hp).kt fun c ys e => I.ktB e, I.em, I.ne, I.nB, I.nD⟩
  · rw [upd_ne (ne_of_none e I.nB)]
    exact I.sm _ _ e
  · rw [upd_ne I.ne]
    exact I.hL
  · rw [upd_ne n]
    exact e
  · rw [upd_ne n]
    exact e
  · rw [upd_ne n]
    exact e
  · rw [upd_ne (ne_of I.hB I.hD (by intro z; cases z)).symm]
    exact I.hD
end
section
variable {A : List Rn} {st : List Nat} {ls : List Lc} {h0 : 0 < st.length}
/-- each path leads to a node that the tables know -/
theorem ndL_ok (gl : GoodL ls) (ok : ∀ r ∈ A, r.1 < A.length ∧ r.2.2.1 < A.length) (hst : ∀ s ∈ st, s < A.length) (p : Nat) : NdOk A.length ls.length (nd (lS A st ls h0) p) := by
  have hz : ∀ r ∈ A.map rz, RwOk (A.map rz).length r := fun r hr => by
    obtain ⟨q, hq, rfl⟩ := List.mem_map.mp hr
    rw [List.length_map]
    have := ok q hq
    exact ⟨⟨Int.natCast_nonneg _, Int.ofNat_lt.mpr this.1⟩, Int.natCast_nonneg _, Int.ofNat_lt.mpr this.2⟩
  have := nd_ok (rows := A.map rz) (st := st) (ls := ls) (h0 := h0) gl hz (fun s hs => by rw [List.length_map]; exact hst s hs) p
  rw [List.length_map] at this
  rwa [show bS (A.map rz) st ls h0 = lS A st ls h0 from by unfold bS lS; rw [map_rz]] at this
theorem ndL_last {q c : Nat} (hc : c < 2) : (nd (lS A st ls h0) (child (lS A st ls h0) q c)).1 = some c := by
  rw [B2.nd_child hc]
  rfl
theorem ndL_root {p : Nat} (h : p < st.length) : nd (lS A st ls h0) p = (none, st.getD p 0, false, 0) := B2.nd_root (S := lS A st ls h0) h
/-- the last call of a path -/
theorem nd_calls (p : Nat) : (p < st.length ∧ calls (lS A st ls h0) p = [] ∧ (nd (lS A st ls h0) p).1 = none ∧ (nd (lS A st ls h0) p).2.2.2 = 0) ∨ ∃ cs b, b < 2 ∧ calls (lS A st ls h0) p = cs ++ [b] ∧ (nd (lS A st ls h0) p).1 = some b := by
  by_cases h : p < st.length
  · refine .inl ⟨h, B2.calls_root (S := lS A st ls h0) h, ?_, ?_⟩ <;> rw [ndL_root h]
  · obtain ⟨q, c, hc, rfl, _⟩ := B2.path_cases (S := lS A st ls h0) h
    exact .inr ⟨calls (lS A st ls h0) q, c, hc, B2.calls_child hc, ndL_last hc⟩
theorem fewL (gl : GoodL ls) (ok : ∀ r ∈ A, r.1 < A.length ∧ r.2.2.1 < A.length) (hst : ∀ s ∈ st, s < A.length) {T : List Nat} (hT : ∀ x ∈ T, st.length ≤ x) (ndp : (T.map (nd (lS A st ls h0))).Nodup) : T.length ≤ 2 * A.length * 2 * ls.length := by
  have := BR.nfew A.length ls.length ndp fun q hq => by
    obtain ⟨p, hp, rfl⟩ := List.mem_map.mp hq
    have hp := hT p hp
    obtain ⟨o1, o2⟩ := ndL_ok (h0 := h0) gl ok hst p
    rcases nd_calls (A := A) (ls := ls) (h0 := h0) p with ⟨h, _⟩ | ⟨_, b, hb, _, e⟩
    · omega
    · exact ⟨b, e, hb, o1, (o2 b e).2⟩
  rwa [List.length_map] at this
end
def spLBrk : Sp := fun vs H Q _ => ∃ (t L : Addr) (A : List Rn) (st : List Nat) (m : Nat) (ls : List Lc) (ok : OkT A st m), vs = [.ref t, .ref L] ∧ TabL H t A st m ∧ LinL H L ls ∧ GoodL ls ∧
  ∀ o v H', Same H H' → B2.Res (lS A st ls ok.st0) o → (∀ e c, o = some (e, c) → (calls (lS A st ls ok.st0) e).length ≤ 9500) → BrkV H' (lS A st ls ok.st0) m o v → Q v H'
end PA

set_option maxHeartbeats 8000000
/-! `_law_m_broken` -/
namespace PA
open PySem L2 RZ
open C8 (pss_cut tCut)
open TC (Lc LOk GoodL verds)
open BR (Node)
open B2 (nd root calls child)
abbrev sLBrk : Stmt := top 76
abbrev NLB : List Str := ["_law_table", "_law_lines", "_law_rows", "_law_starts", "_law_marks", "_law_level", "_law_seen", "_law_low", "_law_high", "_law_below", "_law_pair", "_law_calls", "_law_node", "_law_call", "_law_place", "_law_state", "_law_turned", "_law_change"]
/-- the level of the beginnings, as far as it is made -/
def LvA (H1 : Hp) (Lv : Addr) (S : B2.Sys Node) (m c : Nat) (H' : Hp) : Prop := (∀ d o, H1 d = some o → d ≠ Lv → H' d = some o) ∧ ∃ acc, H' Lv = some (.lst acc) ∧ Ea H' (isS S m Lv) acc (List.range c)
theorem LvA.at {H1 H' : Hp} {Lv : Addr} {S : B2.Sys Node} {m c d : Nat} (h : LvA H1 Lv S m c H') (e : c = d) : LvA H1 Lv S m d H' := e ▸ h
def WB (P : Program) (w : World) (H : Hp) (a0 a1 a2 a3 a4 : V) (Dd : Addr) (S : B2.Sys Node) (m L8 n : Nat) (σ' : List (Option V)) (H' : Hp) : Prop := ∃ (d : Nat) (Tl X : List Nat) (Lv b : Addr) (acc : List V) (kvs : List DE) (x7 x8 x9 x10 x11 x12 x13 x14 x15 x16 x17 : Option V),
  σ' = [some a0, some a1, some a2, some a3, some a4, some (.ref Lv), some (.ref Dd), x7, x8, x9, x10, x11, x12, x13, x14, x15, x16, x17] ∧ Same H H' ∧ H' Lv = some (.lst acc) ∧ Ea H' (isS S m b) acc ((List.range S.M ++ Tl).drop d) ∧ H' Dd = some (DX P w Dd kvs) ∧ (∀ p ∈ kvs, KeyAt H' p.2.1 p.1) ∧
  kvs.map (fun p => (p.1, p.2.2)) = ((Tl.map (nd S)).map fun q => (pK q, V.bl true)) ∧ B2.BI S (List.range S.M ++ Tl) d X ∧ (Tl.map (nd S)).Nodup ∧ (∀ x ∈ Tl, S.M ≤ x) ∧ d ≤ (List.range S.M ++ Tl).length ∧ d + n = S.M + L8
theorem div_mod2 {m i j : Nat} (hj : j < m) : (i * m + j) / m = i ∧ (i * m + j) % m = j := by
  have h0 : 0 < m := by omega
  refine ⟨?_, ?_⟩
  · rw [Nat.add_comm, Nat.add_mul_div_right _ _ h0, Nat.div_eq_of_lt hj, Nat.zero_add]
  · rw [Nat.add_comm, Nat.add_mul_mod_self_right, Nat.mod_eq_of_lt hj]
theorem idx2 {m i j : Nat} (hi : i < m) (hj : j < m) : i * m + j < m * m := by
  have : (i + 1) * m ≤ m * m := Nat.mul_le_mul_right m hi
  rw [Nat.succ_mul] at this
  omega
section
variable {P : Program} {w : World} {K : PySem.W.Frag} {mg : Str → Option Value} {base : Heap} {C : Addr}
theorem scLB : FnScope NLB ["_law_table", "_law_lines"] (defScope sLBrk) := ⟨rfl, rfl, rfl, by decide +kernel, rfl, by decide +kernel, by decide +kernel⟩
theorem ok_lbrk {f g g2 : Addr} {fd gd gd2 : FuncData} (F : Fun K "_law_m_broken" "_law_m_broken" sLBrk f fd) (T : Txt K mg C) (D : Df K mg "_law_m_after" sAft g gd ["_law_row", "_law_behind"]) (D2 : Df K mg "_law_m_allows" sAllows g2 gd2 ["_law_word", "_law_same_here"]) : FnOk P w K mg base CX0 2 f fd ["_law_table", "_law_lines"] spLBrk := by
  have G : FnOk P w K mg base CX0 1 g gd ["_law_row", "_law_behind"] spAft := ok_aft D.F
  have G2 : FnOk P w K mg base CX0 1 g2 gd2 ["_law_word", "_law_same_here"] spAllows := ok_allows D2.F
  refine F.ok scLB (fun vs H Q E h => ?_) (fun cdv A0 outer s H vs Q E hr h => ?_)
  · obtain ⟨t, L, _, _, _, _, _, rfl, _⟩ := h
    rfl
  · obtain ⟨t, L, A, st, m, ls, okT, rfl, ⟨R, Sd, refs, ht, hR, hE, hSd⟩, ⟨lrefs, hLl, hEl⟩, gl, kk⟩ := h
    have hu := u1 hr.units
    have hr1 : Room 1 _ := hr.mono (by decide)
    refine ⟨_, pss_cons (ps_asg (pv 0) (pg_tup rfl (pgs_cons (pg_name (i := 2) scLB.nd rfl (Or.inl rfl)) (pgs_cons (pg_name (i := 3) scLB.nd rfl (Or.inl rfl)) (pgs_cons (pg_name (i := 4) scLB.nd rfl (Or.inl rfl)) pgs_nil)))))
      (pss_cons (ps_par (i := 5) (j := 6) (by rfl) scLB.nd rfl rfl (by decide) rfl rfl (pa_cons (pe_lst pa_nil) (pa_cons pe_dnewX pa_nil)) (by rfl))
      (pss_cons (ps_for PassesOwn.never rfl (pi_range1 (by rfl) T.range_ (pa_cons (pv 4) pa_nil)) (pg_name (i := 7) scLB.nd rfl (Or.inl rfl))
        (pss_one (ps_for PassesOwn.never rfl (pi_range1 (by rfl) T.range_ (pa_cons (pv 4) pa_nil)) (pg_name (i := 8) scLB.nd rfl (Or.inl rfl))
          (pss_one (ps_expr (pe_bm PySem.F.plainAttrs_list PySem.F.slot_list_append PySem.F.type_list_append mt_append (pv 5) (pa_cons (pe_tup (pa_cons (pe_tup (pa_cons (pv 7) (pa_cons (pv 8) pa_nil))) (pa_cons (pe_lst pa_nil) (pa_cons (pe_tup (pa_cons pe_int (pa_cons (pe_ix ix_list (pv 3) (pe_op op_add (pe_op op_mul (pv 7) (pv 4)) (pv 8)) (fun _ _ => rfl)) (pa_cons pe_bl pa_nil)))) pa_nil)))) pa_nil)))))))
      (pss_cons (ps_while PassesOwn.never (pt_cmpR (op_neD hr.units) (pv 5) (pe_lst pa_nil) (nomark _))
        (pss_cons (ps_set (i := 9) scLB.nd rfl (Or.inl rfl) (pe_lst pa_nil))
        (pss_cons (ps_for PassesOwn.never rfl (pi_list (pv 5)) (pg_tup rfl (pgs_cons (pg_name (i := 10) scLB.nd rfl (Or.inl rfl)) (pgs_cons (pg_name (i := 11) scLB.nd rfl (Or.inl rfl)) (pgs_cons (pg_name (i := 12) scLB.nd rfl (Or.inl rfl)) pgs_nil))))
          (pss_one (ps_for PassesOwn.never rfl (pi_tup (pe_tup (pa_cons pe_int (pa_cons pe_int pa_nil)))) (pg_name (i := 13) scLB.nd rfl (Or.inl rfl))
            (pss_cons (ps_asg (pv 12) (pg_tup rfl (pgs_cons (pg_name (i := 14) scLB.nd rfl (Or.inl rfl)) (pgs_cons (pg_name (i := 15) scLB.nd rfl (Or.inl rfl)) (pgs_cons (pg_name (i := 16) scLB.nd rfl (Or.inl rfl)) pgs_nil)))))
            (pss_cut (ps_if (pt_cmpR (op_neD hr.units) (pv 11) (pe_lst pa_nil) (nomark _)) (pss_one (ps_set (i := 14) scLB.nd rfl (Or.inl rfl) (pe_ix ix_tup (pe_ix ix_list (pv 1) (pv 14) (fun _ _ => rfl)) (pe_ifExp (pt_cmpR op_eq (pv 13) (pe_ix ix_list (pv 11) (pe_un un_neg pe_int) (fun _ _ => rfl)) (nomark _)) pe_int pe_int) (fun _ _ => rfl)))) pss_nil)
            (pss_cons (ps_asg (pe_call G hr1 rfl D.M D.F.kp D.B .nil pass0 (pa_cons (pe_ix ix_list (pv 2) (pv 15) (fun _ _ => rfl)) (pa_cons (pe_cmpR op_ne (pe_cmpR op_eq (pv 13) pe_int (nomark _)) (pv 16) (nomark _)) pa_nil))) (pg_tup rfl (pgs_cons (pg_name (i := 15) scLB.nd rfl (Or.inl rfl)) (pgs_cons (pg_name (i := 17) scLB.nd rfl (Or.inl rfl)) pgs_nil))))
            (pss_cons (ps_set (i := 16) scLB.nd rfl (Or.inl rfl) (pe_cmpR op_ne (pv 16) (pv 17) (nomark _)))
            (pss_cons (ps_if (pt_not (pt_val (pe_call G2 hr1 rfl D2.M D2.F.kp D2.B .nil pass0 (pa_cons (pe_ix ix_tup (pe_ix ix_list (pv 1) (pv 14) (fun _ _ => rfl)) pe_int (fun _ _ => rfl)) (pa_cons (pe_cmpR op_eq (pv 16) (pe_cmpR op_eq (pv 13) pe_int (nomark _)) (nomark _)) pa_nil)))))
              (pss_one (ps_ret (pe_tup (pa_cons (pe_ix ix_tup (pv 10) pe_int (fun _ _ => rfl)) (pa_cons (pe_ix ix_tup (pv 10) pe_int (fun _ _ => rfl)) (pa_cons (pe_callTy call_tuple_of (by rfl) T.tup_ boot_tuple' (pa_cons (pe_op op_cat (pv 11) (pe_lst (pa_cons (pv 13) pa_nil))) pa_nil)) pa_nil)))))) pss_nil)
            (pss_one (ps_if (pt_cmpR (op_notIn_dx hu) (pe_tup (pa_cons (pv 14) (pa_cons (pv 15) (pa_cons (pv 16) (pa_cons (pv 13) pa_nil))))) (pv 6) rfl)
              (pss_cons (ps_asg pe_bl (pg_sub (pv 6) (pe_tup (pa_cons (pv 14) (pa_cons (pv 15) (pa_cons (pv 16) (pa_cons (pv 13) pa_nil))))) (set_dx hu)))
              (pss_one (ps_expr (pe_bm PySem.F.plainAttrs_list PySem.F.slot_list_append PySem.F.type_list_append mt_append (pv 9) (pa_cons (pe_tup (pa_cons (pv 10) (pa_cons (pe_op op_cat (pv 11) (pe_lst (pa_cons (pv 13) pa_nil))) (pa_cons (pe_tup (pa_cons (pv 14) (pa_cons (pv 15) (pa_cons (pv 16) pa_nil)))) pa_nil)))) pa_nil))))) pss_nil))))))))))
        (pss_one (ps_set (i := 5) scLB.nd rfl (Or.inl rfl) (pe_callTy call_list_of (by rfl) T.list_ boot_list' (pa_cons (pv 9) pa_nil)))))))
      (pss_one (ps_ret pe_non))))), ?_⟩
    generalize hS : lS A st ls okT.st0 = S at kk
    have eM : S.M = st.length := by
      rw [← hS]
      rfl
    have eMm : S.M = m * m := eM.trans okT.len
    have m4 := okT.m4
    have mm : m * m ≤ 4 * 4 := Nat.mul_le_mul m4 m4
    have ndl : ∀ p, NdOk A.length ls.length (nd S p) := fun p => by rw [← hS]; exact ndL_ok gl okT.ok okT.sa p
    have ndc : ∀ p, (p < st.length ∧ calls S p = [] ∧ (nd S p).1 = none ∧ (nd S p).2.2.2 = 0) ∨ ∃ cs b, b < 2 ∧ calls S p = cs ++ [b] ∧ (nd S p).1 = some b := fun p => by rw [← hS]; exact nd_calls p
    have sl : ∀ b, b < m * m → (natsV st)[b]? = some (.int ((st.getD b 0 : Nat) : Int)) := fun b hb => by
      have := okT.len
      unfold natsV
      rw [List.getElem?_map, List.getD_eq_getElem?_getD, List.getElem?_eq_getElem (by omega)]
      rfl
    refine ⟨_, rfl, t, _, rfl, SqT.of ht, rfl, _, _, rfl, _, _, rfl, _, _, rfl, rfl, ?_⟩
    refine ⟨Nat.zero_le _, fun Lv hLv => ?_⟩
    have eL := Same.new (o := .lst []) hLv
    intro Dd hDd
    have eD := Same.new (o := DX P w Dd []) hDd
    have s1 := eL.trans eD
    have gL := eD _ _ (show (upd H Lv (.lst [])) Lv = some (.lst []) from upd_same)
    have gD : (upd (upd H Lv (.lst [])) Dd (DX P w Dd [])) Dd = some (DX P w Dd []) := upd_same
    have nD : H Dd = none := L2.Same.none eL hDd
    refine ⟨_, _, rfl, ?_⟩
    have DL : Dd ≠ Lv := (ne_of gL gD (by intro z; cases z)).symm
    refine ⟨_, rfl, (m : Int), rfl, by omega, by omega, ?_⟩
    refine for_range (lo := 0) (n := ((m : Int)).toNat) (fun i σ' H' => ∃ x7 x8, σ' = [some (.ref t), some (.ref L), some (.ref R), some (.ref Sd), some (.int (m : Int)), some (.ref Lv), some (.ref Dd), x7, x8, none, none, none, none, none, none, none, none, none] ∧ LvA (upd (upd H Lv (.lst [])) Dd (DX P w Dd [])) Lv S m (i * m) H') ?_ ?_ ?_
    · exact ⟨none, none, rfl, LvA.at (c := 0) ⟨fun _ _ e _ => e, [], gL, Ea.nil⟩ (by simp)⟩
    · rintro i _ H2 hi ⟨x7, x8, rfl, R1⟩
      have hi : i < m := hi
      rw [show (0 : Int) + (i : Int) = (i : Int) from Int.zero_add _]
      refine ⟨_, rfl, (m : Int), rfl, by omega, by omega, ?_⟩
      refine for_range (lo := 0) (n := ((m : Int)).toNat) (fun j σ' H' => ∃ x8, σ' = [some (.ref t), some (.ref L), some (.ref R), some (.ref Sd), some (.int (m : Int)), some (.ref Lv), some (.ref Dd), some (.int (i : Int)), x8, none, none, none, none, none, none, none, none, none] ∧ LvA (upd (upd H Lv (.lst [])) Dd (DX P w Dd [])) Lv S m (i * m + j) H') ?_ ?_ ?_
      · exact ⟨_, rfl, R1⟩
      · rintro j _ H4 hj ⟨x8, rfl, kp, acc, hd, he⟩
        have hj : j < m := hj
        rw [show (0 : Int) + (j : Int) = (j : Int) from Int.zero_add _]
        have sK : Same H H4 := fun d o z => kp d o (s1 _ _ z) (ne_of_none z hLv)
        have b1 := idx2 hi hj
        refine ⟨_, rfl, .inl ⟨rfl, _, SqL.of hd⟩, _, rfl, _, rfl, by show 2 ≤ sizeLine; decide, fun tr htr => ⟨Nat.zero_le _, fun cl hcl => ?_⟩⟩
        have e8 := Same.new (o := .tup [V.int (i : Int), .int (j : Int)]) htr
        have g8 : (upd H4 tr (.tup [V.int (i : Int), .int (j : Int)])) tr = some (.tup [V.int (i : Int), .int (j : Int)]) := upd_same
        have hcl' : (upd H4 tr (.tup [V.int (i : Int), .int (j : Int)])) cl = none := hcl
        have hcL : cl ≠ Lv := (ne_of_none (e8 _ _ hd) hcl').symm
        have e9 := Same.new (o := .lst []) hcl'
        have g9 : (upd (upd H4 tr (.tup [V.int (i : Int), .int (j : Int)])) cl (.lst [])) cl = some (.lst []) := upd_same
        have s9 := sK.trans (e8.trans e9)
        refine ⟨_, rfl, _, rfl, _, rfl, _, _, rfl, rfl, .inr ⟨by omega, by omega⟩, _, rfl, _, _, rfl, rfl, Sd, _, _, .int ((st.getD (i * m + j) 0 : Nat) : Int), rfl, rfl, SqL.of (s9 _ _ hSd), ?_, by show 3 ≤ sizeLine; decide, fun nn hnn => ⟨by show 3 ≤ sizeLine; decide, fun c0 hc0 => ?_⟩⟩
        · rw [nat_mad]
          exact atI_nat (sl _ b1)
        have e10 := Same.new (o := .tup [V.int 0, .int ((st.getD (i * m + j) 0 : Nat) : Int), .bl false]) hnn
        have g10 : (upd (upd (upd H4 tr (.tup [V.int (i : Int), .int (j : Int)])) cl (.lst [])) nn (.tup [V.int 0, .int ((st.getD (i * m + j) 0 : Nat) : Int), .bl false])) nn = some (.tup [V.int 0, .int ((st.getD (i * m + j) 0 : Nat) : Int), .bl false]) := upd_same
        have e11 := Same.new (o := .tup [V.ref tr, .ref cl, .ref nn]) hc0
        have g11 : (upd (upd (upd (upd H4 tr (.tup [V.int (i : Int), .int (j : Int)])) cl (.lst [])) nn (.tup [V.int 0, .int ((st.getD (i * m + j) 0 : Nat) : Int), .bl false])) c0 (.tup [V.ref tr, .ref cl, .ref nn])) c0 = some (.tup [V.ref tr, .ref cl, .ref nn]) := upd_same
        have e811 := ((e8.trans e9).trans e10).trans e11
        have g8 := ((e9.trans e10).trans e11) _ _ g8
        have g9 := (e10.trans e11) _ _ g9
        have g10 := e11 _ _ g10
        generalize (upd (upd (upd (upd H4 tr (.tup [V.int (i : Int), .int (j : Int)])) cl (.lst [])) nn (.tup [V.int 0, .int ((st.getD (i * m + j) 0 : Nat) : Int), .bl false])) c0 (.tup [V.ref tr, .ref cl, .ref nn])) = H10 at e811 g8 g9 g10 g11 ⊢
        have hpM : i * m + j < S.M := by rw [eMm]; exact b1
        have hS1 : isS S m Lv H10 c0 (i * m + j) := by
          refine ⟨tr, cl, nn, g11, ?_, ?_, hcL, ?_⟩
          · rw [B2.root_root hpM]
            unfold p2V
            rw [(div_mod2 hj).1, (div_mod2 hj).2]
            exact g8
          · rw [B2.calls_root hpM]
            exact g9
          · have en : nd S (i * m + j) = (none, st.getD (i * m + j) 0, false, 0) := by
              rw [← hS]
              exact ndL_root (by rw [← eM]; exact hpM)
            rw [en]
            exact g10
        have hd10 := e811 _ _ hd
        have he10 := he.imp fun c r q => q.same e811
        refine ⟨Lv, acc, _, rfl, rfl, hd10, ?_, ?_⟩
        · rw [he.1, List.length_range]
          exact Nat.lt_of_lt_of_le (by omega : i * m + j < 64) (by decide)
        refine ⟨_, rfl, fun d o z n => ?_, acc ++ [.ref c0], upd_same, ?_⟩
        · rw [upd_ne n]
          exact e811 _ _ (kp d o z n)
        · have tk : ∀ {Hx : Hp} b ys, Hx Lv = some (.lst acc) → Hx b = some (.tup ys) → (upd Hx Lv (.lst (acc ++ [.ref c0]))) b = some (.tup ys) := fun {Hx} b ys e0 e => by
            rw [upd_ne (ne_of e e0 (by intro z; cases z))]
            exact e
          rw [show i * m + (j + 1) = (i * m + j) + 1 from rfl, List.range_succ]
          exact (he10.imp fun b r q => q.kt (fun b ys e => tk b ys hd10 e) fun b ys n e => by rw [upd_ne n]; exact e).push (hS1.kt (fun b ys e => tk b ys hd10 e) fun b ys n e => by rw [upd_ne n]; exact e)
      · rintro _ H3 ⟨x8, rfl, R2⟩
        exact ⟨_, _, rfl, R2.at (by show i * m + m = _; rw [Nat.succ_mul])⟩
    rintro _ H2 ⟨x7, x8, rfl, kp, acc0, hL2, eL2⟩
    have eL2 : Ea H2 (isS S m Lv) acc0 (List.range S.M) := by
      rw [eMm]
      exact eL2
    have sK2 : Same H H2 := fun d o z => kp d o (s1 _ _ z) (ne_of_none z hLv)
    have hD2 := kp _ _ gD DL
    have fewT : ∀ {Tl : List Nat}, (∀ x ∈ Tl, S.M ≤ x) → (Tl.map (nd S)).Nodup → Tl.length ≤ 2 * A.length * 2 * ls.length := fun {Tl} hT h => by
      rw [← hS] at h
      exact fewL gl okT.ok okT.sa (fun x hx => by rw [← eM]; exact hT x hx) h
    have a4 := okT.a4
    have LB : A.length * ls.length ≤ 48 * 48 := Nat.mul_le_mul a4 gl.most
    have L8 : 2 * A.length * 2 * ls.length = 4 * (A.length * ls.length) := by
      rw [Nat.mul_right_comm 2 A.length 2, Nat.mul_assoc]
    refine ⟨WB P w H (.ref t) (.ref L) (.ref R) (.ref Sd) (.int (m : Int)) Dd S m (2 * A.length * 2 * ls.length), ⟨S.M + 2 * A.length * 2 * ls.length, 0, [], [], Lv, Lv, acc0, [], _, _, _, _, _, _, _, _, _, _, _, rfl, sK2, hL2, ?_, hD2, (fun p hp => (List.not_mem_nil hp).elim), rfl, ?_, List.nodup_nil, (fun x hx => (List.not_mem_nil hx).elim), Nat.zero_le _, Nat.zero_add _⟩, ?_⟩
    · rw [List.append_nil]
      exact eL2
    · rw [List.append_nil]
      exact B2.BI.init
    rintro n0 _ H3 ⟨d, Tl, X, Lv, b0, acc, kvs, x7, x8, x9, x10, x11, x12, x13, x14, x15, x16, x17, rfl, s3, hL3, eL3, hD3, ka3, em3, bi3, nd3, tl3, hdl, hn0⟩
    have fT := fewT tl3 nd3
    have lW : (List.range S.M ++ Tl).length = S.M + Tl.length := by rw [List.length_append, List.length_range]
    refine ⟨_, rfl, Nat.zero_le _, fun n1 hn1 => ?_⟩
    have en := Same.new (o := .lst []) hn1
    refine ⟨_, _, .lst (SqL.of (en _ _ hL3)) (lvl_dp (eL3.imp fun c r q => q.same en)), .lst (SqL.of upd_same) .nil, lvl_shaped S m _, lvl_shaped S m [], _, rfl, ?_⟩
    rw [lvl_nil]
    by_cases hem : (List.range S.M ++ Tl).drop d = []
    · rw [hem]
      refine iteF ?_
      refine kk none _ _ (s3.trans en) (bi3.none ?_) (fun e c z => by cases z) rfl
      have := congrArg List.length hem
      rw [List.length_drop] at this
      have : (List.range S.M ++ Tl).length - d = 0 := this
      omega
    rw [show ((List.range S.M ++ Tl).drop d).isEmpty = false from by rw [← Bool.not_eq_true, List.isEmpty_iff]; exact hem]
    refine iteT ?_
    have hlv : 0 < ((List.range S.M ++ Tl).drop d).length := List.length_pos_iff.mpr hem
    refine ⟨fun σ' H' => ∃ m', m' < n0 ∧ WB P w H (.ref t) (.ref L) (.ref R) (.ref Sd) (.int (m : Int)) Dd S m (2 * A.length * 2 * ls.length) m' σ' H', fun _ _ h => h, ?_⟩
    have s5 := s3.trans en
    have hL5 := en _ _ hL3
    have eL5 := eL3.imp fun c r q => q.same en
    have hD5 := en _ _ hD3
    have ka5 : ∀ p ∈ kvs, KeyAt (upd H3 n1 (.lst [])) p.2.1 p.1 := fun p hp => (ka3 p hp).kt fun b ys e => en _ _ e
    refine ⟨Nat.zero_le _, fun Bl hBl => ?_⟩
    have eb := Same.new (o := .lst []) hBl
    have nB : H Bl = none := L2.Same.none s5 hBl
    have I0 : SB P w H (upd (upd H3 n1 (.lst [])) Bl (.lst [])) Lv Bl Dd S m ((List.range S.M ++ Tl).drop d) [] (Tl.map (nd S)) acc [] kvs :=
      ⟨s5.trans eb, eb _ _ hL5, eL5.imp fun c r q => (q.fresh hBl).same eb, upd_same, Ea.nil, eb _ _ hD5, fun p hp => (ka5 p hp).kt fun b ys e => eb _ _ e, em3, ne_of_none hL5 hBl, nB, nD⟩
    have lacc : acc.length = ((List.range S.M ++ Tl).drop d).length := eL3.1
    have ldr : ((List.range S.M ++ Tl).drop d).length = (List.range S.M ++ Tl).length - d := List.length_drop
    refine ⟨_, rfl, Lv, rfl, ⟨_, SqL.of I0.hL⟩, ?_⟩
    refine for_list (xs := acc) (fun j σ' H' => ∃ (ad X : List Nat) (bac : List V) (kvs : List DE) (x10 x11 x12 x13 x14 x15 x16 x17 : Option V), σ' = [some (.ref t), some (.ref L), some (.ref R), some (.ref Sd), some (.int (m : Int)), some (.ref Lv), some (.ref Dd), x7, x8, some (.ref Bl), x10, x11, x12, x13, x14, x15, x16, x17] ∧ SB P w H H' Lv Bl Dd S m ((List.range S.M ++ Tl).drop d) ad ((Tl ++ ad).map (nd S)) acc bac kvs ∧ B2.BI S (List.range S.M ++ (Tl ++ ad)) (d + j) X ∧ ((Tl ++ ad).map (nd S)).Nodup ∧ (∀ x ∈ Tl ++ ad, S.M ≤ x)) ?_ ?_ ?_ ?_
    · refine ⟨[], X, [], kvs, _, _, _, _, _, _, _, _, rfl, ?_, ?_, ?_, ?_⟩
      · rw [List.append_nil]
        exact I0
      · rw [List.append_nil]
        exact bi3
      · rw [List.append_nil]
        exact nd3
      · rw [List.append_nil]
        exact tl3
    · rintro j σ' H' _ ⟨_, _, _, _, _, _, _, _, _, _, _, _, _, I, _⟩
      exact SqL.of I.hL
    · rintro j x _ H6 hx ⟨ad, X6, bac, kvs6, x10, x11, x12, x13, x14, x15, x16, x17, rfl, I, bi, ndW, tlW⟩
      have hj : j < ((List.range S.M ++ Tl).drop d).length := by rw [← lacc]; exact (List.getElem?_eq_some_iff.mp hx).1
      have he0 : ((List.range S.M ++ Tl).drop d)[j]? = some ((List.range S.M ++ Tl).drop d)[j] := List.getElem?_eq_getElem hj
      generalize ((List.range S.M ++ Tl).drop d)[j] = e at he0
      have he : (List.range S.M ++ (Tl ++ ad))[d + j]? = some e := by
        rw [← List.append_assoc, List.getElem?_append_left (by omega), ← List.getElem?_drop]
        exact he0
      obtain ⟨c, rfl, tr, cl, nn, hcT, htr, hcl, hclB, hnn⟩ := I.eL.2 j x e hx he0
      have fW := fewT tlW ndW
      have hcn := bi.calls_le _ _ he
      have hdj := (List.getElem?_eq_some_iff.mp he).1
      have lWa : (List.range S.M ++ (Tl ++ ad)).length = S.M + (Tl ++ ad).length := by rw [List.length_append, List.length_range]
      have hcn2 : (calls S e).length ≤ 9400 := by omega
      refine ⟨c, _, rfl, SqT.of hcT, rfl, _, _, rfl, _, _, rfl, _, _, rfl, rfl, ?_⟩
      refine ⟨by show 2 ≤ sizeLine; decide, fun tp htp => ⟨tp, rfl, ⟨_, SqT.of upd_same⟩, ?_⟩⟩
      have etp : Same H6 (upd H6 tp (.tup [V.int 0, .int 1])) := Same.new htp
      have I1 := I.same etp
      have htr1 := etp _ _ htr
      have hcl1 := etp _ _ hcl
      have hnn1 := etp _ _ hnn
      have gtp : (upd H6 tp (.tup [V.int 0, .int 1])) tp = some (.tup [V.int 0, .int 1]) := upd_same
      generalize (upd H6 tp (.tup [V.int 0, .int 1])) = H7 at I1 htr1 hcl1 hnn1 gtp ⊢
      refine for_tup (K := K) (a := tp) (xs := [V.int 0, .int 1]) (fun i σ' H' => ∃ (ac : List Nat) (bac : List V) (kvs : List DE) (x13 x14 x15 x16 x17 : Option V), σ' = [some (.ref t), some (.ref L), some (.ref R), some (.ref Sd), some (.int (m : Int)), some (.ref Lv), some (.ref Dd), x7, x8, some (.ref Bl), some (.ref tr), some (.ref cl), some (.ref nn), x13, x14, x15, x16, x17] ∧ SB P w H H' Lv Bl Dd S m ((List.range S.M ++ Tl).drop d) (ad ++ ac) ((Tl ++ ad ++ ac).map (nd S)) acc bac kvs ∧ ((Tl ++ ad ++ ac).map (nd S)).Nodup ∧ ac.Pairwise (· < ·) ∧ (∀ x ∈ ac, ∃ k, k < i ∧ x = child S e k) ∧ (∀ k, k < i → ¬ B2.Pt S e k ∧ ∃ r ∈ List.range S.M ++ (Tl ++ ad) ++ ac, r ≤ child S e k ∧ S.Rel (nd S (child S e k)) (nd S r)) ∧ H' tp = some (.tup [V.int 0, .int 1]) ∧ H' tr = some (.tup (p2V m (root S e))) ∧ H' cl = some (.lst (natsV (calls S e))) ∧ H' nn = some (.tup (nV (nd S e)))) ?_ ?_ ?_ ?_
      · refine ⟨[], bac, kvs6, _, _, _, _, _, rfl, ?_, ?_, List.Pairwise.nil, (fun x hx => (List.not_mem_nil hx).elim), (fun k hk => absurd hk (Nat.not_lt_zero _)), gtp, htr1, hcl1, hnn1⟩
        · rw [List.append_nil, List.append_nil]
          exact I1
        · rw [List.append_nil]
          exact ndW
      · rintro i σ' H' _ ⟨_, _, _, _, _, _, _, _, _, _, _, _, _, _, ht', _⟩
        exact SqT.of ht'
      · rintro i x _ H8 hx ⟨ac, bac8, kvs8, x13, x14, x15, x16, x17, rfl, I8, nd8, so, sub, ch, htp8, htr8, hcl8, hnn8⟩
        have hi : i < 2 := (List.getElem?_eq_some_iff.mp hx).1
        obtain rfl : x = V.int (i : Int) := by
          rcases i with _ | _ | i
          · cases hx; rfl
          · cases hx; rfl
          · omega
        have oke := ndl e
        have oke1 : (nd S e).2.1 < A.length := oke.1
        refine ⟨_, rfl, nn, _, rfl, SqT.of hnn8, rfl, _, _, rfl, _, _, rfl, _, _, rfl, rfl, ?_⟩
        have enx : nd S (child S e i) = BR.stp A ls (nd S e) i := by rw [← hS]; exact B2.nd_child hi
        have okx := ndl (child S e i)
        have hlx : (nd S (child S e i)).1 = some i := by rw [enx]; rfl
        -- the state of the claim
        refine ⟨fun σ' H' => σ' = [some (.ref t), some (.ref L), some (.ref R), some (.ref Sd), some (.int (m : Int)), some (.ref Lv), some (.ref Dd), x7, x8, some (.ref Bl), some (.ref tr), some (.ref cl), some (.ref nn), some (.int (i : Int)), some (.int (((nd S (child S e i)).2.2.2 : Nat) : Int)), some (.int ((nd S e).2.1 : Int)), some (.bl (nd S e).2.2.1), x17] ∧ Same H8 H', ?_, ?_⟩
        · have hcl8' := hcl8
          rw [natsV_ints] at hcl8'
          refine ⟨_, rfl, Nat.zero_le _, fun n2 hn2 => ?_⟩
          have e2 := Same.new (o := .lst []) hn2
          refine ⟨_, _, .lst (SqL.of (e2 _ _ hcl8')) (dp_ints _), .lst (SqL.of upd_same) .nil, ints_shaped _, ints_shaped [], _, rfl, ?_⟩
          rw [ints_nil]
          rcases ndc e with ⟨h1, h2, h3, h4⟩ | ⟨cs, b, hb, h2, h3⟩
          · rw [h2]
            refine iteF ⟨?_, e2⟩
            have e5 : (nd S (child S e i)).2.2.2 = 0 := by
              rw [enx]
              show BR.stepC ls (nd S e).1 (nd S e).2.2.2 i = 0
              rw [h3]
              rfl
            rw [e5, h4]
            rfl
          · have e6 : ((calls S e).map fun (n : Nat) => (n : Int)).isEmpty = false := by
              rw [h2, List.map_append]
              cases cs <;> rfl
            rw [e6]
            refine iteT ?_
            have e5 : (nd S (child S e i)).2.2.2 = (if i = b then (BR.ln_ ls (nd S e).2.2.2).1 else (BR.ln_ ls (nd S e).2.2.2).2.1) := by
              rw [enx]
              show BR.stepC ls (nd S e).1 (nd S e).2.2.2 i = _
              rw [h3]
              rfl
            have hcl9 := (oke.2 b h3).2
            obtain ⟨lc, hlc, hlcT⟩ := hEl.get (List.getElem?_eq_getElem hcl9)
            have hlcT : H lc = some (.tup (CL.lv ls[(nd S e).2.2.2])) := hlcT
            have g9 := e2 _ _ hcl8
            rw [h2] at g9
            have g9 := SqL.of (K := K) g9
            have hat : atI (natsV (cs ++ [b])) (-1) = some (.int (b : Int)) := by
              unfold natsV
              rw [List.map_append]
              exact atI_last
            refine ⟨_, rfl, _, rfl, L, _, _, .ref lc, rfl, rfl, SqL.of (e2 _ _ (I8.sm _ _ hLl)), atI_nat hlc, ?_⟩
            refine ⟨_, rfl, _, rfl, _, rfl, cl, _, _, .int (b : Int), rfl, rfl, g9, hat, rfl, _, rfl, ifD_2 (fun h => ?_) (fun h => ?_)⟩
            · have hib : i = b := by injection h with h; exact Int.ofNat_inj.mp h
              refine ⟨lc, _, 0, _, rfl, rfl, SqT.of (e2 _ _ (I8.sm _ _ hlcT)), rfl, ?_, e2⟩
              rw [e5, if_pos hib, ln_get hcl9]
              rfl
            · have hib : i ≠ b := fun z => h (by rw [z])
              refine ⟨lc, _, 1, _, rfl, rfl, SqT.of (e2 _ _ (I8.sm _ _ hlcT)), rfl, ?_, e2⟩
              rw [e5, if_neg hib, ln_get hcl9]
              rfl
        rintro _ H8b ⟨rfl, s8b⟩
        have I8b := I8.same s8b
        have htp8b := s8b _ _ htp8
        have htr8b := s8b _ _ htr8
        have hcl8b := s8b _ _ hcl8
        have hnn8b := s8b _ _ hnn8
        obtain ⟨rc, hrc, hrT⟩ := hE.get (List.getElem?_eq_getElem oke.1)
        refine ⟨_, rfl, _, rfl, R, refs, _, .ref rc, rfl, rfl, SqL.of (I8b.sm _ _ hR), atI_nat hrc, _, rfl, rfl, _, rfl, rfl, rc, A[(nd S e).2.1], _, rfl, I8b.sm _ _ hrT, fun u H9 s9 hu9 => ?_⟩
        have est : BR.stepR A (nd S e).2.1 (nd S e).2.2.1 i = ((BR.aft A[(nd S e).2.1] (decide (i = 1) != (nd S e).2.2.1)).1, (nd S e).2.2.1 != (BR.aft A[(nd S e).2.1] (decide (i = 1) != (nd S e).2.2.1)).2) := by
          unfold BR.stepR
          rw [rw_at oke.1]
        have es1 : (BR.aft A[(nd S e).2.1] (decide (i = 1) != (nd S e).2.2.1)).1 = (nd S (child S e i)).2.1 := by
          rw [enx]
          show _ = (BR.stepR A (nd S e).2.1 (nd S e).2.2.1 i).1
          rw [est]
        have es2 : ((nd S e).2.2.1 != (BR.aft A[(nd S e).2.1] (decide (i = 1) != (nd S e).2.2.1)).2) = (nd S (child S e i)).2.2.1 := by
          rw [enx]
          show _ = (BR.stepR A (nd S e).2.1 (nd S e).2.2.1 i).2
          rw [est]
        rw [one_ne] at hu9
        refine ⟨u, _, rfl, SqT.of hu9, rfl, _, _, rfl, _, _, rfl, rfl, ?_⟩
        refine ⟨_, rfl, _, rfl, rfl, ?_⟩
        rw [bl_ne, es2, es1]
        have I9 := I8b.same s9
        have htp9 := s9 _ _ htp8b
        have htr9 := s9 _ _ htr8b
        have hcl9 := s9 _ _ hcl8b
        have hnn9 := s9 _ _ hnn8b
        have hbad : B2.Pt S e i ↔ BR.okN ls (nd S (child S e i)) = false := by
          rw [enx, ← hS]
          exact Iff.rfl
        have hclx := (okx.2 i hlx).2
        generalize hN : nd S (child S e i) = N at *
        obtain ⟨lc, hlc, hlcT⟩ := hEl.get (List.getElem?_eq_getElem hclx)
        have hlcT : H lc = some (.tup (CL.lv ls[N.2.2.2])) := hlcT
        have ebl : decide (V.bl N.2.2.1 = V.bl (decide (V.int (i : Int) = V.int 1))) = (N.2.2.1 == decide (N.1 = some 1)) := by
          rw [bl_eq, hlx]
          congr 1
          exact decide_eq_decide.mpr ⟨fun h => by injection h with h; rw [Int.ofNat_inj.mp h], fun h => by injection h with h; rw [h]; rfl⟩
        have eok : BR.okN ls N = BR.allows ls[N.2.2.2].2.2 (N.2.2.1 == decide (N.1 = some 1)) := by
          unfold BR.okN
          rw [ln_get hclx]
        refine ⟨_, rfl, _, rfl, L, _, _, .ref lc, rfl, rfl, SqL.of (I9.sm _ _ hLl), atI_nat hlc, lc, _, 2, _, rfl, rfl, SqT.of (I9.sm _ _ hlcT), rfl, _, rfl, _, rfl, rfl, rfl, ls[N.2.2.2].2.2, _, rfl, _, rfl, ?_⟩
        rw [ebl, ← eok]
        have fW8 := fewT (Tl := Tl ++ ad ++ ac) (fun x hx => by
          rcases List.mem_append.mp hx with h | h
          · exact tlW x h
          · obtain ⟨k, _, rfl⟩ := sub x h
            exact B2.child_ge e k) nd8
        have lTaa : (Tl ++ ad ++ ac).length = (Tl ++ ad).length + ac.length := List.length_append
        have lTa : (Tl ++ ad).length = Tl.length + ad.length := List.length_append
        cases hP : BR.okN ls N with
        | false =>
          refine iteT ?_
          refine ⟨_, rfl, tr, _, 0, _, rfl, rfl, SqT.of htr9, rfl, _, rfl, tr, _, 1, _, rfl, rfl, SqT.of htr9, rfl, ?_⟩
          refine ⟨_, rfl, _, rfl, by show 1 ≤ sizeLine; decide, fun t5 h5 => ?_⟩
          have e5 : Same H9 (upd H9 t5 (.lst [V.int (i : Int)])) := Same.new h5
          refine ⟨cl, t5, _, _, rfl, rfl, e5 _ _ hcl9, upd_same, ?_, fun W5 hW5 => ?_⟩
          · unfold natsV
            rw [List.length_map]
            exact Nat.le_trans (Nat.add_le_add_right hcn2 1) (by decide)
          have e6 := Same.new (o := .lst (natsV (calls S e) ++ [V.int (i : Int)])) hW5
          refine ⟨W5, _, rfl, .inl ⟨SqL.of upd_same, fun t6 h6 => ?_⟩⟩
          have e7 := Same.new (o := .tup (natsV (calls S e) ++ [V.int (i : Int)])) h6
          refine ⟨by show 3 ≤ sizeLine; decide, fun t7 h7 => ?_⟩
          have e8 := Same.new (o := .tup [.int ((root S e / m : Nat) : Int), .int ((root S e % m : Nat) : Int), .ref t6]) h7
          have e58 := ((e5.trans e6).trans e7).trans e8
          refine kk (some (e, i)) _ _ (I9.sm.trans e58) (bi.found he hi (hbad.mpr hP) fun k hk => (ch k hk).1) (fun e' c' z => by cases z; omega) ⟨t7, t6, rfl, upd_same, ?_⟩
          refine e8 _ _ ?_
          rw [upd_same]
          unfold natsV
          rw [List.map_append]
          rfl
        | true =>
          refine iteF ?_
          have hnp : ¬ B2.Pt S e i := fun z => by
            have := hbad.mp z
            rw [hP] at this
            cases this
          have hls : N.1.isSome = true := by rw [hlx]; rfl
          have his : ∀ q ∈ (Tl ++ ad ++ ac).map (nd S), q.1.isSome = true := fun q hq => by
            obtain ⟨p, hp, rfl⟩ := List.mem_map.mp hq
            have hpM : S.M ≤ p := by
              rcases List.mem_append.mp hp with h | h
              · exact tlW p h
              · obtain ⟨k, _, rfl⟩ := sub p h
                exact B2.child_ge e k
            rcases ndc p with ⟨h, _⟩ | ⟨_, b, _, _, e'⟩
            · omega
            · rw [e']; rfl
          have eK : [V.int (N.2.2.2 : Int), .int (N.2.1 : Int), .bl N.2.2.1, .int (i : Int)] = nK N := by
            unfold nK
            rw [hlx]
            rfl
          refine ⟨_, rfl, _, rfl, _, rfl, _, rfl, by show 4 ≤ sizeLine; decide, fun u1_ hu1 => ?_⟩
          have e10 := Same.new (o := .tup [V.int (N.2.2.2 : Int), .int (N.2.1 : Int), .bl N.2.2.1, .int (i : Int)]) hu1
          have g10 : (upd H9 u1_ (.tup [V.int (N.2.2.2 : Int), .int (N.2.1 : Int), .bl N.2.2.1, .int (i : Int)])) u1_ = some (.tup (nK N)) := by rw [← eK]; exact upd_same
          have I10 := I9.same e10
          have htp10 := e10 _ _ htp9
          have htr10 := e10 _ _ htr9
          have hcl10 := e10 _ _ hcl9
          have hnn10 := e10 _ _ hnn9
          generalize (upd H9 u1_ (.tup [V.int (N.2.2.2 : Int), .int (N.2.1 : Int), .bl N.2.2.1, .int (i : Int)])) = H10 at e10 g10 I10 htp10 htr10 hcl10 hnn10 ⊢
          refine ⟨_, rfl, Dd, u1_, _, pK N, rfl, rfl, ⟨kvs8, I10.hD, rfl, I10.ka⟩, pK_at g10, _, rfl, ?_⟩
          rw [I10.has his N hls]
          by_cases hin : N ∈ (Tl ++ ad ++ ac).map (nd S)
          · rw [decide_eq_true hin]
            refine iteF ?_
            obtain ⟨r, hr1, hr2⟩ := List.mem_map.mp hin
            refine ⟨ac, bac8, kvs8, _, _, _, _, _, rfl, I10, nd8, so, (fun x hx => (sub x hx).imp fun k z => ⟨by omega, z.2⟩), fun k hk => ?_, htp10, htr10, hcl10, hnn10⟩
            rcases Nat.lt_or_eq_of_le (Nat.le_of_lt_succ hk) with h | rfl
            · exact ch k h
            · refine ⟨hnp, r, ?_, ?_, ?_⟩
              · rw [List.append_assoc]
                exact List.mem_append_right _ hr1
              · rcases List.mem_append.mp hr1 with h | h
                · exact Nat.le_of_lt (bi.above he k r (List.mem_append_right _ h))
                · obtain ⟨k0, hk0, rfl⟩ := sub r h
                  unfold child
                  omega
              · rw [hN, ← hr2]
                exact S.refl _
          · rw [decide_eq_false hin]
            refine iteT ?_
            refine ⟨_, rfl, _, rfl, _, rfl, _, rfl, _, rfl, by show 4 ≤ sizeLine; decide, fun u2 hu2 => ?_⟩
            have e11 := Same.new (o := .tup [V.int (N.2.2.2 : Int), .int (N.2.1 : Int), .bl N.2.2.1, .int (i : Int)]) hu2
            have g11 : (upd H10 u2 (.tup [V.int (N.2.2.2 : Int), .int (N.2.1 : Int), .bl N.2.2.1, .int (i : Int)])) u2 = some (.tup (nK N)) := by rw [← eK]; exact upd_same
            have I11 := I10.same e11
            have htp11 := e11 _ _ htp10
            have htr11 := e11 _ _ htr10
            have hcl11 := e11 _ _ hcl10
            have hnn11 := e11 _ _ hnn10
            generalize (upd H10 u2 (.tup [V.int (N.2.2.2 : Int), .int (N.2.1 : Int), .bl N.2.2.1, .int (i : Int)])) = H11 at e11 g11 I11 htp11 htr11 hcl11 hnn11 ⊢
            refine ⟨Dd, u2, kvs8, pK N, rfl, rfl, I11.hD, I11.ka, pK_at g11, I11.no his hls hin, ?_, ?_⟩
            · rw [I11.lenK, List.length_map]
              exact Nat.lt_of_le_of_lt (by omega : (Tl ++ ad ++ ac).length ≤ 20000) (by decide)
            have I14 := I11.seen g11
            have htp14 := I11.kt (o := DX P w Dd (kvs8 ++ [(pK N, u2, V.bl true)])) htp11
            have htr14 := I11.kt (o := DX P w Dd (kvs8 ++ [(pK N, u2, V.bl true)])) htr11
            have hcl14 := I11.kl (o := DX P w Dd (kvs8 ++ [(pK N, u2, V.bl true)])) hcl11
            have hnn14 := I11.kt (o := DX P w Dd (kvs8 ++ [(pK N, u2, V.bl true)])) hnn11
            refine ⟨_, rfl, .inl ⟨rfl, _, SqL.of I14.hB⟩, ?_⟩
            refine ⟨_, rfl, _, rfl, _, rfl, by show 1 ≤ sizeLine; decide, fun t5 h5 => ?_⟩
            have e15 : Same (upd H11 Dd (DX P w Dd (kvs8 ++ [(pK N, u2, V.bl true)]))) (upd (upd H11 Dd (DX P w Dd (kvs8 ++ [(pK N, u2, V.bl true)]))) t5 (.lst [V.int (i : Int)])) := Same.new h5
            have I15 := I14.same e15
            refine ⟨cl, t5, _, _, rfl, rfl, e15 _ _ hcl14, upd_same, ?_, fun cn hcn' => ?_⟩
            · unfold natsV
              rw [List.length_map]
              exact Nat.le_trans (Nat.add_le_add_right hcn2 1) (by decide)
            have e16 : Same (upd (upd H11 Dd (DX P w Dd (kvs8 ++ [(pK N, u2, V.bl true)]))) t5 (.lst [V.int (i : Int)])) (upd (upd (upd H11 Dd (DX P w Dd (kvs8 ++ [(pK N, u2, V.bl true)]))) t5 (.lst [V.int (i : Int)])) cn (.lst (natsV (calls S e) ++ [V.int (i : Int)]))) := Same.new hcn'
            have I16 := I15.same e16
            have cnB : cn ≠ Bl := (ne_of_none I15.hB hcn').symm
            have g16 : (upd (upd (upd H11 Dd (DX P w Dd (kvs8 ++ [(pK N, u2, V.bl true)]))) t5 (.lst [V.int (i : Int)])) cn (.lst (natsV (calls S e) ++ [V.int (i : Int)]))) cn = some (.lst (natsV (calls S e) ++ [V.int (i : Int)])) := upd_same
            have e1416 := e15.trans e16
            refine ⟨_, rfl, _, rfl, _, rfl, by show 3 ≤ sizeLine; decide, fun nn2 hnn2 => ⟨by show 3 ≤ sizeLine; decide, fun t6 h6 => ?_⟩⟩
            have e17 : Same (upd (upd (upd H11 Dd (DX P w Dd (kvs8 ++ [(pK N, u2, V.bl true)]))) t5 (.lst [V.int (i : Int)])) cn (.lst (natsV (calls S e) ++ [V.int (i : Int)]))) (upd (upd (upd (upd H11 Dd (DX P w Dd (kvs8 ++ [(pK N, u2, V.bl true)]))) t5 (.lst [V.int (i : Int)])) cn (.lst (natsV (calls S e) ++ [V.int (i : Int)]))) nn2 (.tup (nV N))) := Same.new hnn2
            have g17 : (upd (upd (upd (upd H11 Dd (DX P w Dd (kvs8 ++ [(pK N, u2, V.bl true)]))) t5 (.lst [V.int (i : Int)])) cn (.lst (natsV (calls S e) ++ [V.int (i : Int)]))) nn2 (.tup (nV N))) nn2 = some (.tup (nV N)) := upd_same
            have e18 : Same (upd (upd (upd (upd H11 Dd (DX P w Dd (kvs8 ++ [(pK N, u2, V.bl true)]))) t5 (.lst [V.int (i : Int)])) cn (.lst (natsV (calls S e) ++ [V.int (i : Int)]))) nn2 (.tup (nV N))) (upd (upd (upd (upd (upd H11 Dd (DX P w Dd (kvs8 ++ [(pK N, u2, V.bl true)]))) t5 (.lst [V.int (i : Int)])) cn (.lst (natsV (calls S e) ++ [V.int (i : Int)]))) nn2 (.tup (nV N))) t6 (.tup [.ref tr, .ref cn, .ref nn2])) := Same.new h6
            have I18 := (I16.same e17).same e18
            have e1418 := (e1416.trans e17).trans e18
            have hS2 : isS S m Bl (upd (upd (upd (upd (upd H11 Dd (DX P w Dd (kvs8 ++ [(pK N, u2, V.bl true)]))) t5 (.lst [V.int (i : Int)])) cn (.lst (natsV (calls S e) ++ [V.int (i : Int)]))) nn2 (.tup (nV N))) t6 (.tup [.ref tr, .ref cn, .ref nn2])) t6 (child S e i) := by
              refine ⟨tr, cn, nn2, upd_same, ?_, ?_, cnB, ?_⟩
              · rw [B2.root_child hi]
                exact e1418 _ _ htr14
              · rw [B2.calls_child hi]
                have := (e17.trans e18) _ _ g16
                unfold natsV at this ⊢
                rw [List.map_append]
                exact this
              · rw [hN]
                exact e18 _ _ g17
            have lb8 : bac8.length = (ad ++ ac).length := I8.eB.1
            have laa : (ad ++ ac).length = ad.length + ac.length := List.length_append
            refine ⟨Bl, bac8, _, rfl, rfl, I18.hB, ?_, ?_⟩
            · rw [lb8]
              exact Nat.lt_of_le_of_lt (by omega : (ad ++ ac).length ≤ 20000) (by decide)
            have I19 := I18.app hS2
            refine ⟨ac ++ [child S e i], bac8 ++ [.ref t6], kvs8 ++ [(pK N, u2, V.bl true)], _, _, _, _, _, rfl, ?_, ?_, ?_, ?_, fun k hk => ?_, ?_, ?_, ?_, ?_⟩
            · rw [← List.append_assoc, ← List.append_assoc, List.map_append, List.map_cons, List.map_nil, hN]
              exact I19
            · rw [← List.append_assoc, List.map_append, List.map_cons, List.map_nil, hN]
              exact LF.nodup_snoc nd8 hin
            · refine List.pairwise_append.mpr ⟨so, List.pairwise_singleton _ _, fun x hx y hy => ?_⟩
              obtain ⟨k0, hk0, rfl⟩ := sub x hx
              rw [List.mem_singleton.mp hy]
              unfold child
              omega
            · intro x hx
              rcases List.mem_append.mp hx with h | h
              · obtain ⟨k0, hk0, z⟩ := sub x h
                exact ⟨k0, by omega, z⟩
              · exact ⟨i, by omega, List.mem_singleton.mp h⟩
            · rcases Nat.lt_or_eq_of_le (Nat.le_of_lt_succ hk) with h | rfl
              · obtain ⟨z1, r0, z2, z3⟩ := ch k h
                exact ⟨z1, r0, by rw [← List.append_assoc]; exact List.mem_append_left _ z2, z3⟩
              · exact ⟨hnp, child S e k, by rw [← List.append_assoc]; exact List.mem_append_right _ (List.mem_singleton.mpr rfl), Nat.le_refl _, S.refl _⟩
            · exact I18.ktB (e1418 _ _ htp14)
            · exact I18.ktB (e1418 _ _ htr14)
            · rw [upd_ne hclB]
              exact e1418 _ _ hcl14
            · exact I18.ktB (e1418 _ _ hnn14)
      · rintro σ' H' ⟨ac, bac8, kvs8, x13, x14, x15, x16, x17, rfl, I8, nd8, so, sub, ch, _, _, _, _⟩
        refine ⟨ad ++ ac, X6 ++ [e], bac8, kvs8, _, _, _, _, _, _, _, _, rfl, ?_, ?_, ?_, ?_⟩
        · rw [← List.append_assoc]
          exact I8
        · have := bi.lead he (fun k hk => (ch k hk).1) so (fun x hx => (sub x hx).imp fun k z => z) fun k hk => (ch k hk).2
          rw [List.append_assoc, List.append_assoc] at this
          exact this
        · rw [← List.append_assoc]
          exact nd8
        · intro x hx
          rw [← List.append_assoc] at hx
          rcases List.mem_append.mp hx with h | h
          · exact tlW x h
          · obtain ⟨k, _, rfl⟩ := sub x h
            exact B2.child_ge e k
    · rintro σ' H6 ⟨ad, X6, bac, kvs6, x10, x11, x12, x13, x14, x15, x16, x17, rfl, I, bi, ndW, tlW⟩
      refine ⟨_, rfl, Bl, _, rfl, .inl (SqL.of I.hB), fun L2_ hL2 => ?_⟩
      have e7 := Same.new (o := .lst bac) hL2
      have I7 := I.same e7
      have lWa : (List.range S.M ++ (Tl ++ ad)).length = S.M + (Tl ++ ad).length := by rw [List.length_append, List.length_range]
      have lTa : (Tl ++ ad).length = Tl.length + ad.length := List.length_append
      refine ⟨n0 - acc.length, by omega, (List.range S.M ++ Tl).length, Tl ++ ad, X6, L2_, Bl, bac, kvs6, _, _, _, _, _, _, _, _, _, _, _, rfl, I7.sm, upd_same, ?_, I7.hD, I7.ka, I7.em, ?_, ndW, tlW, ?_, ?_⟩
      · rw [← List.append_assoc, List.drop_left]
        exact I7.eB
      · rw [show (List.range S.M ++ Tl).length = d + acc.length by omega]
        exact bi
      · omega
      · omega
end
end PA

set_option maxHeartbeats 8000000
/-! the claim that allows just what a rule does: what is drawn up -/
namespace PA
open PySem L2 RZ
open C8 (pss_cut tCut)
open TC (Lc LOk GoodL verds)
abbrev En := Nat × Bool × Nat
def enT (e : En) : List V := [.int (e.1 : Int), .bl e.2.1, .int (e.2.2 : Int)]
def stE (A : List Rn) (e : En) (c : Nat) : En := ((BR.stepR A e.1 e.2.1 c).1, (BR.stepR A e.1 e.2.1 c).2, c)
def wy (way : Nat) (e : En) : Nat := if way = 0 then e.2.2 else 1 - e.2.2
def aftE (A : List Rn) (way : Nat) (es : List En) : List En := es.map fun e => stE A e (wy way e)
def smE (e : En) : Bool := e.2.1 == decide (e.2.2 = 1)
def wordE (es : List En) : Str := if ((es.map smE).contains true && (es.map smE).contains false) = true then ("free" : Str) else if (es.map smE).head? = some true then "last" else "other"
/-- a state: its entries -/
def EOk (n : Nat) (es : List En) : Prop := es ≠ [] ∧ es.length ≤ 32 ∧ ∀ e ∈ es, e.1 < n ∧ e.2.2 < 2
theorem wy_lt {way : Nat} {e : En} (h : e.2.2 < 2) : wy way e < 2 := by
  unfold wy
  split <;> omega
theorem EOk.aft {A : List Rn} (ok : ∀ r ∈ A, r.1 < A.length ∧ r.2.2.1 < A.length) {es : List En} (h : EOk A.length es) (way : Nat) : EOk A.length (aftE A way es) := by
  refine ⟨?_, ?_, fun e he => ?_⟩
  · unfold aftE
    intro z
    exact h.1 (List.map_eq_nil_iff.mp z)
  · unfold aftE
    rw [List.length_map]
    exact h.2.1
  · obtain ⟨d, hd, rfl⟩ := List.mem_map.mp he
    have := h.2.2 d hd
    exact ⟨stepR_lt ok this.1, wy_lt this.2⟩
/-- the entries of the beginnings -/
def iniE (A : List Rn) (st : List Nat) : List En := st.flatMap fun s => [stE A (s, false, 0) 0, stE A (s, false, 0) 1]
/-- the lines found, of the states waiting -/
def KInv (A : List Rn) (W : List (List En)) (F : List Lc) : Prop := ∀ (i : Nat) (l : Lc), F[i]? = some l → ∃ es, W[i]? = some es ∧ W[l.1]? = some (aftE A 0 es) ∧ W[l.2.1]? = some (aftE A 1 es) ∧ l.2.2 = wordE es
theorem KInv.grow {A : List Rn} {W W' : List (List En)} {F : List Lc} (k : KInv A W F) (pre : ∀ (i : Nat) es, W[i]? = some es → W'[i]? = some es) : KInv A W' F := fun i l h => by
  obtain ⟨es, h1, h2, h3, h4⟩ := k i l h
  exact ⟨es, pre _ _ h1, pre _ _ h2, pre _ _ h3, h4⟩
theorem KInv.push {A : List Rn} {W : List (List En)} {F : List Lc} (k : KInv A W F) {es : List En} {l : Lc} (h1 : W[F.length]? = some es) (h2 : W[l.1]? = some (aftE A 0 es)) (h3 : W[l.2.1]? = some (aftE A 1 es)) (h4 : l.2.2 = wordE es) : KInv A W (F ++ [l]) := fun i l' h => by
  rcases Nat.lt_or_ge i F.length with q | q
  · rw [List.getElem?_append_left q] at h
    exact k i l' h
  · have hi : i = F.length := by
      have := (List.getElem?_eq_some_iff.mp h).1
      rw [List.length_append, List.length_singleton] at this
      omega
    subst hi
    rw [List.getElem?_append_right (Nat.le_refl _), Nat.sub_self] at h
    cases h
    exact ⟨es, h1, h2, h3, h4⟩
theorem word_in (es : List En) : wordE es ∈ verds := by
  unfold wordE
  split
  · decide +kernel
  · split <;> decide +kernel
theorem word_ok {es : List En} {e : En} (h : e ∈ es) : BR.allows (wordE es) (smE e) = true := by
  have hm : smE e ∈ es.map smE := List.mem_map_of_mem h
  unfold wordE
  split
  · cases smE e <;> decide +kernel
  · rename_i hn
    have hn : ¬ (true ∈ es.map smE ∧ false ∈ es.map smE) := fun z => hn (by rw [Bool.and_eq_true]; exact ⟨List.contains_iff_mem.mpr z.1, List.contains_iff_mem.mpr z.2⟩)
    have hh : (es.map smE).head? = some (smE e) := by
      cases hq : es.map smE with
      | nil => rw [hq] at hm; cases hm
      | cons x xs =>
        rw [hq] at hm hn
        have hx : x = smE e := by
          cases hx : x <;> cases hs : smE e
          · rfl
          · rw [hs] at hm; exact absurd ⟨hm, by rw [hx]; exact List.mem_cons_self⟩ hn
          · rw [hs] at hm; exact absurd ⟨by rw [hx]; exact List.mem_cons_self, hm⟩ hn
          · rfl
        rw [hx]
        rfl
    rw [hh]
    cases smE e <;> decide +kernel
theorem kept_of {A : List Rn} {st : List Nat} {W : List (List En)} {F : List Lc} (hok : ∀ es ∈ W, EOk A.length es) (hst : ∀ s ∈ st, s < A.length) (h0 : W[0]? = some (iniE A st)) (k : KInv A W F) (hl : F.length = W.length) : BR.Kept A st F (fun i => (W[i]?).getD []) := by
  have hn : 0 < F.length := by rw [hl]; exact (List.getElem?_eq_some_iff.mp h0).1
  have at_ : ∀ i, i < F.length → ∃ es, W[i]? = some es ∧ W[(BR.ln_ F i).1]? = some (aftE A 0 es) ∧ W[(BR.ln_ F i).2.1]? = some (aftE A 1 es) ∧ (BR.ln_ F i).2.2 = wordE es ∧ EOk A.length es := fun i hi => by
    obtain ⟨es, h1, h2, h3, h4⟩ := k i F[i] (List.getElem?_eq_getElem hi)
    rw [ln_get hi]
    exact ⟨es, h1, h2, h3, h4, hok es (List.mem_of_getElem? h1)⟩
  refine ⟨hn, fun i s c hs hc => ?_, fun i hi e he => ?_, fun i hi => ?_, fun i hi => ?_, fun i hi e he => ?_⟩
  · show _ ∈ (W[0]?).getD []
    rw [h0]
    show _ ∈ iniE A st
    unfold iniE
    rw [List.mem_flatMap]
    refine ⟨s, List.mem_of_getElem? hs, ?_⟩
    rcases (by omega : c = 0 ∨ c = 1) with rfl | rfl
    · exact List.mem_cons_self
    · exact List.mem_cons_of_mem _ List.mem_cons_self
  · obtain ⟨es, h1, _, _, _, h5⟩ := at_ i hi
    have he : e ∈ (W[i]?).getD [] := he
    rw [h1] at he
    exact (h5.2.2 e he).2
  · obtain ⟨es, h1, h2, _, _, h5⟩ := at_ i hi
    refine ⟨by rw [hl]; exact (List.getElem?_eq_some_iff.mp h2).1, fun e he => ?_⟩
    have he : e ∈ (W[i]?).getD [] := he
    rw [h1] at he
    show _ ∈ (W[(BR.ln_ F i).1]?).getD []
    rw [h2]
    exact List.mem_map_of_mem (f := fun e => stE A e (wy 0 e)) he
  · obtain ⟨es, h1, _, h3, _, h5⟩ := at_ i hi
    refine ⟨by rw [hl]; exact (List.getElem?_eq_some_iff.mp h3).1, fun e he => ?_⟩
    have he : e ∈ (W[i]?).getD [] := he
    rw [h1] at he
    show _ ∈ (W[(BR.ln_ F i).2.1]?).getD []
    rw [h3]
    exact List.mem_map_of_mem (f := fun e => stE A e (wy 1 e)) he
  · obtain ⟨es, h1, _, _, h4, _⟩ := at_ i hi
    have he : e ∈ (W[i]?).getD [] := he
    rw [h1] at he
    rw [h4]
    exact word_ok he
/-! ### as data -/
def e3D (e : En) : PyData := .tuple [.int (e.1 : Int), .bool e.2.1, .int (e.2.2 : Int)]
def wD (es : List En) : PyData := .tuple (es.map e3D)
theorem e3D_eqv (z w : En) : PyData.eqv (e3D z) (e3D w) = decide (z = w) := by
  obtain ⟨a, b, c⟩ := z
  obtain ⟨a', b', c'⟩ := w
  have e : PyData.eqv (e3D (a, b, c)) (e3D (a', b', c')) = (((a : Int) == (a' : Int)) && ((b == b') && (((c : Int) == (c' : Int)) && true))) := by simp only [e3D, PyData.eqv, PyData.eqvAll]
  rw [e]
  by_cases h : ((a, b, c) : En) = (a', b', c')
  · cases h
    simp
  · rw [decide_eq_false h]
    by_cases h1 : a = a'
    · by_cases h2 : b = b'
      · by_cases h3 : c = c'
        · exact absurd (by rw [h1, h2, h3]) h
        · have q : ((c : Int) == (c' : Int)) = false := beq_eq_false_iff_ne.mpr (by omega)
          rw [q, Bool.false_and, Bool.and_false, Bool.and_false]
      · have q : (b == b') = false := beq_eq_false_iff_ne.mpr h2
        rw [q, Bool.false_and, Bool.and_false]
    · have q : ((a : Int) == (a' : Int)) = false := beq_eq_false_iff_ne.mpr (by omega)
      rw [q, Bool.false_and]
theorem e3Ds_eqv : ∀ zs ws : List En, PyData.eqvAll (zs.map e3D) (ws.map e3D) = decide (zs = ws)
  | [], [] => by simp [PyData.eqvAll]
  | [], w :: ws => by simp [PyData.eqvAll]
  | z :: zs, [] => by simp [PyData.eqvAll]
  | z :: zs, w :: ws => by
    have ih := e3Ds_eqv zs ws
    simp only [List.map_cons, PyData.eqvAll, ih, e3D_eqv]
    by_cases h1 : z = w
    · by_cases h2 : zs = ws
      · simp [h1, h2]
      · simp [h2]
    · simp [h1]
theorem wD_eqv (zs ws : List En) : PyData.eqv (wD zs) (wD ws) = decide (zs = ws) := by
  unfold wD
  simp only [PyData.eqv]
  exact e3Ds_eqv zs ws
theorem e3Ds_lay : ∀ zs : List En, PyData.canLayAll0 (zs.map e3D) = true
  | [] => by simp [PyData.canLayAll0]
  | z :: zs => by simp [PyData.canLayAll0, e3D, PyData.canLay0, e3Ds_lay zs]
theorem e3Ds_depth : ∀ zs : List En, PyData.depthAll (zs.map e3D) ≤ 2
  | [] => by simp [PyData.depthAll]
  | z :: zs => by
    have h1 := e3Ds_depth zs
    have h2 : (e3D z).depth = 1 := by simp [e3D, PyData.depth, PyData.depthAll]
    simp only [List.map_cons, PyData.depthAll]
    omega
theorem wD_depth (zs : List En) : (wD zs).depth ≤ 3 := by
  have := e3Ds_depth zs
  unfold wD
  simp only [PyData.depth]
  omega
theorem wD_lay (zs : List En) : (wD zs).canLay0 = true := by
  unfold wD
  simp only [PyData.canLay0]
  exact e3Ds_lay zs
theorem wD_shaped (zs : List En) : SeqAt.shaped (wD zs) = true := by
  have h := wD_depth zs
  show ((wD zs).canLay0 && decide ((wD zs).depth ≤ 64)) = true
  rw [Bool.and_eq_true]
  exact ⟨wD_lay zs, decide_eq_true (by omega)⟩
theorem wDs_lay : ∀ W : List (List En), PyData.canLayAll0 (W.map wD) = true
  | [] => by simp [PyData.canLayAll0]
  | z :: zs => by simp [PyData.canLayAll0, wD_lay z, wDs_lay zs]
theorem wDs_depth : ∀ W : List (List En), PyData.depthAll (W.map wD) ≤ 4
  | [] => by simp [PyData.depthAll]
  | z :: zs => by
    have h1 := wDs_depth zs
    have h2 := wD_depth z
    simp only [List.map_cons, PyData.depthAll]
    omega
theorem wDs_shaped (W : List (List En)) : SeqAt.shaped (.list (W.map wD)) = true := by
  have h1 := wDs_depth W
  have h2 : PyData.depth (.list (W.map wD)) ≤ 64 := by
    simp only [PyData.depth]
    omega
  show (PyData.canLay0 (.list (W.map wD)) && decide (PyData.depth (.list (W.map wD)) ≤ 64)) = true
  rw [Bool.and_eq_true]
  exact ⟨by simp only [PyData.canLay0]; exact wDs_lay W, decide_eq_true h2⟩
theorem wDs_any (W : List (List En)) (es : List En) : ((W.map wD).any fun z => PyData.eqv z (wD es)) = decide (es ∈ W) := by
  rw [List.any_map]
  induction W with
  | nil => simp
  | cons z zs ih =>
    rw [List.any_cons, ih]
    show (PyData.eqv (wD z) (wD es) || _) = _
    rw [wD_eqv]
    by_cases h : z = es
    · simp [h]
    · have : ¬ es = z := fun q => h q.symm
      simp [h, this]
abbrev isEn : Hp → Addr → En → Prop := TupOf enT
/-- a state at c -/
def isWt (H : Hp) (c : Addr) (es : List En) : Prop := ∃ refs, H c = some (.tup refs) ∧ Ea H isEn refs es
section
variable {H H' : Hp} {c : Addr} {es : List En}
theorem isWt.kt (h : isWt H c es) (k : ∀ c ys, H c = some (.tup ys) → H' c = some (.tup ys)) : isWt H' c es := let ⟨refs, h1, h2⟩ := h; ⟨refs, k _ _ h1, h2.imp fun c r q => k _ _ q⟩
theorem isWt.same (h : isWt H c es) (s : Same H H') : isWt H' c es := h.kt fun _ _ e => s _ _ e
theorem ens_dp {K : PySem.W.Frag} : ∀ {xs : List V} {l : List En}, Ea H isEn xs l → DpAll K H xs (l.map e3D)
  | [], [], _ => .nil
  | [], _ :: _, e => by cases e.1
  | _ :: _, [], e => by cases e.1
  | x :: xs, r :: rows, e => by
    obtain ⟨c, hx, q⟩ := e.2 0 x r rfl rfl
    subst hx
    have q : H c = some (.tup (enT r)) := q
    exact .cons (.tup (SqT.of q) (.cons (.int _) (.cons (.bl _) (.cons (.int _) .nil)))) (ens_dp ⟨by have := e.1; simpa using this, fun i y s h1 h2 => e.2 (i + 1) y s (by simpa using h1) (by simpa using h2)⟩)
theorem isWt.dp {K : PySem.W.Frag} (h : isWt H c es) : Dp K H (.ref c) (wD es) := let ⟨refs, h1, h2⟩ := h; .tup (SqT.of h1) (ens_dp h2)
theorem wts_dp {K : PySem.W.Frag} : ∀ {xs : List V} {l : List (List En)}, Ea H isWt xs l → DpAll K H xs (l.map wD)
  | [], [], _ => .nil
  | [], _ :: _, e => by cases e.1
  | _ :: _, [], e => by cases e.1
  | x :: xs, r :: rows, e => by
    obtain ⟨c, hx, q⟩ := e.2 0 x r rfl rfl
    subst hx
    exact .cons q.dp (wts_dp ⟨by have := e.1; simpa using this, fun i y s h1 h2 => e.2 (i + 1) y s (by simpa using h1) (by simpa using h2)⟩)
end
theorem inV_bl (b : Bool) : ∀ bs : List Bool, inV (.bl b) (bs.map V.bl) = bs.contains b
  | [] => rfl
  | x :: xs => by
    have ih := inV_bl b xs
    unfold inV at ih ⊢
    rw [List.map_cons, List.any_cons, ih, List.contains_cons]
    show ((x == b) || _) = ((b == x) || _)
    rw [Bool.beq_comm]
theorem bls_flat (bs : List Bool) : (bs.map V.bl).all flatV = true := by
  rw [List.all_map]
  exact List.all_eq_true.mpr fun _ _ => rfl
theorem u65 {k : Nat} {A : Around} (r : Room k A) : A.units + 65 < cLine := by
  have := r.un
  omega
/-- the first place of a state -/
theorem first_at : ∀ {W : List (List En)} {es : List En}, es ∈ W → ∃ j, W[j]? = some es ∧ ∀ (m : Nat) z', m < j → W[m]? = some z' → z' ≠ es
  | [], _, h => by cases h
  | x :: W, es, h => by
    by_cases e : x = es
    · exact ⟨0, by rw [e]; rfl, fun m z' hm => absurd hm (Nat.not_lt_zero _)⟩
    · have h : es ∈ W := by
        rcases List.mem_cons.mp h with h | h
        · exact absurd h.symm e
        · exact h
      obtain ⟨j, h1, h2⟩ := first_at h
      refine ⟨j + 1, by simpa using h1, fun m z' hm hz => ?_⟩
      cases m with
      | zero =>
        have : x = z' := by simpa using hz
        rw [← this]
        exact e
      | succ m => exact h2 m z' (by omega) (by simpa using hz)
def spKept : Sp := fun vs H Q _ => ∃ (t : Addr) (A : List Rn) (st : List Nat) (m : Nat), vs = [.ref t, .int 30] ∧ TabL H t A st m ∧ OkT A st m ∧
  ∀ v H', Same H H' → (v = .non ∨ ∃ (L : Addr) (F : List Lc) (Tn : Nat → List En), v = .ref L ∧ H L = none ∧ LinL H' L F ∧ GoodL F ∧ BR.Kept A st F Tn) → Q v H'
end PA

set_option maxHeartbeats 8000000
/-! `_law_m_kept` -/
namespace PA
open PySem L2 RZ
open C8 (pss_cut tCut)
open TC (Lc LOk GoodL verds)
abbrev sKept : Stmt := top 75
abbrev NKp : List Str := ["_law_table", "_law_most", "_law_rows", "_law_starts", "_law_marks", "_law_entries", "_law_start_here", "_law_call", "_law_state", "_law_turned", "_law_waiting", "_law_found", "_law_at", "_law_row", "_law_way", "_law_after", "_law_last", "_law_change", "_law_same_here"]
theorem ini_snoc (A : List Rn) (l : List Nat) (s : Nat) : iniE A (l ++ [s]) = iniE A l ++ [stE A (s, false, 0) 0, stE A (s, false, 0) 1] := by
  unfold iniE
  rw [List.flatMap_append]
  rfl
theorem ini_len (A : List Rn) : ∀ l : List Nat, (iniE A l).length = 2 * l.length
  | [] => rfl
  | s :: l => by
    have := ini_len A l
    unfold iniE at this ⊢
    rw [List.flatMap_cons, List.length_append, this]
    show 2 + _ = 2 * (l.length + 1)
    omega
theorem ini_ok {A : List Rn} {st : List Nat} {m : Nat} (o : OkT A st m) : EOk A.length (iniE A st) := by
  refine ⟨?_, ?_, fun e he => ?_⟩
  · intro z
    have h1 := ini_len A st
    rw [z] at h1
    have := o.st0
    simp at h1
    omega
  · rw [ini_len]
    have := o.st16
    omega
  · unfold iniE at he
    obtain ⟨s, hs, he⟩ := List.mem_flatMap.mp he
    have hl := o.sa s hs
    rcases List.mem_cons.mp he with rfl | he
    · exact ⟨stepR_lt o.ok hl, by show 0 < 2; decide⟩
    · rw [List.mem_singleton.mp he]
      exact ⟨stepR_lt o.ok hl, by show 1 < 2; decide⟩
theorem map_take_snoc {α β : Type} (f : α → β) {l : List α} {i : Nat} {x : α} (h : l[i]? = some x) : (l.take (i + 1)).map f = (l.take i).map f ++ [f x] := by
  rw [L2.take_succ' h, List.map_append]
  rfl
theorem isEn.kt {H H' : Hp} {c : Addr} {e : En} (h : isEn H c e) (k : ∀ c ys, H c = some (.tup ys) → H' c = some (.tup ys)) : isEn H' c e := k _ _ h
theorem tk_lst {H : Hp} {a : Addr} {xs : List V} {o : HO} (h : H a = some (.lst xs)) : ∀ c ys, H c = some (.tup ys) → (upd H a o) c = some (.tup ys) := fun c ys e => by
  rw [upd_ne (ne_of e h (by intro z; cases z))]
  exact e
theorem ix_listK3 {X : Cx} {K : PySem.W.Frag} (h : X.K = K) : IxR X (rIxL K) := h ▸ ix_list
theorem PE.wk {X : Cx} {e : Expr} {t t' : TE} (h : PE X e t) (f : ∀ σ H Q, t' σ H Q → t σ H Q) : PE X e t' := ⟨fun pins s σ H Q I q => h.run pins s σ H Q I (f _ _ _ q)⟩
def wordB (bs : List Bool) : Str := if (bs.contains true && bs.contains false) = true then ("free" : Str) else if bs.head? = some true then "last" else "other"
def tWord (i : Nat) : TE := fun σ H Q => ∃ (Sm : Addr) (bs : List Bool), σ[i]? = some (some (.ref Sm)) ∧ H Sm = some (.lst (bs.map V.bl)) ∧ bs ≠ [] ∧ ∀ z H', z = wordB bs → Same H H' → Q (.str z) H'
theorem word_rd {K : PySem.W.Frag} {i : Nat} {σ : St} {H : Hp} {Q : VK} (q : tWord i σ H Q) :
    tIf (tAnd (tTest (tOp (rIn K false) (tC (V.bl true)) (tVar i))) (tTest (tOp (rIn K false) (tC (V.bl false)) (tVar i)))) (tC (V.str (Str.ofString "free")))
      (tOp (rIxL K) (tLst (tCons (tC (V.str (Str.ofString "other"))) (tCons (tC (V.str (Str.ofString "last"))) tNil)))
        (tCB (fun xs H Q => (∃ i, xs = [V.int i] ∧ Q (V.int i) H) ∨ ∃ k, xs = [V.bl k] ∧ Q (V.int (if k = true then 1 else 0)) H) (tCons (tOp (rIxL K) (tVar i) (tC (V.int 0))) tNil))) σ H Q := by
  obtain ⟨Sm, bs, hσ, hS, hne, kk⟩ := q
  have hSq : SqL K H Sm (bs.map V.bl) := SqL.of hS
  have e1 : ∀ b : Bool, (if false = true then !inV (V.bl b) (bs.map V.bl) else inV (V.bl b) (bs.map V.bl)) = bs.contains b := fun b => inV_bl b bs
  have rest : (bs.contains true && bs.contains false) = false → (tOp (rIxL K) (tLst (tCons (tC (V.str (Str.ofString "other"))) (tCons (tC (V.str (Str.ofString "last"))) tNil)))
        (tCB (fun xs H Q => (∃ i, xs = [V.int i] ∧ Q (V.int i) H) ∨ ∃ k, xs = [V.bl k] ∧ Q (V.int (if k = true then 1 else 0)) H) (tCons (tOp (rIxL K) (tVar i) (tC (V.int 0))) tNil))) σ H Q := fun hb => by
    obtain ⟨b, bs', hbs⟩ : ∃ b bs', bs = b :: bs' := by
      cases bs with
      | nil => exact absurd rfl hne
      | cons b bs' => exact ⟨b, bs', rfl⟩
    refine ⟨by show 2 ≤ sizeLine; decide, fun lo hlo => ?_⟩
    have elo := Same.new (o := .lst [V.str "other", .str "last"]) hlo
    have glo : (upd H lo (.lst [V.str "other", .str "last"])) lo = some (.lst [V.str "other", .str "last"]) := upd_same
    refine ⟨_, hσ, Sm, _, 0, .bl b, rfl, rfl, SqL.of (elo _ _ hS), by rw [hbs]; exact atI_nat (i := 0) rfl, .inr ⟨b, rfl, ?_⟩⟩
    have hw : wordB bs = if b = true then "last" else "other" := by
      unfold wordB
      rw [hb, if_neg (by decide), hbs]
      cases b <;> rfl
    cases b with
    | true => exact ⟨lo, _, 1, .str "last", rfl, rfl, SqL.of glo, rfl, kk _ _ hw.symm elo⟩
    | false => exact ⟨lo, _, 0, .str "other", rfl, rfl, SqL.of glo, rfl, kk _ _ hw.symm elo⟩
  refine ⟨_, hσ, Sm, _, rfl, .inl hSq, rfl, bls_flat _, _, rfl, ?_⟩
  rw [e1]
  cases h1 : bs.contains true with
  | false =>
    refine iteF ?_
    refine iteF ?_
    exact rest (by rw [h1]; rfl)
  | true =>
    refine iteT ?_
    refine ⟨_, hσ, Sm, _, rfl, .inl hSq, rfl, bls_flat _, _, rfl, ?_⟩
    rw [e1]
    cases h2 : bs.contains false with
    | false =>
      refine iteF ?_
      exact rest (by rw [h1, h2]; rfl)
    | true =>
      refine iteT ?_
      refine kk _ _ ?_ (fun _ _ h => h)
      unfold wordB
      rw [h1, h2]
      rfl
def KP (H : Hp) (a0 a2 a3 a4 a5 : V) (Wt Fd : Addr) (A : List Rn) (st : List Nat) (n : Nat) (σ' : List (Option V)) (H' : Hp) : Prop := ∃ (W : List (List En)) (F : List Lc) (wrefs frefs : List V) (x6 x7 x8 x9 x13 x14 x15 x16 x17 x18 : Option V),
  σ' = [some a0, some (.int 30), some a2, some a3, some a4, some a5, x6, x7, x8, x9, some (.ref Wt), some (.ref Fd), some (.int (F.length : Int)), x13, x14, x15, x16, x17, x18] ∧ Same H H' ∧ H' Wt = some (.lst wrefs) ∧ Ea H' isWt wrefs W ∧ H' Fd = some (.lst frefs) ∧ Ea H' isLc frefs F ∧
  F.length ≤ W.length ∧ W.length ≤ 30 ∧ (∀ es ∈ W, EOk A.length es) ∧ W[0]? = some (iniE A st) ∧ KInv A W F ∧ F.length + n = 30
section
variable {P : Program} {w : World} {K : PySem.W.Frag} {mg : Str → Option Value} {base : Heap} {C : Addr}
theorem scKp : FnScope NKp ["_law_table", "_law_most"] (defScope sKept) := ⟨rfl, rfl, rfl, by decide +kernel, rfl, by decide +kernel, by decide +kernel⟩
theorem ok_kept {f g : Addr} {fd gd : FuncData} (F : Fun K "_law_m_kept" "_law_m_kept" sKept f fd) (T : Txt K mg C) (D : Df K mg "_law_m_after" sAft g gd ["_law_row", "_law_behind"]) : FnOk P w K mg base CX0 2 f fd ["_law_table", "_law_most"] spKept := by
  have G : FnOk P w K mg base CX0 1 g gd ["_law_row", "_law_behind"] spAft := ok_aft D.F
  refine F.ok scKp (fun vs H Q E h => ?_) (fun cdv A0 outer s H vs Q E hr h => ?_)
  · obtain ⟨t, _, _, _, rfl, _⟩ := h
    rfl
  · obtain ⟨t, A, st, m, rfl, ⟨R, Sd, refs, ht, hR, hE, hSd⟩, okT, kk⟩ := h
    have hu := u65 hr
    have hr1 : Room 1 _ := hr.mono (by decide)
    refine ⟨_, pss_cons (ps_asg (pv 0) (pg_tup rfl (pgs_cons (pg_name (i := 2) scKp.nd rfl (Or.inl rfl)) (pgs_cons (pg_name (i := 3) scKp.nd rfl (Or.inl rfl)) (pgs_cons (pg_name (i := 4) scKp.nd rfl (Or.inl rfl)) pgs_nil)))))
      (pss_cons (ps_set (i := 5) scKp.nd rfl (Or.inl rfl) (pe_lst pa_nil))
      (pss_cut (ps_for PassesOwn.never rfl (pi_list (pv 3)) (pg_name (i := 6) scKp.nd rfl (Or.inl rfl))
        (pss_one (ps_for PassesOwn.never rfl (pi_tup (pe_tup (pa_cons pe_int (pa_cons pe_int pa_nil)))) (pg_name (i := 7) scKp.nd rfl (Or.inl rfl))
          (pss_cons (ps_asg (pe_call G hr1 rfl D.M D.F.kp D.B .nil pass0 (pa_cons (pe_ix ix_list (pv 2) (pv 6) (fun _ _ => rfl)) (pa_cons (pe_cmpR op_eq (pv 7) pe_int (nomark _)) pa_nil))) (pg_tup rfl (pgs_cons (pg_name (i := 8) scKp.nd rfl (Or.inl rfl)) (pgs_cons (pg_name (i := 9) scKp.nd rfl (Or.inl rfl)) pgs_nil))))
          (pss_one (ps_expr (pe_bm PySem.F.plainAttrs_list PySem.F.slot_list_append PySem.F.type_list_append mt_append (pv 5) (pa_cons (pe_tup (pa_cons (pv 8) (pa_cons (pv 9) (pa_cons (pv 7) pa_nil)))) pa_nil))))))))
      (pss_cons (ps_par3 (i := 10) (j := 11) (l := 12) (by rfl) scKp.nd rfl rfl rfl (by decide) (by decide) (by decide) rfl rfl rfl (pa_cons (pe_lst (pa_cons (pe_callTy call_tuple_of (by rfl) T.tup_ boot_tuple' (pa_cons (pv 5) pa_nil)) pa_nil)) (pa_cons (pe_lst pa_nil) (pa_cons pe_int pa_nil))) (by rfl))
      (pss_cons (ps_while PassesOwn.never (pt_cmpR op_lt (pv 12) (pe_callB call_len_seq (by rfl) T.len_ PySem.boot_len (pa_cons (pv 10) pa_nil)) (nomark _))
        (pss_cons (ps_set (i := 13) scKp.nd rfl (Or.inl rfl) (pe_lst pa_nil))
        (pss_cut (ps_for PassesOwn.never rfl (pi_tup (pe_tup (pa_cons pe_int (pa_cons pe_int pa_nil)))) (pg_name (i := 14) scKp.nd rfl (Or.inl rfl))
          (pss_cons (ps_set (i := 15) scKp.nd rfl (Or.inl rfl) (pe_lst pa_nil))
          (pss_cut (ps_for PassesOwn.never rfl (pi_tup (pe_ix ix_list (pv 10) (pv 12) (fun _ _ => rfl))) (pg_tup rfl (pgs_cons (pg_name (i := 8) scKp.nd rfl (Or.inl rfl)) (pgs_cons (pg_name (i := 9) scKp.nd rfl (Or.inl rfl)) (pgs_cons (pg_name (i := 16) scKp.nd rfl (Or.inl rfl)) pgs_nil))))
            (pss_cut (ps_set (i := 7) scKp.nd rfl (Or.inl rfl) (pe_ifExp (pt_cmpR op_eq (pv 14) pe_int (nomark _)) (pv 16) (pe_op op_sub pe_int (pv 16))))
            (pss_cons (ps_asg (pe_call G hr1 rfl D.M D.F.kp D.B .nil pass0 (pa_cons (pe_ix ix_list (pv 2) (pv 8) (fun _ _ => rfl)) (pa_cons (pe_cmpR op_ne (pe_cmpR op_eq (pv 7) pe_int (nomark _)) (pv 9) (nomark _)) pa_nil))) (pg_tup rfl (pgs_cons (pg_name (i := 8) scKp.nd rfl (Or.inl rfl)) (pgs_cons (pg_name (i := 17) scKp.nd rfl (Or.inl rfl)) pgs_nil))))
            (pss_one (ps_expr (pe_bm PySem.F.plainAttrs_list PySem.F.slot_list_append PySem.F.type_list_append mt_append (pv 15) (pa_cons (pe_tup (pa_cons (pv 8) (pa_cons (pe_cmpR op_ne (pv 9) (pv 17) (nomark _)) (pa_cons (pv 7) pa_nil)))) pa_nil)))))))
          (pss_cons (ps_set (i := 15) scKp.nd rfl (Or.inl rfl) (pe_callTy call_tuple_of (by rfl) T.tup_ boot_tuple' (pa_cons (pv 15) pa_nil)))
          (pss_cut (ps_if (pt_cmpR (op_notInD hu) (pv 15) (pv 10) rfl) (pss_one (ps_expr (pe_bm PySem.F.plainAttrs_list PySem.F.slot_list_append PySem.F.type_list_append mt_append (pv 10) (pa_cons (pv 15) pa_nil)))) pss_nil)
          (pss_one (ps_expr (pe_bm PySem.F.plainAttrs_list PySem.F.slot_list_append PySem.F.type_list_append mt_append (pv 13) (pa_cons (pe_bm PySem.F.plainAttrs_list PySem.F.slot_list_index PySem.F.type_list_index (mt_indexD hu) (pv 10) (pa_cons (pv 15) pa_nil)) pa_nil)))))))))
        (pss_cons (ps_setLc (i := 18) (own := [("_law_state", 8), ("_law_turned", 9), ("_law_last", 16)]) (g := gTup K 3 (gCons (gName 8) (gCons (gName 9) (gCons (gName 16) gNil)))) (tt := tYes) (by rfl) scKp.nd rfl rfl (sw_true rfl rfl rfl (by decide +kernel)) (pi_tup (pe_ix (ix_listK3 (K := K) rfl) (pv 10) (pv 12) (fun _ _ => rfl))) (blkOk_by (N := NKp) (sc := defScope sKept) (by decide +kernel))
            (fun _ _ _ _ _ => pg_tup rfl (pgs_cons (pg_name (i := 8) scKp.nd rfl (Or.inl rfl)) (pgs_cons (pg_name (i := 9) scKp.nd rfl (Or.inl rfl)) (pgs_cons (pg_name (i := 16) scKp.nd rfl (Or.inl rfl)) pgs_nil)))) (fun _ _ _ _ _ => pts_nil)
            (fun _ _ _ _ _ => pe_cmpR op_eq (pv 9) (pe_cmpR op_eq (pv 16) pe_int (nomark _)) (nomark _)))
        (pss_cons (ps_expr (pe_bm PySem.F.plainAttrs_list PySem.F.slot_list_append PySem.F.type_list_append mt_append (pv 11) (pa_cons (pe_tup (pa_cons (pe_ix ix_list (pv 13) pe_int (fun _ _ => rfl)) (pa_cons (pe_ix ix_list (pv 13) pe_int (fun _ _ => rfl)) (pa_cons (PE.wk (t' := tWord 18) (pe_ifExp (PW.pt (pw_and (pt_cmpR op_in_seq pe_bl (pv 18) rfl) (pw_and1 (pt_cmpR op_in_seq pe_bl (pv 18) rfl)))) pe_str (pe_ix ix_list (pe_lst (pa_cons pe_str (pa_cons pe_str pa_nil))) (pe_callTy call_int1 (by rfl) T.int_ boot_int' (pa_cons (pe_ix ix_list (pv 18) pe_int (fun _ _ => rfl)) pa_nil)) (fun _ _ => rfl))) (by exact fun σ_ H_ Q_ q_ => word_rd (K := K) q_)) pa_nil)))) pa_nil)))
        (pss_cons (ps_set (i := 12) scKp.nd rfl (Or.inl rfl) (pe_op op_add (pv 12) pe_int))
        (pss_one (ps_if (pt_cmpR op_gt (pe_callB call_len_seq (by rfl) T.len_ PySem.boot_len (pa_cons (pv 10) pa_nil)) (pv 1) (nomark _)) (pss_one (ps_ret pe_non)) pss_nil))))))))
      (pss_one (ps_ret (pv 11))))))), ?_⟩
    have a4 := okT.a4
    refine ⟨_, rfl, t, _, rfl, SqT.of ht, rfl, _, _, rfl, _, _, rfl, _, _, rfl, rfl, ?_⟩
    refine ⟨Nat.zero_le _, fun Ed hEd => ?_⟩
    have eE := Same.new (o := .lst []) hEd
    -- the entries of the beginnings
    refine ⟨fun σ' H' => ∃ x6 x7 x8 x9 acc, σ' = [some (.ref t), some (.int 30), some (.ref R), some (.ref Sd), some (.int (m : Int)), some (.ref Ed), x6, x7, x8, x9, none, none, none, none, none, none, none, none, none] ∧ Same H H' ∧ H' Ed = some (.lst acc) ∧ Ea H' isEn acc (iniE A st), ?_, ?_⟩
    · refine ⟨_, rfl, Sd, rfl, ⟨_, SqL.of (eE _ _ hSd)⟩, ?_⟩
      refine for_list (K := K) (a := Sd) (xs := natsV st) (fun i σ' H' => ∃ x6 x7 x8 x9 acc, σ' = [some (.ref t), some (.int 30), some (.ref R), some (.ref Sd), some (.int (m : Int)), some (.ref Ed), x6, x7, x8, x9, none, none, none, none, none, none, none, none, none] ∧ Same H H' ∧ H' Ed = some (.lst acc) ∧ Ea H' isEn acc (iniE A (st.take i))) ?_ ?_ ?_ ?_
      · exact ⟨_, _, _, _, [], rfl, eE, upd_same, Ea.nil⟩
      · rintro i σ' H' _ ⟨_, _, _, _, _, _, s', _⟩
        exact SqL.of (s' _ _ hSd)
      · rintro i x _ H1 hx ⟨x6, x7, x8, x9, acc, rfl, s1, hd, he⟩
        unfold natsV at hx
        rw [List.getElem?_map, Option.map_eq_some_iff] at hx
        obtain ⟨s0, hs0, rfl⟩ := hx
        have hsl := okT.sa s0 (List.mem_of_getElem? hs0)
        have hil := (List.getElem?_eq_some_iff.mp hs0).1
        have st16 := okT.st16
        have e4 : iniE A (st.take (i + 1)) = iniE A (st.take i) ++ [stE A (s0, false, 0) 0, stE A (s0, false, 0) 1] := by
          rw [L2.take_succ' hs0, ini_snoc]
        refine ⟨by show 2 ≤ sizeLine; decide, fun tp htp => ⟨tp, rfl, ⟨_, SqT.of upd_same⟩, ?_⟩⟩
        have etp := Same.new (o := .tup [V.int 0, .int 1]) htp
        have gtp : (upd H1 tp (.tup [V.int 0, .int 1])) tp = some (.tup [V.int 0, .int 1]) := upd_same
        refine for_tup (K := K) (a := tp) (xs := [V.int 0, .int 1]) (fun j σ' H' => ∃ x7 x8 x9 acc, σ' = [some (.ref t), some (.int 30), some (.ref R), some (.ref Sd), some (.int (m : Int)), some (.ref Ed), some (.int (s0 : Int)), x7, x8, x9, none, none, none, none, none, none, none, none, none] ∧ Same H H' ∧ H' tp = some (.tup [V.int 0, .int 1]) ∧ H' Ed = some (.lst acc) ∧ Ea H' isEn acc (iniE A (st.take i) ++ [stE A (s0, false, 0) 0, stE A (s0, false, 0) 1].take j)) ?_ ?_ ?_ ?_
        · refine ⟨_, _, _, acc, rfl, s1.trans etp, gtp, etp _ _ hd, ?_⟩
          rw [List.take_zero, List.append_nil]
          exact he.imp fun c r q => etp _ _ q
        · rintro j σ' H' _ ⟨_, _, _, _, _, _, ht', _⟩
          exact SqT.of ht'
        · rintro j y _ H2 hy ⟨x7, x8, x9, ac2, rfl, s2, htp2, hd2, he2⟩
          have hj : j < 2 := (List.getElem?_eq_some_iff.mp hy).1
          obtain rfl : y = V.int (j : Int) := by
            rcases j with _ | _ | j
            · cases hy; rfl
            · cases hy; rfl
            · omega
          obtain ⟨rc, hrc, hrT⟩ := hE.get (List.getElem?_eq_getElem hsl)
          refine ⟨_, rfl, _, rfl, R, refs, _, .ref rc, rfl, rfl, SqL.of (s2 _ _ hR), atI_nat hrc, _, rfl, rfl, rc, A[s0], _, rfl, s2 _ _ hrT, fun u H3 s3 hu3 => ?_⟩
          refine ⟨u, _, rfl, SqT.of hu3, rfl, _, _, rfl, _, _, rfl, rfl, ?_⟩
          have hd3 := s3 _ _ hd2
          have ej : [stE A (s0, false, 0) 0, stE A (s0, false, 0) 1][j]? = some (stE A (s0, false, 0) j) := by
            rcases j with _ | _ | j
            · rfl
            · rfl
            · omega
          have e5 : stE A (s0, false, 0) j = ((BR.aft A[s0] (decide (V.int (j : Int) = V.int 1))).1, (BR.aft A[s0] (decide (V.int (j : Int) = V.int 1))).2, j) := by
            have e6 : decide (V.int (j : Int) = V.int 1) = (decide (j = 1) != false) := by
              rcases j with _ | _ | j
              · decide +kernel
              · decide +kernel
              · omega
            rw [e6]
            unfold stE BR.stepR
            rw [rw_at hsl]
            show (_, (false != _), _) = _
            rw [Bool.false_bne]
          refine ⟨_, rfl, .inl ⟨rfl, _, SqL.of hd3⟩, _, rfl, _, rfl, _, rfl, by show 3 ≤ sizeLine; decide, fun q hq => ?_⟩
          have eq_ := Same.new (o := .tup [V.int ((BR.aft A[s0] (decide (V.int (j : Int) = V.int 1))).1 : Int), .bl (BR.aft A[s0] (decide (V.int (j : Int) = V.int 1))).2, .int (j : Int)]) hq
          have gq : isEn (upd H3 q (.tup [V.int ((BR.aft A[s0] (decide (V.int (j : Int) = V.int 1))).1 : Int), .bl (BR.aft A[s0] (decide (V.int (j : Int) = V.int 1))).2, .int (j : Int)])) q (stE A (s0, false, 0) j) := by
            rw [e5]
            exact upd_same
          have hd4 := eq_ _ _ hd3
          have lac : ac2.length ≤ 40 := by
            rw [he2.1, List.length_append, ini_len, List.length_take, List.length_take]
            have : [stE A (s0, false, 0) 0, stE A (s0, false, 0) 1].length = 2 := rfl
            omega
          refine ⟨Ed, ac2, _, rfl, rfl, hd4, Nat.lt_of_le_of_lt lac (by decide), _, _, _, ac2 ++ [.ref q], rfl, fun b o z => ?_, ?_, upd_same, ?_⟩
          · rw [upd_ne (ne_of_none z hEd)]
            exact eq_ _ _ (s3 _ _ (s2 _ _ z))
          · exact tk_lst hd4 _ _ (eq_ _ _ (s3 _ _ htp2))
          · rw [L2.take_succ' ej, ← List.append_assoc]
            exact ((he2.imp fun c r q => isEn.kt (isEn.kt q fun c ys e => eq_ _ _ (s3 _ _ e)) (tk_lst hd4)).push (isEn.kt gq (tk_lst hd4)))
        · rintro σ' H2 ⟨x7, x8, x9, ac2, rfl, s2, htp2, hd2, he2⟩
          refine ⟨_, _, _, _, ac2, rfl, s2, hd2, ?_⟩
          rw [e4]
          exact he2
      · rintro σ' H1 ⟨x6, x7, x8, x9, acc, rfl, s1, hd, he⟩
        have hl : (natsV st).length = st.length := by unfold natsV; rw [List.length_map]
        rw [hl, List.take_length] at he
        exact ⟨_, _, _, _, acc, rfl, s1, hd, he⟩
    rintro _ H1 ⟨x6, x7, x8, x9, acc, rfl, s1, hEd1, heE⟩
    refine ⟨_, rfl, Ed, _, rfl, .inl ⟨SqL.of hEd1, fun w0 hw0 => ⟨by show 1 ≤ sizeLine; decide, fun Wt hWt => ⟨Nat.zero_le _, fun Fd hFd => ⟨_, _, _, rfl, ?_⟩⟩⟩⟩⟩
    have ew0 := Same.new (o := .tup acc) hw0
    have gw0 : isWt (upd H1 w0 (.tup acc)) w0 (iniE A st) := ⟨acc, upd_same, heE.imp fun c r q => isEn.kt q fun c ys e => ew0 _ _ e⟩
    have eWt := Same.new (o := .lst [V.ref w0]) hWt
    have gWt : (upd (upd H1 w0 (.tup acc)) Wt (.lst [V.ref w0])) Wt = some (.lst [V.ref w0]) := upd_same
    have hFd' : (upd (upd H1 w0 (.tup acc)) Wt (.lst [V.ref w0])) Fd = none := hFd
    have eFd := Same.new (o := .lst []) hFd'
    have nW : H Wt = none := L2.Same.none (s1.trans ew0) hWt
    have nF : H Fd = none := L2.Same.none ((s1.trans ew0).trans eWt) hFd'
    have FW : Fd ≠ Wt := (ne_of_none gWt hFd').symm
    refine ⟨KP H (.ref t) (.ref R) (.ref Sd) (.int (m : Int)) (.ref Ed) Wt Fd A st, ⟨30, [iniE A st], [], [.ref w0], [], _, _, _, _, none, none, none, none, none, none, rfl, ((s1.trans ew0).trans eWt).trans eFd, eFd _ _ gWt, ?_, upd_same, Ea.nil, Nat.zero_le _, by show 1 ≤ 30; decide, ?_, rfl, ?_, rfl⟩, ?_⟩
    · exact Ea.push Ea.nil ((gw0.same eWt).same eFd)
    · intro es he
      rw [List.mem_singleton.mp he]
      exact ini_ok okT
    · intro i l h
      cases h
    rintro n0 _ H2 ⟨W, Fs, wrefs, frefs, x6, x7, x8, x9, x13, x14, x15, x16, x17, x18, rfl, s2, hW2, eW2, hF2, eF2, hle, hW30, hok2, hini, kin, hn⟩
    have lwr := eW2.1
    refine ⟨_, rfl, _, rfl, Wt, _, rfl, .inl (SqL.of hW2), _, _, rfl, rfl, _, rfl, ifD_2 (fun hlt => ?_) (fun hge => ?_)⟩
    · have hlt : Fs.length < W.length := by omega
      refine ⟨fun σ' H' => ∃ m', m' < n0 ∧ KP H (.ref t) (.ref R) (.ref Sd) (.int (m : Int)) (.ref Ed) Wt Fd A st m' σ' H', fun _ _ h => h, ?_⟩
      obtain ⟨es, hes⟩ : ∃ es, W[Fs.length]? = some es := ⟨_, List.getElem?_eq_getElem hlt⟩
      have oes := hok2 es (List.mem_of_getElem? hes)
      obtain ⟨wc, hwc, hwT⟩ := eW2.get hes
      obtain ⟨erefs, hwc1, hwc2⟩ := hwT
      refine ⟨Nat.zero_le _, fun Rd hRd => ?_⟩
      have eRd := Same.new (o := .lst []) hRd
      have RW : Rd ≠ Wt := (ne_of_none hW2 hRd).symm
      have RF : Rd ≠ Fd := (ne_of_none hF2 hRd).symm
      have nR : H Rd = none := L2.Same.none s2 hRd
      -- both ways
      refine ⟨fun σ' H' => ∃ (W' : List (List En)) (wrefs' : List V) (r0 r1 : Nat) (x7 x8 x9 x14 x15 x16 x17 : Option V), σ' = [some (.ref t), some (.int 30), some (.ref R), some (.ref Sd), some (.int (m : Int)), some (.ref Ed), x6, x7, x8, x9, some (.ref Wt), some (.ref Fd), some (.int (Fs.length : Int)), some (.ref Rd), x14, x15, x16, x17, x18] ∧ Same H H' ∧ H' Wt = some (.lst wrefs') ∧ Ea H' isWt wrefs' W' ∧ H' Fd = some (.lst frefs) ∧ Ea H' isLc frefs Fs ∧ (∀ (i : Nat) e, W[i]? = some e → W'[i]? = some e) ∧ W'.length ≤ W.length + 2 ∧ W.length ≤ W'.length ∧ (∀ es ∈ W', EOk A.length es) ∧ H' Rd = some (.lst (natsV [r0, r1])) ∧ W'[r0]? = some (aftE A 0 es) ∧ W'[r1]? = some (aftE A 1 es), ?_, ?_⟩
      · refine ⟨by show 2 ≤ sizeLine; decide, fun tp htp => ⟨tp, rfl, ⟨_, SqT.of upd_same⟩, ?_⟩⟩
        have etp := Same.new (o := .tup [V.int 0, .int 1]) htp
        have gtp : (upd (upd H2 Rd (.lst [])) tp (.tup [V.int 0, .int 1])) tp = some (.tup [V.int 0, .int 1]) := upd_same
        have e2 := eRd.trans etp
        refine for_tup (K := K) (a := tp) (xs := [V.int 0, .int 1]) (fun j σ' H' => ∃ (W' : List (List En)) (wrefs' : List V) (rs : List Nat) (x7 x8 x9 x14 x15 x16 x17 : Option V), σ' = [some (.ref t), some (.int 30), some (.ref R), some (.ref Sd), some (.int (m : Int)), some (.ref Ed), x6, x7, x8, x9, some (.ref Wt), some (.ref Fd), some (.int (Fs.length : Int)), some (.ref Rd), x14, x15, x16, x17, x18] ∧ Same H H' ∧ H' Wt = some (.lst wrefs') ∧ Ea H' isWt wrefs' W' ∧ H' Fd = some (.lst frefs) ∧ Ea H' isLc frefs Fs ∧ (∀ (i : Nat) e, W[i]? = some e → W'[i]? = some e) ∧ W'.length ≤ W.length + j ∧ W.length ≤ W'.length ∧ (∀ es ∈ W', EOk A.length es) ∧ H' Rd = some (.lst (natsV rs)) ∧ rs.length = j ∧ (∀ k, k < j → ∃ r, rs[k]? = some r ∧ W'[r]? = some (aftE A k es)) ∧ H' tp = some (.tup [V.int 0, .int 1])) ?_ ?_ ?_ ?_
        · refine ⟨W, wrefs, [], _, _, _, _, _, _, _, rfl, s2.trans e2, e2 _ _ hW2, eW2.imp fun c r q => q.same e2, e2 _ _ hF2, eF2.imp fun c r q => e2 _ _ q, fun _ _ h => h, Nat.le_refl _, Nat.le_refl _, hok2, etp _ _ upd_same, rfl, fun k hk => absurd hk (Nat.not_lt_zero _), gtp⟩
        · rintro j σ' H' _ ⟨_, _, _, _, _, _, _, _, _, _, _, _, _, _, _, _, _, _, _, _, _, _, _, ht'⟩
          exact SqT.of ht'
        · rintro j y _ H3 hy ⟨W3, wr3, rs, x7, x8, x9, x14, x15, x16, x17, rfl, s3, hW3, eW3, hF3, eF3, pre3, hl3, hl3b, hok3, hR3, hrs, hrk, htp3⟩
          have hj : j < 2 := (List.getElem?_eq_some_iff.mp hy).1
          obtain rfl : y = V.int (j : Int) := by
            rcases j with _ | _ | j
            · cases hy; rfl
            · cases hy; rfl
            · omega
          obtain ⟨wc3, hwc3, hwT3⟩ := eW3.get (pre3 _ _ hes)
          obtain ⟨er3, hw31, hw32⟩ := hwT3
          refine ⟨Nat.zero_le _, fun Ad hAd => ?_⟩
          have eAd := Same.new (o := .lst []) hAd
          have AW : Ad ≠ Wt := (ne_of_none hW3 hAd).symm
          have AF : Ad ≠ Fd := (ne_of_none hF3 hAd).symm
          have AR : Ad ≠ Rd := (ne_of_none hR3 hAd).symm
          have nA : H Ad = none := L2.Same.none s3 hAd
          have es3 := eAd
          -- the entries behind a call
          refine ⟨fun σ' H' => ∃ (x7 x8 x9 x16 x17 : Option V) (ac : List V), σ' = [some (.ref t), some (.int 30), some (.ref R), some (.ref Sd), some (.int (m : Int)), some (.ref Ed), x6, x7, x8, x9, some (.ref Wt), some (.ref Fd), some (.int (Fs.length : Int)), some (.ref Rd), some (.int (j : Int)), some (.ref Ad), x16, x17, x18] ∧ Same H3 H' ∧ H' Ad = some (.lst ac) ∧ Ea H' isEn ac (aftE A j es), ?_, ?_⟩
          · refine ⟨_, rfl, _, rfl, Wt, wr3, _, .ref wc3, rfl, rfl, SqL.of (eAd _ _ hW3), atI_nat hwc3, wc3, rfl, ⟨_, SqT.of (eAd _ _ hw31)⟩, ?_⟩
            refine for_tup (K := K) (a := wc3) (xs := er3) (fun i σ' H' => ∃ (x7 x8 x9 x16 x17 : Option V) (ac : List V), σ' = [some (.ref t), some (.int 30), some (.ref R), some (.ref Sd), some (.int (m : Int)), some (.ref Ed), x6, x7, x8, x9, some (.ref Wt), some (.ref Fd), some (.int (Fs.length : Int)), some (.ref Rd), some (.int (j : Int)), some (.ref Ad), x16, x17, x18] ∧ Same H3 H' ∧ H' Ad = some (.lst ac) ∧ Ea H' isEn ac (aftE A j (es.take i))) ?_ ?_ ?_ ?_
            · exact ⟨_, _, _, _, _, [], rfl, eAd, upd_same, Ea.nil⟩
            · rintro i σ' H' _ ⟨_, _, _, _, _, _, _, s', _⟩
              exact SqT.of (s' _ _ hw31)
            · rintro i x _ H4 hx ⟨x7, x8, x9, x16, x17, ac, rfl, s4, hd4, he4⟩
              have hil : i < es.length := by rw [← hw32.1]; exact (List.getElem?_eq_some_iff.mp hx).1
              obtain ⟨e, he⟩ : ∃ e, es[i]? = some e := ⟨_, List.getElem?_eq_getElem hil⟩
              obtain ⟨ec, rfl, heT⟩ := hw32.2 i x e hx he
              have heT : H3 ec = some (.tup (enT e)) := heT
              obtain ⟨o1, o2⟩ := oes.2.2 e (List.mem_of_getElem? he)
              obtain ⟨es0, et, ec_⟩ := e
              have o1 : es0 < A.length := o1
              have o2 : ec_ < 2 := o2
              refine ⟨ec, _, rfl, SqT.of (s4 _ _ heT), rfl, _, _, rfl, _, _, rfl, _, _, rfl, rfl, ?_⟩
              obtain ⟨rc, hrc, hrT⟩ := hE.get (List.getElem?_eq_getElem o1)
              have hR4 : SqL K H4 R refs := SqL.of (s4 _ _ (s3 _ _ hR))
              obtain ⟨c, hc⟩ : ∃ c, c = wy j (es0, et, ec_) := ⟨_, rfl⟩
              refine ⟨fun σ' H' => H' = H4 ∧ σ' = [some (.ref t), some (.int 30), some (.ref R), some (.ref Sd), some (.int (m : Int)), some (.ref Ed), x6, some (.int (c : Int)), some (.int (es0 : Int)), some (.bl et), some (.ref Wt), some (.ref Fd), some (.int (Fs.length : Int)), some (.ref Rd), some (.int (j : Int)), some (.ref Ad), some (.int (ec_ : Int)), x17, x18], ?_, ?_⟩
              · refine ⟨_, rfl, rfl, _, rfl, ifD_2 (fun h => ?_) (fun h => ?_)⟩
                · have hj0 : j = 0 := by injection h with h; omega
                  refine ⟨_, rfl, rfl, ?_⟩
                  rw [hc]
                  unfold wy
                  rw [if_pos hj0]
                  rfl
                · have hj1 : j ≠ 0 := fun z => h (by rw [z]; rfl)
                  refine ⟨_, rfl, _, _, rfl, rfl, rfl, ?_⟩
                  rw [hc]
                  unfold wy
                  rw [if_neg hj1, show ((1 - ec_ : Nat) : Int) = 1 - (ec_ : Int) by omega]
                  rfl
              rintro _ H4' ⟨h4e, rfl⟩
              have h4e := h4e.symm
              subst h4e
              refine ⟨_, rfl, _, rfl, R, refs, _, .ref rc, rfl, rfl, hR4, atI_nat hrc, _, rfl, rfl, _, rfl, rfl, rc, A[es0], _, rfl, s4 _ _ (s3 _ _ hrT), fun u H5 s5 hu5 => ?_⟩
              rw [one_ne] at hu5
              refine ⟨u, _, rfl, SqT.of hu5, rfl, _, _, rfl, _, _, rfl, rfl, ?_⟩
              have hd5 := s5 _ _ hd4
              have est : stE A (es0, et, ec_) (wy j (es0, et, ec_)) = ((BR.aft A[es0] (decide (c = 1) != et)).1, et != (BR.aft A[es0] (decide (c = 1) != et)).2, c) := by
                rw [← hc]
                unfold stE BR.stepR
                rw [rw_at o1]
              refine ⟨_, rfl, .inl ⟨rfl, _, SqL.of hd5⟩, _, rfl, _, rfl, _, rfl, rfl, _, rfl, by show 3 ≤ sizeLine; decide, fun q hq => ?_⟩
              have eq_ := Same.new (o := .tup [V.int ((BR.aft A[es0] (decide (c = 1) != et)).1 : Int), .bl (!decide (V.bl et = V.bl (BR.aft A[es0] (decide (c = 1) != et)).2)), .int (c : Int)]) hq
              have gq : isEn (upd H5 q (.tup [V.int ((BR.aft A[es0] (decide (c = 1) != et)).1 : Int), .bl (!decide (V.bl et = V.bl (BR.aft A[es0] (decide (c = 1) != et)).2)), .int (c : Int)])) q (stE A (es0, et, ec_) (wy j (es0, et, ec_))) := by
                rw [est, ← bl_ne et (BR.aft A[es0] (decide (c = 1) != et)).2]
                exact upd_same
              have hd6 := eq_ _ _ hd5
              have lac : ac.length ≤ 40 := by
                rw [he4.1]
                unfold aftE
                rw [List.length_map, List.length_take]
                have := oes.2.1
                omega
              refine ⟨Ad, ac, _, rfl, rfl, hd6, Nat.lt_of_le_of_lt lac (by decide), _, _, _, _, _, ac ++ [.ref q], rfl, fun b o z => ?_, upd_same, ?_⟩
              · rw [upd_ne (ne_of_none z hAd)]
                exact eq_ _ _ (s5 _ _ (s4 _ _ z))
              · have e8 : aftE A j (es.take (i + 1)) = aftE A j (es.take i) ++ [stE A (es0, et, ec_) (wy j (es0, et, ec_))] := map_take_snoc (fun e => stE A e (wy j e)) he
                rw [e8]
                exact ((he4.imp fun c r q => isEn.kt (isEn.kt q fun c ys e => eq_ _ _ (s5 _ _ e)) (tk_lst hd6)).push (isEn.kt gq (tk_lst hd6)))
            · rintro σ' H4 ⟨x7, x8, x9, x16, x17, ac, rfl, s4, hd4, he4⟩
              rw [hw32.1, List.take_length] at he4
              exact ⟨_, _, _, _, _, ac, rfl, s4, hd4, he4⟩
          rintro _ H4 ⟨x7, x8, x9, x16, x17, ac, rfl, s4, hd4, he4⟩
          refine ⟨_, rfl, Ad, _, rfl, .inl ⟨SqL.of hd4, fun at_ hat => ?_⟩⟩
          have eat := Same.new (o := .tup ac) hat
          have gat : isWt (upd H4 at_ (.tup ac)) at_ (aftE A j es) := ⟨ac, upd_same, he4.imp fun c r q => isEn.kt q fun c ys e => eat _ _ e⟩
          have s34 := s4.trans eat
          have hW5 := s34 _ _ hW3
          have eW5 := eW3.imp fun c r q => q.same s34
          have hF5 := s34 _ _ hF3
          have eF5 := eF3.imp fun c r q => (show isLc (upd H4 at_ (.tup ac)) c r from s34 _ _ q)
          have hR5 := s34 _ _ hR3
          have htp5 := s34 _ _ htp3
          have s05 := s3.trans s34
          have oaf := oes.aft okT.ok j
          generalize (upd H4 at_ (.tup ac)) = H5 at eat gat s34 hW5 eW5 hF5 eF5 hR5 htp5 s05 ⊢
          -- put in if new
          refine ⟨fun σ' H' => ∃ (W' : List (List En)) (wr' : List V), σ' = [some (.ref t), some (.int 30), some (.ref R), some (.ref Sd), some (.int (m : Int)), some (.ref Ed), x6, x7, x8, x9, some (.ref Wt), some (.ref Fd), some (.int (Fs.length : Int)), some (.ref Rd), some (.int (j : Int)), some (.ref at_), x16, x17, x18] ∧ Same H H' ∧ H' Wt = some (.lst wr') ∧ Ea H' isWt wr' W' ∧ H' Fd = some (.lst frefs) ∧ Ea H' isLc frefs Fs ∧ (∀ (i : Nat) e, W3[i]? = some e → W'[i]? = some e) ∧ W'.length ≤ W.length + (j + 1) ∧ W3.length ≤ W'.length ∧ (∀ es ∈ W', EOk A.length es) ∧ H' Rd = some (.lst (natsV rs)) ∧ aftE A j es ∈ W' ∧ isWt H' at_ (aftE A j es) ∧ H' tp = some (.tup [V.int 0, .int 1]), ?_, ?_⟩
          · refine ⟨_, rfl, _, rfl, wD (aftE A j es), W3.map wD, gat.dp, .lst (SqL.of hW5) (wts_dp eW5), wD_shaped _, wDs_shaped _, _, rfl, ?_⟩
            rw [wDs_any]
            by_cases hin : aftE A j es ∈ W3
            · rw [decide_eq_true hin]
              exact iteF ⟨W3, wr3, rfl, s05, hW5, eW5, hF5, eF5, fun _ _ h => h, by omega, Nat.le_refl _, hok3, hR5, hin, gat, htp5⟩
            · rw [decide_eq_false hin]
              refine iteT ?_
              have lw3 : wr3.length = W3.length := eW3.1
              refine ⟨_, rfl, .inl ⟨rfl, _, SqL.of hW5⟩, _, rfl, Wt, wr3, _, rfl, rfl, hW5, Nat.lt_of_le_of_lt (by omega : wr3.length ≤ 40) (by decide), ?_⟩
              refine ⟨W3 ++ [aftE A j es], wr3 ++ [.ref at_], rfl, fun b o z => ?_, upd_same, ?_, ?_, ?_, fun i e h => ?_, ?_, ?_, fun es' h => ?_, ?_, List.mem_append_right _ (List.mem_singleton.mpr rfl), gat.kt (tk_lst hW5), tk_lst hW5 _ _ htp5⟩
              · rw [upd_ne (ne_of_none z nW)]
                exact s05 _ _ z
              · exact (eW5.imp fun c r q => q.kt (tk_lst hW5)).push (gat.kt (tk_lst hW5))
              · rw [upd_ne FW]
                exact hF5
              · exact eF5.imp fun c r q => tk_lst hW5 _ _ q
              · rw [List.getElem?_append_left (List.getElem?_eq_some_iff.mp h).1]
                exact h
              · rw [List.length_append, List.length_singleton]
                omega
              · rw [List.length_append]
                omega
              · rcases List.mem_append.mp h with h | h
                · exact hok3 es' h
                · rw [List.mem_singleton.mp h]
                  exact oaf
              · rw [upd_ne RW]
                exact hR5
          rintro _ H6 ⟨W6, wr6, rfl, s6, hW6, eW6, hF6, eF6, pre6, hl6, hl6b, hok6, hR6, hm6, gat6, htp6⟩
          obtain ⟨r, hr1_, hr2_⟩ := first_at hm6
          refine ⟨_, rfl, .inl ⟨rfl, _, SqL.of hR6⟩, _, rfl, .inl ⟨rfl, _, SqL.of hW6⟩, _, rfl, Wt, .ref at_, wD (aftE A j es), W6.map wD, r, wD (aftE A j es), rfl, rfl, .lst (SqL.of hW6) (wts_dp eW6), gat6.dp, wDs_shaped _, wD_shaped _, ?_, ?_, ?_, ?_⟩
          · rw [List.getElem?_map, hr1_]
            rfl
          · rw [wD_eqv, decide_eq_true rfl]
          · intro k z' hk hz
            rw [List.getElem?_map, Option.map_eq_some_iff] at hz
            obtain ⟨e', he', rfl⟩ := hz
            rw [wD_eqv]
            exact decide_eq_false (hr2_ k e' hk he')
          have lrs : (natsV rs).length = j := by unfold natsV; rw [List.length_map, hrs]
          refine ⟨Rd, natsV rs, _, rfl, rfl, hR6, Nat.lt_of_le_of_lt (by omega : (natsV rs).length ≤ 2) (by decide), ?_⟩
          refine ⟨W6, wr6, rs ++ [r], _, _, _, _, _, _, _, rfl, fun b o z => ?_, ?_, eW6.imp fun c r q => q.kt (tk_lst hR6), ?_, eF6.imp fun c r q => tk_lst hR6 _ _ q, fun i e h => pre6 _ _ (pre3 _ _ h), hl6, Nat.le_trans hl3b hl6b, hok6, ?_, ?_, fun k hk => ?_, tk_lst hR6 _ _ htp6⟩
          · rw [upd_ne (ne_of_none z nR)]
            exact s6 _ _ z
          · rw [upd_ne RW.symm]
            exact hW6
          · rw [upd_ne RF.symm]
            exact hF6
          · rw [upd_same]
            unfold natsV
            rw [List.map_append]
            rfl
          · rw [List.length_append, hrs]
            rfl
          · rcases Nat.lt_or_eq_of_le (Nat.le_of_lt_succ hk) with h | rfl
            · obtain ⟨r', h1, h2⟩ := hrk k h
              refine ⟨r', ?_, pre6 _ _ h2⟩
              rw [List.getElem?_append_left (List.getElem?_eq_some_iff.mp h1).1]
              exact h1
            · refine ⟨r, ?_, hr1_⟩
              rw [← hrs, List.getElem?_append_right (Nat.le_refl _), Nat.sub_self]
              rfl
        · rintro σ' H3 ⟨W3, wr3, rs, x7, x8, x9, x14, x15, x16, x17, rfl, s3, hW3, eW3, hF3, eF3, pre3, hl3, hl3b, hok3, hR3, hrs, hrk, htp3⟩
          have hrs : rs.length = 2 := hrs
          obtain ⟨r0, h1, h2⟩ := hrk 0 (by show 0 < 2; decide)
          obtain ⟨r1, h3, h4⟩ := hrk 1 (by show 1 < 2; decide)
          have ers : rs = [r0, r1] := by
            match rs, hrs, h1, h3 with
            | [a, b], _, h1, h3 =>
              cases h1
              cases h3
              rfl
          rw [ers] at hR3
          exact ⟨W3, wr3, r0, r1, _, _, _, _, _, _, _, rfl, s3, hW3, eW3, hF3, eF3, pre3, hl3, hl3b, hok3, hR3, h2, h4⟩
      rintro _ H3 ⟨W3, wr3, r0, r1, x7, x8, x9, x14, x15, x16, x17, rfl, s3, hW3, eW3, hF3, eF3, pre3, hl3, hl3b, hok3, hR3, ha0, ha1⟩
      obtain ⟨wc3, hwc3, er3, hw31, hw32⟩ := eW3.get (pre3 _ _ hes)
      refine ⟨_, rfl, _, rfl, Wt, wr3, _, .ref wc3, rfl, rfl, SqL.of hW3, atI_nat hwc3, wc3, rfl, ⟨_, SqT.of hw31⟩, fun Sm hSm => ?_⟩
      have eSm := Same.new (o := .lst []) hSm
      refine lc_tup (K := K) (a := wc3) (xs := er3) (fun q H' => Same H3 H' ∧ H' Sm = some (.lst (((es.take q).map smE).map V.bl))) ⟨eSm, upd_same⟩ (fun q H' _ z => SqT.of (z.1 _ _ hw31)) ?_ ?_
      · rintro q x H4 hx ⟨s4, hd4⟩
        have hil : q < es.length := by rw [← hw32.1]; exact (List.getElem?_eq_some_iff.mp hx).1
        obtain ⟨e, he⟩ : ∃ e, es[q]? = some e := ⟨_, List.getElem?_eq_getElem hil⟩
        obtain ⟨ec, rfl, heT⟩ := hw32.2 q x e hx he
        have heT : H3 ec = some (.tup (enT e)) := heT
        obtain ⟨es0, et, ec_⟩ := e
        refine ⟨ec, _, rfl, SqT.of (s4 _ _ heT), rfl, _, _, rfl, _, _, rfl, _, _, rfl, rfl, rfl, ?_⟩
        dsimp only [tYes]
        rw [if_pos rfl]
        refine ⟨_, rfl, _, rfl, rfl, rfl, _, hd4, ?_, ?_, ?_⟩
        · rw [List.length_map, List.length_map, List.length_take]
          have := oes.2.1
          exact Nat.lt_of_le_of_lt (by omega : min q es.length ≤ 40) (by decide)
        · intro b o z
          rw [upd_ne (ne_of_none z hSm)]
          exact s4 _ _ z
        · rw [upd_same, map_take_snoc smE he, List.map_append]
          have : smE (es0, et, ec_) = decide (V.bl et = V.bl (decide (V.int (ec_ : Int) = V.int 1))) := by
            rw [bl_eq]
            unfold smE
            congr 1
            exact decide_eq_decide.mpr ⟨fun h => by rw [show ec_ = 1 from h]; rfl, fun h => by injection h with h; exact Int.ofNat_inj.mp h⟩
          rw [this]
          rfl
      rintro H4 ⟨s4, hd4⟩
      rw [hw32.1, List.take_length] at hd4
      have hF4 := s4 _ _ hF3
      have hR4 := s4 _ _ hR3
      have hW4 := s4 _ _ hW3
      have s04 := s3.trans s4
      have SF : Sm ≠ Fd := (ne_of_none hF3 hSm).symm
      have hRq := SqL.of (K := K) hR4
      refine ⟨_, rfl, .inl ⟨rfl, _, SqL.of hF4⟩, _, rfl, Rd, _, 0, _, rfl, rfl, hRq, rfl, _, rfl, Rd, _, 1, _, rfl, rfl, hRq, rfl, Sm, es.map smE, rfl, hd4, ?_, fun z Hz hz sz => ?_⟩
      · intro z
        exact oes.1 (List.map_eq_nil_iff.mp z)
      have hz : z = wordE es := hz
      subst hz
      refine ⟨by show 3 ≤ sizeLine; decide, fun q hq => ?_⟩
      have eq_ := Same.new (o := .tup (CL.lv (r0, r1, wordE es))) hq
      have gq : isLc (upd Hz q (.tup (CL.lv (r0, r1, wordE es)))) q (r0, r1, wordE es) := upd_same
      have sq := sz.trans eq_
      have hF5 := sq _ _ hF4
      have hW5 := sq _ _ hW4
      have s05 := s04.trans sq
      have s35 := s4.trans sq
      have lfr : frefs.length = Fs.length := eF3.1
      refine ⟨Fd, frefs, _, rfl, rfl, hF5, Nat.lt_of_le_of_lt (by omega : frefs.length ≤ 40) (by decide), ?_⟩
      have hW6 : (upd (upd Hz q (.tup (CL.lv (r0, r1, wordE es)))) Fd (.lst (frefs ++ [.ref q]))) Wt = some (.lst wr3) := by
        rw [upd_ne FW.symm]
        exact hW5
      have s06 : Same H (upd (upd Hz q (.tup (CL.lv (r0, r1, wordE es)))) Fd (.lst (frefs ++ [.ref q]))) := fun b o z => by
        rw [upd_ne (ne_of_none z nF)]
        exact s05 _ _ z
      have lwr3 : wr3.length = W3.length := eW3.1
      have eF6 : Ea (upd (upd Hz q (.tup (CL.lv (r0, r1, wordE es)))) Fd (.lst (frefs ++ [.ref q]))) isLc (frefs ++ [.ref q]) (Fs ++ [(r0, r1, wordE es)]) := Ea.push (eF3.imp fun c r q => (show isLc _ c r from tk_lst hF5 _ _ (s35 _ _ q))) (tk_lst hF5 _ _ gq)
      refine ⟨_, rfl, _, _, rfl, rfl, _, rfl, Wt, wr3, rfl, .inl (SqL.of hW6), _, rfl, _, _, rfl, rfl, _, rfl, ifD_2 (fun hgt => kk .non _ s06 (.inl rfl)) (fun hng => ?_)⟩
      refine ⟨n0 - 1, by omega, W3, Fs ++ [(r0, r1, wordE es)], wr3, frefs ++ [V.ref q], x6, x7, x8, x9, some (.ref Rd), x14, x15, x16, x17, some (.ref Sm), ?_, s06, hW6, (eW3.imp fun c r q => q.same s35).imp fun c r q => q.kt (tk_lst hF5), upd_same, eF6, ?_, by omega, hok3, pre3 _ _ hini, (kin.grow pre3).push (pre3 _ _ hes) ha0 ha1 rfl, ?_⟩
      · have : ((Fs ++ [(r0, r1, wordE es)]).length : Int) = (Fs.length : Int) + 1 := by rw [List.length_append]; rfl
        rw [this]
        rfl
      · rw [List.length_append, List.length_singleton]
        omega
      · rw [List.length_append, List.length_singleton]
        omega
    · have hFW : Fs.length = W.length := by omega
      refine ⟨_, rfl, kk _ H2 s2 (.inr ⟨Fd, Fs, _, rfl, nF, ⟨frefs, hF2, eF2⟩, ⟨?_, by omega, fun l hl => ?_⟩, kept_of hok2 okT.sa hini kin hFW⟩)⟩
      · rw [hFW]
        exact (List.getElem?_eq_some_iff.mp hini).1
      · obtain ⟨i, hi⟩ := List.getElem?_of_mem hl
        obtain ⟨es, h1, h2, h3, h4⟩ := kin i l hi
        rw [hFW]
        refine ⟨(List.getElem?_eq_some_iff.mp h2).1, (List.getElem?_eq_some_iff.mp h3).1, ?_⟩
        rw [h4]
        exact word_in es
end
end PA

set_option maxHeartbeats 4000000
namespace L2
open PySem PySem.Spec PyProof.Rows
/-- d.get(x) of a written dict with texts as keys: the entries as they are, or None -/
def KGet (K : PySem.W.Frag) (w : World) (a : Addr) (x : Str) (v : V) : Prop := ∃ es n u,
  K.lookup a = some { cls := .type "dict", data := .dict es n } ∧ PySem.W.KeysLit w.params es.toList ∧ (a == sysModules) = false ∧ PySem.W.nsIn K a x = some u ∧ RelV v (u.getD .none)
def tKGet (K : PySem.W.Frag) (w : World) (to te : TE) : TE := fun σ H Q => to σ H fun x H1 => ∃ a, x = .ref a ∧ (∃ y v, KGet K w a y v) ∧ te σ H1 fun y H2 => ∃ z v, y = .str z ∧ KGet K w a z v ∧ Q v H2
theorem pe_kget {X : Cx} {o e : PySem.Expr} {to te : TE} {apos cpos : Pos} (ho : PE X o to) (he : PE X e te)
    (h1 : attributeBase o "get" X.env (eval o X.env) = eval o X.env := by rfl)
    (h2 : ((((backTo cpos (starEach [e] X.env)).all fun x => !x.1) && (backToKw cpos (keywordEach [] X.env)).all fun x => x.1.isSome) && decide (([e].length + ([] : List Keyword).length + if ([] : List Keyword).isEmpty = true then 0 else 1) < 30)) = true := by rfl)
    (h3 : (apos.endLine == cpos.line) = true := by rfl)
    (h4 : backTo cpos (starEach [e] X.env) = [(false, eval e X.env)] := by rfl) :
    PE X ((o.Attribute "get" apos).Call [e] [] cpos) (tKGet X.K X.w to te) := by
  refine ⟨fun pins s σ H Q I h => wpAny_Call_method_late h1 h2 h3 h4 (thn (ho.run pins s σ H _ I h) fun v s1 q => ?_)⟩
  obtain ⟨x, H1, I1, rx, a, rfl, ⟨y0, v0, es0, n0, u0, hl0, hk0, hs0, _⟩, q⟩ := q
  cases rx
  have hm0 := PySem.W.mapOf_K (prog := X.prog) (w := X.w) I1.kIn hl0 hk0
  refine ⟨"dict", "dict.get", PySem.F.plainAttrs_dict, PySem.F.slot_dict_get, PySem.F.type_dict_get, ?_, ?_, ?_⟩
  · exact hm0.typeIs
  · intro b hb
    cases hb
    exact ⟨_, I1.kIn _ _ hl0, rfl⟩
  · refine wpAny_dict_get1 (knd := strKind X.prog X.w) hs0 (thn (he.run pins s1 σ H1 _ I1 q) fun key s2 q2 => ?_)
    obtain ⟨yv, H2, I2, ry, z, v, rfl, ⟨es, n, u, hl, hk, _, hn, rv⟩, q2⟩ := q2
    obtain ⟨t, rfl⟩ := ry
    refine ⟨z, _, strKind_is _ _ _ _, PySem.W.mapOf_K I2.kIn hl hk, ?_⟩
    rw [PySem.W.find_K hl hn]
    exact ⟨v, H2, I2.tok _, rv, q2⟩
end L2

set_option maxHeartbeats 4000000
/-! text.replace(old, new, 1), where old and new come out of lists -/
namespace PySem
open Builtin Builtin.Str PySem.W
theorem args_rep4 (a b c d : Value) : argsOk "str.replace" ⟨[a, b, c, d], []⟩ := rfl
section
variable {prog : Program} {w : World} {A : Around} {E : Value → Shared → Prop} {s : Shared} {x y z : Str} {t u v c : Tok} {Q : Value → Shared → Prop} {K : Frag}
theorem sharing_none {M : Model} {t : Tok} {Q : Bool → Shared → Prop} (X : K.In s.heap) (e : nsIn K cStatics sharingNotToldKey = some none) (h : Q false s) : wpAny M A (sharingNotTold t) Q E s := by
  unfold sharingNotTold
  refine wpAny_bind ((looks_nsIn X e).at ?_)
  exact wpAny_pure h
theorem isSame_strK {M : Model} {Q : Bool → Shared → Prop} (h1 : u ≠ 0) (h2 : v ≠ 0) (X : K.In s.heap) (e : nsIn K cStatics sharingNotToldKey = some none) (hq : ∀ b, Q b s) : wpAny M A (isSame (.str y u) (.str z v)) Q E s := by
  have h0 : (u == 0 || v == 0) = false := by simp [h1, h2]
  show wpAny M A (isSame.created (y == z) u v) Q E s
  unfold isSame.created
  refine wpAny_ite ?_
  split
  · rename_i h; rw [h0] at h; exact absurd h Bool.false_ne_true
  refine wpAny_ite ?_
  split
  · exact wpAny_pure (hq _)
  refine wpAny_ite ?_
  split
  · exact wpAny_pure (hq _)
  refine wpAny_bind (sharing_none X e ?_)
  first | rw [if_neg Bool.false_ne_true] | simp only [Bool.false_eq_true, if_false]
  refine wpAny_bind (sharing_none X e ?_)
  first | rw [if_neg Bool.false_ne_true] | simp only [Bool.false_eq_true, if_false]
  exact wpAny_bind (wpAny_rule (wpAny_bind (wpAny_askSetting (wpAny_pure (hq _)))))
theorem one_cut {cuts : List Nat} (h : cuts.length ≤ 1) : (glued z (partsBetween x cuts y.length)).length ≤ 2 * x.length + z.length := by
  have sub : ∀ i j, (strSub x i j).length ≤ x.length := fun i j => by
    rw [TS.cs_len, TS.cs_len]
    show (strSub x i j).cps.toList.length ≤ x.cps.toList.length
    rw [StrLaws.strSub_toList, List.length_take, List.length_drop]
    omega
  rw [StrLaws.glued_eq_join, StrLaws.partsBetween_eq]
  match cuts, h with
  | [], _ =>
    rw [StrLaws.partsFrom.eq_1, Str.join.eq_2]
    have := sub 0 x.length
    omega
  | [k], _ =>
    rw [StrLaws.partsFrom.eq_2, StrLaws.partsFrom.eq_1, TS.join_two, Str.join.eq_2, Str.length_append, Str.length_append]
    have := sub 0 k
    have := sub (k + y.length) x.length
    omega
theorem call_replace4 (X : K.In s.heap) (e : nsIn K cStatics sharingNotToldKey = some none) (hu : u ≠ 0) (hv : v ≠ 0) (hx : x.length ≤ 100000) (hz : z.length ≤ 100)
    (hq : ∀ (r : Str) t' k, r.length ≤ 2 * x.length + z.length → Q (.str r t') { s with toks := k }) : wpAny (model prog w) A (call (.builtin "str.replace") [.str x t, .str y u, .str z v, .int 1 c]) Q E s := by
  refine wpAny_call (codeAny_call_builtin F.slot_str_replace.plain F.entry_str_replace (F.slot_str_replace.check _ _ _ _ _ _ _ _ (typeIs_str _ _ _) (args_rep4 _ _ _ _) ?_))
  show wpAny _ _ (if ((occurrences x y 0 x.length 1).isEmpty || (y.length == 0 && z.length == 0)) = true then (do rule "str.replace.nothing"; ret (.str x t)) else
          (do let same ← isSame (.str y u) (.str z v)
              if same = true then (do rule "str.replace.old-is-new"; ret (.str x t)) else
              if tooLong (x.length + (occurrences x y 0 x.length 1).length * z.length) = true then unsupported "str.replace:memory" else
              retStr (glued z (partsBetween x (occurrences x y 0 x.length 1) y.length)))) _ _ _
  have h1 := StrLaws.occ_length_le x y 0 x.length 1
  have same : (fun (r : Result) s' => match r with | .ok (.ret v) => Q v s' | .ok _ => False | .error e => E e s') (.ok (.ret (.str x t))) s := hq x t s.toks (by omega)
  split
  · exact wpAny_bind (wpAny_rule (wpAny_pure same))
  refine wpAny_bind (isSame_strK hu hv X e fun b => ?_)
  cases b with
  | true => exact wpAny_bind (wpAny_rule (wpAny_pure same))
  | false =>
    have hl : tooLong (x.length + (occurrences x y 0 x.length 1).length * z.length) = false := by
      have : (occurrences x y 0 x.length 1).length * z.length ≤ 1 * z.length := Nat.mul_le_mul_right _ h1
      unfold tooLong sizeLine
      exact decide_eq_false (by omega)
    show wpAny _ _ (if tooLong (x.length + (occurrences x y 0 x.length 1).length * z.length) = true then unsupported "str.replace:memory" else retStr (glued z (partsBetween x (occurrences x y 0 x.length 1) y.length))) _ _ _
    rw [hl]
    have hb := one_cut (x := x) (y := y) (z := z) h1
    exact wpAny_bind (wpAny_mkStr (wpAny_pure (hq _ _ _ hb)) (by rw [sizeLine_eq]; omega))
end
end PySem

set_option maxHeartbeats 4000000
/-! a written list of texts, whose tokens are known to be none of 0 -/
namespace L2
open PySem PySem.Spec PyProof.Rows CwR
/-- the list at q holds just these values -/
def fzl (q : Addr) (its : List Value) : HO := .ext fun h => ∃ c : Nat, h.get? q = some { cls := .type "list", dict := none, data := .seq its.toArray c, slots := #[] }
theorem fzl_ok {P : Program} {w : World} {H : Hp} {h : Heap} {q : Addr} {its : List Value} {c : Nat} (he : h.get? q = some { cls := .type "list", dict := none, data := .seq its.toArray c, slots := #[] }) : ObjOk P w H h q (fzl q its) :=
  ⟨⟨c, he⟩, ⟨_, he⟩, fun h1 h2 z k => by
    obtain ⟨c, e⟩ := z
    exact ⟨c, k _ e⟩⟩
theorem fzl_ne {q : Addr} {its : List Value} {xs : List V} : fzl q its ≠ .lst xs := fun z => by
  have z' : HO.ext _ = HO.lst xs := z
  cases z'
inductive CEs : List Expr → List Str → Prop
  | nil : CEs [] []
  | cons {es : List Expr} {cs : List Str} (c : Str) (k : Nat) (p : Pos) (h : CEs es cs) : CEs (.Constant (.str c) k p :: es) (c :: cs)
def Nz (cs : List Str) (us : List Value) : Prop := us.length = cs.length ∧ ∀ (i : Nat) (u : Value), us[i]? = some u → ∃ (z : Str) (t : Tok), u = .str z t ∧ t ≠ 0 ∧ cs[i]? = some z
theorem consts_run {X : Cx} {A : Around} {E : Value → Shared → Prop} {es : List Expr} {cs : List Str} (h : CEs es cs) : ∀ {pos : Pos} {s : Shared} {Q : List Value → Shared → Prop}, 1 ≤ s.toks → (∀ us k, s.toks ≤ k → Nz cs us → Q us { s with toks := k }) →
    wpAny (model X.prog X.w) A (spliced (backTo pos (starEach es X.env))) Q E s := by
  induction h with
  | nil => exact fun h0 q => Calls.spliced_nil (q [] _ (Nat.le_refl _) ⟨rfl, fun i u e => by simp at e⟩)
  | cons c k p h ih =>
    intro pos s Q h0 q
    show wpAny _ _ (spliced ((false, eval (.Constant (.str c) k p) X.env) :: backTo pos (starEach _ X.env))) _ _ s
    refine Calls.spliced_cons (Calls.Constant_str ?_)
    refine ih (by show 1 ≤ s.toks + 1; omega) fun us k' hk n => ?_
    refine q _ k' (by have : s.toks + 1 ≤ k' := hk; omega) ⟨by rw [List.length_cons, List.length_cons, n.1], fun i u e => ?_⟩
    cases i with
    | zero =>
      cases e
      exact ⟨c, s.toks, rfl, (by intro z; have : (s.toks : Nat) = 0 := z; omega), rfl⟩
    | succ i => exact n.2 i u e
def tFz (cs : List Str) : TE := fun σ H Q => ∀ (q : Addr) (its : List Value), H q = none → Nz cs its → Q (.ref q) (upd H q (fzl q its))
theorem pet_fz {X : Cx} {es : List Expr} {cs : List Str} {pos : Pos} (h : CEs es cs) (hl : cs.length ≤ 100) : PET X (.List es pos) (tFz cs) := by
  intro pins s σ H Q h0 I hq
  refine wpAny_List_spliced (consts_run h h0 fun us k hk n => ⟨by rw [n.1]; exact Nat.le_trans hl (by decide), ?_⟩)
  have I1 : Inv X pins σ H { s with toks := k } := I.tok k
  have hf : H s.heap.objs.size = none := I.hok.fresh (Nat.le_refl _)
  refine ⟨.ref s.heap.objs.size, upd H s.heap.objs.size (fzl s.heap.objs.size us), I1.laid (t' := k) (fun b u e => Heap.get?_push_of_some _ e) (Nat.le_refl _) ?_, rfl, hq _ _ hf n⟩
  exact fzl_ok (Heap.get?_push_size _ rfl)
theorem call_lenF {X : Cx} : CallR X (.builtin "len") (fun xs H Q => ∃ (q : Addr) (its : List Value), xs = [.ref q] ∧ H q = some (fzl q its) ∧ its.length ≤ 100 ∧ Q (.int (its.length : Nat)) H) := by
  intro pins s σ H xs us Q I r h
  obtain ⟨p, its, rfl, hq, hl, q⟩ := h
  obtain ⟨u, rfl, rx⟩ := vals1 r
  cases rx
  have hn := line63
  obtain ⟨⟨c, he⟩, _⟩ := I.hok _ _ hq
  have pl : s.heap.IsList p its.toArray := ⟨_, he, rfl, _, rfl⟩
  exact Calls.call_len_list pl (by simp only [List.size_toArray] <;> omega) ⟨.int (its.length : Nat), H, I.tok _, ⟨s.toks + 1, by rw [List.size_toArray]⟩, q⟩
/-- a def, run: what it gives back is told as a value -/
theorem fn_ofU {CX : CXT} {P : Program} {w : World} {K : PySem.W.Frag} {mg : Str → Option Value} {base : Heap} {k : Nat} {f : Addr} {name qual : Str} {params : Arguments} {body : List Stmt} {scope : Scope} {dV kV doc pm cdv ct oc : Value} {an od : Option Addr}
    {osl : Array (Option Value)} {N ps : List Str} (lk : K.lookup f = some ⟨oc, od, .func (PySem.W.fnOf name qual params body scope dV kV doc pm an cdv ct), osl⟩) (hcd : PySem.W.codeIn K cdv qual = true) (S : FnScope N ps scope)
    {A : Around} {outer : List Env} {s : Shared} {H : Hp} {args : Args} {us : List Value} {vs : List V} {Q : VK} {E : XK} {UE : Value → Prop} (hl : vs.length = ps.length) (hr : Room (k + 1) A) (e0 : Env0 P w K mg base A outer s H)
    (hb : BindsTo s (PySem.W.fnOf name qual params body scope dV kV doc pm an cdv ct) args (ps.zip us)) (r : Vals vs us)
    (hbody : Room k (A.deeper (envOfC qual scope s.heap.objs.size f cdv)) → ∀ s1, Inv (cxOf CX P w K mg base N qual scope f cdv A outer s H E) [] (start N vs) H s1 → wpAny (model P w) (A.deeper (envOfC qual scope s.heap.objs.size f cdv)) (execs body (envOfC qual scope s.heap.objs.size f cdv))
      (fun fl s' => ∃ u, fl = .ret u ∧ UE u ∧ ∃ v σ' H', Inv (cxOf CX P w K mg base N qual scope f cdv A outer s H E) [] σ' H' s' ∧ RelV v u ∧ Q v H') (cxOf CX P w K mg base N qual scope f cdv A outer s H E).xe s1) :
    codeAny (model P w) A (.call (.ref f) args) (fun r s' => match r with
      | .ok (.ret u) => UE u ∧ CE outer P w H s Q u s'
      | .ok _ => False
      | .error e => CX outer H s E e s') s := by
  have KX : K.In s.heap := e0.mod.kin.keeps fun b o e => (e0.bs b o e).1
  have lim : s.heap.NoLimit := e0.mod.nolimit.keeps fun b o e => (e0.bs b o e).1
  have hkind : ∀ y ∈ ps.zip us, scope.names.lookup y.1 = some .local ∨ (scope.names.lookup y.1 = some .cell ∧ ((cellsFrom (s.heap.objs.size + 1) scope.names []).lookup y.1).isSome = true) := fun ⟨n, v⟩ hy => by
    rcases S.par n (List.of_mem_zip hy).1 with q | q
    · exact .inl q
    · exact .inr ⟨q, PySem.W.cellsFrom_some _ _ _ (.inl q)⟩
  refine codeAny_call_function hr.depth (KX _ _ lk) rfl S.co S.gen rfl (PySem.W.codeRec_of KX hcd) (hb _ _ _ _ ?_)
  refine wpAny_newFunctionEnv_cells S.kind hkind fun env he s1 x => ?_
  subst he
  refine ⟨lim.keeps x.toInCall.keep, codeAny_func ?_⟩
  have I : Inv (cxOf CX P w K mg base N qual scope f cdv A outer s H E) [] (start N vs) H s1 := inv_start S hr.hd e0 hl r x
  refine wpAny_mono (hbody (hr.deeper _) s1 I) (fun fl s' hs => ?_) fun e s' hs => hs
  obtain ⟨u, rfl, hu, v, σ', H', J, rv, q⟩ := hs
  exact ⟨hu, v, H', J.os, J.bare, J.base, J.hok, rv, q⟩
/-- return xs[e], xs a written list: one of its values -/
theorem ret_item {X : Cx} {x : Str} {i : Nat} {e : Expr} {te : TE} {p pos rp : Pos} {pins : List (Addr × Obj)} {s : Shared} {σ : St} {H : Hp} {Q : Hp → Prop} {q : Addr} {its : List Value} {cs : List Str} (hx : PE X (.Name x p) (tVar i)) (he : PE X e te) (hs : PlainIx e) (I : Inv X pins σ H s) (hσ : σ[i]? = some (some (.ref q))) (n : Nz cs its) (h100 : cs.length ≤ 100)
    (h : te σ H fun y H1 => ∃ j : Nat, y = .int (j : Int) ∧ j < its.length ∧ H1 q = some (fzl q its) ∧ Q H1) :
    wpAny (model X.prog X.w) X.A (execs [.Return (some (.Subscript (.Name x p) e pos)) rp] X.env) (fun fl s' => ∃ u, fl = .ret u ∧ u ∈ its ∧ ∃ v σ' H', Inv X pins σ' H' s' ∧ RelV v u ∧ (∃ z, z ∈ cs ∧ v = V.str z) ∧ Q H') X.xe s := by
  have E1 : wpAny (model X.prog X.w) X.A (eval (.Subscript (.Name x p) e pos) X.env) (fun u s' => u ∈ its ∧ ∃ v H', Inv X pins σ H' s' ∧ RelV v u ∧ (∃ z, z ∈ cs ∧ v = V.str z) ∧ Q H') X.xe s := by
    refine Subscript_ (thn (hx.run pins s σ H (fun x H1 => x = .ref q ∧ H1 = H) I ⟨_, hσ, rfl, rfl⟩) fun v s1 ⟨x, H1, I1, r1, e1, e2⟩ => ?_)
    subst e1
    subst e2
    cases r1
    refine thn (he.run pins s1 σ _ _ I1 h) fun u s2 ⟨y, H2, I2, r2, j, ey, hj, hq2, q2⟩ => ?_
    subst ey
    obtain ⟨t, rfl⟩ := r2
    obtain ⟨⟨c, hc⟩, _⟩ := I2.hok _ _ hq2
    have pl : s2.heap.IsList q its.toArray := ⟨_, hc, rfl, _, rfl⟩
    have hit : its[j]? = some its[j] := List.getElem?_eq_getElem hj
    obtain ⟨z, tz, e1, e2, e3⟩ := n.2 j _ hit
    have h1 := n.1
    have h63 : j < 2 ^ 63 := by
      have e63 : (2 : Nat) ^ 63 = 9223372036854775808 := by decide
      rw [e63]
      omega
    exact item_listR (k := (j : Int)) pl (by omega) (by omega) (by rw [Int.toNat_natCast]; simpa using hit) ⟨List.getElem_mem hj, .str z, H2, I2, by rw [e1]; exact ⟨tz, rfl⟩, ⟨z, List.mem_of_getElem? e3, rfl⟩, q2⟩ (hs _ _)
  refine wpAny_execs_cons (wpAny_Return_some (thn E1 fun u s' hh => ?_))
  obtain ⟨h1, v, H', I', rv, hz, q'⟩ := hh
  exact ⟨u, rfl, h1, v, σ, H', I', rv, hz, q'⟩
end L2

set_option maxHeartbeats 4000000
/-! list(text) of small signs, its texts with tokens that are known not to be 0; such a list and a written one -/
namespace ZS
open PySem PySem.Spec PyProof.Rows
def SgnNz (x : Str) (i : Nat) (v : Value) : Prop := ∃ c u, x.cps[i]? = some c ∧ v = .str ⟨#[c]⟩ u ∧ u ≠ 0
theorem walksNz {prog : Program} {w : World} {A : Around} (hh : A.handled = none) (I : Addr) (x : Str) (t : Tok) :
    WalksS prog w A I [I] [I] (fun a b => b = a) x.cps.size (SgnNz x) (fun i s => s.heap.IsStrIter I "str_ascii_iterator" x t i ∧ 1 ≤ s.toks) where
  sub := fun _ hb => hb
  grefl := fun _ => rfl
  gtrans := fun _ _ _ h1 h2 => h2.trans h1
  frame := fun i s h' tk st ht hk => ⟨let ⟨o, ho, r⟩ := st.1; ⟨o, hk I (by simp) o ho, r⟩, by have := st.2; show 1 ≤ tk; omega⟩
  item := fun i s Q E hi st hQ => by
    refine wpAny_pyNext_ascii_item st.1 (c := x.cps[i]) (by simp [hi]) fun h' hit' hs' => ?_
    have h1 := st.2
    exact hQ _ { s with heap := h', toks := s.toks + 1 } ⟨_, _, by simp [hi], rfl, by intro z; have : (s.toks : Nat) = 0 := z; omega⟩ ⟨hit', by show 1 ≤ s.toks + 1; omega⟩ ⟨fun b o hb e => hs'.extBut b o (fun h => hb (by simp [h])) e, rfl, rfl, rfl, Nat.le_succ _⟩
  done := fun s Q E st hQ => wpAny_pyNext_ascii_end hh st.1 (by simp) fun h' he' => hQ { s with heap := h' } ⟨fun b o hb e => he' b o (fun h => hb (by simp [h])) e, rfl, rfl, rfl, Nat.le_refl _⟩
  self := fun _ _ _ _ st hQ => wpAny_pyIter_striter_ascii st.1 hQ
section
variable {prog : Program} {w : World} {A : Around} {E : Value → Shared → Prop} {s : Shared}
theorem extend_nz {R : Result → Shared → Prop} (hh : A.handled = none) (x : Str) (t : Tok) (S : Addr) (res : Value) (c₀ : Nat) (ha : x.cps.all (· < 128) = true) (h0 : 1 ≤ s.toks) (hS : s.heap.get? S = some { cls := .type "list", data := .seq #[] c₀ })
    (hR : ∀ h' tk acc' c', (∀ b o, b ≠ S → s.heap.get? b = some o → h'.get? b = some o) → h'.get? S = some { cls := .type "list", dict := none, data := .seq acc' c', slots := #[] } →
      ItemsOf (SgnNz x) acc' x.cps.size → s.toks ≤ tk → R (.ok (.ret res)) { s with heap := h', toks := tk }) (hn : x.cps.size ≤ sizeLine) :
    wpAny (model prog w) A.in1 (Builtin.List.listExtendWith (.ref S) (.str x t) res)
      (fun fin s' => match fin with | .done f => R (.ok f) s' | .again c' => c'.quiet = true ∧ codeAny (model prog w) A c' R s') (fun e s' => R (.error e) s') s := by
  have hSI : S ≠ s.heap.objs.size := Nat.ne_of_lt (Heap.lt_size hS)
  have hSf : S ∉ [s.heap.objs.size] := fun hm => hSI (List.mem_singleton.mp hm)
  unfold Builtin.List.listExtendWith
  refine wpAny_bind (wpAny_typeOf (T := "str") (v := .str x t) (typeIs_str s x t) ?_)
  have h1 : Builtin.List.listSameRef (.ref S) (.str x t) = false := rfl
  have h2 : (Value.type "str" == Value.type "list") = false := by decide
  have h3 : (Value.type "str" == Value.type "tuple") = false := by decide
  simp only [h1, h2, h3, Bool.or_false, Bool.false_eq_true, if_false]
  refine wpAny_bind ?_
  refine wpAny_pyIter_ascii ha ?_
  refine wpAny_bind (wpAny_holding (hint_str ?_))
  rw [if_neg (by first | decide | decide +kernel)]
  have W := walksNz (prog := prog) (w := w) (A := A.in1) hh s.heap.objs.size x t
  have hst : (s.heap.push { cls := .type "str_ascii_iterator", data := .fields #[.str x t, .int 0 0] }).IsStrIter s.heap.objs.size "str_ascii_iterator" x t 0 := ⟨_, Heap.get?_push_size _ rfl, rfl, rfl⟩
  refine wpAny_pure ⟨plainId_quiet PySem.F.plain_extend_loop _, codeAny_extend_loopS W hn _ hSf _ x.cps.size 0 _ _ _ rfl (Nat.zero_le _) ⟨hst, h0⟩ (Heap.get?_push_of_some _ hS) (ItemsOf.nil _) fun s' acc' c' hm hS' hacc => ?_⟩
  rw [Moved.eq_with hm]
  refine hR s'.heap s'.toks acc' c' (fun b ob hb e => hm.heap b ob (fun hmem => ?_) (Heap.get?_push_of_some _ e)) hS' hacc hm.toks
  rcases List.mem_cons.mp hmem with e' | hmem
  · exact hb e'
  · exact absurd (Heap.lt_size e) (by rw [List.mem_singleton.mp hmem]; exact Nat.lt_irrefl _)
theorem list_init_nz {R : Result → Shared → Prop} (hh : A.handled = none) (x : Str) (t : Tok) (S : Addr) (ha : x.cps.all (· < 128) = true) (h0 : 1 ≤ s.toks) (hS : s.heap.get? S = some { cls := .type "list", data := .seq #[] })
    (hR : ∀ h' tk acc' c', (∀ b o, b ≠ S → s.heap.get? b = some o → h'.get? b = some o) → h'.get? S = some { cls := .type "list", dict := none, data := .seq acc' c', slots := #[] } →
      ItemsOf (SgnNz x) acc' x.cps.size → s.toks ≤ tk → R (.ok (.ret .none)) { s with heap := h', toks := tk }) (hn : x.cps.size ≤ sizeLine) :
    wpAny (model prog w) A.in1 (Builtin.«list.__init__» ⟨[.ref S, .str x t], []⟩)
      (fun fin s' => match fin with | .done f => R (.ok f) s' | .again c' => c'.quiet = true ∧ codeAny (model prog w) A c' R s') (fun e s' => R (.error e) s') s := by
  show wpAny _ _ (do let old ← Builtin.List.listItems (.ref S); Builtin.List.listUpdate (.ref S) (fun _ => #[]); letGo old.toList.reverse; Builtin.List.listExtendWith (.ref S) (.str x t) .none) _ _ s
  refine wpAny_bind ?_
  unfold Builtin.List.listItems
  refine wpAny_bind (wpAny_seqItems hS rfl (wpAny_pure ?_))
  show wpAny _ _ (updateSeq S (fun _ => #[]) >>= fun _ => letGo (#[] : Array Value).toList.reverse >>= fun _ => Builtin.List.listExtendWith (.ref S) (.str x t) .none) _ _ s
  refine wpAny_bind (wpAny_updateSeq hS rfl ?_)
  have hS₂ := Heap.get?_update_self (Obj.mapSeq (fun _ => (#[] : Array Value))) hS rfl
  have oth : ∀ b o, b ≠ S → s.heap.get? b = some o → (s.heap.update S (Obj.mapSeq (fun _ => (#[] : Array Value)))).get? b = some o :=
    fun b o hb e => (Heap.get?_update_other _ _ (Ne.symm hb)).trans e
  refine wpAny_bind (wpAny_letGo ?_)
  refine extend_nz hh x t S .none _ ha h0 hS₂ (fun h' tk acc' c' hk hS' hacc htk => ?_) hn
  exact hR h' tk acc' c' (fun b o hb e => hk b o hb (oth b o hb e)) hS' hacc htk
theorem call_list_nz {x : Str} {t : Tok} {Q : Value → Shared → Prop} (hh : A.handled = none) (hn : x.cps.size ≤ sizeLine) (ha : x.cps.all (· < 128) = true) (h0 : 1 ≤ s.toks)
    (hQ : ∀ h' tk acc' c', (∀ b o, s.heap.get? b = some o → h'.get? b = some o) →
      h'.get? s.heap.objs.size = some { cls := .type "list", dict := none, data := .seq acc' c', slots := #[] } → ItemsOf (SgnNz x) acc' x.cps.size → s.toks ≤ tk → Q (.ref s.heap.objs.size) { s with heap := h', toks := tk }) :
    wpAny (model prog w) A (call (.type "list") [.str x t]) Q E s := by
  refine callType_codes (Q₁ := fun obj s₁ => obj = .ref s.heap.objs.size ∧ s₁ = { s with heap := s.heap.push { cls := .type "list", data := .seq #[] } }) PySem.F.called_list (PySem.F.typeCall_list_1 _) PySem.F.entry_list_init
    (code_list_new _ ⟨rfl, rfl⟩) fun obj s₁ h₁ => ?_
  obtain ⟨rfl, rfl⟩ := h₁
  have hS : (s.heap.push { cls := .type "list", data := .seq #[] }).get? s.heap.objs.size = some { cls := .type "list", data := .seq #[] } := Heap.get?_push_size _ rfl
  refine ⟨⟨_, hS, rfl⟩, PySem.F.args_list_init_2 _ _, list_init_nz (A := A.in1) hh x t _ ha h0 hS (fun h' tk acc' c' hk hS' hacc htk => ?_) hn⟩
  exact ⟨rfl, hQ h' tk acc' c' (fun b o e => hk b o (Nat.ne_of_lt (Heap.lt_size e)) (Heap.get?_push_of_some _ e)) hS' hacc htk⟩
end
end ZS
namespace L2
open PySem PySem.Spec PyProof.Rows CwR
theorem sm_new {H : Hp} {p : Addr} {o : HO} (hp : H p = none) : Same H (upd H p o) := fun b u e => by
  rw [upd_ne (ne_of_none e hp)]
  exact e
/-- a list of texts is made, its values known; all else stays -/
def tFw (cs : List Str) : TE := fun σ H Q => ∀ (q : Addr) (its : List Value) (H' : Hp), Same H H' → H q = none → H' q = some (fzl q its) → Nz cs its → Q (.ref q) H'
theorem pet_fw {X : Cx} {es : List Expr} {cs : List Str} {pos : Pos} (h : CEs es cs) (hl : cs.length ≤ 100) : PET X (.List es pos) (tFw cs) := fun pins s σ H Q h0 I hq =>
  pet_fz h hl pins s σ H Q h0 I fun q its hn nz => hq q its _ (sm_new hn) hn upd_same nz
theorem nz_app {cs ds : List Str} {us vs : List Value} (h : Nz cs us) (k : Nz ds vs) : Nz (cs ++ ds) (us ++ vs) := by
  refine ⟨by rw [List.length_append, List.length_append, h.1, k.1], fun i u e => ?_⟩
  rcases Nat.lt_or_ge i us.length with hi | hi
  · rw [List.getElem?_append_left hi] at e
    rw [List.getElem?_append_left (by rw [← h.1]; exact hi)]
    exact h.2 i u e
  · rw [List.getElem?_append_right hi] at e
    rw [List.getElem?_append_right (by rw [← h.1]; exact hi), ← h.1]
    exact k.2 _ u e
theorem nz_signs {x : Str} {acc : Array Value} (h : ItemsOf (ZS.SgnNz x) acc x.cps.size) : Nz (signs x) acc.toList := by
  have hl : x.cps.toList.length = x.cps.size := by simp
  refine ⟨by unfold signs; rw [List.length_map, hl, Array.length_toList]; exact h.1, fun i u e => ?_⟩
  obtain ⟨c, t', hcx, rfl, ht⟩ := h.2 i u (by rw [← Array.getElem?_toList]; exact e)
  exact ⟨⟨#[c]⟩, t', rfl, ht, by unfold signs; rw [List.getElem?_map, Array.getElem?_toList, hcx]; rfl⟩
/-- list("..") + [..] -/
theorem pe_signs {X : Cx} {x : Str} {k : Nat} {p0 p1 cp p2 bp : Pos} {es : List Expr} {cs : List Str} (hc : X.calm = true) (hg : Gl X "list") (hm : X.mg "list" = none) (hb : bootBuiltins "list" = some (.type "list")) (he : CEs es cs) (hl : cs.length ≤ 100) (hx : x.cps.size ≤ 100) (ha : x.cps.all (· < 128) = true) :
    PE X (.BinOp (.Call (.Name "list" p0) [.Constant (.str x) k cp] [] p1) .Add (.List es p2) bp) (tFw (signs x ++ cs)) := by
  refine ⟨fun pins s σ H Q I hq => ?_⟩
  have hs : (sizeLine : Nat) ≥ 1000 := by decide
  refine wpAny_BinOp (wpAny_Call_Name_kw (ld_blt I hg hm hb ?_ (by decide) (by decide)))
  refine PyProof.Rows.callWith_type1 (rest := []) ?_ (by rfl) (by rfl)
  show wpAny _ _ (spliced ((false, eval (.Constant (.str x) k cp) X.env) :: backTo p1 (starEach [] X.env))) _ _ s
  refine Calls.spliced_cons (Calls.Constant_str ?_)
  refine Calls.spliced_nil ?_
  have I1 : Inv X pins σ H { s with toks := s.toks + 1 } := I.tok (s.toks + 1)
  refine ZS.call_list_nz (s := { s with toks := s.toks + 1 }) (I.ok.hd hc) (by omega) ha (by show 1 ≤ s.toks + 1; omega) fun h' tk acc c' hk e hi htk => ?_
  have nz := nz_signs hi
  have hf : H s.heap.objs.size = none := I.hok.fresh (Nat.le_refl _)
  have I2 : Inv X pins σ (upd H s.heap.objs.size (fzl s.heap.objs.size acc.toList)) { s with heap := h', toks := tk } := I1.laid (t' := tk) hk (Nat.le_refl _) (fzl_ok (c := c') (by rw [Array.toArray_toList]; exact e))
  have n1 : Same H (upd H s.heap.objs.size (fzl s.heap.objs.size acc.toList)) := sm_new hf
  refine thn (pet_fz he hl pins _ σ _ (fun v H2 => ∃ q its, v = .ref q ∧ H2 = upd (upd H s.heap.objs.size (fzl s.heap.objs.size acc.toList)) q (fzl q its) ∧ (upd H s.heap.objs.size (fzl s.heap.objs.size acc.toList)) q = none ∧ Nz cs its) (by have : s.toks + 1 ≤ tk := htk; show 1 ≤ tk; omega) I2 fun q its hn nz2 => ⟨q, its, rfl, rfl, hn, nz2⟩) fun u s2 hh => ?_
  obtain ⟨_, H2, I3, ru, q, its, rfl, rfl, hn, nz2⟩ := hh
  cases ru
  have n2 := sm_new (o := fzl q its) hn
  obtain ⟨⟨c1, e1⟩, _⟩ := I3.hok _ _ (n2 _ _ (upd_same (H := H) (a := s.heap.objs.size) (o := fzl s.heap.objs.size acc.toList)))
  obtain ⟨⟨c2, e2⟩, _⟩ := I3.hok _ _ (upd_same (H := upd H s.heap.objs.size (fzl s.heap.objs.size acc.toList)) (a := q) (o := fzl q its))
  have l1 : acc.toList.length ≤ 100 := by rw [nz.1]; unfold signs; rw [List.length_map]; simpa using hx
  have l2 : its.length ≤ 100 := by rw [nz2.1]; exact hl
  refine PySem.P.add_list e1 e2 ?_ (by rw [List.size_toArray, List.size_toArray]; omega)
  have ea : acc.toList.toArray ++ its.toArray = (acc.toList ++ its).toArray := by simp
  rw [ea]
  have hf3 := I3.hok.fresh (Nat.le_refl s2.heap.objs.size)
  refine ⟨.ref s2.heap.objs.size, upd _ s2.heap.objs.size (fzl s2.heap.objs.size (acc.toList ++ its)), I3.laid (t' := s2.toks) (fun b u e => Heap.get?_push_of_some _ e) (Nat.le_refl _) (fzl_ok (c := 0) (Heap.get?_push_size _ rfl)), rfl, hq _ _ _ ((n1.trans n2).trans (sm_new hf3)) ?_ upd_same (nz_app nz nz2)⟩
  cases eo : H s2.heap.objs.size with
  | none => rfl
  | some o =>
    have := (n1.trans n2) _ _ eo
    rw [hf3] at this
    cases this
end L2

set_option maxHeartbeats 4000000
namespace PA
open PySem L2 RZ
open C8 (pss_cut tCut)
abbrev sStr : Stmt := inClass (top 52) 6
abbrev sRowsTx : Stmt := top 60
abbrev sRowTx : Stmt := top 61
abbrev sStartsTx : Stmt := top 62
def intS (i : Int) : Str := Str.ofString (toString i)
def fallS (b : Bool) : Str := if b = true then "fall" else "stay"
def goS (b : Bool) : Str := if b = true then "go" else "stay"
def rowTx (r : Rw) : Str := (((((((Str.empty ++ intS r.1) ++ (" " : Str)) ++ fallS r.2.1) ++ (" " : Str)) ++ intS r.2.2.1) ++ (" " : Str)) ++ goS r.2.2.2)
def rowsTx (rows : List Rw) : Str := Txt.join "; " (rows.map rowTx)
def wordsTx (starts : List Int) : Str := Txt.join " " (starts.map intS)
def startsTx (starts : List Int) : Str := if starts = [0] then "" else (Str.empty ++ (" | " : Str)) ++ wordsTx starts
def ruleTx (rows : List Rw) (starts : List Int) : Str := (Str.empty ++ rowsTx rows) ++ startsTx starts
theorem app_le {x y : Str} {m n : Nat} (hx : x.length ≤ m) (hy : y.length ≤ n) : (x ++ y).length ≤ m + n := by
  rw [Str.length_append]
  omega
theorem small_log {i : Int} (h0 : 0 ≤ i) (h1 : i < 48) : i.natAbs.log2 < 1920 := by
  have e : (2 : Nat) ^ 6 = 64 := by decide
  have h : i.natAbs < 2 ^ 6 := by
    rw [e]
    omega
  have h2 : i.natAbs.log2 < 6 := PySem.Flt.log2_lt_of (by decide) h
  exact Nat.lt_of_lt_of_le h2 (by decide)
theorem intS_le {i : Int} (h0 : 0 ≤ i) (h1 : i < 48) : (intS i).length ≤ 1921 := by
  have e := int_text_length_le (k := 1920) (by decide) (small_log h0 h1)
  unfold intS
  rw [ofString_length]
  exact e
theorem fallS_le (b : Bool) : (fallS b).length ≤ 4 := by cases b <;> decide +kernel
theorem goS_le (b : Bool) : (goS b).length ≤ 4 := by cases b <;> decide +kernel
theorem sp_le : (" " : Str).length ≤ 1 := by decide +kernel
theorem em_le : (Str.empty).length ≤ 0 := by decide +kernel
def spRowTx : Sp := fun vs H Q _ => ∃ (c : Addr) (r : Rw), vs = [.ref c] ∧ isT H c r ∧ RwOk 48 r ∧ Q (.str (rowTx r)) H
section
variable {P : Program} {w : World} {K : PySem.W.Frag} {mg : Str → Option Value} {base : Heap} {C : Addr}
theorem scRowTx : FnScope ["row", "next_ahead", "falls", "next_behind", "goes", "first", "second"] ["row"] (defScope sRowTx) := ⟨rfl, rfl, rfl, by decide +kernel, rfl, by decide +kernel, by decide +kernel⟩
theorem ok_rowTx {f : Addr} {fd : FuncData} (F : Fun K "_row_text" "_row_text" sRowTx f fd) : FnOk P w K mg base CX0 1 f fd ["row"] spRowTx := by
  refine F.ok scRowTx (fun vs H Q E h => ?_) (fun cdv A outer s H vs Q E hr h => ?_)
  · obtain ⟨c, _, rfl, _⟩ := h
    rfl
  · obtain ⟨c, ⟨ra, rb, rc, rd⟩, rfl, hc, ⟨⟨a0, a1⟩, c0, c1⟩, kk⟩ := h
    refine ⟨_, pss_cons (ps_asg (pv 0) (pg_tup rfl (pgs_cons (pg_name (i := 1) scRowTx.nd rfl (Or.inl rfl)) (pgs_cons (pg_name (i := 2) scRowTx.nd rfl (Or.inl rfl)) (pgs_cons (pg_name (i := 3) scRowTx.nd rfl (Or.inl rfl)) (pgs_cons (pg_name (i := 4) scRowTx.nd rfl (Or.inl rfl)) pgs_nil))))))
      (pss_cut (ps_set (i := 5) scRowTx.nd rfl (Or.inl rfl) (pe_ifExp (pt_val (pv 2)) pe_str pe_str))
      (pss_cut (ps_set (i := 6) scRowTx.nd rfl (Or.inl rfl) (pe_ifExp (pt_val (pv 4)) pe_str pe_str))
      (pss_one (ps_ret (pe_joined (.cons (pe_fmt (pv 1)) (.cons pe_str (.cons (pe_fmt (pv 5)) (.cons pe_str (.cons (pe_fmt (pv 3)) (.cons pe_str (.cons (pe_fmt (pv 6)) .nil)))))))))))), ?_⟩
    refine ⟨_, rfl, c, _, rfl, SqT.of hc, rfl, _, _, rfl, _, _, rfl, _, _, rfl, _, _, rfl, rfl, ?_⟩
    refine ⟨fun σ' H' => H' = H ∧ σ' = [some (V.ref c), some (V.int ra), some (V.bl rb), some (V.int rc), some (V.bl rd), some (V.str (fallS rb)), none], ?_, ?_⟩
    · refine ⟨_, rfl, rb, rfl, ?_⟩
      cases rb with
      | true => exact iteT ⟨rfl, rfl⟩
      | false => exact iteF ⟨rfl, rfl⟩
    rintro _ H1 ⟨e1, rfl⟩
    subst e1
    refine ⟨fun σ' H' => H' = H1 ∧ σ' = [some (V.ref c), some (V.int ra), some (V.bl rb), some (V.int rc), some (V.bl rd), some (V.str (fallS rb)), some (V.str (goS rd))], ?_, ?_⟩
    · refine ⟨_, rfl, rd, rfl, ?_⟩
      cases rd with
      | true => exact iteT ⟨rfl, rfl⟩
      | false => exact iteF ⟨rfl, rfl⟩
    rintro _ H2 ⟨e2, rfl⟩
    subst e2
    have q1 := app_le em_le (intS_le a0 a1)
    have q2 := app_le q1 sp_le
    have q3 := app_le q2 (fallS_le rb)
    have q4 := app_le q3 sp_le
    have q5 := app_le q4 (intS_le c0 c1)
    have q6 := app_le q5 sp_le
    have q7 := app_le q6 (goS_le rd)
    have big : ∀ {n : Nat}, n ≤ 4000 → n ≤ sizeLine := fun h => Nat.le_trans h (by decide)
    refine ⟨_, rfl, .inr ⟨ra, rfl, small_log a0 a1, _, rfl, big (Nat.le_trans q1 (by decide)), ?_⟩⟩
    refine ⟨_, rfl, big (Nat.le_trans q2 (by decide)), ?_⟩
    refine ⟨_, rfl, .inl ⟨_, rfl, big (Nat.le_trans (fallS_le rb) (by decide)), _, rfl, big (Nat.le_trans q3 (by decide)), ?_⟩⟩
    refine ⟨_, rfl, big (Nat.le_trans q4 (by decide)), ?_⟩
    refine ⟨_, rfl, .inr ⟨rc, rfl, small_log c0 c1, _, rfl, big (Nat.le_trans q5 (by decide)), ?_⟩⟩
    refine ⟨_, rfl, big (Nat.le_trans q6 (by decide)), ?_⟩
    refine ⟨_, rfl, .inl ⟨_, rfl, big (Nat.le_trans (goS_le rd) (by decide)), _, rfl, big (Nat.le_trans q7 (by decide)), ?_⟩⟩
    exact kk
end
end PA

set_option maxHeartbeats 4000000
namespace PA
open PySem L2 RZ
open C8 (pss_cut tCut)
/-- what the texts of rules ask of the module -/
structure TxtS (K : PySem.W.Frag) (mg : Str → Option Value) : Prop where
  str_ : mg "str" = none
  plain : ∃ dp, mg "PLAIN_STARTS" = some (.ref dp) ∧ ∀ H, SqT K H dp [V.int 0]
def spRowsTx : Sp := fun vs H Q _ => ∃ (R : Addr) (refs : List V) (rows : List Rw), vs = [.ref R] ∧ H R = some (.tup refs) ∧ Each H isT refs rows ∧ rows.length ≤ 48 ∧ (∀ r ∈ rows, RwOk 48 r) ∧ ∀ H', Same H H' → Q (.str (rowsTx rows)) H'
def spStartsTx (K : PySem.W.Frag) : Sp := fun vs H Q _ => ∃ (S : Addr) (starts : List Int), vs = [.ref S] ∧ SqT K H S (starts.map V.int) ∧ starts.length ≤ 16 ∧ (∀ s ∈ starts, 0 ≤ s ∧ s < 48) ∧ ∀ H', Same H H' → Q (.str (startsTx starts)) H'
def spStr (K : PySem.W.Frag) (C : Addr) : Sp := fun vs H Q _ => ∃ (p : Addr) (rows : List Rw) (starts : List Int) (k : Int), vs = [.ref p] ∧ RuleAt K C H p rows starts k ∧ rows.length ≤ 48 ∧ (∀ r ∈ rows, RwOk 48 r) ∧ starts.length ≤ 16 ∧ (∀ s ∈ starts, 0 ≤ s ∧ s < 48) ∧ ∀ H', Same H H' → Q (.str (ruleTx rows starts)) H'
theorem rowTx_le {r : Rw} (h : RwOk 48 r) : (rowTx r).length ≤ 4000 := by
  obtain ⟨ra, rb, rc, rd⟩ := r
  obtain ⟨⟨a0, a1⟩, c0, c1⟩ := h
  have q1 := app_le em_le (intS_le a0 a1)
  have q2 := app_le q1 sp_le
  have q3 := app_le q2 (fallS_le rb)
  have q4 := app_le q3 sp_le
  have q5 := app_le q4 (intS_le c0 c1)
  have q6 := app_le q5 sp_le
  have q7 := app_le q6 (goS_le rd)
  exact Nat.le_trans q7 (by decide)
theorem sum_le {m : Nat} : ∀ ys : List Str, (∀ y ∈ ys, y.length ≤ m) → (ys.map (·.length)).sum ≤ ys.length * m
  | [], _ => by simp
  | y :: ys, h => by
    have h1 := sum_le ys fun z hz => h z (List.mem_cons_of_mem _ hz)
    have h2 := h y List.mem_cons_self
    simp only [List.map_cons, List.sum_cons, List.length_cons, Nat.add_mul, Nat.one_mul]
    omega
section
variable {P : Program} {w : World} {K : PySem.W.Frag} {mg : Str → Option Value} {base : Heap} {C : Addr}
theorem scRowsTx : FnScope ["rows", "row"] ["rows"] (defScope sRowsTx) := ⟨rfl, rfl, rfl, by decide +kernel, rfl, by decide +kernel, by decide +kernel⟩
theorem ok_rowsTx {f g : Addr} {fd gd : FuncData} (F : Fun K "_rows_text" "_rows_text" sRowsTx f fd) (D : Df K mg "_row_text" sRowTx g gd ["row"]) : FnOk P w K mg base CX0 2 f fd ["rows"] spRowsTx := by
  have G : FnOk P w K mg base CX0 1 g gd ["row"] spRowTx := ok_rowTx D.F
  refine F.ok scRowsTx (fun vs H Q E h => ?_) (fun cdv A outer s H vs Q E hr h => ?_)
  · obtain ⟨R, _, _, rfl, _⟩ := h
    rfl
  · obtain ⟨R, refs, rows, rfl, hR, hE, h48, hok, kk⟩ := h
    have hlr : refs.length = rows.length := hE.1
    refine ⟨_, pss_one (ps_ret (pe_join pe_str (pe_lc (own := [("row", 1)]) (g := gName 1) (tt := tYes) (by rfl) scRowsTx.nd (pi_tup (pv 0)) (blkOk_by (N := ["rows", "row"]) (sc := defScope sRowsTx) (by decide +kernel))
          (fun _ _ _ _ _ => pg_name (i := 1) scRowsTx.nd rfl (Or.inl rfl)) (fun _ _ _ _ _ => pts_nil)
          (fun _ _ _ _ _ => pe_call G hr rfl D.M D.F.kp D.B .nil pass0 (pa_cons (pv 1) pa_nil))))), ?_⟩
    refine ⟨⟨_, rfl⟩, _, rfl, R, rfl, ⟨_, SqT.of hR⟩, fun Dd hD => ?_⟩
    refine lc_tup (K := K) (a := R) (xs := refs) (fun i H' => Same H H' ∧ H' Dd = some (.lst (((rows.take i).map rowTx).map V.str))) ⟨Same.new hD, by rw [List.take_zero]; exact upd_same⟩ (fun i H' _ q => SqT.of (q.1 _ _ hR)) ?_ ?_
    · rintro i x H' hx ⟨sm, hd⟩
      have hi : i < rows.length := by rw [← hlr]; exact (List.getElem?_eq_some_iff.mp hx).1
      have hr' : rows[i]? = some rows[i] := List.getElem?_eq_getElem hi
      obtain ⟨c, rfl, hc⟩ := hE.2 i x _ hx hr'
      refine ⟨rfl, ?_⟩
      dsimp only [tYes]
      rw [if_pos rfl]
      refine ⟨_, rfl, c, rows[i], rfl, sm _ _ hc, hok _ (List.getElem_mem hi), _, hd, ?_, ?_, ?_⟩
      · rw [List.length_map, List.length_map, List.length_take]
        exact Nat.lt_of_le_of_lt (Nat.le_trans (Nat.min_le_left _ _) (Nat.le_of_lt hi)) (Nat.lt_of_le_of_lt h48 (by decide))
      · intro c' o e
        rw [upd_ne (ne_of_none e hD)]
        exact sm _ _ e
      · rw [upd_same, take_succ' hr', List.map_append, List.map_append]
        rfl
    · rintro H1 ⟨s1, hd⟩
      rw [hlr, List.take_length] at hd
      refine ⟨_, Dd, rows.map rowTx, rfl, rfl, .inl (SqL.of hd), ?_, kk H1 s1⟩
      have h1 := sum_le (m := 4000) (rows.map rowTx) fun y hy => by
        obtain ⟨r, hr, rfl⟩ := List.mem_map.mp hy
        exact rowTx_le (hok r hr)
      rw [List.length_map] at h1 ⊢
      have h2 : ("; " : Str).length = 2 := by decide +kernel
      rw [h2]
      omega
end
end PA

set_option maxHeartbeats 4000000
namespace PA
open PySem L2 RZ
open C8 (pss_cut tCut)
theorem intsT_shaped (ns : List Int) : SeqAt.shaped (.tuple (ns.map PyData.int)) = true := by
  have h1 := ints_depth ns
  have h2 : PyData.depth (.tuple (ns.map PyData.int)) ≤ 64 := by
    simp only [PyData.depth]
    omega
  show (PyData.canLay0 (.tuple (ns.map PyData.int)) && decide (PyData.depth (.tuple (ns.map PyData.int)) ≤ 64)) = true
  rw [Bool.and_eq_true]
  exact ⟨by simp only [PyData.canLay0]; exact ints_lay ns, decide_eq_true h2⟩
theorem intsT_zero (ns : List Int) : PyData.eqv (.tuple (ns.map PyData.int)) (.tuple [.int 0]) = decide (ns = [0]) := by
  cases ns with
  | nil => simp [PyData.eqv, PyData.eqvAll]
  | cons z zs =>
    cases zs with
    | nil =>
      by_cases hz : z = 0
      · subst hz; simp [PyData.eqv, PyData.eqvAll]
      · simp [PyData.eqv, PyData.eqvAll, hz]
    | cons y ys => simp [PyData.eqv, PyData.eqvAll]
theorem boot_str' : bootBuiltins "str" = some (.type "str") := by decide +kernel
def rStrK : List V → Hp → (V → Hp → Prop) → Prop := fun xs H Q => ∃ i : Int, xs = [.int i] ∧ i.natAbs.log2 < 1920 ∧ Q (.str (intS i)) H
theorem words_le {starts : List Int} (h16 : starts.length ≤ 16) (hst : ∀ s ∈ starts, 0 ≤ s ∧ s < 48) : ((starts.map intS).map (·.length)).sum + (starts.map intS).length * (" " : Str).length ≤ 40000 := by
  have h1 := sum_le (m := 1921) (starts.map intS) fun y hy => by
    obtain ⟨r, hr, rfl⟩ := List.mem_map.mp hy
    exact intS_le (hst r hr).1 (hst r hr).2
  rw [List.length_map] at h1 ⊢
  have h2 : (" " : Str).length = 1 := by decide +kernel
  rw [h2]
  omega
theorem join_le (sep : Str) (ys : List Str) : (Txt.join sep ys).length ≤ (ys.map (·.length)).sum + ys.length * sep.length := by
  unfold Txt.join
  rw [StrLaws.glued_eq_join]
  exact StrLaws.join_length_le sep ys
section
variable {P : Program} {w : World} {K : PySem.W.Frag} {mg : Str → Option Value} {base : Heap} {C : Addr}
theorem scStartsTx : FnScope ["starts", "words", "state"] ["starts"] (defScope sStartsTx) := ⟨rfl, rfl, rfl, by decide +kernel, rfl, by decide +kernel, by decide +kernel⟩
theorem ok_startsTx {f : Addr} {fd : FuncData} (F : Fun K "_starts_text" "_starts_text" sStartsTx f fd) (TS : TxtS K mg) : FnOk P w K mg base CX0 1 f fd ["starts"] (spStartsTx K) := by
  obtain ⟨dp, hdp, hpl⟩ := TS.plain
  refine F.ok scStartsTx (fun vs H Q E h => ?_) (fun cdv A outer s H vs Q E hr h => ?_)
  · obtain ⟨S, _, rfl, _⟩ := h
    rfl
  · obtain ⟨S, starts, rfl, hS, h16, hst, kk⟩ := h
    refine ⟨_, pss_cons (ps_if (pt_cmpR (op_eqD hr.units) (pv 0) (pe_glob (v := .ref dp) rfl hdp rfl) (nomark _)) (pss_one (ps_ret pe_str)) pss_nil)
      (pss_cons (ps_set (i := 1) scStartsTx.nd rfl (Or.inl rfl) (pe_join pe_str (pe_lc (own := [("state", 2)]) (g := gName 2) (tt := tYes) (by rfl) scStartsTx.nd (pi_tup (pv 0)) (blkOk_by (N := ["starts", "words", "state"]) (sc := defScope sStartsTx) (by decide +kernel))
          (fun _ _ _ _ _ => pg_name (i := 2) scStartsTx.nd rfl (Or.inl rfl)) (fun _ _ _ _ _ => pts_nil)
          (fun _ _ _ _ _ => pe_callTy call_str_int (by rfl) TS.str_ boot_str' (pa_cons (pv 2) pa_nil)))))
      (pss_one (ps_ret (pe_joined (.cons pe_str (.cons (pe_fmt (pv 1)) .nil)))))), ?_⟩
    refine ⟨_, rfl, .tuple (starts.map PyData.int), .tuple [.int 0], .tup hS (dp_ints starts), .tup (hpl H) (.cons (.int 0) .nil), intsT_shaped starts, intsT_shaped [0], _, rfl, ?_⟩
    rw [intsT_zero]
    refine ifD_2 (fun hz => ?_) (fun hz => ?_)
    · have := kk H fun _ _ e => e
      unfold startsTx at this
      rw [if_pos hz] at this
      exact this
    · refine ⟨⟨_, rfl⟩, _, rfl, S, rfl, ⟨_, hS⟩, fun Dd hD => ?_⟩
      refine lc_tup (K := K) (a := S) (xs := starts.map V.int) (fun i H' => Same H H' ∧ H' Dd = some (.lst (((starts.take i).map intS).map V.str))) ⟨Same.new hD, by rw [List.take_zero]; exact upd_same⟩ (fun i H' _ q => SqT.up hS q.1) ?_ ?_
      · rintro i x H' hx ⟨sm, hd⟩
        rw [List.getElem?_map, Option.map_eq_some_iff] at hx
        obtain ⟨z, hz', rfl⟩ := hx
        have hzz := hst z (List.mem_of_getElem? hz')
        refine ⟨rfl, ?_⟩
        dsimp only [tYes]
        rw [if_pos rfl]
        refine ⟨_, rfl, z, rfl, small_log hzz.1 hzz.2, _, hd, ?_, ?_, ?_⟩
        · rw [List.length_map, List.length_map, List.length_take]
          exact Nat.lt_of_le_of_lt (Nat.le_trans (Nat.min_le_right _ _) h16) (by decide)
        · intro c' o e
          rw [upd_ne (ne_of_none e hD)]
          exact sm _ _ e
        · rw [upd_same, take_succ' hz', List.map_append, List.map_append]
          rfl
      · rintro H1 ⟨s1, hd⟩
        rw [List.length_map, List.take_length] at hd
        have hw := words_le h16 hst
        refine ⟨_, Dd, starts.map intS, rfl, rfl, .inl (SqL.of hd), Nat.le_trans hw (by decide), ?_⟩
        have hj := join_le " " (starts.map intS)
        have h3 : (" | " : Str).length ≤ 3 := by decide +kernel
        have big : ∀ {n : Nat}, n ≤ 60000 → n ≤ sizeLine := fun h => Nat.le_trans h (by decide)
        have q1 := app_le em_le h3
        have q2 := app_le q1 (Nat.le_trans hj hw)
        refine ⟨_, rfl, big (Nat.le_trans q1 (by decide)), ?_⟩
        refine ⟨_, rfl, .inl ⟨_, rfl, big (Nat.le_trans (Nat.le_trans hj hw) (by decide)), _, rfl, big (Nat.le_trans q2 (by decide)), ?_⟩⟩
        have := kk H1 s1
        unfold startsTx at this
        rw [if_neg hz] at this
        exact this
theorem rows_le {rows : List Rw} (h48 : rows.length ≤ 48) (hok : ∀ r ∈ rows, RwOk 48 r) : (rowsTx rows).length ≤ 200000 := by
  have h := join_le "; " (rows.map rowTx)
  have h1 := sum_le (m := 4000) (rows.map rowTx) fun y hy => by
    obtain ⟨r, hr, rfl⟩ := List.mem_map.mp hy
    exact rowTx_le (hok r hr)
  rw [List.length_map] at h h1
  have h2 : ("; " : Str).length = 2 := by decide +kernel
  rw [h2] at h
  show (Txt.join "; " (rows.map rowTx)).length ≤ _
  omega
theorem starts_le {starts : List Int} (h16 : starts.length ≤ 16) (hst : ∀ s ∈ starts, 0 ≤ s ∧ s < 48) : (startsTx starts).length ≤ 40003 := by
  unfold startsTx
  by_cases hz : starts = [0]
  · rw [if_pos hz]
    exact Nat.zero_le _
  · rw [if_neg hz]
    have h3 : (" | " : Str).length ≤ 3 := by decide +kernel
    have q := app_le (app_le em_le h3) (Nat.le_trans (join_le " " (starts.map intS)) (words_le h16 hst))
    exact Nat.le_trans q (by decide)
theorem scStr : FnScope ["self"] ["self"] (defScope sStr) := ⟨rfl, rfl, rfl, by decide +kernel, rfl, by decide +kernel, by decide +kernel⟩
theorem ok_str {f g1 g2 g3 : Addr} {fd gd1 gd2 gd3 : FuncData} (F : Fun K "__str__" "Rule.__str__" sStr f fd) (T : Txt K mg C) (TS : TxtS K mg) (D1 : Df K mg "_rows_text" sRowsTx g1 gd1 ["rows"]) (D2 : Df K mg "_row_text" sRowTx g2 gd2 ["row"]) (D3 : Df K mg "_starts_text" sStartsTx g3 gd3 ["starts"]) : FnOk P w K mg base CX0 3 f fd ["self"] (spStr K C) := by
  have G1 : FnOk P w K mg base CX0 2 g1 gd1 ["rows"] spRowsTx := ok_rowsTx D1.F D2
  have G3 : FnOk P w K mg base CX0 1 g3 gd3 ["starts"] (spStartsTx K) := ok_startsTx D3.F TS
  refine F.ok scStr (fun vs H Q E h => ?_) (fun cdv A outer s H vs Q E hr h => ?_)
  · obtain ⟨p, _, _, _, rfl, _⟩ := h
    rfl
  · obtain ⟨p, rows, starts, k, rfl, ra, h48, hok, h16, hst, kk⟩ := h
    have hr1 : Room 1 _ := hr.mono (by decide)
    obtain ⟨dx, R, S, refs, hp, hR, hE, hS⟩ := ra
    refine ⟨_, pss_one (ps_ret (pe_joined (.cons (pe_fmt (pe_call G1 hr rfl D1.M D1.F.kp D1.B .nil pass0 (pa_cons (pe_fld (pv 0) rfl) pa_nil))) (.cons (pe_fmt (pe_call G3 hr1 rfl D3.M D3.F.kp D3.B .nil pass0 (pa_cons (pe_fld (pv 0) rfl) pa_nil))) .nil)))), ?_⟩
    have big : ∀ {n : Nat}, n ≤ 300000 → n ≤ sizeLine := fun h => Nat.le_trans h (by decide)
    have q1 := app_le em_le (rows_le h48 hok)
    have q2 := app_le q1 (starts_le h16 hst)
    refine ⟨_, rfl, p, C, dx, _, _, rfl, hp, T.cl, T.nR, rf_rows _ _ _, R, refs, rows, rfl, hR, hE, h48, hok, fun H1 s1 => ?_⟩
    refine .inl ⟨_, rfl, big (Nat.le_trans (rows_le h48 hok) (by decide)), _, rfl, big (Nat.le_trans q1 (by decide)), ?_⟩
    refine ⟨_, rfl, p, C, dx, _, _, rfl, s1 _ _ hp, T.cl, T.nS, rf_starts _ _ _, S, starts, rfl, SqT.up hS s1, h16, hst, fun H2 s2 => ?_⟩
    refine .inl ⟨_, rfl, big (Nat.le_trans (starts_le h16 hst) (by decide)), _, rfl, big (Nat.le_trans q2 (by decide)), ?_⟩
    exact kk H2 (s1.trans s2)
end
end PA

set_option maxHeartbeats 4000000
namespace PA
open PySem L2 RZ TS
open C8 (pss_cut tCut)
/-! ### words, pieces, texts -/
/-- a figure or a small letter -/
def okc (n : Nat) : Bool := (decide (48 ≤ n) && decide (n ≤ 57)) || (decide (97 ≤ n) && decide (n ≤ 122))
structure Word (w : Str) (i : Int) : Prop where
  ok : (cs w).all okc = true
  len : w.length ≤ 2
  asc : Txt.isascii w = true
  dig : Txt.isdigit w = true
  num : intText? w = some i
theorem word48 : ∀ n : Fin 48, ((cs (intS ((n : Nat) : Int))).all okc && decide ((intS ((n : Nat) : Int)).length ≤ 2) && Txt.isascii (intS ((n : Nat) : Int)) && Txt.isdigit (intS ((n : Nat) : Int)) && decide (intText? (intS ((n : Nat) : Int)) = some ((n : Nat) : Int))) = true := by
  decide +kernel
theorem int_word {i : Int} (h0 : 0 ≤ i) (h1 : i < 48) : Word (intS i) i := by
  have h := word48 ⟨i.toNat, by omega⟩
  simp only [Bool.and_eq_true, decide_eq_true_eq] at h
  have e : ((i.toNat : Nat) : Int) = i := Int.toNat_of_nonneg h0
  rw [e] at h
  exact ⟨h.1.1.1.1, h.1.1.1.2, h.1.1.2, h.1.2, h.2⟩
theorem fallS_ok (b : Bool) : (cs (fallS b)).all okc = true := by cases b <;> decide +kernel
theorem goS_ok (b : Bool) : (cs (goS b)).all okc = true := by cases b <;> decide +kernel
theorem not_mem_ok {w : Str} (h : (cs w).all okc = true) {n : Nat} (hn : okc n = false) : n ∉ cs w := fun z => by
  have := List.all_eq_true.mp h n z
  rw [hn] at this
  cases this
theorem mem_join {sep : Str} {c : Nat} : ∀ {ys : List Str}, c ∈ cs (sep.join ys) → c ∈ cs sep ∨ ∃ y ∈ ys, c ∈ cs y
  | [], h => by
    rw [Str.join.eq_1] at h
    have : cs Str.empty = [] := rfl
    rw [this] at h
    cases h
  | [y], h => by
    rw [Str.join.eq_2] at h
    exact .inr ⟨y, by simp, h⟩
  | y :: z :: r, h => by
    rw [join_two, cs_app, cs_app] at h
    rcases List.mem_append.mp h with h | h
    · rcases List.mem_append.mp h with h | h
      · exact .inr ⟨y, by simp, h⟩
      · exact .inl h
    · rcases mem_join h with h | ⟨y', hy, h⟩
      · exact .inl h
      · exact .inr ⟨y', List.mem_cons_of_mem _ hy, h⟩
theorem join_eq (sep : Str) (ys : List Str) : Txt.join sep ys = sep.join ys := StrLaws.glued_eq_join sep ys
theorem cs_sp : cs " " = [32] := by decide +kernel
theorem cs_semi : cs "; " = [59, 32] := by decide +kernel
theorem cs_bar : cs " | " = [32, 124, 32] := by decide +kernel
theorem cs_empty : cs Str.empty = [] := rfl
def rowWords (r : Rw) : List Str := [intS r.1, fallS r.2.1, intS r.2.2.1, goS r.2.2.2]
theorem rowTx_join (r : Rw) : rowTx r = Txt.join " " (rowWords r) := by
  rw [join_eq]
  apply cs_inj
  unfold rowTx rowWords
  rw [join_two, join_two, join_two, Str.join.eq_2]
  simp only [cs_app, cs_empty, List.nil_append, List.append_assoc]
theorem rowWords_ok {r : Rw} (h : RwOk 48 r) : ∀ w ∈ rowWords r, (cs w).all okc = true := by
  obtain ⟨⟨a0, a1⟩, c0, c1⟩ := h
  intro w hw
  unfold rowWords at hw
  simp only [List.mem_cons, List.not_mem_nil, or_false] at hw
  rcases hw with rfl | rfl | rfl | rfl
  · exact (int_word a0 a1).ok
  · exact fallS_ok _
  · exact (int_word c0 c1).ok
  · exact goS_ok _
theorem split_row {r : Rw} (h : RwOk 48 r) : Txt.split (rowTx r) " " = rowWords r := by
  rw [rowTx_join]
  exact split_join (c0 := 32) (t := []) cs_sp (by decide +kernel) (by unfold rowWords; simp) fun w hw => not_mem_ok (rowWords_ok h w hw) (by decide)
theorem mem_row {r : Rw} (h : RwOk 48 r) {c : Nat} (hc : c ∈ cs (rowTx r)) : c = 32 ∨ okc c = true := by
  rw [rowTx_join, join_eq] at hc
  rcases mem_join hc with hc | ⟨w, hw, hc⟩
  · rw [cs_sp] at hc
    exact .inl (List.mem_singleton.mp hc)
  · exact .inr (List.all_eq_true.mp (rowWords_ok h w hw) c hc)
theorem split_rows {rows : List Rw} (h0 : rows ≠ []) (h : ∀ r ∈ rows, RwOk 48 r) : Txt.split (rowsTx rows) "; " = rows.map rowTx := by
  unfold rowsTx
  refine split_join (c0 := 59) (t := [32]) cs_semi (by decide +kernel) (by simpa using h0) fun y hy => ?_
  obtain ⟨r, hr, rfl⟩ := List.mem_map.mp hy
  intro z
  rcases mem_row (h r hr) z with z | z
  · cases z
  · cases z
theorem mem_rows {rows : List Rw} (h : ∀ r ∈ rows, RwOk 48 r) {c : Nat} (hc : c ∈ cs (rowsTx rows)) : c ≠ 124 := by
  unfold rowsTx at hc
  rw [join_eq] at hc
  rintro rfl
  rcases mem_join hc with hc | ⟨w, hw, hc⟩
  · rw [cs_semi] at hc
    simp at hc
  · obtain ⟨r, hr, rfl⟩ := List.mem_map.mp hw
    rcases mem_row (h r hr) hc with z | z
    · cases z
    · cases z
theorem split_words {starts : List Int} (h0 : starts ≠ []) (h : ∀ s ∈ starts, 0 ≤ s ∧ s < 48) : Txt.split (wordsTx starts) " " = starts.map intS := by
  unfold wordsTx
  refine split_join (c0 := 32) (t := []) cs_sp (by decide +kernel) (by simpa using h0) fun y hy => ?_
  obtain ⟨s, hs, rfl⟩ := List.mem_map.mp hy
  exact not_mem_ok (int_word (h s hs).1 (h s hs).2).ok (by decide)
/-- where the bar stands -/
theorem bar_at {x : Str} {k : Nat} (h : StrLaws.At x " | " x.length k) : (cs x)[k + 1]? = some 124 := by
  have := at_get h (j := 1) (by rw [cs_bar]; decide)
  rw [this, cs_bar]
  rfl
theorem part_plain {rows : List Rw} (h : ∀ r ∈ rows, RwOk 48 r) : Txt.partition (ruleTx rows [0]) " | " = (ruleTx rows [0], Str.empty, Str.empty) := by
  refine partition_no fun k hk => ?_
  have e : cs (ruleTx rows [0]) = cs (rowsTx rows) := by
    unfold ruleTx startsTx
    rw [if_pos rfl, cs_app, cs_app, cs_empty]
    have : cs ("" : Str) = [] := by decide +kernel
    rw [this]
    simp
  have := bar_at hk
  rw [e] at this
  exact mem_rows h (List.mem_of_getElem? this) rfl
theorem plain_eq (rows : List Rw) : ruleTx rows [0] = rowsTx rows := by
  apply cs_inj
  unfold ruleTx startsTx
  rw [if_pos rfl, cs_app, cs_app, cs_empty]
  have : cs ("" : Str) = [] := by decide +kernel
  rw [this]
  simp
theorem part_bar {rows : List Rw} {starts : List Int} (h : ∀ r ∈ rows, RwOk 48 r) (h0 : starts ≠ [0]) : Txt.partition (ruleTx rows starts) " | " = (rowsTx rows, (" | " : Str), wordsTx starts) := by
  have e : cs (ruleTx rows starts) = cs (rowsTx rows) ++ cs " | " ++ cs (wordsTx starts) := by
    unfold ruleTx startsTx
    rw [if_neg h0]
    simp only [cs_app, cs_empty, List.nil_append, List.append_assoc]
  refine partition_at e fun k hk hat => ?_
  have hb := bar_at hat
  rw [e, List.append_assoc] at hb
  rcases Nat.lt_or_ge (k + 1) (cs (rowsTx rows)).length with q | q
  · rw [List.getElem?_append_left q] at hb
    exact mem_rows h (List.mem_of_getElem? hb) rfl
  · have : k + 1 = (cs (rowsTx rows)).length := by omega
    rw [List.getElem?_append_right q, this, Nat.sub_self, cs_bar] at hb
    cases hb
end PA

set_option maxHeartbeats 4000000
/-! a comprehension whose element is a call that may raise: the exception goes on in the def -/
namespace L2
open PySem PySem.Spec PyProof.Rows
/-- an exception that a call within X let out -/
def XC (X : Cx) (E : XK) (u : Value) (s' : Shared) : Prop := ∃ (pins : List (Addr × Obj)) (σ : St) (H : Hp) (s : Shared), Inv X pins σ H s ∧ CX X.prog X.w X.stack H s E u s'
abbrev Cx.blkX (X : Cx) (E : XK) (s : Shared) (H : Hp) (scope : Scope) (cenv : Env) (fp : List Addr) : Cx := (X.blk s H scope cenv fp).wish (XC (X.blk s H scope cenv fp) E)
theorem pass_blk {X : Cx} {E : XK} {s : Shared} {H : Hp} {scope : Scope} {cenv : Env} {fp : List Addr} : Passes (L2.CX X.prog X.w) (X.blkX E s H scope cenv fp) E := fun pins σ H s e s' I c => ⟨pins, σ, H, s, I.unwish, c⟩
/-- only a flight -/
theorem sky_fl {B B0 : Heap} {l : List Env} {a L : Addr} {Z Z0 : Obj → Prop} {h : Heap} (f : HandSPX.FlyingZ B0 l a Z0 h) (x : Sky B l a Z L h) : HandSPX.FlyingZ B l a Z h := by
  obtain ⟨_, _, _, oe, vs, T, oT, ts, he, _, hd, h1, _, _, hT, hdT, h3⟩ := f
  rcases x with ⟨_, _, _, oe', vs', he', _, hd', h1'⟩ | x | ⟨_, _, _, oe', vs', T', oT', ts', he', _, hd', h1', _, _, hT', hdT', h3'⟩
  · rw [he] at he'
    cases he'
    rw [hd] at hd'
    cases hd'
    rw [h1] at h1'
    cases h1'
  · exact x
  · rw [he] at he'
    cases he'
    rw [hd] at hd'
    cases hd'
    rw [h1] at h1'
    cases h1'
    rw [hT] at hT'
    cases hT'
    rw [hdT] at hdT'
    cases hdT'
    rw [h3] at h3'
    cases h3'
theorem comp_err {X : Cx} {E : XK} {pins : List (Addr × Obj)} {σ : St} {H3 : Hp} {s3 : Shared} {scope : Scope} {ce : Env} {fp : List Addr} (tk : Takes X fun cls d _ H => E cls d H) (hs : X.stack = X.env :: X.outer) (hf : X.env.frame = some X.env.locals) (I3 : Inv X pins σ H3 s3) (cL : ce.locals = s3.heap.objs.size) (hcf : ce.frame = X.env.frame)
    (ff : ∀ b ∈ fp, (b ∈ X.ex ∨ X.s_0.heap.objs.size ≤ b) ∧ b ≠ X.env.locals ∧ (∀ x c, X.env.cells.lookup x = some c → c ≠ b) ∧ ∀ p ∈ X.pn ++ pins, p.1 ≠ b) {u : Value} {s' : Shared} (c : XC (X.blk s3 H3 scope ce fp) E u s') :
    notedBy (model X.prog X.w) X.A ce (CompFails (model X.prog X.w) X.A X.xe ce) u s' := by
  obtain ⟨pins', σ', H', sc, I, c⟩ := c
  obtain ⟨a0, B0, _, _, _, e0, fl0, _⟩ := id c
  obtain ⟨a, B, sI, pins2, σ2, H2, cls, d, ea, I2, nb, up, sky, na, os, ag, w⟩ := XE.of_call (W := fun cls d _ H => E cls d H) I (fun _ _ _ h => h) c
  subst e0
  cases ea
  have fl := sky_fl fl0 sky
  have fl : HandSPX.FlyingZ B (X.env :: X.outer) a0 (Zc cls d) s'.heap := by rw [← hs]; exact fl
  have nb : ∀ b o, sI.heap.get? b = some o → b ∉ frs X.stack → B.get? b = some o := nb
  show wpAny _ _ (noteFrame (.ref a0) ce) _ _ s'
  rw [noteFrame_env _ hcf]
  refine HandSPX.looks_onZ Zc.steady (by rw [I3.ok.frames, hs]) hf fl fun h1 hH up1 => ?_
  obtain ⟨m, hm, _⟩ := I2.loc
  have hm : sI.heap.Ns ce.locals m := hm
  have hn1 : h1.Ns ce.locals m := up1.ns (up.ns hm)
  obtain ⟨oL, es, ep, hoL, hdL, _⟩ := id hn1
  refine ⟨m, hn1, fun h' m' hn' hsb => ?_⟩
  obtain ⟨b1, b0, f1, t1⟩ := hH
  obtain ⟨oe, vs, T, oT, ts, he, hz, hd, hv1, hnT, hTe, hT, hdT, h3⟩ := t1
  have aC : a0 ≠ ce.locals := by
    rintro rfl
    rw [he] at hoL
    cases hoL
    rw [hd] at hdL
    cases hdL
  have TC' : T ≠ ce.locals := by
    rintro rfl
    rw [hT] at hoL
    cases hoL
    rw [hdT] at hdL
    cases hdL
  have hid : ∀ {h : Heap} {b : Addr}, h.get? b = none → (PySem.W.hideAll h [ce.locals]).get? b = none := fun {h b} e => by
    cases q : (PySem.W.hideAll h [ce.locals]).get? b with
    | none => rfl
    | some o =>
      have z := PySem.W.of_hideAll _ q
      rw [e] at z
      cases z
  have ne' : ∀ {h : Heap} {b : Addr} {o : Obj}, (PySem.W.hideAll h [ce.locals]).get? b = some o → b ≠ ce.locals := fun {h b o} e z => by
    rw [z, PySem.W.hideAll_none _ (by simp)] at e
    cases e
  have st' : (PySem.W.hideAll B [ce.locals]).StaysIn h' := fun b o e => (hsb.2 b (ne' e)).trans (b1 b o (PySem.W.of_hideAll _ e))
  have ff' : h'.FunFrames (PySem.W.hideAll B [ce.locals]) (X.env :: X.outer) := Heap.FunFrames.sameBut hsb hn' (funFrames_none f1 fun L hL => hid (f1.mem hL).1)
  have t2 : HandSPX.TracedZ h' (PySem.W.hideAll B [ce.locals]) a0 (Zc cls d) (rawInt X.env.locals) := ⟨oe, vs, T, oT, ts, (hsb.2 _ aC).trans he, hz, hd, hv1, hid hnT, hTe, (hsb.2 _ TC').trans hT, hdT, h3⟩
  unfold PySem.passOn
  refine wpAny_bind (wpAny_field ((hsb.2 _ aC).trans he) hd hv1 ?_)
  rw [if_neg (show ¬ ((Value.ref T == Value.none) = true) from by simp)]
  rw [hcf, hf]
  refine wpAny_bind (HandSPX.setFlight_onZ ⟨st', hid b0, ff', t2⟩ fun h2 hH2 up2 => ?_)
  refine wpAny_throw ?_
  refine tk _ _ ⟨a0, PySem.W.hideAll B [ce.locals], { sI with heap := PySem.W.hideAll sI.heap [ce.locals] }, pins, σ, H2, cls, d, rfl, ?_, fun b o e hb => ?_, fun b o e hnf => ?_, .inr (.inr (by rw [hs]; exact hH2)), na, os, ag, w⟩
  · have base : Un (frs X.stack) fp H3 H2 s3.heap sI.heap := I2.base
    have low : ∀ {b : Addr} {o : Obj}, s3.heap.get? b = some o → b ∉ [ce.locals] := fun {b o} e z => by
      have := Heap.lt_size e
      rw [List.mem_singleton.mp z, cL] at this
      exact absurd this (Nat.lt_irrefl _)
    have free : H2 ce.locals = none := I2.free
    refine I3.call' (ch := fp) I2.os ⟨fun b o e n h1 h2 => PySem.W.hideAll_get _ (base.keep b o e n h1 h2) (low e), fun b o e n h1 h2 => ?_, base.free, fun b o e h2 => ?_, base.tups, base.frzs, base.tbls⟩ (fun b o e => ?_) I2.bare ff
    · obtain ⟨sl, q⟩ := base.slot b o e n h1 h2
      exact ⟨sl, PySem.W.hideAll_get _ q (low e)⟩
    · obtain ⟨o', q⟩ := base.there b o e h2
      exact ⟨o', PySem.W.hideAll_get _ q (low e)⟩
    · refine (I2.hok b o e).stay (fun c v hc r => PySem.W.hideAll_get _ r fun z => ?_) (fun _ q => q) fun _ _ q => q
      have z := List.mem_singleton.mp z
      subst z
      rcases hc with hc | hc
      · rw [← hc, free] at e
        cases e
      · rw [free] at hc
        cases hc
  · have e' := PySem.W.of_hideAll _ e
    exact PySem.W.hideAll_get _ (nb b o e' hb) fun z => ne' e (List.mem_singleton.mp z)
  · have e' := PySem.W.of_hideAll _ e
    obtain ⟨sl, q1⟩ := up b o e' hnf
    obtain ⟨sl1, q2⟩ := up1 b _ q1 hnf
    obtain ⟨sl2, q3⟩ := up2 b _ ((hsb.2 b (ne' e)).trans q2) hnf
    exact ⟨sl2, q3⟩
/-- [elt for tg in iter if ..], elt may raise -/
theorem pe_lcX {X : Cx} {E : XK} {elt tg iter : Expr} {ifs : List Expr} {scope : Scope} {own : List (Str × Nat)} {pos : Pos} {wi : TI} {g : TG} {tt : TT} {te : TE} (tk : Takes X fun cls d _ H => E cls d H) (hst : X.stack = X.env :: X.outer) (hf : X.env.frame = some X.env.locals)
    (hc : X.calm = true) (hN : X.N.Nodup) (hi : PI X tg iter wi) (ok : BlkOk X.N X.env.scope scope own)
    (hg : ∀ (s : Shared) (H : Hp) (C : Addr) (cl : List (Str × Addr)) (fp : List Addr), PG (X.blk s H scope (compEnvC scope cl C X.env) fp) tg g) (ht : ∀ (s : Shared) (H : Hp) (C : Addr) (cl : List (Str × Addr)) (fp : List Addr), PTs (X.blk s H scope (compEnvC scope cl C X.env) fp) ifs tt)
    (he : ∀ (s : Shared) (H : Hp) (C : Addr) (cl : List (Str × Addr)) (fp : List Addr), PE (X.blkX E s H scope (compEnvC scope cl C X.env) fp) elt te) (hs : ∀ x, foldedSetIterable iter X.env x = pure x := by intro _; rfl) :
    PE X (.ListComp elt [⟨tg, iter, ifs, 0⟩] scope pos) (tLc wi g tt te (own.map (·.2))) := by
  refine ⟨fun pins s σ H Q I h => ?_⟩
  rw [eval_ListComp]
  have hfree : ∀ y ∈ scope.names, y.2 = .free → ∃ c, X.env.cells.lookup y.1 = some c := fun y hy e => by
    rcases ok.free y hy e with k | k
    · exact I.ok.has _ (.inl k)
    · exact I.ok.has _ (.inr k)
  refine comprehension_at (use := none) rfl hs (closure_ok hfree) ok.kind (fun y hy e => by rw [ok.uniq y hy, e]) (thn (hi.run pins s σ H _ I h) fun xv s1 hx => thn hx fun itv s2 h2 => ?_)
  obtain ⟨it, fp, tn, J, H2, e, I2, T, st2, f2, q⟩ := h2
  subst e
  refine wpAny_newObj_type (newEnv_comp ?_) (by show 0 ≤ sizeLine; decide)
  obtain ⟨D, hD⟩ : ∃ D, s2.heap.objs.size = D := ⟨_, rfl⟩
  obtain ⟨W, ⟨m0, w0⟩, turn⟩ := q D (I2.hok.fresh (Nat.le_of_eq hD))
  obtain ⟨s3, hs3⟩ : ∃ s3 : Shared, s3 = { s2 with heap := s2.heap.push { cls := .type "list", data := .seq ([] : List Value).toArray } } := ⟨_, rfl⟩
  have h3 : s3.heap = s2.heap.push { cls := .type "list", data := .seq ([] : List Value).toArray } := by rw [hs3]
  obtain ⟨H3, hH3⟩ : ∃ H3, H3 = upd H2 D (.lst []) := ⟨_, rfl⟩
  have I3 : Inv X pins σ H3 s3 := by
    rw [hs3, hH3]
    refine I2.laid (t' := s2.toks) (fun b o e => Heap.get?_push_of_some _ e) (Nat.le_of_eq hD) ⟨Nat.zero_le _, [], 0, .nil, ?_⟩
    rw [← hD]
    exact Heap.get?_push_size _ rfl
  have f3 : ∀ b ∈ fp, FpOk X pins H3 b ∧ b < s3.heap.objs.size := fun b hb => by
    obtain ⟨o, e, _⟩ := T.obj _ _ st2 b hb
    have hlt := Heap.lt_size e
    refine ⟨⟨?_, (f2 b hb).2⟩, by rw [h3, Heap.size_push]; exact Nat.lt_succ_of_lt hlt⟩
    rw [hH3, upd_ne (by rw [← hD]; exact Nat.ne_of_lt hlt)]
    exact (f2 b hb).1
  have st3 : tn 0 s3.heap := T.keep _ _ _ st2 fun b _ o e => by rw [h3]; exact Heap.get?_push_of_some _ e
  obtain ⟨ce, hce⟩ : ∃ ce, ce = compEnvC scope (cellsFrom (s3.heap.objs.size + 1) scope.names (cloFrom X.env.cells scope.names [])) s3.heap.objs.size X.env := ⟨_, rfl⟩
  have cL : ce.locals = s3.heap.objs.size := by rw [hce]; rfl
  have hcf : ce.frame = X.env.frame := by rw [hce]; rfl
  have I4 := block_start I3 ok hN f3
  have pg := hg s3 H3 s3.heap.objs.size (cellsFrom (s3.heap.objs.size + 1) scope.names (cloFrom X.env.cells scope.names [])) fp
  have pt := ht s3 H3 s3.heap.objs.size (cellsFrom (s3.heap.objs.size + 1) scope.names (cloFrom X.env.cells scope.names [])) fp
  have pe := he s3 H3 s3.heap.objs.size (cellsFrom (s3.heap.objs.size + 1) scope.names (cloFrom X.env.cells scope.names [])) fp
  rw [← hce] at I4 pg pt pe
  rw [← hH3] at w0
  obtain ⟨s4, hs4⟩ : ∃ s4 : Shared, s4 = { s3 with heap := pushCells (s3.heap.push { cls := .type "dict", data := .dict #[] }) scope.names } := ⟨_, rfl⟩
  rw [← hs4] at I4
  have ff : ∀ b ∈ fp, (b ∈ X.ex ∨ X.s_0.heap.objs.size ≤ b) ∧ b ≠ X.env.locals ∧ (∀ x c, X.env.cells.lookup x = some c → c ≠ b) ∧ ∀ p ∈ X.pn ++ pins, p.1 ≠ b := fun b hb => ⟨(f3 b hb).1.2.2.2.1, (f3 b hb).1.2.1, (f3 b hb).1.2.2.2.2.1, (f3 b hb).1.2.2.2.2.2⟩
  have st4 : tn 0 s4.heap := T.keep _ _ _ st3 fun b _ o e => by rw [hs4]; exact pushCells_keeps _ _ _ _ (Heap.get?_push_of_some _ e)
  have nfp : ∀ b ∈ fp, H3 b = none := fun b hb => (f3 b hb).1.1
  have stat : ∀ {σ' : St} {H' : Hp} {s' : Shared}, Inv (X.blk s3 H3 scope ce fp) [] σ' H' s' → (∀ b ∈ fp, H' b = none) → ∀ b ∈ fp, FpOk (X.blk s3 H3 scope ce fp) [] H' b := fun {σ' H' s'} I' hn b hb =>
    ⟨hn b hb, (I'.ok.exf b hb).1, I'.ok.exfs b hb, .inl hb, fun x c e => (I'.ok.exf b hb).2 x c e, fun p hp => absurd (show p ∈ ([] : List (Addr × Obj)) ++ [] from hp) (by simp)⟩
  have loop : codeAny (model X.prog X.w) X.A (.compLoop (.ListComp elt [⟨tg, iter, ifs, 0⟩] scope pos) 0 (.ref it) (.ref D) ce) (compEnds (model X.prog X.w) X.A X.xe none (EP X pins σ Q) (.ref D) ce) s4 := by
    refine compLoop_any (fun n s' => ∃ i H', Inv (X.blk s3 H3 scope ce fp) [] (wipe σ (own.map (·.2))) H' s' ∧ tn i s'.heap ∧ (∀ b ∈ fp, H' b = none) ∧ W i n H') ?_ m0 ⟨0, H3, I4, st4, nfp, w0⟩
    rintro n s5 ⟨i, H5, I5, st5, n5, w5⟩
    rcases turn i n H5 w5 with ⟨stop, qq⟩ | ⟨go, Nx, hNx, step⟩
    · refine thnF (T.done (X.blk s3 H3 scope ce fp) rfl rfl rfl hc i [] s5 _ H5 (fun _ _ => False) I5 (stat I5 n5) st5 stop) fun r s6 ⟨hr, I6⟩ => ?_
      subst hr
      have I7 : Inv X pins σ H5 s6 := I3.call' (ch := fp) I6.os I6.base I6.hok I6.bare ff
      have nC : H5 s3.heap.objs.size = none := by
        rw [← cL]
        exact I6.free
      obtain ⟨m, hn, _⟩ := I6.loc
      refine ⟨m, hn, fun h'' sb => ?_⟩
      obtain ⟨f0, f1, f2', f3', f4, f5⟩ := I3.fpOk (Nat.le_refl _) nC
      have sb : Heap.SameBut s3.heap.objs.size s6.heap h'' := by rw [← cL]; exact sb
      exact ⟨.ref D, H5, I7.turned (t' := s6.toks) (fun b o hb e => (sb.2 b hb).trans e) f0 f1 f3' f4 f5, rfl, qq⟩
    · refine thnF (T.item (X.blk s3 H3 scope ce fp) rfl rfl rfl hc i [] s5 _ H5 (fun _ _ => False) I5 (stat I5 n5) st5 go) fun r s6 ⟨u, hr, h6⟩ => ?_
      subst hr
      refine thnF h6 fun _ s7 ⟨x, H7, I7, r7, y7, st7, n7⟩ => ?_
      have I7' := I7.pinned (stat I7 n7) (T.obj _ _ st7)
      refine thnF (pg.run _ s7 _ H7 x u _ I7' r7 (step x H7 y7)) fun _ s8 ⟨σ8, H8, I8, hw8, q8⟩ => ?_
      refine thnF (pt.run _ s8 σ8 H8 _ I8 q8) fun b s9 ⟨H9, I9, q9⟩ => ?_
      have fin : ∀ {s' : Shared} {H' : Hp}, Inv (X.blk s3 H3 scope ce fp) ([] ++ pinsAt fp s7.heap) σ8 H' s' → Nx H' → ∃ m, m < n ∧ ∃ i H', Inv (X.blk s3 H3 scope ce fp) [] (wipe σ (own.map (·.2))) H' s' ∧ tn i s'.heap ∧ (∀ b ∈ fp, H' b = none) ∧ W i m H' := fun {s' H'} I' nx => by
        obtain ⟨m', hm, w'⟩ := hNx H' nx
        have pin' : ∀ b ∈ fp, ∀ o, s7.heap.get? b = some o → s'.heap.get? b = some o ∧ H' b = none := fun b hb o e =>
          let z := I'.pin (b, o) (List.mem_append_right _ (List.mem_append_right _ (mem_pinsAt hb e)))
          ⟨z.1, z.2.1⟩
        have hl : (wipe σ (own.map (·.2))).length = σ8.length := by rw [← hw8, wipe_length]
        refine ⟨m', hm, i + 1, H', (I'.unpinned (pins := [])).weak hl (fun j v e => ?_), T.keep _ _ _ st7 fun b hb o e => (pin' b hb o e).1, fun b hb => ?_, w'⟩
        · rw [← hw8] at e
          exact (wipe_some e).1
        · obtain ⟨o, e, _⟩ := T.obj _ _ st7 b hb
          exact (pin' b hb o e).2
      cases b with
      | false =>
        simp only [Bool.false_eq_true, if_false] at q9 ⊢
        exact fin I9 q9
      | true =>
        simp only [if_true] at q9 ⊢
        refine wpAny_mono (pe.run _ s9 σ8 H9 _ (I9.wish _) q9) (fun z s10 hz => ?_) fun u s' c => comp_err tk hst hf I3 cL hcf ff c
        obtain ⟨yv, H10, I10, r10, acc, hD10, hz10, nx⟩ := hz
        exact app_ok (X := X.blk s3 H3 scope ce fp) I10.unwish hD10 hz10 r10 fun s11 I11 => fin I11 nx
  rw [hs4, hs3, hce, hs3] at loop
  rw [← hD] at loop
  exact codeAny_compStart_list loop (T.self X.A 0 _ _ _ (by rw [hs4, hs3] at st4; exact st4) loop)
end L2

set_option maxHeartbeats 8000000
namespace PA
open PySem L2 RZ TS
open C8 (pss_cut tCut)
def evO : Option Nat → V
  | none => .non
  | some n => .int (n : Int)
theorem cell_evO {H : Hp} (o : Option Nat) : Cell H (evO o) := by
  cases o with
  | none => exact .non
  | some n => exact .int _
/-- a word looked up -/
def wOf (y x : Str) : V := if x = y then .bl true else if x = "stay" then .bl false else .non
theorem cell_wOf {H : Hp} (y x : Str) : Cell H (wOf y x) := by
  unfold wOf
  split
  · exact .bl _
  · split
    · exact .bl _
    · exact .non
theorem kget_words {K : PySem.W.Frag} {w : World} {d : Addr} {y : Str} {h1 h2 : Int} {t1 t2 : Tok} {n : Nat} (l : K.lookup d = some { cls := .type "dict", data := .dict #[⟨h1, .str y t1, .bool true⟩, ⟨h2, .str "stay" t2, .bool false⟩] n })
    (k : PySem.W.KeysLit w.params (#[⟨h1, .str y t1, .bool true⟩, ⟨h2, .str "stay" t2, .bool false⟩] : Array DictEntry).toList) (lo : (d == sysModules) = false) (x : Str) : KGet K w d x (wOf y x) := by
  have hn : PySem.W.nsIn K d x = some (if x = y then some (.bool true) else if x = "stay" then some (.bool false) else none) := by
    unfold PySem.W.nsIn
    rw [l]
    show (match ([⟨h1, .str y t1, .bool true⟩, ⟨h2, .str "stay" t2, .bool false⟩] : List DictEntry).find? (·.key.isStr x) with
      | some e => some (some e.val)
      | none => if ([⟨h1, .str y t1, .bool true⟩, ⟨h2, .str "stay" t2, .bool false⟩] : List DictEntry).any (·.refKey) then none else some none) = _
    by_cases e1 : x = y
    · rw [if_pos e1, List.find?_cons_of_pos (by show (y == x) = true; rw [e1]; simp)]
    · rw [if_neg e1, List.find?_cons_of_neg (by show ¬ (y == x) = true; simp; exact fun z => e1 z.symm)]
      by_cases e2 : x = "stay"
      · rw [if_pos e2, List.find?_cons_of_pos (by show (("stay" : Str) == x) = true; rw [e2]; simp)]
      · rw [if_neg e2, List.find?_cons_of_neg (by show ¬ (("stay" : Str) == x) = true; simp; exact fun z => e2 z.symm)]
        rfl
  refine ⟨_, n, _, l, k, lo, hn, ?_⟩
  unfold wOf
  split
  · exact rfl
  · split
    · exact rfl
    · exact rfl
structure TxtW (K : PySem.W.Frag) (w : World) (mg : Str → Option Value) : Prop where
  fl : ∃ d, mg "FALLS_OF_WORD" = some (.ref d) ∧ ∀ x, KGet K w d x (wOf "fall" x)
  go : ∃ d, mg "GOES_OF_WORD" = some (.ref d) ∧ ∀ x, KGet K w d x (wOf "go" x)
def rowC (w0 w1 w2 w3 : Str) : List V := [evO (rdW w0), wOf "fall" w1, evO (rdW w2), wOf "go" w3]
/-- the cells that a piece of a text is read as -/
def cellsOf (p : Str) : List V := match PySem.Txt.split p " " with
  | [w0, w1, w2, w3] => rowC w0 w1 w2 w3
  | _ => []
/-- the cells of the starts -/
def stC (bar tail : Str) : List V := if bar = Str.empty then [.int 0] else (PySem.Txt.split tail " ").map fun w => evO (rdW w)
theorem rd_int {i : Int} (h0 : 0 ≤ i) (h1 : i < 48) : evO (rdW (intS i)) = .int i := by
  have e : ((i.toNat : Nat) : Int) = i := Int.toNat_of_nonneg h0
  have e2 : intS i = numS i.toNat := by unfold intS numS; rw [e]
  rw [e2, TR.rd_num (by omega)]
  show V.int ((i.toNat : Nat) : Int) = _
  rw [e]
theorem wf_fall (b : Bool) : wOf "fall" (fallS b) = .bl b := by cases b <;> decide +kernel
theorem wf_go (b : Bool) : wOf "go" (goS b) = .bl b := by cases b <;> decide +kernel
theorem cells_row {r : Rw} (h : RwOk 48 r) : cellsOf (rowTx r) = rv r := by
  unfold cellsOf
  rw [split_row h]
  show [evO (rdW (intS r.1)), wOf "fall" (fallS r.2.1), evO (rdW (intS r.2.2.1)), wOf "go" (goS r.2.2.2)] = _
  rw [rd_int h.1.1 h.1.2, rd_int h.2.1 h.2.2, wf_fall, wf_go]
  rfl
def IsTxt (t : Str) : Prop := ∃ rows starts k, Good rows starts k ∧ t = ruleTx rows starts
theorem root_le {i k : Int} (h : Root i k) : i ≤ 16 := by cases h <;> decide
theorem gd48 {rows : List Rw} {starts : List Int} {k : Int} (g : Good rows starts k) : (∀ r ∈ rows, RwOk 48 r) ∧ (∀ s ∈ starts, 0 ≤ s ∧ s < 48) ∧ starts.length ≤ 16 ∧ starts ≠ [] ∧ rows ≠ [] := by
  have h48 := g.most
  have h1 := g.one
  have r16 := root_le g.root
  refine ⟨fun r hr => ?_, fun s hs => ?_, by omega, ?_, ?_⟩
  · obtain ⟨⟨a0, a1⟩, c0, c1⟩ := g.ok r hr
    exact ⟨⟨a0, by omega⟩, c0, by omega⟩
  · have := g.st s hs
    omega
  · rintro rfl
    have := g.root
    cases this
  · rintro rfl
    exact absurd h1 (by decide)
theorem cells_good {rows : List Rw} {starts : List Int} {k : Int} (g : Good rows starts k) {body bar tail : Str} (hp : PySem.Txt.partition (ruleTx rows starts) " | " = (body, bar, tail)) :
    (PySem.Txt.split body "; ").map cellsOf = rows.map rv ∧ stC bar tail = starts.map V.int ∧ ∀ pc ∈ PySem.Txt.split body "; ", (PySem.Txt.split pc " ").length = 4 := by
  obtain ⟨h1, h2, h3, h4, h5⟩ := gd48 g
  have key : body = rowsTx rows ∧ stC bar tail = starts.map V.int := by
    by_cases hz : starts = [0]
    · rw [hz, part_plain h1, plain_eq] at hp
      cases hp
      exact ⟨rfl, by rw [hz]; rfl⟩
    · rw [part_bar h1 hz] at hp
      cases hp
      refine ⟨rfl, ?_⟩
      unfold stC
      rw [if_neg (by decide +kernel), split_words h4 h2, List.map_map]
      exact List.map_congr_left fun s hs => rd_int (h2 s hs).1 (h2 s hs).2
  obtain ⟨e1, e2⟩ := key
  subst e1
  rw [split_rows h5 h1]
  refine ⟨?_, e2, fun pc hpc => ?_⟩
  · rw [List.map_map]
    exact List.map_congr_left fun r hr => cells_row (h1 r hr)
  · obtain ⟨r, hr, rfl⟩ := List.mem_map.mp hpc
    rw [split_row (h1 r hr)]
    rfl
theorem tab_good {rows : List Rw} {starts : List Int} {k : Int} (g : Good rows starts k) : tabOk (rows.map rv) (starts.map V.int) = true := by
  have bel : ∀ {n : Nat} {i : Int}, 0 ≤ i → i < (n : Int) → below n (.int i) = true := fun {n i} h h' => by
    show (decide (0 ≤ i) && decide (i < (n : Int))) = true
    rw [decide_eq_true h, decide_eq_true h']
    rfl
  unfold tabOk
  rw [List.length_map, List.length_map, decide_eq_true g.one, decide_eq_true g.most]
  have r1 : ((rows.map rv).all (rowOk rows.length)) = true := by
    rw [List.all_eq_true]
    intro x hx
    obtain ⟨r, hr, rfl⟩ := List.mem_map.mp hx
    obtain ⟨⟨a0, a1⟩, c0, c1⟩ := g.ok r hr
    show (below rows.length (.int r.1) && below rows.length (.int r.2.2.1) && (isB (.bl r.2.1) && isB (.bl r.2.2.2))) = true
    rw [bel a0 a1, bel c0 c1]
    rfl
  have r2 : isRt (starts.length : Int) = true := by
    have := g.root
    generalize (starts.length : Int) = z at this ⊢
    cases this <;> rfl
  have r3 : ((starts.map V.int).all (below rows.length)) = true := by
    rw [List.all_eq_true]
    intro x hx
    obtain ⟨s, hs, rfl⟩ := List.mem_map.mp hx
    exact bel (g.st s hs).1 (g.st s hs).2
  rw [r1, r2, r3]
  rfl
theorem rv_inj {r r' : Rw} (h : rv r = rv r') : r = r' := by
  unfold rv at h
  simp only [List.cons.injEq, and_true, V.int.injEq, V.bl.injEq] at h
  exact Prod.ext h.1 (Prod.ext h.2.1 (Prod.ext h.2.2.1 h.2.2.2))
theorem rows_inj {rs rs' : List Rw} (h : rs.map rv = rs'.map rv) : rs = rs' := TS.map_inj_on (fun x _ y _ e => rv_inj e) h
theorem ints_inj {ss ss' : List Int} (h : ss.map V.int = ss'.map V.int) : ss = ss' := TS.map_inj_on (fun x _ y _ e => by injection e) h
def spReadSt : Sp := fun vs H Q _ => ∃ w : Str, vs = [.str w] ∧ w.length ≤ 9000 ∧ Q (evO (rdW w)) H
def spReadRow (X : Addr) : Sp := fun vs H Q E => ∃ p : Str, vs = [.str p] ∧ p.length ≤ 8000 ∧ (∀ w0 w1 w2 w3, PySem.Txt.split p " " = [w0, w1, w2, w3] → ∀ t H', Same H H' → H t = none → H' t = some (.tup (rowC w0 w1 w2 w3)) → Q (.ref t) H') ∧
  ((PySem.Txt.split p " ").length ≠ 4 → ∀ H', Same H H' → E (.ref X) none H')
def spRead (K : PySem.W.Frag) (C X : Addr) : Sp := fun vs H Q E => ∃ t : Str, vs = [.str t] ∧ t.length ≤ 8000 ∧ (∀ rows starts k, Good rows starts k → t = ruleTx rows starts → ∀ p H', Same H H' → H p = none → RuleAt K C H' p rows starts k → Q (.ref p) H') ∧ (¬ IsTxt t → ∀ H', Same H H' → E (.ref X) none H')
/-- a Rule is made, or refused -/
theorem mk_rule {K : PySem.W.Frag} {C X : Addr} {H : Hp} {Q : VK} {E : XK} {G S : Addr} {refs starts : List V} {rows : List (List V)} (hG : H G = some (.lst refs) ∨ H G = some (.tup refs)) (hE : Ea H TLc refs rows) (hS : H S = some (.lst starts) ∨ SqT K H S starts) (hl : rows.length ≤ 9000) (hl2 : starts.length ≤ 9000)
    (hc : ∀ r ∈ rows, ∀ x ∈ r, Cell H x) (hc2 : ∀ x ∈ starts, Cell H x) {x dx : Addr} (nx : H x = none) (ndx : H dx = none) (nex : dx ≠ x)
    (kg : ∀ rs ss k, rows = rs.map rv → starts = ss.map V.int → Good rs ss k → ∀ H', Same H H' → RuleAt K C H' x rs ss k → Q .non H') (kb : tabOk rows starts = false → ∀ H', Same H H' → E (.ref X) none H') : spInit K C X [V.ref x, V.ref G, V.ref S] (upd (upd H dx (.own x)) x (.ins C dx [])) Q E := by
  have s1 : Same H (upd (upd H dx (.own x)) x (.ins C dx [])) := fun c o e => by
    rw [upd_ne (ne_of_none e nx), upd_ne (ne_of_none e ndx)]
    exact e
  refine ⟨x, dx, G, S, refs, rows, starts, rfl, upd_same, hG.imp (fun q => s1 _ _ q) (fun q => s1 _ _ q), hE.imp fun c r q => q.imp (fun q => s1 _ _ q) (fun q => s1 _ _ q), hS.imp (fun q => s1 _ _ q) (fun q => SqT.up q s1), hl, hl2,
    fun r hr v hv => (hc r hr v hv).kin (Kin.same s1), fun v hv => (hc2 v hv).kin (Kin.same s1), fun rs ss k H' e1 e2 g r kp => kg rs ss k e1 e2 g H' (fun c o e => kp c o (s1 _ _ e) (ne_of_none e nx)) r, fun bad H' kp => kb bad H' fun c o e => kp c o (s1 _ _ e) (ne_of_none e nx)⟩
section
variable {P : Program} {w : World} {K : PySem.W.Frag} {mg : Str → Option Value} {base : Heap} {C X PE_ : Addr}
theorem scReadSt : FnScope ["word"] ["word"] (defScope sReadSt) := ⟨rfl, rfl, rfl, by decide +kernel, rfl, by decide +kernel, by decide +kernel⟩
theorem ok_readSt {f : Addr} {fd : FuncData} (F : Fun K "read_state" "read_state" sReadSt f fd) (T : Txt K mg C) : FnOk P w K mg base CX0 1 f fd ["word"] spReadSt := by
  refine F.ok scReadSt (fun vs H Q E h => ?_) (fun cdv A outer s H vs Q E hr h => ?_)
  · obtain ⟨v, rfl, _⟩ := h
    rfl
  · obtain ⟨v, rfl, hl, k⟩ := h
    refine ⟨_, pss_cons (ps_if (PW.pt (pw_or (pt_cmpR op_gt (pe_callB call_len_str (by rfl) T.len_ PySem.boot_len (pa_cons (pv 0) pa_nil)) pe_int (nomark _))
        (pw_or (pt_not (pt_val (pe_bm0 PySem.F.plainAttrs_str PySem.F.slot_str_isascii PySem.F.type_str_isascii mt_isascii (pv 0)))) (pw_or1 (pt_not (pt_val (pe_bm0 PySem.F.plainAttrs_str PySem.F.slot_str_isdigit PySem.F.type_str_isdigit mt_isdigit (pv 0)))))))) (pss_one (ps_ret pe_non)) pss_nil)
      (pss_one (ps_ret (pe_callTy call_int_str (by rfl) T.int_ boot_int' (pa_cons (pv 0) pa_nil)))), ?_⟩
    refine ⟨_, rfl, v, rfl, Nat.le_trans hl (by decide), _, _, rfl, rfl, _, rfl, ifD_2 (fun h2 => iteT ?_) (fun h2 => ?_)⟩
    · rw [TS.rdW_none (fun z => by have := z.1; omega)] at k
      exact k
    have h2' : v.length ≤ 2 := by omega
    refine ⟨_, rfl, rfl, v, rfl, rfl, trivial, _, rfl, ?_⟩
    cases ha : PySem.Txt.isascii v with
    | false =>
      rw [TS.rdW_none (fun z => by rw [ha] at z; exact absurd z.2.1 (by decide))] at k
      exact iteT k
    | true =>
      refine iteF ⟨_, rfl, rfl, v, rfl, rfl, trivial, _, rfl, ?_⟩
      cases hd : PySem.Txt.isdigit v with
      | false =>
        rw [TS.rdW_none (fun z => by rw [hd] at z; exact absurd z.2.2 (by decide))] at k
        exact iteT k
      | true =>
        obtain ⟨n, e1, e2⟩ := TS.rdW_some h2' ha hd
        rw [e1] at k
        exact iteF ⟨_, rfl, v, (n : Int), rfl, e2, Nat.le_trans h2' (by decide), k⟩
theorem scReadRow : FnScope ["piece", "words", "falls", "goes"] ["piece"] (defScope sReadRow) := ⟨rfl, rfl, rfl, by decide +kernel, rfl, by decide +kernel, by decide +kernel⟩
theorem ok_readRow {f g : Addr} {fd gd : FuncData} (F : Fun K "_read_row" "_read_row" sReadRow f fd) (T : Txt K mg C) (TX : TxtX K mg X PE_) (TW : TxtW K w mg) (D : Df K mg "read_state" sReadSt g gd ["word"]) : FnOk P w K mg base (L2.CX P w) 2 f fd ["piece"] (spReadRow X) := by
  have G : FnOk P w K mg base CX0 1 g gd ["word"] spReadSt := ok_readSt D.F T
  obtain ⟨df, hdf, hfl⟩ := TW.fl
  obtain ⟨dg, hdg, hgo⟩ := TW.go
  refine F.okX scReadRow (fun vs H Q E h => ?_) (fun cdv A outer s H vs Q E hr h => ?_)
  · obtain ⟨r, rfl, _⟩ := h
    rfl
  · obtain ⟨p, rfl, hl, kg, kb⟩ := h
    refine ⟨_, pss_cons (ps_set (i := 1) scReadRow.nd rfl (Or.inl rfl) (pe_bm PySem.F.plainAttrs_str PySem.F.slot_str_split PySem.F.type_str_split mt_split (pv 0) (pa_cons pe_str pa_nil)))
      (pss_cons (ps_if (pt_cmpR op_ne (pe_callB call_len_seq (by rfl) T.len_ PySem.boot_len (pa_cons (pv 1) pa_nil)) pe_int (nomark _)) (pss_one (ps_raise rfl (takes_of rfl rfl rfl rfl) (pmk_own PySem.F.excBase_ValueError TX.x TX.g TX.k (raises_own TX.b TX.t) (by rfl)))) pss_nil)
      (pss_cons (ps_set (i := 2) scReadRow.nd rfl (Or.inl rfl) (pe_kget (pe_glob (v := .ref df) rfl hdf rfl) (pe_ix ix_list (pv 1) pe_int (fun _ _ => rfl))))
      (pss_cons (ps_set (i := 3) scReadRow.nd rfl (Or.inl rfl) (pe_kget (pe_glob (v := .ref dg) rfl hdg rfl) (pe_ix ix_list (pv 1) pe_int (fun _ _ => rfl))))
      (pss_one (ps_ret (pe_tup (pa_cons (pe_call G hr rfl D.M D.F.kp D.B .nil pass0 (pa_cons (pe_ix ix_list (pv 1) pe_int (fun _ _ => rfl)) pa_nil)) (pa_cons (pv 2) (pa_cons (pe_call G hr rfl D.M D.F.kp D.B .nil pass0 (pa_cons (pe_ix ix_list (pv 1) pe_int (fun _ _ => rfl)) pa_nil)) (pa_cons (pv 3) pa_nil)))))))))), ?_⟩
    have hws := TS.split_len p " " (by decide +kernel)
    have hpl : ∀ w ∈ PySem.Txt.split p " ", w.length ≤ 9000 := fun w hw => Nat.le_trans (TS.part_len hw) (by omega)
    refine ⟨_, rfl, rfl, _, _, rfl, rfl, by decide +kernel, Nat.le_trans (Nat.add_le_add_right hl 2) (by decide), fun u hu => ?_⟩
    generalize PySem.Txt.split p " " = ws at hws hpl kg kb ⊢
    have su := new_ (o := .lst (ws.map V.str)) hu
    have huu : (upd H u (.lst (ws.map V.str))) u = some (.lst (ws.map V.str)) := upd_same
    generalize (upd H u (.lst (ws.map V.str))) = H1 at su huu ⊢
    refine ⟨_, rfl, u, _, rfl, .inl (SqL.of huu), rfl, _, rfl, ?_⟩
    by_cases h4 : ws.length = 4
    rotate_left
    · refine ifN_yes (by rw [List.length_map]; intro z; injection z with z; exact h4 (by omega)) ?_
      exact kb h4 H1 su
    obtain ⟨w0, w1, w2, w3, rfl⟩ : ∃ a b c d, ws = [a, b, c, d] := by
      match ws, h4 with
      | [a, b, c, d], _ => exact ⟨a, b, c, d, rfl⟩
    refine iteNS rfl ?_
    have hpp : H1 u = some (.lst [.str w0, .str w1, .str w2, .str w3]) := huu
    refine ⟨df, rfl, ⟨_, _, hfl "fall"⟩, _, rfl, u, _, _, _, rfl, rfl, SqL.of hpp, rfl, _, _, rfl, hfl w1, ?_⟩
    refine ⟨dg, rfl, ⟨_, _, hgo "go"⟩, _, rfl, u, _, _, _, rfl, rfl, SqL.of hpp, rfl, _, _, rfl, hgo w3, ?_⟩
    refine ⟨_, rfl, u, _, _, _, rfl, rfl, SqL.of hpp, rfl, w0, rfl, hpl _ (by simp), _, rfl, _, rfl, u, _, _, _, rfl, rfl, SqL.of hpp, rfl, w2, rfl, hpl _ (by simp), _, rfl, by show 4 ≤ sizeLine; decide, fun t ht => ?_⟩
    exact kg w0 w1 w2 w3 rfl t _ (su.trans (new_ ht)) (su.none ht) upd_same
end
end PA

set_option maxHeartbeats 8000000
namespace PA
open PySem L2 RZ TS
open C8 (pss_cut tCut)
/-- what makes and writes Rules -/
structure LibR (K : PySem.W.Frag) (w : World) (mg : Str → Option Value) (C X PE_ fI dd g1 g2 g3 g4 fS s1 s2 s3 r1 r2 : Addr) (dI gd1 gd2 gd3 gd4 dS sd1 sd2 sd3 rd1 rd2 : FuncData) : Prop where
  T : Txt K mg C
  TX : TxtX K mg X PE_
  TS : TxtS K mg
  TW : TxtW K w mg
  I : FunI K fI dI dd
  M : Mk K C fI
  b2 : Binds K dI ["self", "rows", "starts"] []
  D1 : Df K mg "is_integer" sIsInt g1 gd1 ["value"]
  D2 : Df K mg "is_below" sBelow g2 gd2 ["value", "count"]
  D3 : DfA K mg "is_row_rules" "_is_row" sIsRow g3 gd3 ["row", "count"]
  D4 : Df K mg "_check_table" sCheck g4 gd4 ["rows", "starts"]
  FS : Fun K "__str__" "Rule.__str__" sStr fS dS
  bS : Binds K dS ["self"] []
  mS : Meth K C "__str__" fS
  S1 : Df K mg "_rows_text" sRowsTx s1 sd1 ["rows"]
  S2 : Df K mg "_row_text" sRowTx s2 sd2 ["row"]
  S3 : Df K mg "_starts_text" sStartsTx s3 sd3 ["starts"]
  R1 : Df K mg "read_state" sReadSt r1 rd1 ["word"]
  R2 : DfA K mg "read_row_rules" "_read_row" sReadRow r2 rd2 ["piece"]
abbrev NRead : List Str := ["text", "body", "bar", "tail", "starts", "rule", "word", "piece"]
theorem rule_same {K : PySem.W.Frag} {C : Addr} {H H' : Hp} {p : Addr} {rows : List Rw} {starts : List Int} {k : Int} (r : RuleAt K C H p rows starts k) (s : Same H H') : RuleAt K C H' p rows starts k := r.same s
section
variable {P : Program} {w : World} {K : PySem.W.Frag} {mg : Str → Option Value} {base : Heap} {C X PE_ fI dd g1 g2 g3 g4 fS s1 s2 s3 r1 r2 : Addr} {dI gd1 gd2 gd3 gd4 dS sd1 sd2 sd3 rd1 rd2 : FuncData}
theorem scRead : FnScope NRead ["text"] (defScope sRead) := ⟨rfl, rfl, rfl, by decide +kernel, rfl, by decide +kernel, by decide +kernel⟩
theorem ok_read {f : Addr} {fd : FuncData} (F : Fun K "read" "Rule.read" sRead f fd) (L : LibR K w mg C X PE_ fI dd g1 g2 g3 g4 fS s1 s2 s3 r1 r2 dI gd1 gd2 gd3 gd4 dS sd1 sd2 sd3 rd1 rd2) : FnOk P w K mg base (L2.CX P w) 7 f fd ["text"] (spRead K C X) := by
  have T := L.T
  have TX := L.TX
  obtain ⟨dp, hdp, hpl⟩ := L.TS.plain
  have GI : FnOk P w K mg base (L2.CX P w) 5 fI dI ["self", "rows", "starts"] (spInit K C X) := ok_init L.I T TX L.D1 L.D2 L.D3 L.D4
  have GS : FnOk P w K mg base CX0 3 fS dS ["self"] (spStr K C) := ok_str L.FS T L.TS L.S1 L.S2 L.S3
  have GRs : FnOk P w K mg base CX0 1 r1 rd1 ["word"] spReadSt := ok_readSt L.R1.F T
  have GRr : FnOk P w K mg base (L2.CX P w) 2 r2 rd2 ["piece"] (spReadRow X) := ok_readRow L.R2.F T TX L.TW L.R1
  refine F.okX scRead (fun vs H Q E h => ?_) (fun cdv A outer s H vs Q E hr h => ?_)
  · obtain ⟨_, rfl, _⟩ := h
    rfl
  · obtain ⟨t, rfl, hl, kg, kb⟩ := h
    have hr1 : Room 1 _ := hr.mono (by decide)
    have hr2 : Room 2 _ := hr.mono (by decide)
    have hr5 : Room 5 _ := hr.mono (by decide)
    refine ⟨_, pss_cons (ps_asg (pe_bm PySem.F.plainAttrs_str PySem.F.slot_str_partition PySem.F.type_str_partition mt_partition (pv 0) (pa_cons pe_str pa_nil)) (pg_tup rfl (pgs_cons (pg_name (i := 1) scRead.nd rfl (Or.inl rfl)) (pgs_cons (pg_name (i := 2) scRead.nd rfl (Or.inl rfl)) (pgs_cons (pg_name (i := 3) scRead.nd rfl (Or.inl rfl)) pgs_nil)))))
      (pss_cut (ps_set (i := 4) scRead.nd rfl (Or.inl rfl) (pe_ifExp (pt_truth (pv 2) (fun _ => rfl)) (pe_lc (own := [("word", 6)]) (g := gName 6) (tt := tYes) (by rfl) scRead.nd (pi_list (pe_bm PySem.F.plainAttrs_str PySem.F.slot_str_split PySem.F.type_str_split mt_split (pv 3) (pa_cons pe_str pa_nil))) (blkOk_by (N := NRead) (sc := defScope sRead) (by decide +kernel))
          (fun _ _ _ _ _ => pg_name (i := 6) scRead.nd rfl (Or.inl rfl)) (fun _ _ _ _ _ => pts_nil)
          (fun _ _ _ _ _ => pe_call GRs hr1 rfl L.R1.M L.R1.F.kp L.R1.B .nil pass0 (pa_cons (pv 6) pa_nil))) (pe_glob (v := .ref dp) rfl hdp rfl)))
      (pss_cons (ps_set (i := 5) scRead.nd rfl (Or.inl rfl) (pe_make (E := E) L.M GI hr rfl T.mgC L.b2 .nil (passes_call (takes_of rfl rfl rfl rfl) (fun _ _ _ _ z => z)) (pa_cons (pe_lcX (E := E) (own := [("piece", 7)]) (g := gName 7) (tt := tYes) (takes_of rfl rfl rfl rfl) rfl rfl (by rfl) scRead.nd (pi_list (pe_bm PySem.F.plainAttrs_str PySem.F.slot_str_split PySem.F.type_str_split mt_split (pv 1) (pa_cons pe_str pa_nil))) (blkOk_by (N := NRead) (sc := defScope sRead) (by decide +kernel))
          (fun _ _ _ _ _ => pg_name (i := 7) scRead.nd rfl (Or.inl rfl)) (fun _ _ _ _ _ => pts_nil)
          (fun _ _ _ _ _ => pe_call (E := E) GRr hr2 rfl L.R2.M L.R2.F.kp L.R2.B .nil pass_blk (pa_cons (pv 7) pa_nil))) (pa_cons (pv 4) pa_nil))))
      (pss_cons (ps_if (pt_cmpR op_ne (pe_callTy (call_strOwn (E := E0) L.mS.at_ L.mS.fn GS hr5 L.bS pass0) (by rfl) L.TS.str_ boot_str' (pa_cons (pv 5) pa_nil)) (pv 0) (nomark _)) (pss_one (ps_raise rfl (takes_of rfl rfl rfl rfl) (pmk_own PySem.F.excBase_ValueError TX.x TX.g TX.k (raises_own TX.b TX.t) (by rfl)))) pss_nil)
      (pss_one (ps_ret (pv 5)))))), ?_⟩
    obtain ⟨pl1, pl2, pl3⟩ := TR.part_len t " | "
    have big : ∀ {n : Nat}, n ≤ 20000 → n ≤ sizeLine := fun h => Nat.le_trans h (by decide)
    refine ⟨_, rfl, rfl, _, _, rfl, rfl, by decide +kernel, big (by omega), fun p hp => ?_⟩
    generalize hpart : PySem.Txt.partition t " | " = pt at pl1 pl2 pl3 hp ⊢
    obtain ⟨body, bar, tail⟩ := pt
    have pl1 : body.length ≤ t.length := pl1
    have pl2 : bar = " | " ∨ bar = Str.empty := pl2
    have pl3 : tail.length ≤ t.length := pl3
    -- what a text of a rule gives
    have good : ∀ rows starts k, Good rows starts k → t = ruleTx rows starts → (PySem.Txt.split body "; ").map cellsOf = rows.map rv ∧ stC bar tail = starts.map V.int ∧ ∀ pc ∈ PySem.Txt.split body "; ", (PySem.Txt.split pc " ").length = 4 := fun rows starts k g e => by
      rw [e] at hpart
      exact cells_good g hpart
    have sp := new_ (o := .tup [.str body, .str bar, .str tail]) hp
    refine ⟨p, _, rfl, SqT.of upd_same, rfl, _, _, rfl, _, _, rfl, _, _, rfl, rfl, ?_⟩
    generalize (upd H p (.tup [.str body, .str bar, .str tail])) = H0 at sp
    refine ⟨fun σ' H' => ∃ S, σ' = [some (.str t), some (.str body), some (.str bar), some (.str tail), some (.ref S), none, none, none] ∧ Same H0 H' ∧ (H' S = some (.lst (stC bar tail)) ∨ SqT K H' S (stC bar tail)), ?_, ?_⟩
    · rcases pl2 with rfl | rfl
      · refine ⟨_, rfl, true, ⟨by show (" | " : Str).length ≤ sizeLine; decide +kernel, by show true = ((((" | " : Str).length : Nat) : Int) != 0); decide +kernel⟩, iteT ?_⟩
        have hws := TS.split_len tail " " (by decide +kernel)
        refine ⟨_, rfl, rfl, _, _, rfl, rfl, by decide +kernel, big (by omega), fun q hq => ⟨q, rfl, ⟨_, SqL.of upd_same⟩, fun Dd hD => ?_⟩⟩
        have sq := new_ (o := .lst ((PySem.Txt.split tail " ").map V.str)) hq
        have hqq : (upd H0 q (.lst ((PySem.Txt.split tail " ").map V.str))) q = some (.lst ((PySem.Txt.split tail " ").map V.str)) := upd_same
        generalize (upd H0 q (.lst ((PySem.Txt.split tail " ").map V.str))) = H1 at sq hqq hD
        have est : stC " | " tail = (PySem.Txt.split tail " ").map fun w => evO (rdW w) := by
          unfold stC
          rw [if_neg (by decide +kernel)]
        rw [est]
        refine lc_same (xs := (PySem.Txt.split tail " ").map V.str) (walk_l (K := K) (a := q) (xs := (PySem.Txt.split tail " ").map V.str)) (by rw [List.length_map]; exact big (by omega)) hD (fun H' s' => SqL.of (s' _ _ hqq)) ((PySem.Txt.split tail " ").map fun w => evO (rdW w)) (by simp) (fun i x y H' Φ Ψ hx hy sm kf => ?_) fun H2 s2 hd2 => ⟨Dd, rfl, sq.trans s2, .inl hd2⟩
        rw [List.getElem?_map, Option.map_eq_some_iff] at hx
        obtain ⟨z, hz1, rfl⟩ := hx
        rw [List.getElem?_map, hz1] at hy
        cases hy
        refine ⟨rfl, ?_⟩
        dsimp only [tYes]
        rw [if_pos rfl]
        have := TS.part_len (List.mem_of_getElem? hz1)
        exact ⟨_, rfl, z, rfl, by omega, kf H' fun _ _ e => e⟩
      · refine ⟨_, rfl, false, ⟨Nat.zero_le _, rfl⟩, iteF ⟨dp, rfl, fun _ _ e => e, .inr ?_⟩⟩
        exact hpl _
    rintro _ H1 ⟨S, rfl, s1', hS⟩
    have hps := TS.split_len body "; " (by decide +kernel)
    refine ⟨_, rfl, rfl, _, _, rfl, rfl, by decide +kernel, big (by omega), fun q hq => ⟨q, rfl, ⟨_, SqL.of upd_same⟩, fun Dd hD => ?_⟩⟩
    have sq := new_ (o := .lst ((PySem.Txt.split body "; ").map V.str)) hq
    have hqq : (upd H1 q (.lst ((PySem.Txt.split body "; ").map V.str))) q = some (.lst ((PySem.Txt.split body "; ").map V.str)) := upd_same
    generalize (upd H1 q (.lst ((PySem.Txt.split body "; ").map V.str))) = H2 at sq hqq hD
    have hpl' : ∀ p ∈ PySem.Txt.split body "; ", p.length ≤ 8000 := fun p hp => Nat.le_trans (TS.part_len hp) (by omega)
    have s02 := (sp.trans s1').trans sq
    have stl : (stC bar tail).length ≤ 9000 := by
      unfold stC
      split
      · simp
      · rw [List.length_map]
        have := TS.split_len tail " " (by decide +kernel)
        omega
    have stcell : ∀ H : Hp, ∀ x ∈ stC bar tail, Cell H x := fun H x hx => by
      unfold stC at hx
      split at hx
      · rw [List.mem_singleton.mp hx]
        exact .int _
      · obtain ⟨wd, _, rfl⟩ := List.mem_map.mp hx
        exact cell_evO _
    generalize hpcs : PySem.Txt.split body "; " = pcs at hqq hps hpl' hD good ⊢
    generalize hstc : stC bar tail = st at hS good stl stcell
    refine lc_acc (xs := pcs.map V.str) (walk_l (K := K) (a := q) (xs := pcs.map V.str)) (by rw [List.length_map]; exact big (by omega)) hD (fun H' s' => SqL.of (s' _ _ hqq)) (fun i acc H' => Ea H' isC acc ((pcs.map cellsOf).take i)) (fun i acc H' e => by rw [e.1, List.length_take, List.length_map]; omega) (by rw [List.take_zero]; exact Ea.nil) (fun i x H' acc Φ Ψ hi hx sm hd he kf => ?_) fun H3 acc s3 hd he => ?_
    · rw [List.getElem?_map, Option.map_eq_some_iff] at hx
      obtain ⟨pc, hpc, rfl⟩ := hx
      have hpcm := List.mem_of_getElem? hpc
      refine ⟨rfl, ?_⟩
      dsimp only [tYes]
      rw [if_pos rfl]
      refine ⟨_, rfl, pc, rfl, hpl' pc hpcm, fun w0 w1 w2 w3 ew De H5 s45 hDe hd5 => ?_, fun bad H5 s45 => kb ?_ H5 ((s02.trans sm).trans s45)⟩
      · have hd' := s45 _ _ hd
        refine kf _ H5 s45 hd' fun H6 h6 b1 b2 => ?_
        have ec : cellsOf pc = rowC w0 w1 w2 w3 := by unfold cellsOf; rw [ew]
        rw [take_succ' (show (pcs.map cellsOf)[i]? = some (rowC w0 w1 w2 w3) by rw [List.getElem?_map, hpc]; exact congrArg some ec)]
        exact Ea.push (he.imp fun c r z => TupOf.but (s45 _ _ z) hd' b1) (TupOf.but (f := id) hd5 hd' b1)
      · rintro ⟨rows, starts, k, g, e⟩
        exact bad ((good rows starts k g e).2.2 pc hpcm)
    rw [List.length_map, List.take_of_length_le (by rw [List.length_map]; exact Nat.le_refl _)] at he
    have s13 := s02.trans s3
    have hS3 : H3 S = some (.lst st) ∨ SqT K H3 S st := hS.imp (fun q => s3 _ _ (sq _ _ q)) fun q => SqT.up q (sq.trans s3)
    refine ⟨_, rfl, ?_⟩
    intro x dx nx ndx nex
    refine mk_rule (C := C) (X := X) (.inl hd) (he.imp fun c r z => .inl z) hS3 (by rw [List.length_map]; omega) stl (fun r hr x hx => ?_) (stcell H3) nx ndx nex (fun rs ss k e1 e2 g H4 s4 r4 => ?_) fun bad H4 s4 => kb ?_ H4 (s13.trans s4)
    · obtain ⟨pc, _, rfl⟩ := List.mem_map.mp hr
      unfold cellsOf at hx
      split at hx
      · unfold rowC at hx
        simp only [List.mem_cons, List.not_mem_nil, or_false] at hx
        rcases hx with rfl | rfl | rfl | rfl
        · exact cell_evO _
        · exact cell_wOf _ _
        · exact cell_evO _
        · exact cell_wOf _ _
      · cases hx
    · obtain ⟨dx4, R4, S4, refs4, hx4, hR4, hE4, hS4⟩ := id r4
      obtain ⟨h1, h2, h3, h4, h5⟩ := gd48 g
      refine ⟨rfl, _, rfl, x, dx4, _, rfl, hx4, x, rs, ss, k, rfl, r4, g.most, h1, h3, h2, fun H5 s5 => ⟨_, rfl, _, rfl, rfl, _, rfl, ?_⟩⟩
      by_cases ht : ruleTx rs ss = t
      · rw [decide_eq_true (by rw [ht])]
        refine iteF ⟨_, rfl, ?_⟩
        exact kg rs ss k g ht.symm x H5 ((s13.trans s4).trans s5) (s13.none nx) (r4.same s5)
      · rw [decide_eq_false (fun z => ht (by injection z))]
        refine iteT (kb ?_ H5 ((s13.trans s4).trans s5))
        rintro ⟨rows, starts, k', g', e'⟩
        obtain ⟨q1, q2, _⟩ := good rows starts k' g' e'
        have a1 := rows_inj (q1.symm.trans e1)
        have a2 := ints_inj (q2.symm.trans e2)
        exact ht (by rw [e', a1, a2])
    · rintro ⟨rows, starts, k', g', e'⟩
      obtain ⟨q1, q2, _⟩ := good rows starts k' g' e'
      rw [q1, q2, tab_good g'] at bad
      cases bad
end
end PA

set_option maxHeartbeats 4000000
/-! zip and enumerate over lists and tuples in any mix -/
namespace L2
open PySem PySem.Spec PyProof.Rows RZ
def IterK (k : Kind) (h : Heap) (it a : Addr) (i : Nat) : Prop := match k with
  | .l => h.IsListIter it a i
  | .t => h.IsTupleIter it a i
def SeqK (k : Kind) (h : Heap) (a : Addr) (its : Array Value) : Prop := match k with
  | .l => h.IsList a its
  | .t => h.IsTuple a its
def begO (k : Kind) (a : Addr) : Obj := match k with
  | .l => { cls := .type "list_iterator", data := .fields #[.ref a, .int 0 0] }
  | .t => { cls := .type "tuple_iterator", data := .fields #[.ref a, .int 0 0] }
theorem begins_k (k : Kind) (a : Addr) (its : Array Value) : Begins (.ref a) (begO k a) fun h => SeqK k h a its := by
  cases k
  · exact begins_list a its
  · exact begins_tuple a its
theorem iter_0 {k : Kind} {h : Heap} {it a : Addr} (e : h.get? it = some (begO k a)) : IterK k h it a 0 := by
  cases k
  · exact ⟨_, e, rfl, rfl⟩
  · exact ⟨_, e, rfl, rfl⟩
theorem iterK_at {k : Kind} {h h' : Heap} {it a : Addr} {i : Nat} (x : IterK k h it a i) (e : ∀ o, h.get? it = some o → h'.get? it = some o) : IterK k h' it a i := by
  cases k
  · exact x.at e
  · exact x.at e
theorem iterK_obj {k : Kind} {h : Heap} {it a : Addr} {i : Nat} (x : IterK k h it a i) : ∃ o, h.get? it = some o ∧ ∀ v, o.data ≠ .cell v := by
  cases k
  · obtain ⟨o, e, _, d⟩ := x
    exact ⟨o, e, fun v z => by rw [d] at z; cases z⟩
  · obtain ⟨o, e, _, d⟩ := x
    exact ⟨o, e, fun v z => by rw [d] at z; cases z⟩
theorem seqK_lt {k : Kind} {h : Heap} {a : Addr} {its : Array Value} (x : SeqK k h a its) : a < h.objs.size := by
  cases k
  · obtain ⟨o, e, _⟩ := x; exact Heap.lt_size e
  · obtain ⟨o, e, _⟩ := x; exact Heap.lt_size e
theorem draws_k {P : Program} {w : World} {A : Around} (k : Kind) (hh : A.handled = none) (it a : Addr) (hne : a ≠ it) (its : Array Value) :
    Draws P w A it [it, a] its.size (fun i v => its[i]? = some v) (fun i h => IterK k h it a i ∧ SeqK k h a its) := by
  cases k
  · exact Draws.list hh it a hne its
  · exact Draws.tuple hh it a hne its
theorem seq_k {X : Cx} {pins : List (Addr × Obj)} {σ : L2.St} {H : Hp} {s : Shared} {k : Kind} {a : Addr} {xs : List V} (I : Inv X pins σ H s) (h : Sk X.K k H a xs) : ∃ its : List Value, Vals xs its ∧ SeqK k s.heap a its.toArray := by
  cases k
  · obtain ⟨its, r, p, _⟩ := I.list h
    exact ⟨its, r, p.isList⟩
  · obtain ⟨its, r, p, _⟩ := I.tuple h
    exact ⟨its, r, p⟩
theorem sk_inj {X : Cx} {pins : List (Addr × Obj)} {σ : L2.St} {H : Hp} {s : Shared} {k : Kind} {a : Addr} {xs ys : List V} (I : Inv X pins σ H s) (h : Sk X.K k H a xs) (h' : Sk X.K k H a ys) : xs = ys := by
  cases k
  · exact I.list_inj h h'
  · exact I.tuple_inj h h'
/-! ### zip -/
def ItM (K : PySem.W.Frag) (k1 k2 : Kind) (a b : Addr) : It :=
  ⟨fun i H => ∃ (xs ys : List V), Sk K k1 H a xs ∧ Sk K k2 H b ys ∧ i < xs.length ∧ i < ys.length,
    fun i H v H' => ∃ T x y, v = .ref T ∧ H T = none ∧ H' = upd H T (.tup [x, y]) ∧ (∀ xs, Sk K k1 H a xs → xs[i]? = some x) ∧ ∀ ys, Sk K k2 H b ys → ys[i]? = some y,
    fun i H => ∃ (xs ys : List V), Sk K k1 H a xs ∧ Sk K k2 H b ys ∧ i ≤ xs.length ∧ i ≤ ys.length ∧ (i = xs.length ∨ i = ys.length)⟩
theorem walk_m {K : PySem.W.Frag} {k1 k2 : Kind} {a b : Addr} {xs ys : List V} {n : Nat} (hn : n = min xs.length ys.length) : Walk (ItM K k1 k2 a b) n (fun H => Sk K k1 H a xs ∧ Sk K k2 H b ys) (YPair (fun i => xs[i]?) (fun i => ys[i]?)) :=
  ⟨fun i H hi q => ⟨xs, ys, q.1, q.2, by omega, by omega⟩, fun H q => ⟨xs, ys, q.1, q.2, by omega, by omega, by omega⟩, fun i H v H' hi q y => by
    obtain ⟨T, x, z, rfl, hT, rfl, f1, f2⟩ := y
    exact ⟨T, x, z, rfl, hT, rfl, f1 xs q.1, f2 ys q.2⟩⟩
theorem turn_m {P : Program} {w : World} {K : PySem.W.Frag} {k1 k2 : Kind} {elts : List Expr} {kk : Nat} {tpos : Pos} {a b z TI TO i1 i2 : Addr} (S : ZipSep2 z TI TO i1 i2 [i1, a] [i2, b]) (na : a ≠ i1) (nb : b ≠ i2) :
    Turn P w K (.Tuple elts kk tpos) (ItM K k1 k2 a b) [z, TI, TO, i1, i2] z (fun i h => IsZip h z TI TO .none ∧ IsTupOf2 h TI (.ref i1) (.ref i2) ∧ (∃ x y, IsTupOf2 h TO x y) ∧ IterK k1 h i1 a i ∧ IterK k2 h i2 b i) where
  mem := List.mem_cons_self
  obj := fun i h st c hc => by
    obtain ⟨g1, g2, ⟨x, y, g3⟩, g4, g5⟩ := st
    simp only [List.mem_cons, List.not_mem_nil, or_false] at hc
    rcases hc with rfl | rfl | rfl | rfl | rfl
    · exact ⟨_, g1, fun v e => by cases e⟩
    · exact ⟨_, g2, fun v e => by cases e⟩
    · exact ⟨_, g3, fun v e => by cases e⟩
    · exact iterK_obj g4
    · exact iterK_obj g5
  keep := fun i h h' st kp => by
    obtain ⟨g1, g2, ⟨x, y, g3⟩, g4, g5⟩ := st
    exact ⟨kp z (by simp) _ g1, kp TI (by simp) _ g2, ⟨x, y, kp TO (by simp) _ g3⟩, iterK_at g4 fun o e => kp i1 (by simp) o e, iterK_at g5 fun o e => kp i2 (by simp) o e⟩
  item := by
    intro X eP ew eK calm i pins s σ H E I own st go
    subst eP ew eK
    obtain ⟨g1, g2, ⟨x0, y0, g3⟩, g4, g5⟩ := st
    obtain ⟨xs, ys, qx, qy, lx, ly⟩ := go
    obtain ⟨us, ru, pu⟩ := seq_k I qx
    obtain ⟨vs, rv, pv⟩ := seq_k I qy
    have hu := ru.length
    have hv := rv.length
    have zlt : z < s.heap.objs.size := Heap.lt_size g1
    have D1 := draws_k (P := X.prog) (w := X.w) (A := X.A.in1) k1 (I.ok.hd calm) i1 a na us.toArray
    have D2 := draws_k (P := X.prog) (w := X.w) (A := X.A.in1) k2 (I.ok.hd calm) i2 b nb vs.toArray
    refine wpAny_pyNext_zipD2_item S D1 D2 g1 g2 g3 ⟨g4, pu⟩ ⟨g5, pv⟩ (by simp; omega) (by simp; omega) fun x1 x2 h' tk px py z' t' s1 s2 nt hsz kp => ?_
    obtain ⟨v1, e1, r1⟩ : ∃ v1, xs[i]? = some v1 ∧ RelV v1 x1 := by
      have ex : xs[i]? = some xs[i] := List.getElem?_eq_getElem lx
      obtain ⟨u, hu', ru'⟩ := ru.get ex
      have : u = x1 := by
        have px' : us[i]? = some x1 := by simpa using px
        rw [hu'] at px'
        exact Option.some.inj px'
      exact ⟨_, ex, this ▸ ru'⟩
    obtain ⟨v2, e2, r2⟩ : ∃ v2, ys[i]? = some v2 ∧ RelV v2 x2 := by
      have ey : ys[i]? = some ys[i] := List.getElem?_eq_getElem ly
      obtain ⟨u, hu', ru'⟩ := rv.get ey
      have : u = x2 := by
        have py' : vs[i]? = some x2 := by simpa using py
        rw [hu'] at py'
        exact Option.some.inj py'
      exact ⟨_, ey, this ▸ ru'⟩
    refine ⟨_, rfl, wpAny_letOwnedTupleGo_zip (s := { s with heap := h', toks := tk }) z' fun g z'' sb => ?_⟩
    have nt2 : g.get? s.heap.objs.size = some { cls := .type "tuple", data := .seq #[x1, x2] } := (sb.2 _ (Nat.ne_of_gt zlt)).trans nt
    have ob : ObjOk X.prog X.w (upd H s.heap.objs.size (.tup [v1, v2])) g s.heap.objs.size (.tup [v1, v2]) :=
      ⟨by show 2 ≤ sizeLine; decide, [x1, x2], .cons r1 (.cons r2 .nil), _, nt2, rfl, _, rfl⟩
    have all : ∀ c o, ¬ c ∈ [z, TI, TO, i1, i2] → s.heap.get? c = some o → g.get? c = some o := fun c o hn e => by
      simp only [List.mem_cons, List.not_mem_nil, or_false, not_or] at hn
      exact (sb.2 c hn.1).trans (kp c o hn.1 hn.2.2.1 hn.2.2.2.1 hn.2.2.2.2 e)
    have J := I.turnedNew (t' := tk) (ch := [z, TI, TO, i1, i2]) all own (Nat.le_refl _) ob
    have sz1 := S.zf1
    have sz2 := S.zf2
    simp only [List.mem_cons, List.not_mem_nil, or_false, not_or] at sz1 sz2
    refine ⟨.ref s.heap.objs.size, _, J, rfl, ⟨_, v1, v2, rfl, I.hok.fresh (Nat.le_refl _), rfl, fun l hl => by rw [sk_inj I hl qx]; exact e1, fun l hl => by rw [sk_inj I hl qy]; exact e2⟩, ⟨z'', ?_, ⟨x1, x2, ?_⟩, ?_, ?_⟩, fun c hc => ?_⟩
    · have := (sb.2 TI S.TIz).trans (kp TI _ S.TIz S.TITO S.TIi1 S.TIi2 g2)
      exact this
    · exact (sb.2 TO S.TOz).trans t'
    · exact iterK_at s1.1 fun o e => (sb.2 i1 (fun q => sz1.1 q.symm)).trans e
    · exact iterK_at s2.1 fun o e => (sb.2 i2 (fun q => sz2.1 q.symm)).trans e
    · have clt : c < s.heap.objs.size := by
        simp only [List.mem_cons, List.not_mem_nil, or_false] at hc
        rcases hc with rfl | rfl | rfl | rfl | rfl
        · exact zlt
        · exact Heap.lt_size g2
        · exact Heap.lt_size g3
        · obtain ⟨_, e, _⟩ := iterK_obj g4; exact Heap.lt_size e
        · obtain ⟨_, e, _⟩ := iterK_obj g5; exact Heap.lt_size e
      rw [upd_ne (Nat.ne_of_lt clt)]
      exact (own c hc).1
  done := by
    intro X eP ew eK calm i pins s σ H E I own st go
    subst eP ew eK
    obtain ⟨g1, g2, ⟨x0, y0, g3⟩, g4, g5⟩ := st
    obtain ⟨xs, ys, qx, qy, lx, ly, le⟩ := go
    obtain ⟨us, ru, pu⟩ := seq_k I qx
    obtain ⟨vs, rv, pv⟩ := seq_k I qy
    have hu := ru.length
    have hv := rv.length
    have D1 := draws_k (P := X.prog) (w := X.w) (A := X.A.in1) k1 (I.ok.hd calm) i1 a na us.toArray
    have D2 := draws_k (P := X.prog) (w := X.w) (A := X.A.in1) k2 (I.ok.hd calm) i2 b nb vs.toArray
    refine wpAny_pyNext_zipD2_end S D1 D2 g1 g2 g3 ⟨g4, pu⟩ ⟨g5, pv⟩ (by simp; omega) (by simp; omega) (by simp; omega) fun h' tk kp => ⟨rfl, ?_⟩
    refine I.turnedL (t' := tk) (ch := [z, TI, TO, i1, i2]) (fun c o hn e => ?_) own
    simp only [List.mem_cons, List.not_mem_nil, or_false, not_or] at hn
    exact kp c o hn.1 hn.2.2.1 hn.2.2.2.1 hn.2.2.2.2 e
  self := fun A i s Q E st h => wpAny_pyIter_zip st.1 h
/-- zip of a list or a tuple with a list or a tuple -/
def iZipM (K : PySem.W.Frag) (ta : TA) : TI := fun σ H R => ta σ H fun vs H1 => ∃ k1 k2 a b xs ys, vs = [.ref a, .ref b] ∧ Sk K k1 H1 a xs ∧ Sk K k2 H1 b ys ∧ R (ItM K k1 k2 a b) H1
theorem pi_zipM {X : Cx} {e e2 : Expr} {ta : TA} {p pos tpos : Pos} {elts : List Expr} {kk : Nat} (hg : Gl X "zip") (hm : X.mg "zip" = none) (ha : PA X [e, e2] ta)
    (hs : starEach [e, e2] X.env = (false, eval e X.env) :: starEach [e2] X.env := by rfl) (hpl : (backTo pos (starEach [e2] X.env)).any (·.1) = false := by rfl) :
    PI X (.Tuple elts kk tpos) (.Call (.Name "zip" p) [e, e2] [] pos) (iZipM X.K ta) := by
  refine ⟨fun pins s σ H R I h => Call_ (ld_blt I hg hm PyProof.Rows.boot_zip (PyProof.Rows.callWith_type1 (thn (ha.run pos pins s σ H _ I h) fun us t q => ?_) hs hpl))⟩
  obtain ⟨vs, G, J, r1, k1, k2, a, b, xs, ys, ev, qx, qy, q⟩ := q
  subst ev
  cases r1 with
  | cons ra rr =>
    cases rr with
    | cons rb rr =>
      cases rr
      cases ra
      cases rb
      obtain ⟨us, ru, pu⟩ := seq_k J qx
      obtain ⟨ws, rw_, pw⟩ := seq_k J qy
      have la := seqK_lt pu
      have lb := seqK_lt pw
      generalize hN : t.heap.objs.size = N at la lb
      refine zip_begins2 (begins_k k1 a us.toArray) (begins_k k2 b ws.toArray) pu pw fun h' g1 g2 g3 g4 g5 hsz kp => wpAny_pyIter_zip g1 ?_
      rw [hN] at g1 g2 g3 g4 g5
      rw [hN]
      have J2 : Inv X pins σ G { t with heap := h' } := J.kept (t' := t.toks) kp
      have S : ZipSep2 (N + 4) (N + 2) (N + 3) N (N + 1) [N, a] [N + 1, b] :=
        zip_sep2 (fp1 := [a]) (fp2 := [b]) (fun c hc => by rw [List.mem_singleton.mp hc]; exact la) (fun c hc => by rw [List.mem_singleton.mp hc]; exact lb)
      refine ⟨N + 4, [N + 4, N + 2, N + 3, N, N + 1], _, _, G, rfl, J2, turn_m (k1 := k1) (k2 := k2) S (Nat.ne_of_lt la) (Nat.ne_of_lt (Nat.lt_succ_of_lt lb)), ⟨g1, g2, ⟨_, _, g3⟩, iter_0 g4, iter_0 g5⟩, fun c hc => ?_, q⟩
      have le : t.heap.objs.size ≤ c := by
        rw [hN]
        simp only [List.mem_cons, List.not_mem_nil, or_false] at hc
        rcases hc with h1 | h1 | h1 | h1 | h1 <;> rw [h1]
        · exact Nat.le_add_right N 4
        · exact Nat.le_add_right N 2
        · exact Nat.le_add_right N 3
        · exact Nat.le_refl N
        · exact Nat.le_add_right N 1
      exact J.fpOk le (J.hok.fresh le)
end L2

set_option maxHeartbeats 8000000
/-! still(), Claim.verdict, rule in claim -/
namespace PA
open PySem L2 RZ TS
open C8 (pss_cut tCut)
open TC (Lc LOk GoodL verds)
open BR (Node)
abbrev sStill : Stmt := top 54
abbrev sAfterC : Stmt := top 14
abbrev sVerC : Stmt := inClass (top 36) 2
abbrev sHasC : Stmt := inClass (top 36) 5
def stillR : List Rw := [(0, false, 0, false)]
theorem tx_still : ("0 stay 0 stay" : Str) = ruleTx stillR [0] := by decide +kernel
theorem gd_still : Good stillR [0] 1 := by
  refine ⟨by decide, by decide, fun r hr => ?_, .r1, fun s hs => ?_⟩
  · cases List.mem_singleton.mp hr
    exact ⟨⟨by decide, by decide⟩, by decide, by decide⟩
  · cases List.mem_singleton.mp hs
    exact ⟨by decide, by decide⟩
theorem root_fun {i k k' : Int} (h : Root i k) (h' : Root i k') : k = k' := by cases h <;> cases h' <;> rfl
theorem ruleTx_inj {r r' : List Rw} {s s' : List Int} {k k' : Int} (g : Good r s k) (g' : Good r' s' k') (e : ruleTx r s = ruleTx r' s') : r = r' ∧ s = s' ∧ k = k' := by
  obtain ⟨body, bar, tail, hp⟩ : ∃ b c d, PySem.Txt.partition (ruleTx r s) " | " = (b, c, d) := ⟨_, _, _, rfl⟩
  obtain ⟨a1, a2, _⟩ := cells_good g hp
  rw [e] at hp
  obtain ⟨b1, b2, _⟩ := cells_good g' hp
  have e1 := rows_inj (a1.symm.trans b1)
  have e2 := ints_inj (a2.symm.trans b2)
  subst e1 e2
  exact ⟨rfl, rfl, root_fun g.root g'.root⟩
def spStill (K : PySem.W.Frag) (C : Addr) : Sp := fun vs H Q _ => vs = [] ∧ ∀ p H', RuleAt K C H' p stillR [0] 1 → Same H H' → Q (.ref p) H'
/-- the claim's state behind some calls -/
def clF (ls : List Lc) (s : Option Nat × Nat) (cs : List Nat) : Option Nat × Nat := cs.foldl (fun s c => (some c, BR.stepC ls s.1 s.2 c)) s
def clW (ls : List Lc) (cs : List Nat) : Nat := (clF ls (none, 0) cs).2
theorem clF_snoc (ls : List Lc) (s : Option Nat × Nat) (cs : List Nat) (c : Nat) : clF ls s (cs ++ [c]) = (some c, BR.stepC ls (clF ls s cs).1 (clF ls s cs).2 c) := by
  unfold clF
  rw [List.foldl_append]
  rfl
/-- a node by its parts -/
theorem node_parts (A : List BR.Lr) (ls : List Lc) : ∀ (cs : List Nat) (l : Option Nat) (s : Nat) (t : Bool) (cl : Nat), cs.foldl (BR.stp A ls) (l, s, t, cl) = ((clF ls (l, cl) cs).1, (prS A (s, t) cs).1, (prS A (s, t) cs).2, (clF ls (l, cl) cs).2)
  | [], _, _, _, _ => rfl
  | c :: cs, l, s, t, cl => by
    show cs.foldl (BR.stp A ls) (some c, _, _, BR.stepC ls l cl c) = _
    rw [node_parts A ls cs]
    rfl
theorem clW_one (ls : List Lc) (c : Nat) : clW ls [c] = 0 := rfl
theorem clW_step {ls : List Lc} {cs : List Nat} {b c : Nat} : clW ls (cs ++ [b] ++ [c]) = if c = b then (BR.ln_ ls (clW ls (cs ++ [b]))).1 else (BR.ln_ ls (clW ls (cs ++ [b]))).2.1 := by
  unfold clW
  rw [clF_snoc ls _ (cs ++ [b]), clF_snoc ls _ cs]
  rfl
theorem clW_lt {ls : List Lc} (g : GoodL ls) (cs : List Nat) : clW ls cs < ls.length := by
  have key : ∀ (cs : List Nat) (s : Option Nat × Nat), s.2 < ls.length → (clF ls s cs).2 < ls.length := by
    intro cs
    induction cs with
    | nil => exact fun s h => h
    | cons c cs ih =>
      intro s h
      refine ih _ ?_
      show BR.stepC ls s.1 s.2 c < ls.length
      cases s.1 with
      | none => exact g.one
      | some b =>
        have ol := g.ok _ (List.getElem_mem h)
        show (if c = b then (BR.ln_ ls s.2).1 else (BR.ln_ ls s.2).2.1) < ls.length
        rw [ln_get h]
        split
        · exact ol.1
        · exact ol.2.1
  exact key cs _ g.one
def spAfterC : Sp := fun vs H Q _ => ∃ (R c : Addr) (refs : List V) (ls : List Lc) (cs : List Nat), vs = [.ref R, .ref c] ∧ H R = some (.tup refs) ∧ Ea H isLc refs ls ∧ GoodL ls ∧ H c = some (.tup (natsV cs)) ∧ cs ≠ [] ∧ cs.length ≤ 10000 ∧ ∀ H', Same H H' → Q (.int (clW ls cs : Int)) H'
def spVerC (CC : Addr) : Sp := fun vs H Q _ => ∃ (p c : Addr) (ls : List Lc) (cs : List Nat), vs = [.ref p, .ref c] ∧ ClaimL CC H p ls ∧ GoodL ls ∧ H c = some (.tup (natsV cs)) ∧ cs ≠ [] ∧ cs.length ≤ 10000 ∧ ∀ H', Same H H' → Q (.str (BR.ln_ ls (clW ls cs)).2.2) H'
def spHasC (K : PySem.W.Frag) (C CC : Addr) : Sp := fun vs H Q _ => ∃ (p r : Addr) (ls : List Lc) (rows : List Rw) (st : List Nat) (m : Nat) (h0 : 0 < st.length), vs = [.ref p, .ref r] ∧ ClaimL CC H p ls ∧ RuleAt K C H r rows (stZ st) (m : Int) ∧ GoodL ls ∧ (∀ x ∈ rows, RwOk rows.length x) ∧ (∀ s ∈ st, s < rows.length) ∧ 0 < m ∧ m ≤ 16 ∧ st.length ≤ 16 ∧ rows.length ≤ 48 ∧
  ∀ o H', Same H H' → B2.Res (bS rows st ls h0) o → Q (.bl o.isNone) H'
section
variable {P : Program} {w : World} {K : PySem.W.Frag} {mg : Str → Option Value} {base : Heap} {C CC X Fo pR fR : Addr} {mc : Value} {dR : FuncData}
theorem scStill : FnScope [] [] (defScope sStill) := ⟨rfl, rfl, rfl, by decide +kernel, rfl, by decide +kernel, by decide +kernel⟩
theorem ok_still {f : Addr} {fd : FuncData} (F : Fun K "still" "still" sStill f fd) (T : Txt K mg C) (cr : ClX.CRead K C mc) (sm : SMet K C mc "read" pR fR) (kp : PySem.W.keepIn K (.ref fR) = true) (bR : Binds K dR ["text"] []) (G : FnOk P w K mg base (L2.CX P w) 7 fR dR ["text"] (spRead K C X)) : FnOk P w K mg base (L2.CX P w) 8 f fd [] (spStill K C) := by
  refine F.okX scStill (fun vs H Q E h => ?_) (fun cdv A outer s H vs Q E hr h => ?_)
  · obtain ⟨rfl, _⟩ := h
    rfl
  · obtain ⟨rfl, kk⟩ := h
    refine ⟨_, pss_one (ps_ret (pe_smeth (E := E) (pl := _) (pe_glob (v := .ref C) rfl T.mgC rfl) cr sm G hr kp bR (passes_call (takes_of rfl rfl rfl rfl) (fun _ _ _ _ z => z)) (pa_cons pe_str pa_nil))), ?_⟩
    refine ⟨rfl, _, congrArg (fun x => [V.str x]) tx_still, ?_, fun rows starts k g e p H' s _ r => ?_, fun nt => ?_⟩
    · rw [← tx_still]
      decide +kernel
    · obtain ⟨e1, e2, e3⟩ := ruleTx_inj g gd_still e.symm
      subst e1 e2 e3
      exact kk p H' r s
    · exact absurd ⟨_, _, _, gd_still, rfl⟩ nt
theorem scAfterC : FnScope ["rows", "calls", "state", "before", "call", "same", "other"] ["rows", "calls"] (defScope sAfterC) := ⟨rfl, rfl, rfl, by decide +kernel, rfl, by decide +kernel, by decide +kernel⟩
theorem ok_afterC {f : Addr} {fd : FuncData} (F : Fun K "state_after" "state_after" sAfterC f fd) (T : Txt K mg C) : FnOk P w K mg base CX0 1 f fd ["rows", "calls"] spAfterC := by
  refine F.ok scAfterC (fun vs H Q E h => ?_) (fun cdv A outer s H vs Q E hr h => ?_)
  · obtain ⟨R, c, _, _, _, rfl, _⟩ := h
    rfl
  · obtain ⟨R, c, refs, ls, cs, rfl, hR, hE, gd, hc, hne, hz, kk⟩ := h
    refine ⟨_, pss_cons (ps_set (i := 2) scAfterC.nd rfl (Or.inl rfl) pe_int)
      (pss_cons (ps_for PassesOwn.never rfl (pi_zipA (by rfl) T.zip_ (pa_cons (pv 1) (pa_cons (pe_slice (sl_list.or sl_tupA) (pv 1) (po_some pe_int) po_none) pa_nil)))
          (pg_tup rfl (pgs_cons (pg_name (i := 3) scAfterC.nd rfl (Or.inl rfl)) (pgs_cons (pg_name (i := 4) scAfterC.nd rfl (Or.inl rfl)) pgs_nil)))
        (pss_cons (ps_if (pt_cmp (pc_isN (pv 2))) (pss_one (ps_ret pe_non)) pss_nil)
        (pss_cons (ps_asg (pe_slice sl_tupA (pe_ix ix_tup (pv 0) (pv 2) (fun _ _ => rfl)) po_none (po_some pe_int)) (pg_tup rfl (pgs_cons (pg_name (i := 5) scAfterC.nd rfl (Or.inl rfl)) (pgs_cons (pg_name (i := 6) scAfterC.nd rfl (Or.inl rfl)) pgs_nil))))
        (pss_one (ps_set (i := 2) scAfterC.nd rfl (Or.inl rfl) (pe_ifExp (pt_cmpR op_eq (pv 4) (pv 3) (nomark _)) (pv 5) (pv 6)))))))
      (pss_one (ps_ret (pv 2)))), ?_⟩
    have hk : Sk K .t H c (natsV cs) := SqT.of hc
    have lnv : (natsV cs).length = cs.length := by unfold natsV; rw [List.length_map]
    have hpos : 0 < cs.length := List.length_pos_iff.mpr hne
    refine ⟨_, rfl, _, rfl, _, rfl, sl_k hk fun p H1 s1 hp => ?_⟩
    rw [cut_1] at hp
    have hlen : cs.length - 1 = min (natsV cs).length ((natsV cs).drop 1).length := by
      rw [List.length_drop, lnv]
      omega
    have wz := walk_zk (K := K) (k := L2.Kind.t) (a := c) (b := p) hlen
    refine ⟨c, p, natsV cs, (natsV cs).drop 1, rfl, .inr ⟨hk.up s1, hp, ?_⟩⟩
    refine for_it wz (fun i σ' H' => ∃ x3 x4 x5 x6, σ' = [some (.ref R), some (.ref c), some (.int ((clW ls (cs.take (i + 1)) : Nat) : Int)), x3, x4, x5, x6] ∧ Same H1 H') ⟨none, none, none, none, ?_, fun _ _ e => e⟩ (fun i σ' H' _ q => by
        obtain ⟨_, _, _, _, _, s'⟩ := q
        exact ⟨(hk.up s1).up s', hp.up s'⟩) ?_ ?_
    · cases cs with
      | nil => exact absurd rfl hne
      | cons b r => rfl
    · rintro i _ _ H2 _ hi ⟨x3, x4, x5, x6, rfl, s2⟩ ⟨t, x, y, rfl, ht, rfl, hx, hy⟩
      dsimp only at hx hy
      unfold natsV at hx hy
      rw [List.getElem?_map, Option.map_eq_some_iff] at hx
      rw [List.getElem?_drop, Nat.add_comm, List.getElem?_map, Option.map_eq_some_iff] at hy
      obtain ⟨x, hx, rfl⟩ := hx
      obtain ⟨y, hy, rfl⟩ := hy
      have s3 := new_ (o := .tup [.int (x : Int), .int (y : Int)]) ht
      have sm := (s1.trans s2).trans s3
      refine ⟨t, _, rfl, SqT.of upd_same, rfl, _, _, rfl, _, _, rfl, rfl, ?_⟩
      refine ⟨_, rfl, _, rfl, ?_⟩
      rw [decide_eq_false (by intro z; cases z)]
      refine iteF ?_
      have ha := clW_lt gd (cs.take (i + 1))
      have e1 : cs.take (i + 1) = cs.take i ++ [x] := L2.take_succ' hx
      have e2 : cs.take (i + 1 + 1) = cs.take i ++ [x] ++ [y] := by rw [L2.take_succ' hy, e1]
      have est := clW_step (ls := ls) (cs := cs.take i) (b := x) (c := y)
      rw [← e2, ← e1] at est
      obtain ⟨d, hd, hdl⟩ := hE.get (List.getElem?_eq_getElem ha)
      rw [ln_get ha] at est
      generalize ls[clW ls (cs.take (i + 1))] = l at hdl est
      have hdl : H d = some (.tup (CL.lv l)) := hdl
      have hd2 := sm _ _ hdl
      refine ⟨_, rfl, _, rfl, R, refs, _, _, rfl, rfl, SqT.of (sm _ _ hR), atI_nat hd, ?_⟩
      refine ⟨_, rfl, d, _, rfl, SqT.of hd2, fun n => absurd n.2 (by show ¬ HT.sIx 3 3 (some 2) = 3; decide), fun _ p2 hp2 => ?_⟩
      have e3 : cutV (CL.lv l) none (some 2) = [V.int (l.1 : Int), V.int (l.2.1 : Int)] := rfl
      rw [e3]
      have s4 := new_ (o := .tup [V.int (l.1 : Int), V.int (l.2.1 : Int)]) hp2
      refine ⟨p2, _, rfl, SqT.of upd_same, rfl, _, _, rfl, _, _, rfl, rfl, ?_⟩
      refine ⟨_, rfl, _, rfl, rfl, _, rfl, ifD_2 (fun e => ?_) (fun e => ?_)⟩
      · have e' : y = x := by injection e with e; exact Int.ofNat_inj.mp e
        refine ⟨_, rfl, some (.int x), some (.int y), some (V.int (l.1 : Int)), some (V.int (l.2.1 : Int)), ?_, (s2.trans s3).trans s4⟩
        rw [est, if_pos e']
        rfl
      · have e' : ¬ y = x := fun z => e (by rw [z])
        refine ⟨_, rfl, some (.int x), some (.int y), some (V.int (l.1 : Int)), some (V.int (l.2.1 : Int)), ?_, (s2.trans s3).trans s4⟩
        rw [est, if_neg e']
        rfl
    · rintro _ H2 ⟨x3, x4, x5, x6, rfl, s2⟩
      refine ⟨_, rfl, ?_⟩
      rw [show cs.take (cs.length - 1 + 1) = cs by rw [Nat.sub_add_cancel hpos, List.take_length]]
      exact kk H2 (s1.trans s2)
theorem scVerC : FnScope ["self", "calls"] ["self", "calls"] (defScope sVerC) := ⟨rfl, rfl, rfl, by decide +kernel, rfl, by decide +kernel, by decide +kernel⟩
theorem ok_verC {f g : Addr} {fd gd : FuncData} (F : Fun K "verdict" "Claim.verdict" sVerC f fd) (T : Txt K mg C) (TC : CL.TxtC K mg CC Fo) (D : Df K mg "state_after" sAfterC g gd ["rows", "calls"]) : FnOk P w K mg base CX0 2 f fd ["self", "calls"] (spVerC CC) := by
  have G : FnOk P w K mg base CX0 1 g gd ["rows", "calls"] spAfterC := ok_afterC D.F T
  refine F.ok scVerC (fun vs H Q E h => ?_) (fun cdv A0 outer s H vs Q E hr h => ?_)
  · obtain ⟨p, c, _, _, rfl, _⟩ := h
    rfl
  · obtain ⟨p, c, ls, cs, rfl, ⟨dx, R, refs, hp, hR, hE⟩, gd, hc, hne, hz, kk⟩ := h
    refine ⟨_, pss_one (ps_ret (pe_ix ix_tup (pe_ix ix_tup (pe_fld (pv 0) rfl) (pe_call G hr rfl D.M D.F.kp D.B .nil pass0 (pa_cons (pe_fld (pv 0) rfl) (pa_cons (pv 1) pa_nil))) (fun _ _ => rfl)) pe_int (fun _ _ => rfl))), ?_⟩
    refine ⟨_, rfl, p, CC, dx, _, _, rfl, hp, TC.cl, TC.nR, CL.rsf_rows R, _, rfl, p, CC, dx, _, _, rfl, hp, TC.cl, TC.nR, CL.rsf_rows R, _, rfl, R, c, refs, ls, cs, rfl, hR, hE, gd, hc, hne, hz, fun H' s' => ?_⟩
    have ha := clW_lt gd cs
    obtain ⟨d, hd, hdl⟩ := hE.get (List.getElem?_eq_getElem ha)
    have hdl : H d = some (.tup (CL.lv ls[clW ls cs])) := hdl
    refine ⟨R, refs, _, .ref d, rfl, rfl, SqT.of (s' _ _ hR), atI_nat hd, d, _, 2, _, rfl, rfl, SqT.of (s' _ _ hdl), rfl, ?_⟩
    have := kk H' s'
    rw [ln_get ha] at this
    exact this
theorem scHasC : FnScope ["self", "rule"] ["self", "rule"] (defScope sHasC) := ⟨rfl, rfl, rfl, by decide +kernel, rfl, by decide +kernel, by decide +kernel⟩
theorem ok_hasC {f gB : Addr} {fd eB : FuncData} (F : Fun K "__contains__" "Claim.__contains__" sHasC f fd) (TC : CL.TxtC K mg CC Fo) (M : Meth K CC "broken" gB) (kB : PySem.W.keepIn K (.ref gB) = true) (bB : Binds K eB ["self", "rule"] []) (G : FnOk P w K mg base CX0 3 gB eB ["self", "rule"] (spBroken K C CC)) : FnOk P w K mg base CX0 4 f fd ["self", "rule"] (spHasC K C CC) := by
  refine F.ok scHasC (fun vs H Q E h => ?_) (fun cdv A0 outer s H vs Q E hr h => ?_)
  · obtain ⟨p, r, _, _, _, _, _, rfl, _⟩ := h
    rfl
  · obtain ⟨p, r, ls, rows, st, m, h0, rfl, hp, hrr, gl, hrw, hst, hm, m16, st16, r48, kk⟩ := h
    refine ⟨_, pss_one (ps_ret (pe_cmpR op_isN (pe_meth (E := E0) (pv 0) TC.cl M G hr bB .nil pass0 (pa_cons (pv 1) pa_nil)) pe_non (nomark _))), ?_⟩
    obtain ⟨dc, CR, crefs, hpp, hCR, hEc⟩ := id hp
    refine ⟨_, rfl, p, dc, _, rfl, hpp, CL.rsf_no _ (by decide +kernel), _, rfl, p, r, ls, rows, st, m, h0, rfl, hp, hrr, gl, hrw, hst, hm, m16, st16, r48, fun o v H' s' ho hv => ?_⟩
    have := kk o H' s' ho
    have e : decide (v = .non) = o.isNone := by
      cases o with
      | none =>
        have hv : v = .non := hv
        rw [hv]
        rfl
      | some q =>
        obtain ⟨e', c'⟩ := q
        obtain ⟨t, cc, hv, _⟩ := hv
        rw [hv]
        rfl
    refine ⟨rfl, ?_⟩
    rw [e]
    exact this
end
end PA

set_option maxHeartbeats 4000000
/-! a text times an int; replace within a def: behind `name = e op 1` a token is out -/
namespace PA
open PySem PySem.Spec PyProof.Rows L2
section
variable {X : Cx}
def repS (z : Str) (k : Nat) : Str := ⟨(List.replicate k z.cps).foldl (· ++ ·) #[]⟩
def rRepS : R2 := fun x y H Q => ∃ (z : Str) (k : Int), x = .str z ∧ y = .int k ∧ 1 ≤ k ∧ k ≤ 100 ∧ z.length = 1 ∧ (repS z k.toNat).length ≤ 1000 ∧ Q (.str (repS z k.toNat)) H
theorem op_repS : OpR X (binaryOp .Mult) rRepS := by
  intro pins s σ H x y v u Q I rx ry h
  obtain ⟨z, k, rfl, rfl, h1, h2, hz, hl, q⟩ := h
  obtain ⟨tx, rfl⟩ := rx
  obtain ⟨ty, rfl⟩ := ry
  have hlo : ¬ k < -(2 ^ 63 : Int) := by omega
  have hhi : ¬ k ≥ (2 ^ 63 : Int) := by omega
  refine PySem.P.mul_str (by rw [decide_eq_false hlo, decide_eq_false hhi]; rfl) (fun _ _ => ?_) (fun _ _ => ?_) ?_
  · rw [hz]
    have : (1 : Int) ≤ (2 ^ 63 - 1) / k := (Int.le_ediv_iff_mul_le (by omega)).mpr (by omega)
    show ¬ (((1 : Nat) : Int) > (2 ^ 63 - 1) / k)
    omega
  · rw [hz, Nat.one_mul]
    have hk : k.toNat ≤ 100 := by omega
    exact decide_eq_false (Nat.not_lt.mpr (Nat.le_trans hk (by decide)))
  · rw [if_neg (by omega)]
    by_cases e : k = 1
    · subst e
      rw [if_pos (by simp)]
      refine ⟨.str (repS z 1), H, I, ⟨tx, ?_⟩, q⟩
      unfold repS
      simp
    · rw [if_neg (by simp [e, hz])]
      exact ⟨Nat.le_trans hl (by decide), .str (repS z k.toNat), H, I.tok _, ⟨_, rfl⟩, q⟩
open CwR
/-- name = e op (a written int): behind it a token is out -/
theorem pss_bump {i j : Nat} {x : Str} {k : Int} {e : Expr} {te : TE} {r : R2} {op : Operator} {rest : List Stmt} {u : TS} {cpos p2 pos' pos : Pos} (hN : X.N.Nodup) (hi : X.N[i]? = some x) (hx : Loc X.env.scope x) (he : PE X e te) (ho : OpR X (binaryOp op) r) (h2 : PSsT X rest u)
    (hs : swapsWith (.BinOp e op (.Constant (.int k) j cpos) p2) (some (.Name x pos')) pos.line X.env = pure false := by rfl) (hf : X.fn x = true ∨ X.env.scope.names.lookup x = some .local := by first | exact .inl rfl | exact .inr rfl | assumption) :
    PSs X (.Assign [.Name x pos'] (.BinOp e op (.Constant (.int k) j cpos) p2) pos :: rest) (tSeq (tAsg (tOp r te (tC (.int k))) (gName i)) u) := by
  refine ⟨fun pins s σ H D I h => ?_⟩
  refine wpAny_execs_cons (wpAny_Assign_Name ?_ hs)
  refine wpAny_BinOp (thn (he.run pins s σ H _ I h) fun v s1 ⟨y, H1, I1, r1, q1⟩ => ?_)
  refine wpAny_Constant_int ?_
  refine wpAny_mono (PySem.wpAny_toks (ho pins _ σ H1 y (.int k) v (.int k s1.toks) _ (I1.tok (s1.toks + 1)) r1 ⟨_, rfl⟩ q1)) (fun v3 s3 q3 => ?_) fun _ _ z => z.2
  obtain ⟨hk3, y3, H3, I3, r3, q3⟩ := q3
  have hk3 : s1.toks + 1 ≤ s3.toks := hk3
  refine wpAny_mono (PySem.wpAny_toks (store_ok (Q := fun _ s2 => Inv X pins (σ.set i (some y3)) H3 s2) I3 hN hi hx r3 (fun _ I2 => I2) hf)) (fun _ s2 q => ?_) fun _ _ z => z.2
  have hk : s3.toks ≤ s2.toks := q.1
  exact h2 pins s2 _ H3 D (by omega) q.2 q3
theorem psst_cut {st : Stmt} {rest : List Stmt} {t u : TS} (h1 : PST X st t) (h2 : PSsT X rest u) : PSsT X (st :: rest) (C8.tCut t u) := by
  intro pins s σ H D h0 I h
  obtain ⟨Mid, hm, hu⟩ := h
  refine wpAny_execs_cons (wpAny_mono (PySem.wpAny_toks (h1 pins s σ H { D with nx := Mid } h0 I hm)) (fun f s1 q => ?_) fun _ _ x => x.2)
  obtain ⟨hk, q⟩ := q
  cases f with
  | next =>
    obtain ⟨σ', H', I', q⟩ := q
    exact h2 pins s1 σ' H' D (Nat.le_trans h0 hk) I' (hu σ' H' q)
  | ret v => exact q
  | brk => exact q
  | cont => exact q
/-- name = e, a token is out -/
theorem pst_set {i : Nat} {x : Str} {e : Expr} {te : TE} {pos' pos : Pos} (hN : X.N.Nodup) (hi : X.N[i]? = some x) (hx : Loc X.env.scope x) (he : PET X e te) (hs : swapsWith e (some (.Name x pos')) pos.line X.env = pure false := by rfl) (hf : X.fn x = true ∨ X.env.scope.names.lookup x = some .local := by first | exact .inl rfl | exact .inr rfl | assumption) :
    PST X (.Assign [.Name x pos'] e pos) (tAsg te (gName i)) := by
  intro pins s σ H D h0 I h
  refine wpAny_Assign_Name (thn (he pins s σ H _ h0 I h) fun v s1 ⟨y, H1, I1, r1, q1⟩ => ?_) hs
  exact store_ok I1 hN hi hx r1 (fun s2 I2 => ⟨_, H1, I2, q1⟩) hf
end
end PA

set_option maxHeartbeats 8000000
namespace PA
open PySem L2 RZ
open C8 (pss_cut tCut)
open CwR
abbrev sJth : Stmt := top 68
abbrev sPLast : Stmt := top 69
abbrev sgn (c : Nat) : Str := ⟨#[c]⟩
def posS (w : Str) (s : Nat) : List Nat := (List.range w.length).filter fun k => decide (w.cps.toList[k]? = some s)
def spJth : Sp := fun vs H Q _ => ∃ (w : Str) (s : Nat) (j p : Nat), vs = [.str w, .str (sgn s), .int (j : Int)] ∧ 1 ≤ j ∧ j ≤ 2 ∧ w.length ≤ 100 ∧ (posS w s)[j - 1]? = some p ∧ ∀ H', Same H H' → Q (.int (p : Int)) H'
theorem call_len_strK {X : Cx} : CallR X (.builtin "len") (fun xs H Q => ∃ z, xs = [.str z] ∧ z.length ≤ sizeLine ∧ Q (.int z.length) H) := call_len_str
theorem sgn_eq (a b : Nat) : decide (V.str (sgn a) = V.str (sgn b)) = decide (a = b) := by
  by_cases h : a = b
  · subst h
    simp
  · rw [decide_eq_false h, decide_eq_false]
    intro z
    injection z with z
    injection z with z
    exact h (by simpa using z)
section
variable {P : Program} {w : World} {K : PySem.W.Frag} {mg : Str → Option Value} {base : Heap} {C : Addr}
theorem scJth : FnScope ["_law_word", "_law_sign", "_law_j", "_law_k"] ["_law_word", "_law_sign", "_law_j"] (defScope sJth) := ⟨rfl, rfl, rfl, by decide +kernel, rfl, by decide +kernel, by decide +kernel⟩
theorem ok_jth {f : Addr} {fd : FuncData} (F : Fun K "_law_p_jth" "_law_p_jth" sJth f fd) (T : Txt K mg C) : FnOk P w K mg base CX0 1 f fd ["_law_word", "_law_sign", "_law_j"] spJth := by
  refine F.ok scJth (fun vs H Q E h => ?_) (fun cdv A0 outer s H vs Q E hr h => ?_)
  · obtain ⟨_, _, j, _, rfl, _⟩ := h
    rfl
  · obtain ⟨z, c, j, p, rfl, j1, j2, hz, hp, kk⟩ := h
    refine ⟨_, pss_one (ps_ret (pe_ix ix_list (pe_lc (own := [("_law_k", 3)]) (g := gName 3) (by rfl) scJth.nd (pi_range1 (by rfl) T.range_ (pa_cons (pe_callB call_len_str (by rfl) T.len_ PySem.boot_len (pa_cons (pv 0) pa_nil)) pa_nil)) (blkOk_by (N := ["_law_word", "_law_sign", "_law_j", "_law_k"]) (sc := defScope sJth) (by decide +kernel))
        (fun _ _ _ _ _ => pg_name (i := 3) scJth.nd rfl (Or.inl rfl)) (fun _ _ _ _ _ => pts_one (pt_cmpR op_eq (pe_ix ix_str (pv 0) (pv 3) (fun _ _ => rfl)) (pv 1) (nomark _)))
        (fun _ _ _ _ _ => pv 3)) (pe_op op_sub (pv 2) pe_int) (fun _ _ => rfl))), ?_⟩
    have hz63 : z.length ≤ sizeLine := Nat.le_trans hz (by decide)
    refine ⟨_, rfl, z, rfl, hz63, (z.length : Int), rfl, by omega, by omega, fun Dc hDc => ?_⟩
    have eD := Same.new (o := .lst []) hDc
    refine lc_range (n := ((z.length : Int)).toNat) (fun i H' => Same H H' ∧ H' Dc = some (.lst (natsV ((List.range i).filter fun k => decide (z.cps.toList[k]? = some c))))) ⟨eD, upd_same⟩ ?_ ?_
    · rintro i H2 hi ⟨s2, hd⟩
      have hi : i < z.length := hi
      obtain ⟨y, hy⟩ : ∃ y, z.cps.toList[i]? = some y := ⟨_, List.getElem?_eq_getElem (by rw [Array.length_toList]; exact hi)⟩
      refine ⟨rfl, ?_⟩
      rw [show (0 : Int) + (i : Int) = (i : Int) from Int.zero_add _]
      refine ⟨_, rfl, _, rfl, z, (i : Int), y, rfl, rfl, hz63, atI_nat hy, _, rfl, rfl, _, rfl, ?_⟩
      rw [sgn_eq]
      have e : (List.range (i + 1)).filter (fun k => decide (z.cps.toList[k]? = some c)) = (List.range i).filter (fun k => decide (z.cps.toList[k]? = some c)) ++ if decide (y = c) = true then [i] else [] := by
        rw [List.range_succ, List.filter_append, List.filter_cons, hy]
        simp only [Option.some.injEq, List.filter_nil]
      cases hc : decide (y = c) with
      | false =>
        rw [hc, if_neg (by decide), List.append_nil] at e
        refine iteF ?_
        rw [e]
        exact ⟨s2, hd⟩
      | true =>
        rw [hc, if_pos rfl] at e
        refine iteT ?_
        refine ⟨_, rfl, _, hd, ?_, ?_, ?_⟩
        · unfold natsV
          rw [List.length_map]
          have := List.length_filter_le (fun k => decide (z.cps.toList[k]? = some c)) (List.range i)
          rw [List.length_range] at this
          exact Nat.lt_of_le_of_lt (by omega : _ ≤ 100) (by decide)
        · intro b o q
          rw [upd_ne (ne_of_none q hDc)]
          exact s2 _ _ q
        · rw [upd_same, e]
          unfold natsV
          rw [List.map_append]
          rfl
    · rintro H2 ⟨s2, hd⟩
      have hd : H2 Dc = some (.lst (natsV (posS z c))) := hd
      refine ⟨_, rfl, _, _, rfl, rfl, Dc, _, _, .int (p : Int), rfl, rfl, SqL.of hd, ?_, kk H2 s2⟩
      rw [show (j : Int) - 1 = ((j - 1 : Nat) : Int) by omega]
      refine atI_nat ?_
      unfold natsV
      rw [List.getElem?_map, hp]
      rfl
end
end PA

set_option maxHeartbeats 8000000
namespace PA
open PySem L2 RZ
open C8 (pss_cut tCut)
open CwR
abbrev NPL : List Str := ["_law_j", "_law_words", "_law_found", "_law_at", "_law_row", "_law_sign", "_law_word", "_law_cut", "_law_turned"]
/-! ### the words, step by step -/
def swpS (z : Str) : Str := Txt.replace (Txt.replace (Txt.replace z (Str.ofString "a") (Str.ofString "c")) (Str.ofString "b") (Str.ofString "a")) (Str.ofString "c") (Str.ofString "b")
def w1_ : Str := Str.ofString "ab"
def wA : Str := Str.ofString "aabb"
def wB : Str := Str.ofString "baab"
def wC : Str := Str.ofString "abab"
def wsT : Nat → Nat → Nat → List Str
  | 1, _, _ => [w1_]
  | _, 0, 0 => [wA]
  | _, 0, 1 => [wA]
  | _, 0, _ => [wA, wB]
  | _, 1, 0 => [wA, wB]
  | _, _, _ => [wA, wB, wC]
def rowT : Nat → Nat → Rn
  | 1, _ => (0, false, 0, true)
  | _, 0 => (0, false, 1, false)
  | _, 1 => (2, false, 0, true)
  | _, _ => (0, false, 2, true)
def nT (j : Nat) : Nat := if j = 1 then 1 else 3
def rowsT (j : Nat) : List Rn := (List.range (nT j)).map (rowT j)
theorem rowsT_ok {j : Nat} (h : j = 1 ∨ j = 2) : (∀ r ∈ rowsT j, r.1 < (rowsT j).length ∧ r.2.2.1 < (rowsT j).length) ∧ (rowsT j).length ≤ 3 ∧ 1 ≤ (rowsT j).length := by
  rcases h with rfl | rfl
  · refine ⟨fun r hr => ?_, by decide, by decide⟩
    have : ∀ r ∈ rowsT 1, r.1 < (rowsT 1).length ∧ r.2.2.1 < (rowsT 1).length := by decide
    exact this r hr
  · refine ⟨fun r hr => ?_, by decide, by decide⟩
    have : ∀ r ∈ rowsT 2, r.1 < (rowsT 2).length ∧ r.2.2.1 < (rowsT 2).length := by decide
    exact this r hr
/-- what is before a row, of its two halves -/
def halfV (r : Rn) (i : Nat) : List V := match i with
  | 0 => []
  | 1 => [.int (r.1 : Int), .bl r.2.1]
  | _ => [.int (r.1 : Int), .bl r.2.1, .int (r.2.2.1 : Int), .bl r.2.2.2]
/-- one step: the word z, the sign s -/
structure PStep (j : Nat) (z : Str) (s : Nat) (ws ws' : List Str) (ix : Nat) (tu : Bool) (z1 : Str) (cut : Nat) (z2 : Str) (pb pa : Nat) (z3 : Str) : Prop where
  e1 : sgn s ++ z = z1
  l1 : 1 ≤ z1.length ∧ z1.length ≤ 5
  lz : z.length ≤ 4
  cl : cut < z1.length
  at_ : ∀ c, c < z1.length → cut ≤ c → ∃ y, z1.cps.toList[c]? = some y ∧ decide (y = s) = decide (c = cut)
  e2 : cutS z1 none (some (cut : Int)) ++ cutS z1 (some ((cut + 1 : Nat) : Int)) none = z2
  l2a : (cutS z1 none (some (cut : Int))).length ≤ 5 ∧ (cutS z1 (some ((cut + 1 : Nat) : Int)) none).length ≤ 5
  l2 : z2.length ≤ 5
  hb : (posS z2 98)[j - 1]? = some pb
  ha : (posS z2 97)[j - 1]? = some pa
  ht : decide (pb < pa) = tu
  e3 : (if tu = true then swpS z2 else z2) = z3
  r1 : z2.length + (z2.length + 1) * (Str.ofString "c").length ≤ 16777216
  r2 : (Txt.replace z2 (Str.ofString "a") (Str.ofString "c")).length + ((Txt.replace z2 (Str.ofString "a") (Str.ofString "c")).length + 1) * (Str.ofString "a").length ≤ 16777216
  r3 : (Txt.replace (Txt.replace z2 (Str.ofString "a") (Str.ofString "c")) (Str.ofString "b") (Str.ofString "a")).length + ((Txt.replace (Txt.replace z2 (Str.ofString "a") (Str.ofString "c")) (Str.ofString "b") (Str.ofString "a")).length + 1) * (Str.ofString "b").length ≤ 16777216
  wl : ws.length ≤ 3
  e4 : (if inV (.str z3) (ws.map V.str) = true then ws else ws ++ [z3]) = ws'
  ixz : ws'[ix]? = some z3
  ixn : ∀ m z', m < ix → ws'[m]? = some z' → eqV (.str z') (.str z3) = false
def sgL (i : Nat) : Nat := if i = 0 then 97 else 98
def ixT (j at' i : Nat) : Nat := if i = 0 then (rowT j at').1 else (rowT j at').2.2.1
def tuT (j at' i : Nat) : Bool := if i = 0 then (rowT j at').2.1 else (rowT j at').2.2.2
def atDec (z1 : Str) (s cut : Nat) : Bool := (List.range z1.length).all fun c => decide (c < cut) || (match z1.cps.toList[c]? with | some y => decide (y = s) == decide (c = cut) | none => false)
theorem atDec_ok {z1 : Str} {s cut : Nat} (h : atDec z1 s cut = true) : ∀ c, c < z1.length → cut ≤ c → ∃ y, z1.cps.toList[c]? = some y ∧ decide (y = s) = decide (c = cut) := by
  intro c hc hcc
  have := List.all_eq_true.mp h c (List.mem_range.mpr hc)
  rw [decide_eq_false (Nat.not_lt.mpr hcc), Bool.false_or] at this
  cases hy : z1.cps.toList[c]? with
  | none => rw [hy] at this; cases this
  | some y =>
    rw [hy] at this
    exact ⟨y, rfl, eq_of_beq this⟩
theorem ixDec {ws : List Str} {ix : Nat} {z3 : Str} (h : ((ws.take ix).all fun z' => !eqV (.str z') (.str z3)) = true) : ∀ (m : Nat) z', m < ix → ws[m]? = some z' → eqV (.str z') (.str z3) = false := by
  intro m z' hm hz
  have h1 : (ws.take ix)[m]? = some z' := by rw [List.getElem?_take, if_pos hm]; exact hz
  have := List.all_eq_true.mp h z' (List.mem_of_getElem? h1)
  simpa using this
theorem pstep {j at' i : Nat} (hj : j = 1 ∨ j = 2) (ha : at' < nT j) (hi : i < 2) : ∃ z z1 cut z2 pb pa z3, (wsT j at' i)[at']? = some z ∧ PStep j z (sgL i) (wsT j at' i) (wsT j at' (i + 1)) (ixT j at' i) (tuT j at' i) z1 cut z2 pb pa z3 := by
  have mk : ∀ (z z1 : Str) (cut : Nat) (z2 : Str) (pb pa : Nat) (z3 : Str), (wsT j at' i)[at']? = some z → PStep j z (sgL i) (wsT j at' i) (wsT j at' (i + 1)) (ixT j at' i) (tuT j at' i) z1 cut z2 pb pa z3 → ∃ z z1 cut z2 pb pa z3, (wsT j at' i)[at']? = some z ∧ PStep j z (sgL i) (wsT j at' i) (wsT j at' (i + 1)) (ixT j at' i) (tuT j at' i) z1 cut z2 pb pa z3 := fun z z1 cut z2 pb pa z3 h1 h2 => ⟨z, z1, cut, z2, pb, pa, z3, h1, h2⟩
  have hii : i = 0 ∨ i = 1 := by omega
  rcases hj with rfl | rfl
  · have : at' = 0 := by have : nT 1 = 1 := rfl; omega
    subst this
    rcases hii with rfl | rfl
    · exact mk w1_ (Str.ofString "aab") 1 w1_ 1 0 w1_ (by decide +kernel) ⟨by decide +kernel, by decide +kernel, by decide +kernel, by decide +kernel, atDec_ok (by decide +kernel), by decide +kernel, by decide +kernel, by decide +kernel, by decide +kernel, by decide +kernel, by decide +kernel, by decide +kernel, by decide +kernel, by decide +kernel, by decide +kernel, by decide +kernel, by decide +kernel, by decide +kernel, ixDec (by decide +kernel)⟩
    · exact mk w1_ (Str.ofString "bab") 2 (Str.ofString "ba") 0 1 w1_ (by decide +kernel) ⟨by decide +kernel, by decide +kernel, by decide +kernel, by decide +kernel, atDec_ok (by decide +kernel), by decide +kernel, by decide +kernel, by decide +kernel, by decide +kernel, by decide +kernel, by decide +kernel, by decide +kernel, by decide +kernel, by decide +kernel, by decide +kernel, by decide +kernel, by decide +kernel, by decide +kernel, ixDec (by decide +kernel)⟩
  · have : at' = 0 ∨ at' = 1 ∨ at' = 2 := by have : nT 2 = 3 := rfl; omega
    rcases this with rfl | rfl | rfl <;> rcases hii with rfl | rfl
    · exact mk wA (Str.ofString "aaabb") 2 wA 3 1 wA (by decide +kernel) ⟨by decide +kernel, by decide +kernel, by decide +kernel, by decide +kernel, atDec_ok (by decide +kernel), by decide +kernel, by decide +kernel, by decide +kernel, by decide +kernel, by decide +kernel, by decide +kernel, by decide +kernel, by decide +kernel, by decide +kernel, by decide +kernel, by decide +kernel, by decide +kernel, by decide +kernel, ixDec (by decide +kernel)⟩
    · exact mk wA (Str.ofString "baabb") 4 wB 3 2 wB (by decide +kernel) ⟨by decide +kernel, by decide +kernel, by decide +kernel, by decide +kernel, atDec_ok (by decide +kernel), by decide +kernel, by decide +kernel, by decide +kernel, by decide +kernel, by decide +kernel, by decide +kernel, by decide +kernel, by decide +kernel, by decide +kernel, by decide +kernel, by decide +kernel, by decide +kernel, by decide +kernel, ixDec (by decide +kernel)⟩
    · exact mk wB (Str.ofString "abaab") 3 wC 3 2 wC (by decide +kernel) ⟨by decide +kernel, by decide +kernel, by decide +kernel, by decide +kernel, atDec_ok (by decide +kernel), by decide +kernel, by decide +kernel, by decide +kernel, by decide +kernel, by decide +kernel, by decide +kernel, by decide +kernel, by decide +kernel, by decide +kernel, by decide +kernel, by decide +kernel, by decide +kernel, by decide +kernel, ixDec (by decide +kernel)⟩
    · exact mk wB (Str.ofString "bbaab") 4 (Str.ofString "bbaa") 1 3 wA (by decide +kernel) ⟨by decide +kernel, by decide +kernel, by decide +kernel, by decide +kernel, atDec_ok (by decide +kernel), by decide +kernel, by decide +kernel, by decide +kernel, by decide +kernel, by decide +kernel, by decide +kernel, by decide +kernel, by decide +kernel, by decide +kernel, by decide +kernel, by decide +kernel, by decide +kernel, by decide +kernel, ixDec (by decide +kernel)⟩
    · exact mk wC (Str.ofString "aabab") 3 wA 3 1 wA (by decide +kernel) ⟨by decide +kernel, by decide +kernel, by decide +kernel, by decide +kernel, atDec_ok (by decide +kernel), by decide +kernel, by decide +kernel, by decide +kernel, by decide +kernel, by decide +kernel, by decide +kernel, by decide +kernel, by decide +kernel, by decide +kernel, by decide +kernel, by decide +kernel, by decide +kernel, by decide +kernel, ixDec (by decide +kernel)⟩
    · exact mk wC (Str.ofString "babab") 4 (Str.ofString "baba") 2 3 wC (by decide +kernel) ⟨by decide +kernel, by decide +kernel, by decide +kernel, by decide +kernel, atDec_ok (by decide +kernel), by decide +kernel, by decide +kernel, by decide +kernel, by decide +kernel, by decide +kernel, by decide +kernel, by decide +kernel, by decide +kernel, by decide +kernel, by decide +kernel, by decide +kernel, by decide +kernel, by decide +kernel, ixDec (by decide +kernel)⟩
theorem wsT_next {j at' : Nat} (hj : j = 1 ∨ j = 2) (ha : at' < nT j) : wsT j at' 2 = wsT j (at' + 1) 0 := by
  rcases hj with rfl | rfl
  · rfl
  · have : at' = 0 ∨ at' = 1 ∨ at' = 2 := by have : nT 2 = 3 := rfl; omega
    rcases this with rfl | rfl | rfl <;> rfl
theorem wsT_end {j : Nat} (hj : j = 1 ∨ j = 2) {at' : Nat} (ha : at' ≤ nT j) : ((at' : Nat) < (wsT j at' 0).length ↔ at' < nT j) := by
  rcases hj with rfl | rfl
  · have : at' = 0 ∨ at' = 1 := by have : nT 1 = 1 := rfl; omega
    rcases this with rfl | rfl <;> decide
  · have : at' = 0 ∨ at' = 1 ∨ at' = 2 ∨ at' = 3 := by have : nT 2 = 3 := rfl; omega
    rcases this with rfl | rfl | rfl | rfl <;> decide
def spPL (K : PySem.W.Frag) : Sp := fun vs H Q _ => ∃ j : Nat, vs = [.int (j : Int)] ∧ (j = 1 ∨ j = 2) ∧ ∀ t F S refs H', Same H H' → H' t = some (.tup [.ref F, .ref S, .int 1]) → H' F = some (.lst refs) → Ea H' isR refs (rowsT j) → H' S = some (.lst (natsV [0])) → H S = none → H F = none → Q (.ref t) H'
def PLInv (H : Hp) (j : Nat) (Wd Fd : Addr) (n : Nat) (σ' : List (Option V)) (H' : Hp) : Prop := ∃ (at' : Nat) (refs : List V) (x4 x5 x6 x7 x8 : Option V), σ' = [some (.int (j : Int)), some (.ref Wd), some (.ref Fd), some (.int (at' : Int)), x4, x5, x6, x7, x8] ∧ Same H H' ∧ H' Wd = some (.lst ((wsT j at' 0).map V.str)) ∧ H' Fd = some (.lst refs) ∧ Ea H' isR refs ((List.range at').map (rowT j)) ∧ at' ≤ nT j ∧ at' + n = nT j
section
variable {P : Program} {w : World} {K : PySem.W.Frag} {mg : Str → Option Value} {base : Heap} {C : Addr}
theorem scPL : FnScope NPL ["_law_j"] (defScope sPLast) := ⟨rfl, rfl, rfl, by decide +kernel, rfl, by decide +kernel, by decide +kernel⟩
theorem ok_plast {f g : Addr} {fd gd : FuncData} (F : Fun K "_law_p_last" "_law_p_last" sPLast f fd) (T : Txt K mg C) (D : Df K mg "_law_p_jth" sJth g gd ["_law_word", "_law_sign", "_law_j"]) : FnOk P w K mg base CX0 2 f fd ["_law_j"] (spPL K) := by
  have G : FnOk P w K mg base CX0 1 g gd ["_law_word", "_law_sign", "_law_j"] spJth := ok_jth D.F T
  refine F.ok scPL (fun vs H Q E h => ?_) (fun cdv A0 outer s H vs Q E hr h => ?_)
  · obtain ⟨j, rfl, _⟩ := h
    rfl
  · obtain ⟨j, rfl, hj, kk⟩ := h
    refine ⟨_, pss_cons (ps_par3 (i := 1) (j := 2) (l := 3) (by rfl) scPL.nd rfl rfl rfl (by decide) (by decide) (by decide) rfl rfl rfl (pa_cons (pe_lst (pa_cons (pe_op op_add_str (pe_op op_repS pe_str (pv 0)) (pe_op op_repS pe_str (pv 0))) pa_nil)) (pa_cons (pe_lst pa_nil) (pa_cons pe_int pa_nil))) (by rfl))
      (pss_cons (ps_while PassesOwn.never (pt_cmpR op_lt (pv 3) (pe_callB call_len_seq (by rfl) T.len_ PySem.boot_len (pa_cons (pv 1) pa_nil)) (nomark _))
        (pss_cons (ps_set (i := 4) scPL.nd rfl (Or.inl rfl) (pe_lst pa_nil))
        (pss_cons (ps_for PassesOwn.never rfl (pi_str pe_str) (pg_name (i := 5) scPL.nd rfl (Or.inl rfl))
          (pss_cons (ps_set (i := 6) scPL.nd rfl (Or.inl rfl) (pe_op op_add_str (pv 5) (pe_ix ix_list (pv 1) (pv 3) (fun _ _ => rfl))))
          (pss_bump (i := 7) scPL.nd rfl (Or.inl rfl) (pe_callB call_len_str (by rfl) T.len_ PySem.boot_len (pa_cons (pv 6) pa_nil)) op_sub
          (psst_cons (PST.of (ps_while PassesOwn.never (pt_cmpR op_ne (pe_ix ix_str (pv 6) (pv 7) (fun _ _ => rfl)) (pv 5) (nomark _)) (pss_one (ps_set (i := 7) scPL.nd rfl (Or.inl rfl) (pe_op op_sub (pv 7) pe_int)))))
          (psst_cons (PST.of (ps_set (i := 6) scPL.nd rfl (Or.inl rfl) (pe_op op_add_str (pe_slice sl_str (pv 6) po_none (po_some (pv 7))) (pe_slice sl_str (pv 6) (po_some (pe_op op_add (pv 7) pe_int)) po_none))))
          (psst_cons (PST.of (ps_set (i := 8) scPL.nd rfl (Or.inl rfl) (pe_cmpR op_lt (pe_call G hr rfl D.M D.F.kp D.B .nil pass0 (pa_cons (pv 6) (pa_cons pe_str (pa_cons (pv 0) pa_nil)))) (pe_call G hr rfl D.M D.F.kp D.B .nil pass0 (pa_cons (pv 6) (pa_cons pe_str (pa_cons (pv 0) pa_nil)))) (nomark _))))
          (psst_cut (pst_if (pt_val (pv 8)) (psst_one (pst_set (i := 6) scPL.nd rfl (Or.inl rfl) (pet_replT (pet_replT (pet_replC (pv 6)))))) psst_nil)
          (PSsT.of (pss_cut (ps_if (pt_cmpR op_notIn_seq (pv 6) (pv 1) rfl) (pss_one (ps_expr (pe_bm PySem.F.plainAttrs_list PySem.F.slot_list_append PySem.F.type_list_append mt_append (pv 1) (pa_cons (pv 6) pa_nil)))) pss_nil)
            (pss_one (ps_set (i := 4) scPL.nd rfl (Or.inl rfl) (pe_op op_cat (pv 4) (pe_lst (pa_cons (pe_bm PySem.F.plainAttrs_list PySem.F.slot_list_index PySem.F.type_list_index mt_index (pv 1) (pa_cons (pv 6) pa_nil)) (pa_cons (pv 8) pa_nil)))))))))))))))
        (pss_cons (ps_expr (pe_bm PySem.F.plainAttrs_list PySem.F.slot_list_append PySem.F.type_list_append mt_append (pv 2) (pa_cons (pe_tup (pa_cons (pe_ix ix_list (pv 4) pe_int (fun _ _ => rfl)) (pa_cons (pe_ix ix_list (pv 4) pe_int (fun _ _ => rfl)) (pa_cons (pe_ix ix_list (pv 4) pe_int (fun _ _ => rfl)) (pa_cons (pe_ix ix_list (pv 4) pe_int (fun _ _ => rfl)) pa_nil))))) pa_nil)))
        (pss_one (ps_set (i := 3) scPL.nd rfl (Or.inl rfl) (pe_op op_add (pv 3) pe_int)))))))
      (pss_one (ps_ret (pe_tup (pa_cons (pv 2) (pa_cons (pe_lst (pa_cons pe_int pa_nil)) (pa_cons pe_int pa_nil))))))), ?_⟩
    have wsf : ∀ ws : List Str, (ws.map V.str).all flatV = true := fun ws => by
      rw [List.all_map]
      exact List.all_eq_true.mpr fun _ _ => rfl
    have f1 : (repS (Str.ofString "a") j).length ≤ 1000 ∧ (repS (Str.ofString "b") j).length ≤ 1000 ∧ (repS (Str.ofString "a") j).length + (repS (Str.ofString "b") j).length ≤ sizeLine ∧ repS (Str.ofString "a") j ++ repS (Str.ofString "b") j = (if j = 1 then w1_ else wA) := by
      rcases hj with rfl | rfl <;> decide +kernel
    have f2 : (wsT j 0 0).map V.str = [V.str (if j = 1 then w1_ else wA)] := by
      rcases hj with rfl | rfl <;> rfl
    have j12 : 1 ≤ j ∧ j ≤ 2 := by omega
    have nT3 : nT j ≤ 3 := by unfold nT; split <;> decide
    have oa : Str.ofString "a" = sgn 97 := by decide +kernel
    have ob : Str.ofString "b" = sgn 98 := by decide +kernel
    refine ⟨_, rfl, Str.ofString "a", (j : Int), rfl, rfl, by omega, by omega, by decide +kernel, f1.1, _, rfl, Str.ofString "b", (j : Int), rfl, rfl, by omega, by omega, by decide +kernel, f1.2.1, _, _, rfl, rfl, f1.2.2.1, ?_⟩
    refine ⟨by show 1 ≤ sizeLine; decide, fun Wd hWd => ⟨Nat.zero_le _, fun Fd hFd => ⟨_, _, _, rfl, ?_⟩⟩⟩
    have eW := Same.new (o := .lst [V.str (repS (Str.ofString "a") j ++ repS (Str.ofString "b") j)]) hWd
    have hFd : (upd H Wd (.lst [V.str (repS (Str.ofString "a") j ++ repS (Str.ofString "b") j)])) Fd = none := hFd
    have eF := Same.new (o := .lst []) hFd
    have nW : H Wd = none := hWd
    have nF : H Fd = none := L2.Same.none eW hFd
    have FW : Fd ≠ Wd := by
      rintro rfl
      rw [upd_same] at hFd
      cases hFd
    refine ⟨PLInv H j Wd Fd, ⟨nT j, 0, [], none, none, none, none, none, rfl, eW.trans eF, ?_, upd_same, Ea.nil, Nat.zero_le _, Nat.zero_add _⟩, ?_⟩
    · rw [f2, ← f1.2.2.2]
      exact eF _ _ upd_same
    rintro n0 _ H3 ⟨at', refs, x4, x5, x6, x7, x8, rfl, s3, hW, hF, hE, hle, hn⟩
    refine ⟨_, rfl, _, rfl, Wd, _, rfl, .inl (SqL.of hW), _, _, rfl, rfl, _, rfl, ifD_2 (fun hlt => ?_) (fun hge => ?_)⟩
    · have hlt : at' < nT j := (wsT_end hj hle).mp (by rw [List.length_map] at hlt; omega)
      refine ⟨fun σ' H' => ∃ m', m' < n0 ∧ PLInv H j Wd Fd m' σ' H', fun _ _ h => h, ?_⟩
      refine ⟨Nat.zero_le _, fun R0 hR0 => ?_⟩
      have eR := Same.new (o := .lst []) hR0
      refine ⟨Str.ofString "ab", rfl, ?_⟩
      refine for_it walk_str (fun i σ' H' => ∃ (Rd : Addr) (x5 x6 x7 x8 : Option V), σ' = [some (.int (j : Int)), some (.ref Wd), some (.ref Fd), some (.int (at' : Int)), some (.ref Rd), x5, x6, x7, x8] ∧ Same H H' ∧ H' Wd = some (.lst ((wsT j at' i).map V.str)) ∧ H' Fd = some (.lst refs) ∧ Ea H' isR refs ((List.range at').map (rowT j)) ∧ H' Rd = some (.lst (halfV (rowT j at') i)) ∧ Rd ≠ Wd ∧ Rd ≠ Fd) ?_ (fun _ _ _ _ _ => True.intro) ?_ ?_
      · exact ⟨R0, _, _, _, _, rfl, s3.trans eR, eR _ _ hW, eR _ _ hF, hE.imp fun c r q => eR _ _ q, upd_same, (ne_of_none hW hR0).symm, (ne_of_none hF hR0).symm⟩
      · rintro i x _ _ H5 hi ⟨Rd, x5, x6, x7, x8, rfl, s5, hW5, hF5, hE5, hR5, RW, RF⟩ ⟨rfl, c, hc, rfl⟩
        have hi2 : i < 2 := hi
        obtain rfl : c = sgL i := by
          rcases i with _ | _ | i
          · have : (Str.ofString "ab").cps[0]? = some 97 := by decide +kernel
            rw [this] at hc
            injection hc with hc
            exact hc.symm
          · have : (Str.ofString "ab").cps[1]? = some 98 := by decide +kernel
            rw [this] at hc
            injection hc with hc
            exact hc.symm
          · omega
        obtain ⟨z, z1, cut, z2, pb, pa, z3, hz, ps⟩ := pstep hj hlt hi2
        have hl1 : z1.length ≤ sizeLine := Nat.le_trans ps.l1.2 (by decide)
        refine ⟨_, rfl, _, rfl, _, rfl, Wd, _, (at' : Int), .str z, rfl, rfl, SqL.of hW5, atI_nat (by rw [List.getElem?_map, hz]; rfl), sgn (sgL i), z, rfl, rfl, ?_, ?_⟩
        · exact Nat.le_trans (Nat.add_le_add_left ps.lz 1) (by decide)
        rw [ps.e1]
        refine ⟨_, rfl, z1, rfl, hl1, _, _, rfl, rfl, ?_⟩
        have hl11 := ps.l1.1
        have ez : ((z1.length : Nat) : Int) - 1 = ((z1.length - 1 : Nat) : Int) := by omega
        refine ⟨fun n σ' H' => ∃ c, σ' = [some (.int (j : Int)), some (.ref Wd), some (.ref Fd), some (.int (at' : Int)), some (.ref Rd), some (.str (sgn (sgL i))), some (.str z1), some (.int ((c : Nat) : Int)), x8] ∧ H' = H5 ∧ cut ≤ c ∧ c < z1.length ∧ n = c, ⟨z1.length - 1, z1.length - 1, by rw [← ez]; rfl, rfl, by have := ps.cl; omega, by omega, rfl⟩, ?_⟩
        rintro n1 _ H6 ⟨c, rfl, hH6, h1, h2, rfl⟩
        have hH6 := hH6.symm
        subst hH6
        obtain ⟨y, hy, hye⟩ := ps.at_ _ h2 h1
        refine ⟨_, rfl, _, rfl, z1, _, y, rfl, rfl, hl1, atI_nat hy, _, rfl, rfl, _, rfl, ?_⟩
        rw [sgn_eq, hye]
        by_cases hcc : n1 = cut
        · rw [decide_eq_true hcc]
          subst hcc
          refine iteF ?_
          have hl2 : z2.length ≤ sizeLine := Nat.le_trans ps.l2 (by decide)
          refine ⟨_, rfl, _, rfl, _, rfl, z1, rfl, hl1, _, rfl, _, rfl, _, _, rfl, rfl, ((n1 + 1 : Nat) : Int), rfl, z1, rfl, hl1, _, _, rfl, rfl, Nat.le_trans (Nat.add_le_add ps.l2a.1 ps.l2a.2) (by decide), ?_⟩
          rw [ps.e2]
          refine ⟨_, rfl, _, rfl, z2, 98, j, pb, by rw [ob]; rfl, j12.1, j12.2, Nat.le_trans ps.l2 (by decide), ps.hb, fun H6 s6 => ?_⟩
          refine ⟨_, rfl, _, rfl, z2, 97, j, pa, by rw [oa]; rfl, j12.1, j12.2, Nat.le_trans ps.l2 (by decide), ps.ha, fun H7 s7 => ⟨_, _, rfl, rfl, ?_⟩⟩
          have s67 := s6.trans s7
          have hW7 := s67 _ _ hW5
          have hF7 := s67 _ _ hF5
          have hE7 := hE5.imp fun c r q => (show isR H7 c r from s67 _ _ q)
          have hR7 := s67 _ _ hR5
          have sH7 := s5.trans s67
          have etu : decide ((pb : Int) < (pa : Int)) = tuT j at' i := by
            rw [← ps.ht]
            exact decide_eq_decide.mpr Int.ofNat_lt
          refine ⟨fun σ' H' => σ' = [some (.int (j : Int)), some (.ref Wd), some (.ref Fd), some (.int (at' : Int)), some (.ref Rd), some (.str (sgn (sgL i))), some (.str z3), some (.int ((n1 : Nat) : Int)), some (.bl (tuT j at' i))] ∧ H' = H7, ?_, ?_⟩
          · refine ⟨_, rfl, decide ((pb : Int) < (pa : Int)), rfl, ?_⟩
            rw [etu]
            have e3 := ps.e3
            cases htu : tuT j at' i with
            | true =>
              rw [htu, if_pos rfl] at e3
              refine iteT ?_
              refine ⟨_, rfl, z2, rfl, ps.r1, _, rfl, ps.r2, _, rfl, ps.r3, ?_, rfl⟩
              rw [← e3, ← htu, ← etu]
              rfl
            | false =>
              rw [htu, if_neg (by decide)] at e3
              refine iteF ⟨?_, rfl⟩
              rw [← e3, ← htu, ← etu]
              rfl
          rintro _ H7' ⟨rfl, h7⟩
          have h7 := h7.symm
          subst h7
          refine ⟨fun σ' H' => σ' = [some (.int (j : Int)), some (.ref Wd), some (.ref Fd), some (.int (at' : Int)), some (.ref Rd), some (.str (sgn (sgL i))), some (.str z3), some (.int ((n1 : Nat) : Int)), some (.bl (tuT j at' i))] ∧ Same H H' ∧ H' Wd = some (.lst ((wsT j at' (i + 1)).map V.str)) ∧ H' Fd = some (.lst refs) ∧ Ea H' isR refs ((List.range at').map (rowT j)) ∧ H' Rd = some (.lst (halfV (rowT j at') i)), ?_, ?_⟩
          · refine ⟨_, rfl, _, rfl, Wd, _, rfl, .inl (SqL.of hW7), rfl, wsf _, _, rfl, ?_⟩
            have e4 := ps.e4
            show ite ((!inV (V.str z3) ((wsT j at' i).map V.str)) = true) _ _
            cases hin : inV (V.str z3) ((wsT j at' i).map V.str) with
            | true =>
              rw [hin, if_pos rfl] at e4
              refine iteF ⟨rfl, sH7, ?_, hF7, hE7, hR7⟩
              rw [← e4]
              exact hW7
            | false =>
              rw [hin, if_neg (by decide)] at e4
              refine iteT ?_
              refine ⟨_, rfl, .inl ⟨rfl, _, SqL.of hW7⟩, _, rfl, Wd, _, _, rfl, rfl, hW7, ?_, rfl, fun b o q => ?_, ?_, ?_, ?_, ?_⟩
              · rw [List.length_map]
                exact Nat.lt_of_le_of_lt ps.wl (by decide)
              · rw [upd_ne (ne_of_none q nW)]
                exact sH7 _ _ q
              · rw [upd_same, ← e4, List.map_append]
                rfl
              · rw [upd_ne FW]
                exact hF7
              · exact hE7.imp fun c r q => (show (upd H7 Wd _) c = some (.tup (rv (rz r))) by
                  rw [upd_ne (ne_of (show H7 c = some (.tup (rv (rz r))) from q) hW7 (by intro z; cases z))]
                  exact q)
              · rw [upd_ne RW]
                exact hR7
          rintro _ H8 ⟨rfl, sH8, hW8, hF8, hE8, hR8⟩
          refine ⟨_, rfl, _, rfl, .inl ⟨rfl, _, SqL.of hW8⟩, _, rfl, Wd, _, .str z3, ixT j at' i, .str z3, rfl, rfl, SqL.of hW8, rfl, wsf _, ?_, ?_, ?_, ?_⟩
          · rw [List.getElem?_map, ps.ixz]
            rfl
          · simp [eqV]
          · intro m' z' hm' hz'
            rw [List.getElem?_map, Option.map_eq_some_iff] at hz'
            obtain ⟨w', hw', rfl⟩ := hz'
            exact ps.ixn m' w' hm' hw'
          refine ⟨_, rfl, by show 2 ≤ sizeLine; decide, fun l1 hl1' => ?_⟩
          have e9 := Same.new (o := .lst [V.int ((ixT j at' i : Nat) : Int), .bl (tuT j at' i)]) hl1'
          refine ⟨Rd, l1, _, _, rfl, rfl, e9 _ _ hR8, upd_same, ?_, fun Rn hRn => ?_⟩
          · have : (halfV (rowT j at') i).length ≤ 4 := by
              rcases i with _ | _ | i
              · show 0 ≤ 4; decide
              · show 2 ≤ 4; decide
              · show 4 ≤ 4; decide
            exact Nat.le_trans (Nat.add_le_add_right this 2) (by decide)
          have e10 := Same.new (o := .lst (halfV (rowT j at') i ++ [V.int ((ixT j at' i : Nat) : Int), .bl (tuT j at' i)])) hRn
          refine ⟨Rn, _, _, _, _, rfl, (sH8.trans e9).trans e10, e10 _ _ (e9 _ _ hW8), e10 _ _ (e9 _ _ hF8), hE8.imp fun c r q => e10 _ _ (e9 _ _ q), ?_, (ne_of_none (e9 _ _ hW8) hRn).symm, (ne_of_none (e9 _ _ hF8) hRn).symm⟩
          rw [upd_same]
          rcases i with _ | _ | i
          · rfl
          · rfl
          · omega
        · rw [decide_eq_false hcc]
          refine iteT ?_
          refine ⟨fun σ' H' => ∃ m', m' < n1 ∧ ∃ c, σ' = [some (.int (j : Int)), some (.ref Wd), some (.ref Fd), some (.int (at' : Int)), some (.ref Rd), some (.str (sgn (sgL i))), some (.str z1), some (.int ((c : Nat) : Int)), x8] ∧ H' = H5 ∧ cut ≤ c ∧ c < z1.length ∧ m' = c, fun _ _ h => h, ?_⟩
          refine ⟨_, rfl, _, _, rfl, rfl, n1 - 1, by omega, n1 - 1, ?_, rfl, by omega, by omega, rfl⟩
          have en1 : ((n1 : Nat) : Int) - 1 = ((n1 - 1 : Nat) : Int) := by omega
          rw [← en1]
          rfl
      · rintro _ H5 ⟨Rd, x5, x6, x7, x8, rfl, s5, hW5, hF5, hE5, hR5, RW, RF⟩
        have hR5 : H5 Rd = some (.lst [.int ((rowT j at').1 : Int), .bl (rowT j at').2.1, .int ((rowT j at').2.2.1 : Int), .bl (rowT j at').2.2.2]) := hR5
        have hW5 : H5 Wd = some (.lst ((wsT j at' 2).map V.str)) := hW5
        have e2 : wsT j at' 2 = wsT j (at' + 1) 0 := wsT_next hj hlt
        rw [e2] at hW5
        have sR := SqL.of (K := K) hR5
        refine ⟨_, rfl, .inl ⟨rfl, _, SqL.of hF5⟩, _, rfl, Rd, _, 0, _, rfl, rfl, sR, rfl, _, rfl, Rd, _, 1, _, rfl, rfl, sR, rfl, _, rfl, Rd, _, 2, _, rfl, rfl, sR, rfl, _, rfl, Rd, _, 3, _, rfl, rfl, sR, rfl, by show 4 ≤ sizeLine; decide, fun t0 ht0 => ?_⟩
        have e6 := Same.new (o := .tup (rv (rz (rowT j at')))) ht0
        have g6 : (upd H5 t0 (.tup (rv (rz (rowT j at'))))) t0 = some (.tup (rv (rz (rowT j at')))) := upd_same
        have hF6 := e6 _ _ hF5
        have lr : refs.length = at' := by rw [hE5.1, List.length_map, List.length_range]
        refine ⟨Fd, refs, _, rfl, rfl, hF6, Nat.lt_of_le_of_lt (by omega : refs.length ≤ 3) (by decide), ?_⟩
        refine ⟨_, rfl, _, _, rfl, rfl, n0 - 1, by omega, at' + 1, refs ++ [.ref t0], _, _, _, _, _, rfl, fun b o q => ?_, ?_, upd_same, ?_, by omega, by omega⟩
        · rw [upd_ne (ne_of_none q nF)]
          exact e6 _ _ (s5 _ _ q)
        · rw [upd_ne FW.symm]
          exact e6 _ _ hW5
        · have mv : ∀ c r, isR (upd H5 t0 (.tup (rv (rz (rowT j at'))))) c r → isR (upd (upd H5 t0 (.tup (rv (rz (rowT j at'))))) Fd (.lst (refs ++ [.ref t0]))) c r := fun c r q => (show (upd (upd H5 t0 (.tup (rv (rz (rowT j at'))))) Fd _) c = some (.tup (rv (rz r))) by
            rw [upd_ne (ne_of (show (upd H5 t0 (.tup (rv (rz (rowT j at'))))) c = some (.tup (rv (rz r))) from q) hF6 (by intro z; cases z))]
            exact q)
          rw [List.range_succ, List.map_append]
          exact Ea.push (hE5.imp fun c r q => mv c r (e6 _ _ q)) (mv t0 _ g6)
    · have hge : ¬ at' < nT j := fun z => hge (by rw [List.length_map]; exact Int.ofNat_lt.mpr ((wsT_end hj hle).mpr z))
      have hat : at' = nT j := by omega
      subst hat
      refine ⟨_, rfl, by show 1 ≤ sizeLine; decide, fun S0 hS0 => ⟨by show 3 ≤ sizeLine; decide, fun t0 ht0 => ?_⟩⟩
      have e1 := Same.new (o := .lst (natsV [0])) hS0
      have e2 := Same.new (o := .tup [V.ref Fd, .ref S0, .int 1]) ht0
      exact kk t0 Fd S0 refs _ ((s3.trans e1).trans e2) upd_same (e2 _ _ (e1 _ _ hF)) (hE.imp fun c r q => e2 _ _ (e1 _ _ q)) (e2 _ _ upd_same) (L2.Same.none s3 hS0) nF
end
end PA

set_option maxHeartbeats 8000000
/-! what the law makes: Rules, Claims; the claim that is broken only where the second case was called last -/
namespace PA
open PySem L2 RZ
open C8 (pss_cut tCut)
open TC (Lc LOk GoodL verds)
open BR (Node)
open B2 (nd root calls child)
theorem mk_rows {C X : Addr} {H : Hp} {Q : VK} {E : XK} {L : Addr} {refs : List V} {rows : List (List V)} (hL : H L = some (.lst refs) ∨ H L = some (.tup refs)) (hE : Ea H CL.TLc refs rows) (hl : rows.length ≤ 9000) (hc : ∀ r ∈ rows, ∀ x ∈ r, CL.Cell H x) {x dx : Addr} (nx : H x = none) (ndx : H dx = none) (nex : dx ≠ x)
    (kg : CL.tabOk rows = true → ∀ H', Same H H' → CL.RowsAt C H' x rows → Q .non H') (kb : CL.tabOk rows = false → ∀ H', Same H H' → E (.ref X) none H') : CL.spInit C X [V.ref x, V.ref L] (upd (upd H dx (.own x)) x (.ins C dx [])) Q E := by
  have s1 : Same H (upd (upd H dx (.own x)) x (.ins C dx [])) := fun c o e => by
    rw [upd_ne (ne_of_none e nx), upd_ne (ne_of_none e ndx)]
    exact e
  refine ⟨x, dx, L, refs, rows, rfl, upd_same, hL.imp (fun q => s1 _ _ q) (fun q => s1 _ _ q), hE.imp fun c r q => q.imp (fun q => s1 _ _ q) (fun q => s1 _ _ q), hl, fun r hr v hv => (hc r hr v hv).kin fun c xs e => s1 _ _ e, fun ok H' r kp => kg ok H' (fun c o e => kp c o (s1 _ _ e) (ne_of_none e nx)) r, fun bad H' kp => kb bad H' fun c o e => kp c o (s1 _ _ e) (ne_of_none e nx)⟩
theorem ea_map {P : Hp → Addr → Lc → Prop} {P' : Hp → Addr → List V → Prop} {H : Hp} {refs : List V} {ls : List Lc} (e : Ea H P refs ls) (f : ∀ c l, P H c l → P' H c (CL.lv l)) : Ea H P' refs (ls.map CL.lv) :=
  ⟨by rw [e.1, List.length_map], fun i x r h1 h2 => by
    rw [List.getElem?_map, Option.map_eq_some_iff] at h2
    obtain ⟨l, hl, rfl⟩ := h2
    obtain ⟨c, hx, q⟩ := e.2 i x l h1 hl
    exact ⟨c, hx, f c l q⟩⟩
theorem ea_unmap {H : Hp} {refs : List V} {ls : List Lc} (e : Ea H CL.isC refs (ls.map CL.lv)) : Ea H isLc refs ls :=
  ⟨by rw [e.1, List.length_map], fun i x l h1 h2 => by
    obtain ⟨c, hx, q⟩ := e.2 i x (CL.lv l) h1 (by rw [List.getElem?_map, h2]; rfl)
    exact ⟨c, hx, q⟩⟩
theorem mk_claim {CC XC : Addr} {H : Hp} {Q : VK} {E : XK} {L : Addr} {refs : List V} {ls : List Lc} (hL : H L = some (.lst refs)) (hE : Ea H isLc refs ls) (gd : GoodL ls) {x dx : Addr} (nx : H x = none) (ndx : H dx = none) (nex : dx ≠ x)
    (kg : ∀ H', Same H H' → ClaimL CC H' x ls → Q .non H') : CL.spInit CC XC [V.ref x, V.ref L] (upd (upd H dx (.own x)) x (.ins CC dx [])) Q E := by
  have h48 := gd.most
  refine mk_rows (.inl hL) (ea_map hE fun c l z => .inl z) (by rw [List.length_map]; omega) (fun r hr x hx => ?_) nx ndx nex (fun ok H' s' rs => ?_) fun bad => absurd (bad.symm.trans (CL.tab_lv.mpr gd)) (by decide)
  · obtain ⟨l, _, rfl⟩ := List.mem_map.mp hr
    exact CL.cell_lv x hx
  · obtain ⟨d, T, rf', h1, h2, h3⟩ := rs
    exact kg H' s' ⟨d, T, rf', h1, h2, ea_unmap h3⟩
theorem okT_good {A : List Rn} {st : List Nat} {m : Nat} (o : OkT A st m) : Good (A.map rz) (stZ st) (m : Int) := by
  have l1 : (A.map rz).length = A.length := List.length_map _
  refine ⟨by rw [l1]; exact o.a1, by rw [l1]; exact Nat.le_trans o.a4 (by decide), fun r hr => ?_, ?_, fun s hs => ?_⟩
  · obtain ⟨q, hq, rfl⟩ := List.mem_map.mp hr
    have := o.ok q hq
    rw [l1]
    exact ⟨⟨Int.natCast_nonneg _, Int.ofNat_lt.mpr this.1⟩, Int.natCast_nonneg _, Int.ofNat_lt.mpr this.2⟩
  · have h1 := o.m1
    have h4 := o.m4
    have hl : ((stZ st).length : Int) = ((m * m : Nat) : Int) := by unfold stZ; rw [List.length_map, o.len]
    rw [hl]
    rcases (by omega : m = 1 ∨ m = 2 ∨ m = 3 ∨ m = 4) with rfl | rfl | rfl | rfl
    · exact .r1
    · exact .r2
    · exact .r3
    · exact .r4
  · unfold stZ at hs
    obtain ⟨q, hq, rfl⟩ := List.mem_map.mp hs
    rw [l1]
    exact ⟨Int.natCast_nonneg _, Int.ofNat_lt.mpr (o.sa q hq)⟩
theorem natsV_stZ (st : List Nat) : natsV st = (stZ st).map V.int := by
  unfold natsV stZ
  rw [List.map_map]
  rfl
theorem mk_ruleL {K : PySem.W.Frag} {C X : Addr} {H : Hp} {Q : VK} {E : XK} {R S : Addr} {refs : List V} {A : List Rn} {st : List Nat} {m : Nat} (hR : H R = some (.lst refs)) (hE : Ea H isR refs A) (hS : H S = some (.lst (natsV st))) (o : OkT A st m) {x dx : Addr} (nx : H x = none) (ndx : H dx = none) (nex : dx ≠ x)
    (kg : ∀ H', Same H H' → RuleAt K C H' x (A.map rz) (stZ st) (m : Int) → Q .non H') : spInit K C X [V.ref x, V.ref R, V.ref S] (upd (upd H dx (.own x)) x (.ins C dx [])) Q E := by
  have g := okT_good o
  have a4 := o.a4
  have s16 := o.st16
  rw [natsV_stZ] at hS
  have hE' : Ea H TLc refs ((A.map rz).map rv) := ⟨by rw [hE.1, List.length_map, List.length_map], fun i y r h1 h2 => by
    rw [List.getElem?_map, Option.map_eq_some_iff] at h2
    obtain ⟨r1, h2, rfl⟩ := h2
    rw [List.getElem?_map, Option.map_eq_some_iff] at h2
    obtain ⟨r2, h2, rfl⟩ := h2
    obtain ⟨c, hx, q⟩ := hE.2 i y r2 h1 h2
    exact ⟨c, hx, .inl q⟩⟩
  refine mk_rule (.inl hR) hE' (.inl hS) (by rw [List.length_map, List.length_map]; omega) (by unfold stZ; rw [List.length_map, List.length_map]; omega) (fun r hr v hv => ?_) (fun v hv => ?_) nx ndx nex (fun rs ss k e1 e2 gd H' s' r' => ?_) fun bad => absurd (bad.symm.trans (tab_good g)) (by decide)
  · obtain ⟨r1, _, rfl⟩ := List.mem_map.mp hr
    simp only [rv, List.mem_cons, List.not_mem_nil, or_false] at hv
    rcases hv with rfl | rfl | rfl | rfl
    · exact .int _
    · exact .bl _
    · exact .int _
    · exact .bl _
  · obtain ⟨i, _, rfl⟩ := List.mem_map.mp hv
    exact .int _
  · have h1 := rows_inj e1
    have h2 := ints_inj e2
    subst h1 h2
    have h3 := root_fun gd.root g.root
    subst h3
    exact kg H' s' r'
/-! ### the claim that is broken only where the second case was called last -/
def eL : List Lc := [(1, 2, "free"), (1, 2, "last"), (2, 2, "free")]
theorem eL_good : GoodL eL := by
  refine ⟨by decide, by decide, fun l hl => ?_⟩
  simp only [eL, List.mem_cons, List.not_mem_nil, or_false] at hl
  rcases hl with rfl | rfl | rfl <;> exact ⟨by decide, by decide, by decide +kernel⟩
theorem eL_res (h0 : 0 < [0].length) : B2.Res (bS stillR [0] eL h0) (some (2, 1)) := by
  have n0 : nd (bS stillR [0] eL h0) 0 = (none, 0, false, 0) := B2.nd_root (S := bS stillR [0] eL h0) (by show 0 < 1; decide)
  have n1 : nd (bS stillR [0] eL h0) 1 = (some 0, 0, false, 0) := by
    have := B2.nd_child (S := bS stillR [0] eL h0) (p := 0) (c := 0) (by decide)
    rw [n0] at this
    exact this
  have n2 : nd (bS stillR [0] eL h0) 2 = (some 1, 0, false, 0) := by
    have := B2.nd_child (S := bS stillR [0] eL h0) (p := 0) (c := 1) (by decide)
    rw [n0] at this
    exact this
  refine ⟨by decide, ?_, fun q d hd hq => ?_, fun d hd => ?_⟩
  · show BR.okN eL (BR.stp (stillR.map toLr) eL (nd (bS stillR [0] eL h0) 2) 1) = false
    rw [n2]
    decide +kernel
  · show ¬ BR.okN eL (BR.stp (stillR.map toLr) eL (nd (bS stillR [0] eL h0) q) d) = false
    rcases (by omega : q = 0 ∨ q = 1) with rfl | rfl
    · rw [n0]
      rcases (by omega : d = 0 ∨ d = 1) with rfl | rfl <;> decide +kernel
    · rw [n1]
      rcases (by omega : d = 0 ∨ d = 1) with rfl | rfl <;> decide +kernel
  · show ¬ BR.okN eL (BR.stp (stillR.map toLr) eL (nd (bS stillR [0] eL h0) 2) d) = false
    rw [n2]
    obtain rfl : d = 0 := by omega
    decide +kernel
theorem eL_val {H : Hp} {h0 : 0 < [0].length} {v : V} (h : BrkV H (bS stillR [0] eL h0) 1 (some (2, 1)) v) : ∃ t cc, v = .ref t ∧ H t = some (.tup [.int 0, .int 0, .ref cc]) ∧ H cc = some (.tup [.int 1, .int 1]) := by
  obtain ⟨t, cc, rfl, h1, h2⟩ := h
  have r2 : root (bS stillR [0] eL h0) 2 = 0 := by
    have := B2.root_child (S := bS stillR [0] eL h0) (p := 0) (c := 1) (by decide)
    exact this.trans (B2.root_root (S := bS stillR [0] eL h0) (by show 0 < 1; decide))
  have c2 : calls (bS stillR [0] eL h0) 2 = [1] := by
    have := B2.calls_child (S := bS stillR [0] eL h0) (p := 0) (c := 1) (by decide)
    exact this.trans (congrArg (· ++ [1]) (B2.calls_root (S := bS stillR [0] eL h0) (p := 0) (by show 0 < 1; decide)))
  rw [r2] at h1
  rw [c2] at h2
  exact ⟨t, cc, rfl, h1, h2⟩
theorem prV_snoc (A : List Rn) (s : Nat × Bool) (ds : List Nat) (c : Nat) : prV A s (ds ++ [c]) = prV A s ds ++ [V.bl (prS A s (ds ++ [c])).2] := by
  unfold prV
  rw [List.length_append, List.length_singleton, List.range_succ, List.map_append]
  congr 1
  · refine List.map_congr_left fun j hj => ?_
    have hj := List.mem_range.mp hj
    rw [List.take_append_of_le_length (by omega)]
  · show [V.bl (prS A s ((ds ++ [c]).take (ds.length + 1))).2] = _
    rw [List.take_of_length_le (by rw [List.length_append]; exact Nat.le_refl _)]
theorem natsV_snoc (ds : List Nat) (c : Nat) : natsV (ds ++ [c]) = natsV ds ++ [V.int (c : Int)] := by
  unfold natsV
  rw [List.map_append]
  rfl
end PA

set_option maxHeartbeats 16000000
/-! the law -/
namespace PA
open PySem L2 RZ
open C8 (pss_cut tCut)
open TC (Lc LOk GoodL verds)
open BR (Node)
open B2 (nd root calls child)
/-- the law's table beside the stream of draws -/
def TabK (H : Hp) (a l t : Addr) (A : List Rn) (st : List Nat) (m : Nat) : Prop := ∃ R S refs, H t = some (.tup [.ref R, .ref S, .int (m : Int)]) ∧ H R = some (.lst refs) ∧ Ea H isR refs A ∧ H S = some (.lst (natsV st)) ∧ R ≠ a ∧ R ≠ l ∧ S ≠ a ∧ S ≠ l
theorem TabK.tab {H : Hp} {a l t : Addr} {A : List Rn} {st : List Nat} {m : Nat} (h : TabK H a l t A st m) : TabL H t A st m := let ⟨R, S, refs, h1, h2, h3, h4, _⟩ := h; ⟨R, S, refs, h1, h2, h3, h4⟩
theorem tup_kp {H H' : Hp} {a l c : Addr} {n : Nat} {xs : List V} (h : H c = some (.tup xs)) (S : StreamAt H a l n) (k : Keep a l H H') : H' c = some (.tup xs) := by
  obtain ⟨ne, ns, x, z, h1, h2, _⟩ := S
  exact k _ _ (ne_of (H := H) h h1 (by intro z; cases z)) (ne_of (H := H) h h2 (by intro z; cases z)) h
theorem TabK.kp {H H' : Hp} {a l t : Addr} {A : List Rn} {st : List Nat} {m n : Nat} (h : TabK H a l t A st m) (S : StreamAt H a l n) (k : Keep a l H H') : TabK H' a l t A st m := by
  obtain ⟨R, Sd, refs, h1, h2, h3, h4, n1, n2, n3, n4⟩ := h
  exact ⟨R, Sd, refs, tup_kp h1 S k, k _ _ n1 n2 h2, h3.imp fun c r q => q.kp S k, k _ _ n3 n4 h4, n1, n2, n3, n4⟩
theorem TabK.same {H H' : Hp} {a l t : Addr} {A : List Rn} {st : List Nat} {m : Nat} (h : TabK H a l t A st m) (s : Same H H') : TabK H' a l t A st m := by
  obtain ⟨R, Sd, refs, h1, h2, h3, h4, n⟩ := h
  exact ⟨R, Sd, refs, s _ _ h1, s _ _ h2, h3.imp fun c r q => s _ _ q, s _ _ h4, n⟩
/-- the lines beside the stream and the table -/
def LinK (H : Hp) (a l t L : Addr) (ls : List Lc) : Prop := LinL H L ls ∧ L ≠ a ∧ L ≠ l ∧ ∀ R S k, H t = some (.tup [.ref R, .ref S, k]) → L ≠ R ∧ L ≠ S
theorem LinK.kp {H H' : Hp} {a l t L R S : Addr} {k' : V} {ls : List Lc} {n : Nat} (h : LinK H a l t L ls) (ht : H t = some (.tup [.ref R, .ref S, k'])) (S0 : StreamAt H a l n) (k : Keep a l H H') : LinK H' a l t L ls := by
  obtain ⟨⟨refs, h1, h2⟩, n1, n2, h3⟩ := h
  refine ⟨⟨refs, k _ _ n1 n2 h1, h2.imp fun c r q => tup_kp q S0 k⟩, n1, n2, fun R' S' k2 e => ?_⟩
  have := tup_kp ht S0 k
  rw [this] at e
  cases e
  exact h3 _ _ _ ht
theorem LinK.same {H H' : Hp} {a l t L R S : Addr} {k' : V} {ls : List Lc} (h : LinK H a l t L ls) (ht : H t = some (.tup [.ref R, .ref S, k'])) (s : Same H H') : LinK H' a l t L ls := by
  obtain ⟨h1, n1, n2, h3⟩ := h
  refine ⟨h1.same s, n1, n2, fun R' S' k2 e => ?_⟩
  rw [s _ _ ht] at e
  cases e
  exact h3 _ _ _ ht
/-- how the law stands: stream, table, lines -/
structure LSt (H : Hp) (a l t L : Addr) (A : List Rn) (st : List Nat) (m : Nat) (ls : List Lc) (n : Nat) : Prop where
  S : StreamAt H a l n
  T : TabK H a l t A st m
  ok : OkT A st m
  L : LinK H a l t L ls
  gl : GoodL ls
theorem LSt.kp {H H' : Hp} {a l t L : Addr} {A : List Rn} {st : List Nat} {m n n' : Nat} {ls : List Lc} (h : LSt H a l t L A st m ls n) (S' : StreamAt H' a l n') (k : Keep a l H H') : LSt H' a l t L A st m ls n' := by
  obtain ⟨R, Sd, refs, h1, _⟩ := id h.T
  exact ⟨S', h.T.kp h.S k, h.ok, h.L.kp h1 h.S k, h.gl⟩
theorem LSt.same {H H' : Hp} {a l t L : Addr} {A : List Rn} {st : List Nat} {m n : Nat} {ls : List Lc} (h : LSt H a l t L A st m ls n) (s : Same H H') : LSt H' a l t L A st m ls n := h.kp (h.S.same s) (Keep.of s)
theorem tab_conv {rows : List Rw} {starts : List Int} {k : Int} (g : Good rows starts k) : ∃ (A : List Rn) (st : List Nat) (m : Nat), rows = A.map rz ∧ starts = stZ st ∧ k = (m : Int) ∧ OkT A st m := by
  have e1 : rows = (rows.map toLr).map rz := by
    rw [List.map_map]
    have : ∀ r ∈ rows, (rz ∘ toLr) r = r := fun r hr => by
      obtain ⟨⟨a0, _⟩, c0, _⟩ := g.ok r hr
      show (((r.1.toNat : Nat) : Int), r.2.1, ((r.2.2.1.toNat : Nat) : Int), r.2.2.2) = r
      rw [Int.toNat_of_nonneg a0, Int.toNat_of_nonneg c0]
    exact (List.map_congr_left this).symm ▸ (List.map_id rows).symm
  have e2 : starts = stZ (starts.map Int.toNat) := by
    unfold stZ
    rw [List.map_map]
    have : ∀ s ∈ starts, ((fun (n : Nat) => (n : Int)) ∘ Int.toNat) s = s := fun s hs => Int.toNat_of_nonneg (g.st s hs).1
    exact (List.map_congr_left this).symm ▸ (List.map_id starts).symm
  obtain ⟨m, hk, h1, h4, hl⟩ : ∃ m : Nat, k = (m : Int) ∧ 1 ≤ m ∧ m ≤ 4 ∧ starts.length = m * m := by
    have hr := g.root
    generalize hz : (starts.length : Int) = z at hr
    cases hr
    · exact ⟨1, rfl, by decide, by decide, by omega⟩
    · exact ⟨2, rfl, by decide, by decide, by omega⟩
    · exact ⟨3, rfl, by decide, by decide, by omega⟩
    · exact ⟨4, rfl, by decide, by decide, by omega⟩
  refine ⟨rows.map toLr, starts.map Int.toNat, m, e1, e2, hk, fun r hr => ?_, fun s hs => ?_, by rw [List.length_map, hl], h1, h4, by rw [List.length_map]; exact g.one, by rw [List.length_map]; exact g.most⟩
  · obtain ⟨q, hq, rfl⟩ := List.mem_map.mp hr
    obtain ⟨⟨a0, a1⟩, c0, c1⟩ := g.ok q hq
    rw [List.length_map]
    show q.1.toNat < _ ∧ q.2.2.1.toNat < _
    omega
  · obtain ⟨q, hq, rfl⟩ := List.mem_map.mp hs
    have := g.st q hq
    rw [List.length_map]
    omega
theorem okT_last {j : Nat} (hj : j = 1 ∨ j = 2) : OkT (rowsT j) [0] 1 := by
  obtain ⟨h1, h2, h3⟩ := rowsT_ok hj
  refine ⟨h1, fun s hs => ?_, rfl, by decide, by decide, h3, by omega⟩
  cases List.mem_singleton.mp hs
  exact h3
theorem each_unmap {H : Hp} {refs : List V} {A : List Rn} (e : Each H isT refs (A.map rz)) : Ea H isR refs A :=
  ⟨by rw [e.1, List.length_map], fun i x r h1 h2 => by
    obtain ⟨c, hx, q⟩ := e.2 i x (rz r) h1 (by rw [List.getElem?_map, h2]; rfl)
    exact ⟨c, hx, q⟩⟩
theorem Ea.set_ {H : Hp} {refs : List V} {ls : List Lc} {j : Nat} {q : Addr} {l : Lc} (e : Ea H isLc refs ls) (h : isLc H q l) : Ea H isLc (refs.set j (.ref q)) (ls.set j l) := by
  refine ⟨by rw [List.length_set, List.length_set, e.1], fun i x r h1 h2 => ?_⟩
  rw [List.getElem?_set] at h1 h2
  by_cases hij : j = i
  · rw [if_pos hij] at h1 h2
    split at h1
    · split at h2
      · cases h1
        cases h2
        exact ⟨q, rfl, h⟩
      · cases h2
    · cases h1
  · rw [if_neg hij] at h1 h2
    exact e.2 i x r h1 h2
theorem good_set {ls : List Lc} {j : Nat} {z : Str} (g : GoodL ls) (hj : j < ls.length) (hz : z ∈ verds) : GoodL (ls.set j (ls[j].1, ls[j].2.1, z)) := by
  refine ⟨by rw [List.length_set]; exact g.one, by rw [List.length_set]; exact g.most, fun l hl => ?_⟩
  rw [List.length_set]
  obtain ⟨i, hi⟩ := List.getElem?_of_mem hl
  by_cases hij : j = i
  · subst hij
    rw [List.getElem?_set_self hj] at hi
    cases hi
    have := g.ok _ (List.getElem_mem hj)
    exact ⟨this.1, this.2.1, hz⟩
  · rw [List.getElem?_set_ne hij] at hi
    exact g.ok _ (List.mem_of_getElem? hi)
structure Prog (K : PySem.W.Frag) (w : World) (mg : Str → Option Value) (C X PE_ fI dd g1 g2 g3 g4 fS s1 s2 s3 r1 r2 fR pR CC XC PC Fo fIC c3 c4 fB gN gA gV gW fVer gAC fHas fSt fDraw fStart fPick fSame fJth fPl fTab fAft fPair fCl fAl fKp fLB : Addr) (mc : Value) (dI gd1 gd2 gd3 gd4 dS sd1 sd2 sd3 rd1 rd2 dR dIC cd3 cd4 dB eN eA eV eW dVer dAC dHas dSt dDraw dStart dPick dSame dJth dPl dTab dAft dPair dCl dAl dKp dLB : FuncData) : Prop where
  L : LibR K w mg C X PE_ fI dd g1 g2 g3 g4 fS s1 s2 s3 r1 r2 dI gd1 gd2 gd3 gd4 dS sd1 sd2 sd3 rd1 rd2
  FR : Fun K "read" "Rule.read" sRead fR dR
  bR : Binds K dR ["text"] []
  cr : ClX.CRead K C mc
  sm : SMet K C mc "read" pR fR
  TCt : CL.Txt K mg
  TC : CL.TxtC K mg CC Fo
  TXC : CL.TxtX K mg XC PC
  TV : TxtV K mg
  IC : Fun K "__init__" "Claim.__init__" CL.sInit fIC dIC
  MC : Mk K CC fIC
  bIC : Binds K dIC ["self", "rows"] []
  C3 : DfA K mg "is_row_claims" "_is_row" CL.sIsRow c3 cd3 ["row", "count"]
  C4 : Df K mg "_check_rows" CL.sCheck c4 cd4 ["rows"]
  FB : Fun K "broken" "Claim.broken" sBroken fB dB
  bB : Binds K dB ["self", "rule"] []
  mB : Meth K CC "broken" fB
  next : Df K mg "_next_entry" sNext gN eN ["claim_rows", "rule_rows", "entry", "at", "call"]
  allowed : Df K mg "_is_allowed" sAllowed gA eA ["claim_rows", "entry"]
  number : Df K mg "_number" sNumV gV eV ["rows", "state"]
  way : Df K mg "way_to" sWay gW eW ["entries", "at"]
  FV : Fun K "verdict" "Claim.verdict" sVerC fVer dVer
  bV : Binds K dVer ["self", "calls"] []
  mV : Meth K CC "verdict" fVer
  afterC : Df K mg "state_after" sAfterC gAC dAC ["rows", "calls"]
  FH : Fun K "__contains__" "Claim.__contains__" sHasC fHas dHas
  bH : Binds K dHas ["self", "rule"] []
  mH : Meth K CC "__contains__" fHas
  still : Df K mg "still" sStill fSt dSt []
  draw : Df K mg "_law_draw" sDraw fDraw dDraw ["_law_stream", "_law_many"]
  start : Df K mg "_law_start" sStart fStart dStart ["_law_script"]
  pick : Df K mg "_law_pick" sPick fPick dPick ["_law_stream", "_law_some"]
  same : Df K mg "_law_same" sSame fSame dSame ["_law_found", "_law_due"]
  jth : Df K mg "_law_p_jth" sJth fJth dJth ["_law_word", "_law_sign", "_law_j"]
  plast : Df K mg "_law_p_last" sPLast fPl dPl ["_law_j"]
  tab : Df K mg "_law_m_table" sTable fTab dTab ["_law_stream", "_law_most", "_law_marks"]
  aft : Df K mg "_law_m_after" sAft fAft dAft ["_law_row", "_law_behind"]
  pair : Df K mg "_law_m_pair" sPair fPair dPair ["_law_table", "_law_low", "_law_high", "_law_calls"]
  claim : Df K mg "_law_m_claim" CL.sClaim fCl dCl ["_law_stream", "_law_most"]
  allows : Df K mg "_law_m_allows" sAllows fAl dAl ["_law_word", "_law_same_here"]
  kept : Df K mg "_law_m_kept" sKept fKp dKp ["_law_table", "_law_most"]
  lbrk : Df K mg "_law_m_broken" sLBrk fLB dLB ["_law_table", "_law_lines"]
def spLaw (K : PySem.W.Frag) : Sp := fun vs H Q _ => ∃ (a : Addr) (ns : List Int), vs = [.ref a] ∧ SqL K H a (ns.map V.int) ∧ ns.length ≤ 63 ∧ ∀ H', Q (.bl true) H'
abbrev NLw : List Str := ["_law_script", "_law_stream", "_law_kind", "_law_table", "_law_lines", "_law_kept", "_law_at", "_law_either", "_law_rule", "_law_claim", "_law_due", "_law_found", "_law_turned"]
section
variable {P : Program} {w : World} {K : PySem.W.Frag} {mg : Str → Option Value} {base : Heap}
theorem scLaw : FnScope NLw ["_law_script"] (defScope sLaw) := ⟨rfl, rfl, rfl, by decide +kernel, rfl, by decide +kernel, by decide +kernel⟩
theorem ok_law {f C X PE_ fI dd g1 g2 g3 g4 fS s1 s2 s3 r1 r2 fR pR CC XC PC Fo fIC c3 c4 fB gN gA gV gW fVer gAC fHas fSt fDraw fStart fPick fSame fJth fPl fTab fAft fPair fCl fAl fKp fLB : Addr} {mc : Value} {fd dI gd1 gd2 gd3 gd4 dS sd1 sd2 sd3 rd1 rd2 dR dIC cd3 cd4 dB eN eA eV eW dVer dAC dHas dSt dDraw dStart dPick dSame dJth dPl dTab dAft dPair dCl dAl dKp dLB : FuncData} (F : Fun K "law" "law" sLaw f fd)
    (G : Prog K w mg C X PE_ fI dd g1 g2 g3 g4 fS s1 s2 s3 r1 r2 fR pR CC XC PC Fo fIC c3 c4 fB gN gA gV gW fVer gAC fHas fSt fDraw fStart fPick fSame fJth fPl fTab fAft fPair fCl fAl fKp fLB mc dI gd1 gd2 gd3 gd4 dS sd1 sd2 sd3 rd1 rd2 dR dIC cd3 cd4 dB eN eA eV eW dVer dAC dHas dSt dDraw dStart dPick dSame dJth dPl dTab dAft dPair dCl dAl dKp dLB) : FnOk P w K mg base CX0 9 f fd ["_law_script"] (spLaw K) := by
  have L := G.L
  have T := L.T
  have TX := L.TX
  have TC := G.TC
  have GI : FnOk P w K mg base (L2.CX P w) 5 fI dI ["self", "rows", "starts"] (spInit K C X) := ok_init L.I T TX L.D1 L.D2 L.D3 L.D4
  have GIC : FnOk P w K mg base (L2.CX P w) 5 fIC dIC ["self", "rows"] (CL.spInit CC XC) := CL.ok_init G.IC G.TCt TC G.TXC L.D1 L.D2 G.C3 G.C4
  have GR : FnOk P w K mg base (L2.CX P w) 7 fR dR ["text"] (spRead K C X) := ok_read G.FR L
  have GSt : FnOk P w K mg base (L2.CX P w) 8 fSt dSt [] (spStill K C) := ok_still G.still.F T G.cr G.sm G.FR.kp G.bR GR
  have GB : FnOk P w K mg base CX0 3 fB dB ["self", "rule"] (spBroken K C CC) := ok_broken G.FB T TC G.TV G.next G.allowed G.number G.way
  have GV : FnOk P w K mg base CX0 2 fVer dVer ["self", "calls"] (spVerC CC) := ok_verC G.FV T TC G.afterC
  have GH : FnOk P w K mg base CX0 4 fHas dHas ["self", "rule"] (spHasC K C CC) := ok_hasC G.FH TC G.mB G.FB.kp G.bB GB
  have GDraw : FnOk P w K mg base CX0 1 fDraw dDraw ["_law_stream", "_law_many"] spDraw := ok_draw G.draw.F T
  have GStart : FnOk P w K mg base CX0 1 fStart dStart ["_law_script"] (spStart K) := ok_start G.start.F T
  have GPick : FnOk P w K mg base CX0 2 fPick dPick ["_law_stream", "_law_some"] spPick := ok_pick G.pick.F T G.draw
  have GSame : FnOk P w K mg base CX0 3 fSame dSame ["_law_found", "_law_due"] (spSame K 2) := ok_same G.same T 2
  have GPl : FnOk P w K mg base CX0 2 fPl dPl ["_law_j"] (spPL K) := ok_plast G.plast.F T G.jth
  have GTab : FnOk P w K mg base CX0 2 fTab dTab ["_law_stream", "_law_most", "_law_marks"] spTable := ok_table G.tab.F T G.draw
  have GPair : FnOk P w K mg base CX0 2 fPair dPair ["_law_table", "_law_low", "_law_high", "_law_calls"] spPair := ok_pair G.pair.F G.aft
  have GCl : FnOk P w K mg base CX0 3 fCl dCl ["_law_stream", "_law_most"] CL.spLines := CL.ok_claim G.claim.F T G.draw G.pick
  have GAl : FnOk P w K mg base CX0 1 fAl dAl ["_law_word", "_law_same_here"] spAllows := ok_allows G.allows.F
  have GKp : FnOk P w K mg base CX0 2 fKp dKp ["_law_table", "_law_most"] spKept := ok_kept G.kept.F T G.aft
  have GLB : FnOk P w K mg base CX0 2 fLB dLB ["_law_table", "_law_lines"] spLBrk := ok_lbrk G.lbrk.F T G.aft G.allows
  refine F.ok scLaw (fun vs H Q E h => ?_) (fun cdv A0 outer s H vs Q E hr h => ?_)
  · obtain ⟨a, ns, rfl, _⟩ := h
    rfl
  · obtain ⟨a0, ns, rfl, hS, hlen, kk⟩ := h
    have hr1 : Room 1 _ := hr.mono (by decide)
    have hr2 : Room 2 _ := hr.mono (by decide)
    have hr3 : Room 3 _ := hr.mono (by decide)
    have hr4 : Room 4 _ := hr.mono (by decide)
    have hr6 : Room 6 _ := hr.mono (by decide)
    have hr8 : Room 8 _ := hr.mono (by decide)
    refine ⟨_, pss_cons (ps_set (i := 1) scLaw.nd rfl (Or.inl rfl) (pe_call GStart hr1 rfl G.start.M G.start.F.kp G.start.B .nil pass0 (pa_cons (pv 0) pa_nil)))
      (pss_cons (ps_set (i := 2) scLaw.nd rfl (Or.inl rfl) (pe_call GDraw hr1 rfl G.draw.M G.draw.F.kp G.draw.B .nil pass0 (pa_cons (pv 1) (pa_cons pe_int pa_nil))))
      (pss_cons (ps_set (i := 3) scLaw.nd rfl (Or.inl rfl) (pe_call GPl hr2 rfl G.plast.M G.plast.F.kp G.plast.B .nil pass0 (pa_cons (pe_op op_add pe_int (pe_call GDraw hr1 rfl G.draw.M G.draw.F.kp G.draw.B .nil pass0 (pa_cons (pv 1) (pa_cons pe_int pa_nil)))) pa_nil)))
      (pss_cut (ps_if (pt_cmpR op_gt (pv 2) pe_int (nomark _)) (pss_one (ps_set (i := 3) scLaw.nd rfl (Or.inl rfl) (pe_call GTab hr2 rfl G.tab.M G.tab.F.kp G.tab.B .nil pass0 (pa_cons (pv 1) (pa_cons (pe_ix ix_list (pe_lst (pa_cons pe_int (pa_cons pe_int (pa_cons pe_int pa_nil)))) (pe_op op_sub (pv 2) pe_int) (fun _ _ => rfl)) (pa_cons (pe_ix ix_list (pe_lst (pa_cons pe_int (pa_cons pe_int (pa_cons pe_int pa_nil)))) (pe_op op_sub (pv 2) pe_int) (fun _ _ => rfl)) pa_nil)))))) pss_nil)
      (pss_cons (ps_set (i := 4) scLaw.nd rfl (Or.inl rfl) (pe_call GCl hr3 rfl G.claim.M G.claim.F.kp G.claim.B .nil pass0 (pa_cons (pv 1) (pa_cons pe_int pa_nil))))
      (pss_cut (ps_if (pt_cmpR op_lt (pv 2) pe_int (nomark _)) (pss_cons (ps_set (i := 5) scLaw.nd rfl (Or.inl rfl) (pe_call GKp hr2 rfl G.kept.M G.kept.F.kp G.kept.B .nil pass0 (pa_cons (pv 3) (pa_cons pe_int pa_nil))))
          (pss_cons (ps_set (i := 4) scLaw.nd rfl (Or.inl rfl) (pe_ifExp (pt_cmpR op_isN (pv 5) pe_non (nomark _)) (pv 4) (pv 5)))
          (pss_one (ps_if (PW.pt (pw_and (pt_cmpR op_notN (pv 5) pe_non (nomark _)) (pw_and1 (pt_cmpR op_notN (pe_call GLB hr2 rfl G.lbrk.M G.lbrk.F.kp G.lbrk.B .nil pass0 (pa_cons (pv 3) (pa_cons (pv 4) pa_nil))) pe_non (nomark _))))) pss_never pss_nil)))) pss_nil)
      (pss_cut (ps_if (PW.pt (pw_and (pt_cmpR op_eq (pv 2) pe_int (nomark _)) (pw_and1 (pt_cmpR op_eq (pe_call GDraw hr1 rfl G.draw.M G.draw.F.kp G.draw.B .nil pass0 (pa_cons (pv 1) (pa_cons pe_int pa_nil))) pe_int (nomark _)))))
          (pss_cons (ps_set (i := 6) scLaw.nd rfl (Or.inl rfl) (pe_call GDraw hr1 rfl G.draw.M G.draw.F.kp G.draw.B .nil pass0 (pa_cons (pv 1) (pa_cons (pe_callB call_len_seq (by rfl) T.len_ PySem.boot_len (pa_cons (pv 4) pa_nil)) pa_nil))))
          (pss_one (ps_asg (pe_tup (pa_cons (pe_ix ix_tup (pe_ix ix_list (pv 4) (pv 6) (fun _ _ => rfl)) pe_int (fun _ _ => rfl)) (pa_cons (pe_ix ix_tup (pe_ix ix_list (pv 4) (pv 6) (fun _ _ => rfl)) pe_int (fun _ _ => rfl)) (pa_cons (pe_call GPick hr2 rfl G.pick.M G.pick.F.kp G.pick.B .nil pass0 (pa_cons (pv 1) (pa_cons (pe_lst (pa_cons pe_str (pa_cons pe_str (pa_cons pe_str pa_nil)))) pa_nil))) pa_nil)))) (pg_sub (pv 4) (pv 6) set_list)))) pss_nil)
      (pss_cons (ps_set (i := 7) scLaw.nd rfl (Or.inl rfl) (pe_make (E := E0) G.MC GIC hr6 rfl TC.mgC G.bIC .nil passL (pa_cons (pe_lst (pa_cons (pe_tup (pa_cons pe_int (pa_cons pe_int (pa_cons pe_str pa_nil)))) (pa_cons (pe_tup (pa_cons pe_int (pa_cons pe_int (pa_cons pe_str pa_nil)))) (pa_cons (pe_tup (pa_cons pe_int (pa_cons pe_int (pa_cons pe_str pa_nil)))) pa_nil)))) pa_nil)))
      (pss_cut (ps_if (pt_not (pt_val (pe_call GSame hr3 rfl G.same.M G.same.F.kp G.same.B .nil pass0 (pa_cons (pe_meth (E := E0) (pv 7) TC.cl G.mB GB hr3 G.bB .nil pass0 (pa_cons (pe_call0 (E := E0) GSt hr8 (by rfl) G.still.M G.still.F.kp G.still.B .nil passL) pa_nil)) (pa_cons (pe_tup (pa_cons pe_int (pa_cons pe_int (pa_cons (pe_tup (pa_cons pe_int (pa_cons pe_int pa_nil))) pa_nil)))) pa_nil))))) pss_never pss_nil)
      (pss_cons (ps_par (i := 8) (j := 9) (by rfl) scLaw.nd rfl rfl (by decide) rfl rfl (pa_cons (pe_make (E := E0) L.M GI hr6 rfl T.mgC L.b2 .nil passL (pa_cons (pe_ix ix_tup (pv 3) pe_int (fun _ _ => rfl)) (pa_cons (pe_ix ix_tup (pv 3) pe_int (fun _ _ => rfl)) pa_nil))) (pa_cons (pe_make (E := E0) G.MC GIC hr6 rfl TC.mgC G.bIC .nil passL (pa_cons (pv 4) pa_nil)) pa_nil)) (by rfl))
      (pss_cons (ps_par (i := 10) (j := 11) (by rfl) scLaw.nd rfl rfl (by decide) rfl rfl (pa_cons (pe_call GLB hr2 rfl G.lbrk.M G.lbrk.F.kp G.lbrk.B .nil pass0 (pa_cons (pv 3) (pa_cons (pv 4) pa_nil))) (pa_cons (pe_meth (E := E0) (pv 9) TC.cl G.mB GB hr3 G.bB .nil pass0 (pa_cons (pv 8) pa_nil)) pa_nil)) (by rfl))
      (pss_cons (ps_if (pt_cmpR op_isN (pv 10) pe_non (nomark _)) (pss_one (ps_ret (pe_and (pe_cmpR op_isN (pv 11) pe_non (nomark _)) (pe_one (pe_cmpR op_isBl (pe_cmpR (op_inOwn (E := E0) G.mH.at_ G.mH.fn GH hr4 G.bH pass0) (pv 8) (pv 9) rfl) pe_bl (nomark _)))))) pss_nil)
      (pss_cut (ps_if (PW.pt (pw_or (pt_not (pt_val (pe_call GSame hr3 rfl G.same.M G.same.F.kp G.same.B .nil pass0 (pa_cons (pv 11) (pa_cons (pv 10) pa_nil))))) (pw_or1 (pt_cmpR op_notBl (pe_cmpR (op_inOwn (E := E0) G.mH.at_ G.mH.fn GH hr4 G.bH pass0) (pv 8) (pv 9) rfl) pe_bl (nomark _))))) pss_never pss_nil)
      (pss_cons (ps_set (i := 12) scLaw.nd rfl (Or.inl rfl) (pe_call GPair hr2 rfl G.pair.M G.pair.F.kp G.pair.B .nil pass0 (pa_cons (pv 3) (pa_cons (pe_ix ix_tup (pv 11) pe_int (fun _ _ => rfl)) (pa_cons (pe_ix ix_tup (pv 11) pe_int (fun _ _ => rfl)) (pa_cons (pe_callTy call_list_of (by rfl) T.list_ boot_list' (pa_cons (pe_ix ix_tup (pv 11) pe_int (fun _ _ => rfl)) pa_nil)) pa_nil))))))
      (pss_one (ps_ret (pe_not (pe_call GAl hr1 rfl G.allows.M G.allows.F.kp G.allows.B .nil pass0 (pa_cons (pe_meth (E := E0) (pv 9) TC.cl G.mV GV hr2 G.bV .nil pass0 (pa_cons (pe_ix ix_tup (pv 11) pe_int (fun _ _ => rfl)) pa_nil)) (pa_cons (pe_cmpR op_eq (pe_ix ix_list (pv 12) (pe_un un_neg pe_int) (fun _ _ => rfl)) (pe_cmpR op_eq (pe_ix ix_tup (pe_ix ix_tup (pv 11) pe_int (fun _ _ => rfl)) (pe_un un_neg pe_int) (fun _ _ => rfl)) pe_int (nomark _)) (nomark _)) pa_nil))))))))))))))))))), ?_⟩
    refine ⟨_, rfl, a0, ns, rfl, hS, hlen, fun a l H1 S1 _ _ _ => ?_⟩
    refine ⟨_, rfl, a, l, 0, 4, rfl, S1, by decide, by decide, sm48 (by decide) (by decide), fun kd H2 kd0 kd1 S2 k2 => ?_⟩
    refine ⟨_, rfl, a, l, 1, 2, rfl, S2, by decide, by decide, sm48 (by decide) (by decide), fun r H3 r0 r1 S3 k3 => ⟨_, _, rfl, rfl, ?_⟩⟩
    obtain ⟨j, hj, hjr⟩ : ∃ j : Nat, (j = 1 ∨ j = 2) ∧ 1 + r = (j : Int) := ⟨(1 + r).toNat, by omega, by omega⟩
    refine ⟨j, congrArg (fun z => [V.int z]) hjr, hj, fun t Fd Sd refs H4 s4 ht hF hE hSd nS nF => ?_⟩
    have S4 := S3.same s4
    obtain ⟨Fa, Fl⟩ := S3.ne nF
    obtain ⟨Sa, Sl⟩ := S3.ne nS
    have tk4 : TabK H4 a l t (rowsT j) [0] 1 := ⟨Fd, Sd, refs, ht, hF, hE, hSd, Fa, Fl, Sa, Sl⟩
    refine ⟨fun σ' H' => ∃ (t : Addr) (A : List Rn) (st : List Nat) (m n : Nat), σ' = [some (.ref a0), some (.ref a), some (.int kd), some (.ref t), none, none, none, none, none, none, none, none, none] ∧ StreamAt H' a l n ∧ n ≤ 310 ∧ TabK H' a l t A st m ∧ OkT A st m, ?_, ?_⟩
    · refine ⟨_, rfl, _, _, rfl, rfl, _, rfl, ifD_2 (fun hpos => ?_) (fun _ => ⟨t, _, _, _, 2, rfl, S4, by decide, tk4, okT_last hj⟩)⟩
      obtain ⟨mo, mk, h1, h2, mo1, mo48, mk1, mk4⟩ : ∃ mo mk : Int, atI [V.int 3, V.int 4, V.int 2] (kd - 1) = some (.int mo) ∧ atI [V.int 2, V.int 2, V.int 4] (kd - 1) = some (.int mk) ∧ 1 ≤ mo ∧ mo ≤ 48 ∧ 1 ≤ mk ∧ mk ≤ 4 := by
        have : kd = 1 ∨ kd = 2 ∨ kd = 3 := by omega
        rcases this with rfl | rfl | rfl
        · exact ⟨3, 2, rfl, rfl, by decide, by decide, by decide, by decide⟩
        · exact ⟨4, 2, rfl, rfl, by decide, by decide, by decide, by decide⟩
        · exact ⟨2, 4, rfl, rfl, by decide, by decide, by decide, by decide⟩
      refine ⟨_, rfl, by show 3 ≤ sizeLine; decide, fun q hq => ⟨_, rfl, _, _, rfl, rfl, q, _, _, _, rfl, rfl, SqL.of upd_same, h1, by show 3 ≤ sizeLine; decide, fun q2 hq2 => ⟨_, rfl, _, _, rfl, rfl, q2, _, _, _, rfl, rfl, SqL.of upd_same, h2, ?_⟩⟩⟩
      have S5 := (S4.same (Same.new (o := .lst [V.int 3, .int 4, .int 2]) hq)).same (Same.new (o := .lst [V.int 2, .int 2, .int 4]) hq2)
      refine ⟨a, l, 2, mo, mk, rfl, S5, by decide, mo1, mo48, mk1, mk4, fun t2 R2 Sd2 refs2 rows starts k n' H5 ht2 hR2 hE2 hS2 gd S6 hn6 _ Ra Rl Sa Sl _ _ => ?_⟩
      obtain ⟨A, st, m, rfl, rfl, rfl, okT⟩ := tab_conv gd
      rw [← natsV_stZ] at hS2
      exact ⟨t2, A, st, m, n', rfl, S6, by omega, ⟨R2, Sd2, refs2, ht2, hR2, each_unmap hE2, hS2, Ra, Rl, Sa, Sl⟩, okT⟩
    clear tk4 S4 Fa Fl Sa Sl ht hF hE hSd nS nF s4
    clear t Fd Sd refs
    rintro _ H5 ⟨t, A, st, m, n5, rfl, S5, hn5, tk5, okT⟩
    refine ⟨_, rfl, a, l, n5, 5, rfl, S5, by omega, by decide, by decide, fun Ln lrefs ls n6 H6 hL nL La Ll hEl gl S6 hn6 k6 => ?_⟩
    have lst6 : LSt H6 a l t Ln A st m ls n6 := by
      refine ⟨S6, tk5.kp S5 k6, okT, ⟨⟨lrefs, hL, hEl⟩, La, Ll, fun R' S' k' e => ?_⟩, gl⟩
      obtain ⟨R, Sd, refs, h1, h2, h3, h4, _⟩ := tk5
      rw [tup_kp h1 S5 k6] at e
      cases e
      exact ⟨(ne_of_none h2 nL).symm, (ne_of_none h4 nL).symm⟩
    clear nL La Ll hEl gl hL
    refine ⟨fun σ' H' => ∃ (Ln : Addr) (ls : List Lc) (x5 : Option V), σ' = [some (.ref a0), some (.ref a), some (.int kd), some (.ref t), some (.ref Ln), x5, none, none, none, none, none, none, none] ∧ LSt H' a l t Ln A st m ls n6, ?_, ?_⟩
    · refine ⟨_, rfl, _, _, rfl, rfl, _, rfl, ifD_2 (fun hk2 => ?_) (fun _ => ⟨Ln, ls, _, rfl, lst6⟩)⟩
      refine ⟨_, rfl, t, A, st, m, rfl, lst6.T.tab, okT, fun v H7 s7 hv => ?_⟩
      have lst7 := lst6.same s7
      rcases hv with rfl | ⟨L7, F7, T7, rfl, nL7, hL7, gF, kept⟩
      · refine ⟨_, rfl, rfl, _, rfl, iteT ⟨_, rfl, ?_⟩⟩
        refine ⟨_, rfl, rfl, _, rfl, iteF (iteF ⟨Ln, ls, _, rfl, lst7⟩)⟩
      · have lst8 : LSt H7 a l t L7 A st m F7 n6 := by
          refine ⟨lst7.S, lst7.T, okT, ⟨hL7, (lst6.S.ne nL7).1, (lst6.S.ne nL7).2, fun R' S' k' e => ?_⟩, gF⟩
          obtain ⟨R, Sd, refs, h1, h2, h3, h4, _⟩ := lst6.T
          rw [s7 _ _ h1] at e
          cases e
          exact ⟨(ne_of_none h2 nL7).symm, (ne_of_none h4 nL7).symm⟩
        refine ⟨_, rfl, rfl, _, rfl, iteF ⟨_, rfl, ?_⟩⟩
        refine ⟨_, rfl, rfl, _, rfl, iteT ?_⟩
        refine ⟨_, rfl, _, rfl, t, L7, A, st, m, F7, okT, rfl, lst8.T.tab, hL7, gF, fun o v H8 s8 hres _ hval => ?_⟩
        have ho : o = none := B2.Res.unique hres kept.none
        subst ho
        have hval : v = .non := hval
        subst hval
        exact ⟨rfl, _, rfl, iteF ⟨L7, F7, _, rfl, lst8.same s8⟩⟩
    clear lst6
    clear ls Ln lrefs
    rintro _ H7 ⟨Ln, ls, x5, rfl, lst7⟩
    refine ⟨fun σ' H' => ∃ (ls : List Lc) (x6 : Option V) (n : Nat), σ' = [some (.ref a0), some (.ref a), some (.int kd), some (.ref t), some (.ref Ln), x5, x6, none, none, none, none, none, none] ∧ LSt H' a l t Ln A st m ls n, ?_, ?_⟩
    · refine ⟨_, rfl, rfl, _, rfl, ifD_2 (fun hk1 => ?_) (fun _ => iteF ⟨ls, _, _, rfl, lst7⟩)⟩
      refine ⟨_, rfl, a, l, n6, 2, rfl, lst7.S, by omega, by decide, sm48 (by decide) (by decide), fun r8 H8 _ _ S8 k8 => ⟨rfl, _, rfl, ifD_2 (fun _ => ?_) (fun _ => ⟨ls, _, _, rfl, lst7.kp S8 k8⟩)⟩⟩
      have lst8 := lst7.kp S8 k8
      obtain ⟨⟨lrefs, hL8, hE8⟩, La, Ll, hne⟩ := lst8.L
      have hlr : lrefs.length = ls.length := hE8.1
      have g1 := lst8.gl.one
      have g48 := lst8.gl.most
      refine ⟨_, rfl, _, rfl, Ln, _, rfl, .inl (SqL.of hL8), a, l, n6 + 1, (lrefs.length : Int), rfl, S8, by omega, by omega, sm48 (by omega) (by omega), fun r9 H9 r90 r91 S9 k9 => ?_⟩
      obtain ⟨j9, rfl⟩ : ∃ j9 : Nat, r9 = (j9 : Int) := ⟨r9.toNat, by omega⟩
      have hj9 : j9 < ls.length := by omega
      have hL9 := k9 _ _ La Ll hL8
      have hE9 := CL.EaKp (f := CL.lv) hE8 S8 k9
      obtain ⟨c, hc, hcT⟩ := hE9.get (List.getElem?_eq_getElem hj9)
      have hcT : H9 c = some (.tup (CL.lv ls[j9])) := hcT
      refine ⟨_, rfl, _, rfl, Ln, lrefs, _, .ref c, rfl, rfl, SqL.of hL9, atI_nat hc, c, _, 0, _, rfl, rfl, SqT.of hcT, rfl, ?_⟩
      refine ⟨_, rfl, _, rfl, Ln, lrefs, _, .ref c, rfl, rfl, SqL.of hL9, atI_nat hc, c, _, 1, _, rfl, rfl, SqT.of hcT, rfl, ?_⟩
      refine ⟨_, rfl, by show 3 ≤ sizeLine; decide, fun q hq => ?_⟩
      obtain ⟨qa, ql⟩ := S9.ne hq
      have sq := Same.new (o := .lst [V.str "last", V.str "other", V.str "none"]) hq
      refine ⟨a, l, q, n6 + 2, _, rfl, S9.same sq, by omega, upd_same, qa, ql, by decide, by decide, fun i x H10 hx S10 k10 => ?_⟩
      obtain ⟨z, rfl, hz⟩ : ∃ z : Str, x = .str z ∧ z ∈ verds := by
        have hm := List.mem_of_getElem? hx
        simp only [List.mem_cons, List.not_mem_nil, or_false] at hm
        rcases hm with rfl | rfl | rfl <;> exact ⟨_, rfl, by decide +kernel⟩
      have lst10 := (lst8.kp S9 k9).kp S10 ((Keep.of sq).trans k10)
      obtain ⟨⟨lrefs', hL10, hE10⟩, _, _, _⟩ := lst10.L
      have e10 : lrefs' = lrefs := by
        have := k10 _ _ La Ll (sq _ _ hL9)
        rw [hL10] at this
        cases this
        rfl
      subst e10
      refine ⟨by show 3 ≤ sizeLine; decide, fun q2 hq2 => ?_⟩
      have sq2 := Same.new (o := .tup (CL.lv (ls[j9].1, ls[j9].2.1, z))) hq2
      have gq2 : (upd H10 q2 (.tup (CL.lv (ls[j9].1, ls[j9].2.1, z)))) q2 = some (.tup (CL.lv (ls[j9].1, ls[j9].2.1, z))) := upd_same
      have lst11 := lst10.same sq2
      have hL11 := sq2 _ _ hL10
      refine ⟨_, rfl, _, rfl, Ln, lrefs', _, j9, rfl, rfl, hL11, Evl.ixN_nat (by omega), ls.set j9 (ls[j9].1, ls[j9].2.1, z), _, n6 + 3, rfl, ?_⟩
      obtain ⟨R, Sd, refs, h1, h2, h3, h4, m1, m2, m3, m4⟩ := lst11.T
      obtain ⟨_, _, _, hne11⟩ := lst11.L
      obtain ⟨nR, nS⟩ := hne11 _ _ _ h1
      have tk := tk_lst (o := .lst (lrefs'.set j9 (.ref q2))) hL11
      have hE11 : Ea (upd H10 q2 (.tup (CL.lv (ls[j9].1, ls[j9].2.1, z)))) isLc lrefs' ls := hE10.imp fun c r q => sq2 _ _ q
      have hE12 : Ea (upd (upd H10 q2 (.tup (CL.lv (ls[j9].1, ls[j9].2.1, z)))) Ln (.lst (lrefs'.set j9 (.ref q2)))) isLc lrefs' ls := hE11.imp fun c r q => tk _ _ q
      refine ⟨lst11.S.lst hL11 La Ll, ⟨R, Sd, refs, tk _ _ h1, ?_, h3.imp fun c r q => tk _ _ q, ?_, m1, m2, m3, m4⟩, okT, ⟨⟨_, upd_same, Ea.set_ hE12 (tk _ _ gq2)⟩, La, Ll, fun R' S' k' e => ?_⟩, good_set lst10.gl hj9 hz⟩
      · rw [upd_ne nR.symm]
        exact h2
      · rw [upd_ne nS.symm]
        exact h4
      · have e2 := (tk _ _ h1).symm.trans e
        cases e2
        exact ⟨nR, nS⟩
    clear lst7
    clear ls
    rintro _ H8 ⟨ls, x6, n8, rfl, lst8⟩
    -- the claim that is broken only where the second case was called last
    have lc3 : ∀ (l : Lc), CL.lv l = [V.int (l.1 : Int), .int (l.2.1 : Int), .str l.2.2] := fun l => rfl
    refine ⟨by show 3 ≤ sizeLine; decide, fun t1 h1 => ⟨by show 3 ≤ sizeLine; decide, fun t2 h2 => ⟨by show 3 ≤ sizeLine; decide, fun t3 h3 => ⟨by show 3 ≤ sizeLine; decide, fun q hq => fun p0 dx0 nx0 ndx0 nex0 => ?_⟩⟩⟩⟩
    have e1 : Same H8 (upd H8 t1 (.tup [V.int 1, .int 2, .str "free"])) := Same.new h1
    have g1 : (upd H8 t1 (.tup [V.int 1, .int 2, .str "free"])) t1 = some (.tup (CL.lv (1, 2, "free"))) := upd_same
    have e2 : Same (upd H8 t1 (.tup [V.int 1, .int 2, .str "free"])) (upd (upd H8 t1 (.tup [V.int 1, .int 2, .str "free"])) t2 (.tup [V.int 1, .int 2, .str "last"])) := Same.new h2
    have g2 : (upd (upd H8 t1 (.tup [V.int 1, .int 2, .str "free"])) t2 (.tup [V.int 1, .int 2, .str "last"])) t2 = some (.tup (CL.lv (1, 2, "last"))) := upd_same
    have e3 : Same (upd (upd H8 t1 (.tup [V.int 1, .int 2, .str "free"])) t2 (.tup [V.int 1, .int 2, .str "last"])) (upd (upd (upd H8 t1 (.tup [V.int 1, .int 2, .str "free"])) t2 (.tup [V.int 1, .int 2, .str "last"])) t3 (.tup [V.int 2, .int 2, .str "free"])) := Same.new h3
    have g3 : (upd (upd (upd H8 t1 (.tup [V.int 1, .int 2, .str "free"])) t2 (.tup [V.int 1, .int 2, .str "last"])) t3 (.tup [V.int 2, .int 2, .str "free"])) t3 = some (.tup (CL.lv (2, 2, "free"))) := upd_same
    have g1 := (e2.trans e3) _ _ g1
    have g2 := e3 _ _ g2
    have e123 := (e1.trans e2).trans e3
    have e4 : Same (upd (upd (upd H8 t1 (.tup [V.int 1, .int 2, .str "free"])) t2 (.tup [V.int 1, .int 2, .str "last"])) t3 (.tup [V.int 2, .int 2, .str "free"])) (upd (upd (upd (upd H8 t1 (.tup [V.int 1, .int 2, .str "free"])) t2 (.tup [V.int 1, .int 2, .str "last"])) t3 (.tup [V.int 2, .int 2, .str "free"])) q (.lst [V.ref t1, .ref t2, .ref t3])) := Same.new hq
    have eE : Ea (upd (upd (upd (upd H8 t1 (.tup [V.int 1, .int 2, .str "free"])) t2 (.tup [V.int 1, .int 2, .str "last"])) t3 (.tup [V.int 2, .int 2, .str "free"])) q (.lst [V.ref t1, .ref t2, .ref t3])) isLc [V.ref t1, .ref t2, .ref t3] eL :=
      Ea.push (Ea.push (Ea.push Ea.nil (show isLc _ t1 _ from e4 _ _ g1)) (show isLc _ t2 _ from e4 _ _ g2)) (show isLc _ t3 _ from e4 _ _ g3)
    refine mk_claim (CC := CC) (XC := XC) (ls := eL) upd_same eE eL_good nx0 ndx0 nex0 fun H9 s9 cl9 => ⟨rfl, ?_⟩
    have s89 := (e123.trans e4).trans s9
    have lst9 := lst8.same s89
    clear e1 e2 e3 g1 g2 g3 e123 e4 eE s89 lst8
    refine ⟨fun σ' H' => σ' = [some (.ref a0), some (.ref a), some (.int kd), some (.ref t), some (.ref Ln), x5, x6, some (.ref p0), none, none, none, none, none] ∧ Same H9 H', ?_, ?_⟩
    · obtain ⟨dc, CR, crefs, hpp, hCR, hEc⟩ := id cl9
      refine ⟨_, rfl, p0, dc, _, rfl, hpp, CL.rsf_no _ (by decide +kernel), rfl, fun r H10 rB s10 => ?_⟩
      refine ⟨p0, r, eL, stillR, [0], 1, by decide, rfl, ⟨dc, CR, crefs, s10 _ _ hpp, s10 _ _ hCR, hEc.imp fun c r q => s10 _ _ q⟩, rB, eL_good, gd_still.ok, (fun s hs => by cases List.mem_singleton.mp hs; decide), by decide, by decide, by decide, by decide, fun o v H11 s11 ho hv => ?_⟩
      have ho2 : o = some (2, 1) := B2.Res.unique ho (eL_res (by decide))
      subst ho2
      obtain ⟨tv, cc, rfl, hv1, hv2⟩ := eL_val hv
      refine ⟨by show 2 ≤ sizeLine; decide, fun u1 hu1 => ⟨by show 3 ≤ sizeLine; decide, fun u2 hu2 => ?_⟩⟩
      have f1 : Same H11 (upd H11 u1 (.tup [V.int 1, .int 1])) := Same.new hu1
      have f2 : Same (upd H11 u1 (.tup [V.int 1, .int 1])) (upd (upd H11 u1 (.tup [V.int 1, .int 1])) u2 (.tup [V.int 0, .int 0, .ref u1])) := Same.new hu2
      have gu1 := f2 _ _ (show (upd H11 u1 (.tup [V.int 1, .int 1])) u1 = some (.tup [V.int 1, .int 1]) from upd_same)
      refine ⟨_, _, rfl, .tup (SqT.of ((f1.trans f2) _ _ hv1)) (SqT.of upd_same) rfl (by show 3 ≤ sizeLine; decide) (fun i x y hx hy => ?_), fun H12 s12 => ⟨true, rfl, iteF ⟨rfl, (((s10.trans s11).trans f1).trans f2).trans s12⟩⟩⟩
      rcases i with _ | _ | _ | i
      · cases hx; cases hy; exact .int _ _
      · cases hx; cases hy; exact .int _ _
      · cases hx; cases hy
        refine .tup (SqT.of ((f1.trans f2) _ _ hv2)) (SqT.of gu1) rfl (by show 2 ≤ sizeLine; decide) fun i x y hx hy => ?_
        rcases i with _ | _ | i
        · cases hx; cases hy; exact .int _ _
        · cases hx; cases hy; exact .int _ _
        · simp at hx
      · simp at hx
    rintro _ H10 ⟨rfl, s10⟩
    have lst10 := lst9.same s10
    clear lst9
    obtain ⟨R, Sd, refs, ht, hR, hE, hSd, _⟩ := id lst10.T
    obtain ⟨⟨lrefs, hL, hEl⟩, _⟩ := id lst10.L
    -- the rule, the claim
    refine ⟨_, rfl, t, _, 0, _, rfl, rfl, SqT.of ht, rfl, _, rfl, t, _, 1, _, rfl, rfl, SqT.of ht, rfl, fun p1 dx1 nx1 ndx1 nex1 => mk_ruleL (K := K) (C := C) (X := X) hR hE hSd okT nx1 ndx1 nex1 fun H11 s11 ra11 => ⟨rfl, ?_⟩⟩
    refine ⟨_, rfl, fun p2 dx2 nx2 ndx2 nex2 => mk_claim (CC := CC) (XC := XC) (s11 _ _ hL) (hEl.imp fun c r q => s11 _ _ q) lst10.gl nx2 ndx2 nex2 fun H12 s12 cl12 => ⟨rfl, _, _, rfl, ?_⟩⟩
    have lst12 := (lst10.same s11).same s12
    have ra12 := ra11.same s12
    clear ra11 lst10 ht hR hE hSd hL hEl
    have h0 := okT.st0
    have eS : bS (A.map rz) st ls h0 = lS A st ls h0 := by
      unfold bS lS
      rw [map_rz]
    have hz : ∀ r ∈ A.map rz, RwOk (A.map rz).length r := (okT_good okT).ok
    have hz2 : ∀ s ∈ st, s < (A.map rz).length := fun s hs => by rw [List.length_map]; exact okT.sa s hs
    have hm := okT.m1
    have m4 := okT.m4
    have st16 := okT.st16
    have r48 : (A.map rz).length ≤ 48 := by rw [List.length_map]; exact okT.a4
    obtain ⟨dc, CR, crefs, hpp, hCR, hEc⟩ := id cl12
    refine ⟨_, rfl, _, rfl, t, Ln, A, st, m, ls, okT, rfl, lst12.T.tab, lst12.L.1, lst12.gl, fun o v H13 s13 hres hlen hval => ?_⟩
    refine ⟨_, rfl, p2, dc, _, rfl, s13 _ _ hpp, CL.rsf_no _ (by decide +kernel), _, rfl, p2, p1, ls, A.map rz, st, m, h0, rfl, ⟨dc, CR, crefs, s13 _ _ hpp, s13 _ _ hCR, hEc.imp fun c r q => s13 _ _ q⟩, ra12.same s13, lst12.gl, hz, hz2, hm, by omega, st16, r48, fun o2 v2 H14 s14 hres2 hval2 => ⟨_, _, rfl, ?_⟩⟩
    rw [eS] at hres2 hval2
    have ho2 : o2 = o := B2.Res.unique hres2 hres
    subst ho2
    have lst14 := (lst12.same s13).same s14
    have s1214 := s13.trans s14
    have ra14 := ra12.same s1214
    have hpp14 := s1214 _ _ hpp
    have hCR14 := s1214 _ _ hCR
    have hEc14 := hEc.imp fun c r q => (show isLc H14 c r from s1214 _ _ q)
    have cl14 : ClaimL CC H14 p2 ls := ⟨dc, CR, crefs, hpp14, hCR14, hEc14⟩
    have gl := lst14.gl
    -- rule in claim
    have hasR : ∀ (H' : Hp) (s' : Same H14 H') (Q' : VK), (∀ H'', Same H' H'' → Q' (.bl o2.isNone) H'') → spHasC K C CC [.ref p2, .ref p1] H' Q' E0 := fun H' s' Q' kq =>
      ⟨p2, p1, ls, A.map rz, st, m, h0, rfl, ⟨dc, CR, crefs, s' _ _ hpp14, s' _ _ hCR14, hEc14.imp fun c r q => s' _ _ q⟩, ra14.same s', gl, hz, hz2, hm, by omega, st16, r48, fun o3 H'' s'' h3 => by
        rw [eS] at h3
        have : o3 = o2 := B2.Res.unique h3 hres
        subst this
        exact kq H'' s''⟩
    cases o2 with
    | none =>
      have hval : v = .non := hval
      have hval2 : v2 = .non := hval2
      subst hval hval2
      refine ⟨_, rfl, rfl, _, rfl, iteT ?_⟩
      refine ⟨_, rfl, rfl, _, rfl, iteT ?_⟩
      exact ⟨_, rfl, _, rfl, p2, dc, _, rfl, hpp14, hasR H14 (fun _ _ h => h) _ fun H15 s15 => ⟨_, rfl, true, true, rfl, rfl, kk _⟩⟩
    | some ec =>
      obtain ⟨e, c⟩ := ec
      obtain ⟨tv, cc, rfl, hv1, hv2⟩ := hval
      obtain ⟨tv2, cc2, rfl, hw1, hw2⟩ := hval2
      have hv1 := s14 _ _ hv1
      have hv2 := s14 _ _ hv2
      have hln := hlen e c rfl
      obtain ⟨hc2, hpt, _⟩ := hres
      refine ⟨_, rfl, rfl, _, rfl, iteF ?_⟩
      obtain ⟨cs, hcs⟩ : ∃ cs, cs = calls (lS A st ls h0) e ++ [c] := ⟨_, rfl⟩
      rw [← hcs] at hv2 hw2
      have lcs : cs.length ≤ 10000 := by
        rw [hcs, List.length_append, List.length_singleton]
        omega
      have lnv : (natsV cs).length = cs.length := by unfold natsV; rw [List.length_map]
      refine ⟨fun σ' H' => σ' = [some (.ref a0), some (.ref a), some (.int kd), some (.ref t), some (.ref Ln), x5, x6, some (.ref p0), some (.ref p1), some (.ref p2), some (.ref tv), some (.ref tv2), none] ∧ Same H14 H', ?_, ?_⟩
      · refine ⟨_, rfl, _, rfl, _, _, rfl, .tup (SqT.of hw1) (SqT.of hv1) rfl (by show 3 ≤ sizeLine; decide) (fun i x y hx hy => ?_), fun H15 s15 => ⟨true, rfl, iteF ?_⟩⟩
        · rcases i with _ | _ | _ | i
          · cases hx; cases hy; exact .int _ _
          · cases hx; cases hy; exact .int _ _
          · cases hx; cases hy
            refine .tup (SqT.of hw2) (SqT.of hv2) rfl (by rw [lnv]; exact Nat.le_trans lcs (by decide)) fun i x y hx hy => ?_
            rw [hx] at hy
            cases hy
            unfold natsV at hx
            rw [List.getElem?_map, Option.map_eq_some_iff] at hx
            obtain ⟨z, _, rfl⟩ := hx
            exact .int _ _
          · simp at hx
        · exact ⟨_, rfl, _, rfl, p2, dc, _, rfl, s15 _ _ hpp14, hasR H15 s15 _ fun H16 s16 => ⟨_, rfl, false, false, rfl, rfl, _, rfl, iteF ⟨rfl, s15.trans s16⟩⟩⟩
      rintro _ H15 ⟨rfl, s15⟩
      have hroot := B2.root_lt (S := lS A st ls h0) e
      have hroot : root (lS A st ls h0) e < st.length := hroot
      have hmm := okT.len
      have hr16 : root (lS A st ls h0) e < 16 := by omega
      have hlo : root (lS A st ls h0) e / m ≤ 10 := by
        have := Nat.div_le_self (root (lS A st ls h0) e) m
        have h2 : root (lS A st ls h0) e / m < m := Nat.div_lt_of_lt_mul (by omega)
        omega
      have hhi : root (lS A st ls h0) e % m ≤ 10 := by
        have := Nat.mod_lt (root (lS A st ls h0) e) hm
        omega
      have hs0 : st.getD (root (lS A st ls h0) e) 0 < A.length := by
        rw [List.getD_eq_getElem?_getD, List.getElem?_eq_getElem hroot]
        exact okT.sa _ (List.getElem_mem hroot)
      have hst0 : st[root (lS A st ls h0) e / m * m + root (lS A st ls h0) e % m]? = some (st.getD (root (lS A st ls h0) e) 0) := by
        rw [Nat.div_add_mod' , List.getElem?_eq_getElem hroot, List.getD_eq_getElem?_getD, List.getElem?_eq_getElem hroot]
        rfl
      have hw1 := s15 _ _ hw1
      have hw2 := s15 _ _ hw2
      refine ⟨_, rfl, _, rfl, tv2, _, 0, _, rfl, rfl, SqT.of hw1, rfl, _, rfl, tv2, _, 1, _, rfl, rfl, SqT.of hw1, rfl, _, rfl, tv2, _, 2, .ref cc2, rfl, rfl, SqT.of hw1, rfl, cc2, _, rfl, .inr (SqT.of hw2), fun Lc_ hLc => ?_⟩
      have sLc := Same.new (o := .lst (natsV cs)) hLc
      refine ⟨t, Lc_, A, st, _, _, m, _, cs, rfl, ((lst14.same s15).same sLc).T.tab, okT.ok, hlo, m4, hhi, hst0, hs0, upd_same, lcs, fun Lp H16 s16 hLp => ?_⟩
      have s1416 := (s15.trans sLc).trans s16
      have hw1 := (sLc.trans s16) _ _ hw1
      have hw2 := (sLc.trans s16) _ _ hw2
      have hne : cs ≠ [] := by rw [hcs]; simp
      refine ⟨_, rfl, p2, dc, _, rfl, s1416 _ _ hpp14, CL.rsf_no _ (by decide +kernel), _, rfl, tv2, _, 2, .ref cc2, rfl, rfl, SqT.of hw1, rfl, p2, cc2, ls, cs, rfl, ⟨dc, CR, crefs, s1416 _ _ hpp14, s1416 _ _ hCR14, hEc14.imp fun c r q => s1416 _ _ q⟩, gl, hw2, hne, lcs, fun H17 s17 => ?_⟩
      have hLp := s17 _ _ hLp
      have hw1 := s17 _ _ hw1
      have hw2 := s17 _ _ hw2
      rw [hcs, prV_snoc] at hLp
      rw [hcs, natsV_snoc] at hw2
      refine ⟨_, rfl, _, rfl, Lp, _, _, _, rfl, rfl, SqL.of hLp, atI_last, _, rfl, tv2, _, 2, .ref cc2, rfl, rfl, SqT.of hw1, rfl, _, rfl, cc2, _, _, _, rfl, rfl, SqT.of hw2, atI_last, rfl, rfl, _, _, rfl, ?_⟩
      have hN : BR.okN ls (cs.foldl (BR.stp A ls) (none, st.getD (root (lS A st ls h0) e) 0, false, 0)) = false := by
        have h1 : BR.okN ls (BR.stp A ls (nd (lS A st ls h0) e) c) = false := hpt
        rw [BR.nd_fold] at h1
        rw [hcs, List.foldl_append]
        exact h1
      rw [node_parts] at hN
      have hlast : (clF ls (none, 0) cs).1 = some c := by
        rw [hcs, clF_snoc]
      unfold BR.okN at hN
      have hN : BR.allows (BR.ln_ ls (clW ls cs)).2.2 ((prS A (st.getD (root (lS A st ls h0) e) 0, false) cs).2 == decide ((clF ls (none, 0) cs).1 = some 1)) = false := hN
      rw [hlast] at hN
      rw [bl_eq, ← hcs]
      have ed : decide (V.int (c : Int) = V.int 1) = decide (some c = some 1) := decide_eq_decide.mpr ⟨fun h => by injection h with h; rw [Int.ofNat_inj.mp h], fun h => by injection h with h; rw [h]; rfl⟩
      rw [ed, hN]
      exact ⟨_, rfl, kk _⟩
end
end PA

set_option maxHeartbeats 8000000
namespace PA
open PySem L2 RZ
theorem kit_self {K : PySem.W.Frag} {C : Addr} : PySem.W.kitOne K (.ref C) (.ref C) = some true := by
  unfold PySem.W.kitOne
  rw [if_pos (by simp)]
theorem kit_2 {K : PySem.W.Frag} {C D : Addr} (h1 : (Value.ref D == Value.ref C) = false) (h2 : PySem.W.isClsIn K C = true) (h3 : PySem.W.typeIn K (.ref C) = some (.type "type")) (h4 : PySem.W.subIn K (.ref D) (.ref C) = some false) : PySem.W.kitOne K (.ref D) (.ref C) = some false := by
  have e2 : ((PySem.W.clsIn K C).isSome && PySem.W.typeIn K (.ref C) == some (.type "type")) = true := by
    have h2' : (PySem.W.clsIn K C).isSome = true := h2
    rw [h2', h3] <;> rfl
  unfold PySem.W.kitOne
  rw [h1, if_neg (by simp)]
  show (if ((PySem.W.clsIn K C).isSome && PySem.W.typeIn K (.ref C) == some (.type "type")) = true then PySem.W.subIn K (.ref D) (.ref C) else none) = some false
  rw [if_pos e2]
  exact h4
theorem exm_2 {K : PySem.W.Frag} {S P : Addr} (h1 : PySem.W.subIn K (.ref P) (.type "BaseException") = some true) (h2 : PySem.W.isClsIn K P = true) (h3 : PySem.W.typeIn K (.ref P) = some (.type "type")) (h4 : PySem.W.subIn K (.ref S) (.ref P) = some true) :
    PySem.W.exmOne K (.ref S) (.ref P) = some true := by
  have e2 : ((PySem.W.clsIn K P).isSome && PySem.W.typeIn K (.ref P) == some (.type "type")) = true := by
    have h2' : (PySem.W.clsIn K P).isSome = true := h2
    rw [h2', h3] <;> rfl
  unfold PySem.W.exmOne
  rw [h1, if_pos (by simp)]
  show (if ((PySem.W.clsIn K P).isSome && PySem.W.typeIn K (.ref P) == some (.type "type")) = true then PySem.W.subIn K (.ref S) (.ref P) else none) = some true
  rw [if_pos e2]
  exact h4
theorem kit_cls {K : PySem.W.Frag} {C : Addr} {t : String} (h2 : PySem.W.isClsIn K C = true) (h3 : PySem.W.typeIn K (.ref C) = some (.type "type")) (h4 : PySem.W.subIn K (.type t) (.ref C) = some false) : PySem.W.kitOne K (.type t) (.ref C) = some false := by
  have e2 : ((PySem.W.clsIn K C).isSome && PySem.W.typeIn K (.ref C) == some (.type "type")) = true := by
    have h2' : (PySem.W.clsIn K C).isSome = true := h2
    rw [h2', h3] <;> rfl
  unfold PySem.W.kitOne
  rw [if_neg (by simp)]
  show (if ((PySem.W.clsIn K C).isSome && PySem.W.typeIn K (.ref C) == some (.type "type")) = true then PySem.W.subIn K (.type t) (.ref C) else none) = some false
  rw [if_pos e2]
  exact h4
theorem bI2_of {K : PySem.W.Frag} {f dd : Addr} {fd : FuncData} (F : FunI K f fd dd) : Binds K fd ["self", "rows", "starts"] [] := by
  obtain ⟨ds, hv, hb⟩ := F.binds1 (ps := ["self", "rows", "starts"]) 3 1 (by simp) rfl (fun T kV doc pm an cdv ct us its h1 h2 => match us, h1, its, h2 with | [_, _, _], _, [_], _ => ⟨_, rfl, rfl⟩)
  cases hv
  exact hb
theorem all_mk {l : PySem.W.OpenLaw} {w : World} {K : PySem.W.Frag} {h : Heap} {mg : Str → Option Value} {fa C TT DD gCI DM gStr DP DF_ DG_ X P_ XC CC gKI Fo gBrk gVer gHas DV pR gRead gisRow greadRow gisRowC gcheckC gisInt gbelow gcheck growsTx growTx gstTx greadSt gnext gallowed gnumber gway gafterC gstill gdraw gstart gpick gsame gjth gplast gtable gaft gpair gclaim gallows gkept glbrk gLaw : Addr} (X_ : K.In h) (G : h.Ns mainGlobals mg) (hfa : mg "law" = some (.ref fa))
    {oT : Value} {odT : Option Addr} {mT : Nat} {slT : Array (Option Value)} {odD : Option Addr} {tkD : Tok} {mD : Nat} {slD : Array (Option Value)} {ocCI kVCI dcCI pmCI cdCI ctCI : Value} {odCI anCI : Option Addr} {slCI : Array (Option Value)} {x1 x2 x3 x4 y1 y2 y3 y4 : Tok} {nM_ : Nat} {tkM : Tok} {ocStr kVStr dcStr pmStr cdStr ctStr : Value} {odStr anStr : Option Addr} {slStr : Array (Option Value)} {odP : Option Addr} {tkP : Tok} {mP : Nat} {slP : Array (Option Value)} {h1F_ h2F_ : Int} {t1F_ t2F_ : Tok} {nF_ : Nat} {h1G_ h2G_ : Int} {t1G_ t2G_ : Tok} {nG_ : Nat} {ocKI kVKI dcKI pmKI cdKI ctKI : Value} {odKI anKI : Option Addr} {slKI : Array (Option Value)} {ocBrk kVBrk dcBrk pmBrk cdBrk ctBrk : Value} {odBrk anBrk : Option Addr} {slBrk : Array (Option Value)} {ocVer kVVer dcVer pmVer cdVer ctVer : Value} {odVer anVer : Option Addr} {slVer : Array (Option Value)} {ocHas kVHas dcHas pmHas cdHas ctHas : Value} {odHas anHas : Option Addr} {slHas : Array (Option Value)} {t0 t1 t2 t3 tkL tkO : Tok} {mV : Nat} {slV : Array (Option Value)} {restR : List Value} {ocRead kVRead dcRead pmRead cdRead ctRead : Value} {odRead anRead : Option Addr} {slRead : Array (Option Value)} {ocisRow kVisRow dcisRow pmisRow cdisRow ctisRow : Value} {odisRow anisRow : Option Addr} {slisRow : Array (Option Value)} {ocreadRow kVreadRow dcreadRow pmreadRow cdreadRow ctreadRow : Value} {odreadRow anreadRow : Option Addr} {slreadRow : Array (Option Value)} {ocisRowC kVisRowC dcisRowC pmisRowC cdisRowC ctisRowC : Value} {odisRowC anisRowC : Option Addr} {slisRowC : Array (Option Value)} {occheckC kVcheckC dccheckC pmcheckC cdcheckC ctcheckC : Value} {odcheckC ancheckC : Option Addr} {slcheckC : Array (Option Value)} {ocisInt kVisInt dcisInt pmisInt cdisInt ctisInt : Value} {odisInt anisInt : Option Addr} {slisInt : Array (Option Value)} {ocbelow kVbelow dcbelow pmbelow cdbelow ctbelow : Value} {odbelow anbelow : Option Addr} {slbelow : Array (Option Value)} {occheck kVcheck dccheck pmcheck cdcheck ctcheck : Value} {odcheck ancheck : Option Addr} {slcheck : Array (Option Value)} {ocrowsTx kVrowsTx dcrowsTx pmrowsTx cdrowsTx ctrowsTx : Value} {odrowsTx anrowsTx : Option Addr} {slrowsTx : Array (Option Value)} {ocrowTx kVrowTx dcrowTx pmrowTx cdrowTx ctrowTx : Value} {odrowTx anrowTx : Option Addr} {slrowTx : Array (Option Value)} {ocstTx kVstTx dcstTx pmstTx cdstTx ctstTx : Value} {odstTx anstTx : Option Addr} {slstTx : Array (Option Value)} {ocreadSt kVreadSt dcreadSt pmreadSt cdreadSt ctreadSt : Value} {odreadSt anreadSt : Option Addr} {slreadSt : Array (Option Value)} {ocnext kVnext dcnext pmnext cdnext ctnext : Value} {odnext annext : Option Addr} {slnext : Array (Option Value)} {ocallowed kVallowed dcallowed pmallowed cdallowed ctallowed : Value} {odallowed anallowed : Option Addr} {slallowed : Array (Option Value)} {ocnumber kVnumber dcnumber pmnumber cdnumber ctnumber : Value} {odnumber annumber : Option Addr} {slnumber : Array (Option Value)} {ocway kVway dcway pmway cdway ctway : Value} {odway anway : Option Addr} {slway : Array (Option Value)} {ocafterC kVafterC dcafterC pmafterC cdafterC ctafterC : Value} {odafterC anafterC : Option Addr} {slafterC : Array (Option Value)} {ocstill kVstill dcstill pmstill cdstill ctstill : Value} {odstill anstill : Option Addr} {slstill : Array (Option Value)} {ocdraw kVdraw dcdraw pmdraw cddraw ctdraw : Value} {oddraw andraw : Option Addr} {sldraw : Array (Option Value)} {ocstart kVstart dcstart pmstart cdstart ctstart : Value} {odstart anstart : Option Addr} {slstart : Array (Option Value)} {ocpick kVpick dcpick pmpick cdpick ctpick : Value} {odpick anpick : Option Addr} {slpick : Array (Option Value)} {ocsame kVsame dcsame pmsame cdsame ctsame : Value} {odsame ansame : Option Addr} {slsame : Array (Option Value)} {ocjth kVjth dcjth pmjth cdjth ctjth : Value} {odjth anjth : Option Addr} {sljth : Array (Option Value)} {ocplast kVplast dcplast pmplast cdplast ctplast : Value} {odplast anplast : Option Addr} {slplast : Array (Option Value)} {octable kVtable dctable pmtable cdtable cttable : Value} {odtable antable : Option Addr} {sltable : Array (Option Value)} {ocaft kVaft dcaft pmaft cdaft ctaft : Value} {odaft anaft : Option Addr} {slaft : Array (Option Value)} {ocpair kVpair dcpair pmpair cdpair ctpair : Value} {odpair anpair : Option Addr} {slpair : Array (Option Value)} {occlaim kVclaim dcclaim pmclaim cdclaim ctclaim : Value} {odclaim anclaim : Option Addr} {slclaim : Array (Option Value)} {ocallows kVallows dcallows pmallows cdallows ctallows : Value} {odallows anallows : Option Addr} {slallows : Array (Option Value)} {ockept kVkept dckept pmkept cdkept ctkept : Value} {odkept ankept : Option Addr} {slkept : Array (Option Value)} {oclbrk kVlbrk dclbrk pmlbrk cdlbrk ctlbrk : Value} {odlbrk anlbrk : Option Addr} {sllbrk : Array (Option Value)} {ocLaw kVLaw dcLaw pmLaw cdLaw ctLaw : Value} {odLaw anLaw : Option Addr} {slLaw : Array (Option Value)}
    (aC : PySem.W.nsIn K mainGlobals "Rule" = some (some (.ref C)))
    (pgC : PySem.W.plainGet K C Str.empty = true)
    (hdC : PySem.W.hasDictIn K C = true)
    (poC : PySem.W.plainOver K C = true)
    (saC : PySem.W.findIn K (.ref C) "__setattr__" = some (some (.builtin "object.__setattr__")))
    (kcC : PySem.W.keepIn K (.ref C) = true)
    (mkC : PySem.W.makesIn K C = true)
    (nCrows : PySem.W.findIn K (.ref C) "rows" = some none)
    (nCstarts : PySem.W.findIn K (.ref C) "starts" = some none)
    (nCmarks : PySem.W.findIn K (.ref C) "marks" = some none)
    (aCI : PySem.W.findIn K (.ref C) "__init__" = some (some (.ref gCI)))
    (lCI : K.lookup gCI = some ⟨ocCI, odCI, .func (PySem.W.fnOf "__init__" "Rule.__init__" (defArgs sInit) (defBody sInit) (defScope sInit) (.ref TT) kVCI dcCI pmCI anCI cdCI ctCI), slCI⟩)
    (cCI : PySem.W.codeIn K cdCI "Rule.__init__" = true)
    (kCI : PySem.W.keepIn K (.ref gCI) = true)
    (iCI : PySem.W.isFn K (.ref gCI) = true)
    (lT : K.lookup TT = some ⟨oT, odT, .seq #[.ref DD] mT, slT⟩)
    (lD : K.lookup DD = some ⟨.type "tuple", odD, .seq #[.int 0 tkD] mD, slD⟩)
    (aM : PySem.W.nsIn K mainGlobals "MARKS_OF_STARTS" = some (some (.ref DM)))
    (lM : K.lookup DM = some ⟨.type "dict", none, .dict #[⟨1, .int 1 x1, .int 1 y1⟩, ⟨4, .int 4 x2, .int 2 y2⟩, ⟨9, .int 9 x3, .int 3 y3⟩, ⟨16, .int 16 x4, .int 4 y4⟩] nM_, #[]⟩)
    (lw : (DM == sysModules) = false)
    (aMost : PySem.W.nsIn K mainGlobals "MOST_ROWS" = some (some (.int 48 tkM)))
    (aStr : PySem.W.findIn K (.ref C) "__str__" = some (some (.ref gStr)))
    (lStr : K.lookup gStr = some ⟨ocStr, odStr, .func (PySem.W.fnOf "__str__" "Rule.__str__" (defArgs sStr) (defBody sStr) (defScope sStr) .none kVStr dcStr pmStr anStr cdStr ctStr), slStr⟩)
    (cStr : PySem.W.codeIn K cdStr "Rule.__str__" = true)
    (kStr : PySem.W.keepIn K (.ref gStr) = true)
    (iStr : PySem.W.isFn K (.ref gStr) = true)
    (aP : PySem.W.nsIn K mainGlobals "PLAIN_STARTS" = some (some (.ref DP)))
    (lP : K.lookup DP = some ⟨.type "tuple", odP, .seq #[.int 0 tkP] mP, slP⟩)
    (aF_ : PySem.W.nsIn K mainGlobals "FALLS_OF_WORD" = some (some (.ref DF_)))
    (lF_ : K.lookup DF_ = some { cls := .type "dict", data := .dict #[⟨h1F_, .str "fall" t1F_, .bool true⟩, ⟨h2F_, .str "stay" t2F_, .bool false⟩] nF_ })
    (kF_ : PySem.W.KeysLit w.params (#[⟨h1F_, .str "fall" t1F_, .bool true⟩, ⟨h2F_, .str "stay" t2F_, .bool false⟩] : Array DictEntry).toList)
    (wF_ : (DF_ == sysModules) = false)
    (aG_ : PySem.W.nsIn K mainGlobals "GOES_OF_WORD" = some (some (.ref DG_)))
    (lG_ : K.lookup DG_ = some { cls := .type "dict", data := .dict #[⟨h1G_, .str "go" t1G_, .bool true⟩, ⟨h2G_, .str "stay" t2G_, .bool false⟩] nG_ })
    (kG_ : PySem.W.KeysLit w.params (#[⟨h1G_, .str "go" t1G_, .bool true⟩, ⟨h2G_, .str "stay" t2G_, .bool false⟩] : Array DictEntry).toList)
    (wG_ : (DG_ == sysModules) = false)
    (aX : PySem.W.nsIn K mainGlobals "InvalidRule" = some (some (.ref X)))
    (xX : PySem.W.excIn K X [.type "ValueError", .type "Exception", .type "BaseException", .type "object"] "ValueError.__new__" = true)
    (kX : PySem.W.keepIn K (.ref X) = true)
    (bX : PySem.W.subIn K (.ref X) (.type "BaseException") = some true)
    (tX : PySem.W.typeIn K (.ref X) = some (.type "type"))
    (isX : PySem.W.isClsIn K X = true)
    (aP_ : PySem.W.nsIn K mainGlobals "PairError" = some (some (.ref P_)))
    (bP_ : PySem.W.subIn K (.ref P_) (.type "BaseException") = some true)
    (tP_ : PySem.W.typeIn K (.ref P_) = some (.type "type"))
    (isP_ : PySem.W.isClsIn K P_ = true)
    (sXP_ : PySem.W.subIn K (.ref X) (.ref P_) = some true)
    (sXX : PySem.W.subIn K (.ref X) (.ref X) = some true)
    (aXC : PySem.W.nsIn K mainGlobals "InvalidClaim" = some (some (.ref XC)))
    (xXC : PySem.W.excIn K XC [.type "ValueError", .type "Exception", .type "BaseException", .type "object"] "ValueError.__new__" = true)
    (kXC : PySem.W.keepIn K (.ref XC) = true)
    (bXC : PySem.W.subIn K (.ref XC) (.type "BaseException") = some true)
    (tXC : PySem.W.typeIn K (.ref XC) = some (.type "type"))
    (isXC : PySem.W.isClsIn K XC = true)
    (sXCP_ : PySem.W.subIn K (.ref XC) (.ref P_) = some true)
    (sXCXC : PySem.W.subIn K (.ref XC) (.ref XC) = some true)
    (aCC : PySem.W.nsIn K mainGlobals "Claim" = some (some (.ref CC)))
    (pgCC : PySem.W.plainGet K CC Str.empty = true)
    (hdCC : PySem.W.hasDictIn K CC = true)
    (poCC : PySem.W.plainOver K CC = true)
    (saCC : PySem.W.findIn K (.ref CC) "__setattr__" = some (some (.builtin "object.__setattr__")))
    (kcCC : PySem.W.keepIn K (.ref CC) = true)
    (mkCC : PySem.W.makesIn K CC = true)
    (nCCrows : PySem.W.findIn K (.ref CC) "rows" = some none)
    (aKI : PySem.W.findIn K (.ref CC) "__init__" = some (some (.ref gKI)))
    (lKI : K.lookup gKI = some ⟨ocKI, odKI, .func (PySem.W.fnOf "__init__" "Claim.__init__" (defArgs CL.sInit) (defBody CL.sInit) (defScope CL.sInit) .none kVKI dcKI pmKI anKI cdKI ctKI), slKI⟩)
    (cKI : PySem.W.codeIn K cdKI "Claim.__init__" = true)
    (kKI : PySem.W.keepIn K (.ref gKI) = true)
    (iKI : PySem.W.isFn K (.ref gKI) = true)
    (aFo : PySem.W.nsIn K mainGlobals "Found" = some (some (.ref Fo)))
    (iCF : PySem.W.isClsIn K Fo = true)
    (tCF : PySem.W.typeIn K (.ref Fo) = some (.type "type"))
    (sLF : PySem.W.subIn K (.type "list") (.ref Fo) = some false)
    (sTF : PySem.W.subIn K (.type "tuple") (.ref Fo) = some false)
    (aBrk : PySem.W.findIn K (.ref CC) "broken" = some (some (.ref gBrk)))
    (lBrk : K.lookup gBrk = some ⟨ocBrk, odBrk, .func (PySem.W.fnOf "broken" "Claim.broken" (defArgs sBroken) (defBody sBroken) (defScope sBroken) .none kVBrk dcBrk pmBrk anBrk cdBrk ctBrk), slBrk⟩)
    (cBrk : PySem.W.codeIn K cdBrk "Claim.broken" = true)
    (kBrk : PySem.W.keepIn K (.ref gBrk) = true)
    (iBrk : PySem.W.isFn K (.ref gBrk) = true)
    (aVer : PySem.W.findIn K (.ref CC) "verdict" = some (some (.ref gVer)))
    (lVer : K.lookup gVer = some ⟨ocVer, odVer, .func (PySem.W.fnOf "verdict" "Claim.verdict" (defArgs sVerC) (defBody sVerC) (defScope sVerC) .none kVVer dcVer pmVer anVer cdVer ctVer), slVer⟩)
    (cVer : PySem.W.codeIn K cdVer "Claim.verdict" = true)
    (kVer : PySem.W.keepIn K (.ref gVer) = true)
    (iVer : PySem.W.isFn K (.ref gVer) = true)
    (aHas : PySem.W.findIn K (.ref CC) "__contains__" = some (some (.ref gHas)))
    (lHas : K.lookup gHas = some ⟨ocHas, odHas, .func (PySem.W.fnOf "__contains__" "Claim.__contains__" (defArgs sHasC) (defBody sHasC) (defScope sHasC) .none kVHas dcHas pmHas anHas cdHas ctHas), slHas⟩)
    (cHas : PySem.W.codeIn K cdHas "Claim.__contains__" = true)
    (kHas : PySem.W.keepIn K (.ref gHas) = true)
    (iHas : PySem.W.isFn K (.ref gHas) = true)
    (aV : PySem.W.nsIn K mainGlobals "VERDICTS" = some (some (.ref DV)))
    (lV : K.lookup DV = some ⟨.type "tuple", none, .seq #[.str "none" t0, .str "last" t1, .str "other" t2, .str "free" t3] mV, slV⟩)
    (aLa : PySem.W.nsIn K mainGlobals "LAST" = some (some (.int 1 tkL)))
    (aOt : PySem.W.nsIn K mainGlobals "OTHER" = some (some (.int 2 tkO)))
    (crd : PySem.W.readsIn K C (.type "type") = true)
    (cga : PySem.W.specialIn K (.ref C) "__getattribute__" = some (some (.builtin "type.__getattribute__")))
    (cfi : PySem.W.findCls K (.ref C) (.type "type") "read" = some (.get (.builtin "staticmethod.__get__") (.ref pR) .none (.ref C)))
    (aRead : PySem.W.recIn K pR "staticmethod" = some (.ref gRead :: restR))
    (lRead : K.lookup gRead = some ⟨ocRead, odRead, .func (PySem.W.fnOf "read" "Rule.read" (defArgs sRead) (defBody sRead) (defScope sRead) .none kVRead dcRead pmRead anRead cdRead ctRead), slRead⟩)
    (cRead : PySem.W.codeIn K cdRead "Rule.read" = true)
    (kRead : PySem.W.keepIn K (.ref gRead) = true)
    (chi : PySem.W.handedIn (.ref gRead) = true)
    (zisinstance : PySem.W.nsIn K mainGlobals "isinstance" = some none)
    (zint : PySem.W.nsIn K mainGlobals "int" = some none)
    (zbool : PySem.W.nsIn K mainGlobals "bool" = some none)
    (zlist : PySem.W.nsIn K mainGlobals "list" = some none)
    (ztuple : PySem.W.nsIn K mainGlobals "tuple" = some none)
    (zlen : PySem.W.nsIn K mainGlobals "len" = some none)
    (zall : PySem.W.nsIn K mainGlobals "all" = some none)
    (zzip : PySem.W.nsIn K mainGlobals "zip" = some none)
    (zrange : PySem.W.nsIn K mainGlobals "range" = some none)
    (zstr : PySem.W.nsIn K mainGlobals "str" = some none)
    (zmax : PySem.W.nsIn K mainGlobals "max" = some none)
    (aisRow : PySem.W.nsIn K mainGlobals "is_row_rules" = some (some (.ref gisRow)))
    (lisRow : K.lookup gisRow = some ⟨ocisRow, odisRow, .func (PySem.W.fnOf "_is_row" "_is_row" (defArgs sIsRow) (defBody sIsRow) (defScope sIsRow) .none kVisRow dcisRow pmisRow anisRow cdisRow ctisRow), slisRow⟩)
    (cisRow : PySem.W.codeIn K cdisRow "_is_row" = true)
    (kisRow : PySem.W.keepIn K (.ref gisRow) = true)
    (areadRow : PySem.W.nsIn K mainGlobals "read_row_rules" = some (some (.ref greadRow)))
    (lreadRow : K.lookup greadRow = some ⟨ocreadRow, odreadRow, .func (PySem.W.fnOf "_read_row" "_read_row" (defArgs sReadRow) (defBody sReadRow) (defScope sReadRow) .none kVreadRow dcreadRow pmreadRow anreadRow cdreadRow ctreadRow), slreadRow⟩)
    (creadRow : PySem.W.codeIn K cdreadRow "_read_row" = true)
    (kreadRow : PySem.W.keepIn K (.ref greadRow) = true)
    (aisRowC : PySem.W.nsIn K mainGlobals "is_row_claims" = some (some (.ref gisRowC)))
    (lisRowC : K.lookup gisRowC = some ⟨ocisRowC, odisRowC, .func (PySem.W.fnOf "_is_row" "_is_row" (defArgs CL.sIsRow) (defBody CL.sIsRow) (defScope CL.sIsRow) .none kVisRowC dcisRowC pmisRowC anisRowC cdisRowC ctisRowC), slisRowC⟩)
    (cisRowC : PySem.W.codeIn K cdisRowC "_is_row" = true)
    (kisRowC : PySem.W.keepIn K (.ref gisRowC) = true)
    (acheckC : PySem.W.nsIn K mainGlobals "_check_rows" = some (some (.ref gcheckC)))
    (lcheckC : K.lookup gcheckC = some ⟨occheckC, odcheckC, .func (PySem.W.fnOf "_check_rows" "_check_rows" (defArgs CL.sCheck) (defBody CL.sCheck) (defScope CL.sCheck) .none kVcheckC dccheckC pmcheckC ancheckC cdcheckC ctcheckC), slcheckC⟩)
    (ccheckC : PySem.W.codeIn K cdcheckC "_check_rows" = true)
    (kcheckC : PySem.W.keepIn K (.ref gcheckC) = true)
    (aisInt : PySem.W.nsIn K mainGlobals "is_integer" = some (some (.ref gisInt)))
    (lisInt : K.lookup gisInt = some ⟨ocisInt, odisInt, .func (PySem.W.fnOf "is_integer" "is_integer" (defArgs sIsInt) (defBody sIsInt) (defScope sIsInt) .none kVisInt dcisInt pmisInt anisInt cdisInt ctisInt), slisInt⟩)
    (cisInt : PySem.W.codeIn K cdisInt "is_integer" = true)
    (kisInt : PySem.W.keepIn K (.ref gisInt) = true)
    (abelow : PySem.W.nsIn K mainGlobals "is_below" = some (some (.ref gbelow)))
    (lbelow : K.lookup gbelow = some ⟨ocbelow, odbelow, .func (PySem.W.fnOf "is_below" "is_below" (defArgs sBelow) (defBody sBelow) (defScope sBelow) .none kVbelow dcbelow pmbelow anbelow cdbelow ctbelow), slbelow⟩)
    (cbelow : PySem.W.codeIn K cdbelow "is_below" = true)
    (kbelow : PySem.W.keepIn K (.ref gbelow) = true)
    (acheck : PySem.W.nsIn K mainGlobals "_check_table" = some (some (.ref gcheck)))
    (lcheck : K.lookup gcheck = some ⟨occheck, odcheck, .func (PySem.W.fnOf "_check_table" "_check_table" (defArgs sCheck) (defBody sCheck) (defScope sCheck) .none kVcheck dccheck pmcheck ancheck cdcheck ctcheck), slcheck⟩)
    (ccheck : PySem.W.codeIn K cdcheck "_check_table" = true)
    (kcheck : PySem.W.keepIn K (.ref gcheck) = true)
    (arowsTx : PySem.W.nsIn K mainGlobals "_rows_text" = some (some (.ref growsTx)))
    (lrowsTx : K.lookup growsTx = some ⟨ocrowsTx, odrowsTx, .func (PySem.W.fnOf "_rows_text" "_rows_text" (defArgs sRowsTx) (defBody sRowsTx) (defScope sRowsTx) .none kVrowsTx dcrowsTx pmrowsTx anrowsTx cdrowsTx ctrowsTx), slrowsTx⟩)
    (crowsTx : PySem.W.codeIn K cdrowsTx "_rows_text" = true)
    (krowsTx : PySem.W.keepIn K (.ref growsTx) = true)
    (arowTx : PySem.W.nsIn K mainGlobals "_row_text" = some (some (.ref growTx)))
    (lrowTx : K.lookup growTx = some ⟨ocrowTx, odrowTx, .func (PySem.W.fnOf "_row_text" "_row_text" (defArgs sRowTx) (defBody sRowTx) (defScope sRowTx) .none kVrowTx dcrowTx pmrowTx anrowTx cdrowTx ctrowTx), slrowTx⟩)
    (crowTx : PySem.W.codeIn K cdrowTx "_row_text" = true)
    (krowTx : PySem.W.keepIn K (.ref growTx) = true)
    (astTx : PySem.W.nsIn K mainGlobals "_starts_text" = some (some (.ref gstTx)))
    (lstTx : K.lookup gstTx = some ⟨ocstTx, odstTx, .func (PySem.W.fnOf "_starts_text" "_starts_text" (defArgs sStartsTx) (defBody sStartsTx) (defScope sStartsTx) .none kVstTx dcstTx pmstTx anstTx cdstTx ctstTx), slstTx⟩)
    (cstTx : PySem.W.codeIn K cdstTx "_starts_text" = true)
    (kstTx : PySem.W.keepIn K (.ref gstTx) = true)
    (areadSt : PySem.W.nsIn K mainGlobals "read_state" = some (some (.ref greadSt)))
    (lreadSt : K.lookup greadSt = some ⟨ocreadSt, odreadSt, .func (PySem.W.fnOf "read_state" "read_state" (defArgs sReadSt) (defBody sReadSt) (defScope sReadSt) .none kVreadSt dcreadSt pmreadSt anreadSt cdreadSt ctreadSt), slreadSt⟩)
    (creadSt : PySem.W.codeIn K cdreadSt "read_state" = true)
    (kreadSt : PySem.W.keepIn K (.ref greadSt) = true)
    (anext : PySem.W.nsIn K mainGlobals "_next_entry" = some (some (.ref gnext)))
    (lnext : K.lookup gnext = some ⟨ocnext, odnext, .func (PySem.W.fnOf "_next_entry" "_next_entry" (defArgs sNext) (defBody sNext) (defScope sNext) .none kVnext dcnext pmnext annext cdnext ctnext), slnext⟩)
    (cnext : PySem.W.codeIn K cdnext "_next_entry" = true)
    (knext : PySem.W.keepIn K (.ref gnext) = true)
    (aallowed : PySem.W.nsIn K mainGlobals "_is_allowed" = some (some (.ref gallowed)))
    (lallowed : K.lookup gallowed = some ⟨ocallowed, odallowed, .func (PySem.W.fnOf "_is_allowed" "_is_allowed" (defArgs sAllowed) (defBody sAllowed) (defScope sAllowed) .none kVallowed dcallowed pmallowed anallowed cdallowed ctallowed), slallowed⟩)
    (callowed : PySem.W.codeIn K cdallowed "_is_allowed" = true)
    (kallowed : PySem.W.keepIn K (.ref gallowed) = true)
    (anumber : PySem.W.nsIn K mainGlobals "_number" = some (some (.ref gnumber)))
    (lnumber : K.lookup gnumber = some ⟨ocnumber, odnumber, .func (PySem.W.fnOf "_number" "_number" (defArgs sNumV) (defBody sNumV) (defScope sNumV) .none kVnumber dcnumber pmnumber annumber cdnumber ctnumber), slnumber⟩)
    (cnumber : PySem.W.codeIn K cdnumber "_number" = true)
    (knumber : PySem.W.keepIn K (.ref gnumber) = true)
    (away : PySem.W.nsIn K mainGlobals "way_to" = some (some (.ref gway)))
    (lway : K.lookup gway = some ⟨ocway, odway, .func (PySem.W.fnOf "way_to" "way_to" (defArgs sWay) (defBody sWay) (defScope sWay) .none kVway dcway pmway anway cdway ctway), slway⟩)
    (cway : PySem.W.codeIn K cdway "way_to" = true)
    (kway : PySem.W.keepIn K (.ref gway) = true)
    (aafterC : PySem.W.nsIn K mainGlobals "state_after" = some (some (.ref gafterC)))
    (lafterC : K.lookup gafterC = some ⟨ocafterC, odafterC, .func (PySem.W.fnOf "state_after" "state_after" (defArgs sAfterC) (defBody sAfterC) (defScope sAfterC) .none kVafterC dcafterC pmafterC anafterC cdafterC ctafterC), slafterC⟩)
    (cafterC : PySem.W.codeIn K cdafterC "state_after" = true)
    (kafterC : PySem.W.keepIn K (.ref gafterC) = true)
    (astill : PySem.W.nsIn K mainGlobals "still" = some (some (.ref gstill)))
    (lstill : K.lookup gstill = some ⟨ocstill, odstill, .func (PySem.W.fnOf "still" "still" (defArgs sStill) (defBody sStill) (defScope sStill) .none kVstill dcstill pmstill anstill cdstill ctstill), slstill⟩)
    (cstill : PySem.W.codeIn K cdstill "still" = true)
    (kstill : PySem.W.keepIn K (.ref gstill) = true)
    (adraw : PySem.W.nsIn K mainGlobals "_law_draw" = some (some (.ref gdraw)))
    (ldraw : K.lookup gdraw = some ⟨ocdraw, oddraw, .func (PySem.W.fnOf "_law_draw" "_law_draw" (defArgs sDraw) (defBody sDraw) (defScope sDraw) .none kVdraw dcdraw pmdraw andraw cddraw ctdraw), sldraw⟩)
    (cdraw : PySem.W.codeIn K cddraw "_law_draw" = true)
    (kdraw : PySem.W.keepIn K (.ref gdraw) = true)
    (astart : PySem.W.nsIn K mainGlobals "_law_start" = some (some (.ref gstart)))
    (lstart : K.lookup gstart = some ⟨ocstart, odstart, .func (PySem.W.fnOf "_law_start" "_law_start" (defArgs sStart) (defBody sStart) (defScope sStart) .none kVstart dcstart pmstart anstart cdstart ctstart), slstart⟩)
    (cstart : PySem.W.codeIn K cdstart "_law_start" = true)
    (kstart : PySem.W.keepIn K (.ref gstart) = true)
    (apick : PySem.W.nsIn K mainGlobals "_law_pick" = some (some (.ref gpick)))
    (lpick : K.lookup gpick = some ⟨ocpick, odpick, .func (PySem.W.fnOf "_law_pick" "_law_pick" (defArgs sPick) (defBody sPick) (defScope sPick) .none kVpick dcpick pmpick anpick cdpick ctpick), slpick⟩)
    (cpick : PySem.W.codeIn K cdpick "_law_pick" = true)
    (kpick : PySem.W.keepIn K (.ref gpick) = true)
    (asame : PySem.W.nsIn K mainGlobals "_law_same" = some (some (.ref gsame)))
    (lsame : K.lookup gsame = some ⟨ocsame, odsame, .func (PySem.W.fnOf "_law_same" "_law_same" (defArgs sSame) (defBody sSame) (defScope sSame) .none kVsame dcsame pmsame ansame cdsame ctsame), slsame⟩)
    (csame : PySem.W.codeIn K cdsame "_law_same" = true)
    (ksame : PySem.W.keepIn K (.ref gsame) = true)
    (ajth : PySem.W.nsIn K mainGlobals "_law_p_jth" = some (some (.ref gjth)))
    (ljth : K.lookup gjth = some ⟨ocjth, odjth, .func (PySem.W.fnOf "_law_p_jth" "_law_p_jth" (defArgs sJth) (defBody sJth) (defScope sJth) .none kVjth dcjth pmjth anjth cdjth ctjth), sljth⟩)
    (cjth : PySem.W.codeIn K cdjth "_law_p_jth" = true)
    (kjth : PySem.W.keepIn K (.ref gjth) = true)
    (aplast : PySem.W.nsIn K mainGlobals "_law_p_last" = some (some (.ref gplast)))
    (lplast : K.lookup gplast = some ⟨ocplast, odplast, .func (PySem.W.fnOf "_law_p_last" "_law_p_last" (defArgs sPLast) (defBody sPLast) (defScope sPLast) .none kVplast dcplast pmplast anplast cdplast ctplast), slplast⟩)
    (cplast : PySem.W.codeIn K cdplast "_law_p_last" = true)
    (kplast : PySem.W.keepIn K (.ref gplast) = true)
    (atable : PySem.W.nsIn K mainGlobals "_law_m_table" = some (some (.ref gtable)))
    (ltable : K.lookup gtable = some ⟨octable, odtable, .func (PySem.W.fnOf "_law_m_table" "_law_m_table" (defArgs sTable) (defBody sTable) (defScope sTable) .none kVtable dctable pmtable antable cdtable cttable), sltable⟩)
    (ctable : PySem.W.codeIn K cdtable "_law_m_table" = true)
    (ktable : PySem.W.keepIn K (.ref gtable) = true)
    (aaft : PySem.W.nsIn K mainGlobals "_law_m_after" = some (some (.ref gaft)))
    (laft : K.lookup gaft = some ⟨ocaft, odaft, .func (PySem.W.fnOf "_law_m_after" "_law_m_after" (defArgs sAft) (defBody sAft) (defScope sAft) .none kVaft dcaft pmaft anaft cdaft ctaft), slaft⟩)
    (caft : PySem.W.codeIn K cdaft "_law_m_after" = true)
    (kaft : PySem.W.keepIn K (.ref gaft) = true)
    (apair : PySem.W.nsIn K mainGlobals "_law_m_pair" = some (some (.ref gpair)))
    (lpair : K.lookup gpair = some ⟨ocpair, odpair, .func (PySem.W.fnOf "_law_m_pair" "_law_m_pair" (defArgs sPair) (defBody sPair) (defScope sPair) .none kVpair dcpair pmpair anpair cdpair ctpair), slpair⟩)
    (cpair : PySem.W.codeIn K cdpair "_law_m_pair" = true)
    (kpair : PySem.W.keepIn K (.ref gpair) = true)
    (aclaim : PySem.W.nsIn K mainGlobals "_law_m_claim" = some (some (.ref gclaim)))
    (lclaim : K.lookup gclaim = some ⟨occlaim, odclaim, .func (PySem.W.fnOf "_law_m_claim" "_law_m_claim" (defArgs CL.sClaim) (defBody CL.sClaim) (defScope CL.sClaim) .none kVclaim dcclaim pmclaim anclaim cdclaim ctclaim), slclaim⟩)
    (cclaim : PySem.W.codeIn K cdclaim "_law_m_claim" = true)
    (kclaim : PySem.W.keepIn K (.ref gclaim) = true)
    (aallows : PySem.W.nsIn K mainGlobals "_law_m_allows" = some (some (.ref gallows)))
    (lallows : K.lookup gallows = some ⟨ocallows, odallows, .func (PySem.W.fnOf "_law_m_allows" "_law_m_allows" (defArgs sAllows) (defBody sAllows) (defScope sAllows) .none kVallows dcallows pmallows anallows cdallows ctallows), slallows⟩)
    (callows : PySem.W.codeIn K cdallows "_law_m_allows" = true)
    (kallows : PySem.W.keepIn K (.ref gallows) = true)
    (akept : PySem.W.nsIn K mainGlobals "_law_m_kept" = some (some (.ref gkept)))
    (lkept : K.lookup gkept = some ⟨ockept, odkept, .func (PySem.W.fnOf "_law_m_kept" "_law_m_kept" (defArgs sKept) (defBody sKept) (defScope sKept) .none kVkept dckept pmkept ankept cdkept ctkept), slkept⟩)
    (ckept : PySem.W.codeIn K cdkept "_law_m_kept" = true)
    (kkept : PySem.W.keepIn K (.ref gkept) = true)
    (albrk : PySem.W.nsIn K mainGlobals "_law_m_broken" = some (some (.ref glbrk)))
    (llbrk : K.lookup glbrk = some ⟨oclbrk, odlbrk, .func (PySem.W.fnOf "_law_m_broken" "_law_m_broken" (defArgs sLBrk) (defBody sLBrk) (defScope sLBrk) .none kVlbrk dclbrk pmlbrk anlbrk cdlbrk ctlbrk), sllbrk⟩)
    (clbrk : PySem.W.codeIn K cdlbrk "_law_m_broken" = true)
    (klbrk : PySem.W.keepIn K (.ref glbrk) = true)
    (aLaw : PySem.W.nsIn K mainGlobals "law" = some (some (.ref gLaw)))
    (lLaw : K.lookup gLaw = some ⟨ocLaw, odLaw, .func (PySem.W.fnOf "law" "law" (defArgs sLaw) (defBody sLaw) (defScope sLaw) .none kVLaw dcLaw pmLaw anLaw cdLaw ctLaw), slLaw⟩)
    (cLaw : PySem.W.codeIn K cdLaw "law" = true)
    (kLaw : PySem.W.keepIn K (.ref gLaw) = true) :
    ∃ fd : FuncData, (∀ (s : Shared) (v : Value), BindsTo s fd ⟨[v], []⟩ [("_law_script", v)]) ∧ ∀ base : Heap, K.In base → base.Ns mainGlobals mg → FnOk l.prog w K mg base CX0 9 fa fd ["_law_script"] (spLaw K) := by
  have e := hfa.symm.trans (PySem.W.mg_of X_ G aLaw)
  cases e
  have FCI : FunI K gCI (PySem.W.fnOf "__init__" "Rule.__init__" (defArgs sInit) (defBody sInit) (defScope sInit) (.ref TT) kVCI dcCI pmCI anCI cdCI ctCI) DD := ⟨⟨_, _, _, _, _, _, _, _, _, _, rfl, lCI, cCI, .inr ⟨by simp, TT, _, [.ref DD], mT, rfl, lT, rfl, .cons rfl .nil⟩, .inl rfl⟩, kCI⟩
  have b1I := FCI.binds1 (ps := ["self", "rows", "starts"]) 2 0 (by simp) rfl (fun T kV doc pm an cdv ct us its h1 h2 => match us, h1, its, h2 with | [_, _], _, [_], _ => ⟨_, rfl, rfl⟩)
  have hdd : ∀ H, SqT K H DD [V.int 0] := fun H => .inr ⟨_, #[.int 0 tkD], mD, lD, rfl, rfl, (by show 1 ≤ sizeLine; decide), .cons ⟨tkD, rfl⟩ .nil⟩
  have FStr := fun_mk (st := sStr) lStr cStr kStr
  have bStr := FStr.binds (ps := ["self"]) fun _ _ _ _ _ _ us hl => match us, hl with | [_], _ => rfl
  have hdp : ∀ H, SqT K H DP [V.int 0] := fun H => .inr ⟨_, #[.int 0 tkP], mP, lP, rfl, rfl, (by show 1 ≤ sizeLine; decide), .cons ⟨tkP, rfl⟩ .nil⟩
  have FKI := fun_mk (st := CL.sInit) lKI cKI kKI
  have bKI := FKI.binds (ps := ["self", "rows"]) fun _ _ _ _ _ _ us hl => match us, hl with | [_, _], _ => rfl
  have FBrk := fun_mk (st := sBroken) lBrk cBrk kBrk
  have bBrk := FBrk.binds (ps := ["self", "rule"]) fun _ _ _ _ _ _ us hl => match us, hl with | [_, _], _ => rfl
  have FVer := fun_mk (st := sVerC) lVer cVer kVer
  have bVer := FVer.binds (ps := ["self", "calls"]) fun _ _ _ _ _ _ us hl => match us, hl with | [_, _], _ => rfl
  have FHas := fun_mk (st := sHasC) lHas cHas kHas
  have bHas := FHas.binds (ps := ["self", "rule"]) fun _ _ _ _ _ _ us hl => match us, hl with | [_, _], _ => rfl
  have hdv : ∀ H, SqT K H DV (TC.verds.map V.str) := fun H => .inr ⟨_, #[.str "none" t0, .str "last" t1, .str "other" t2, .str "free" t3], mV, lV, rfl, rfl, (by show 4 ≤ sizeLine; decide), .cons ⟨t0, rfl⟩ (.cons ⟨t1, rfl⟩ (.cons ⟨t2, rfl⟩ (.cons ⟨t3, rfl⟩ .nil)))⟩
  have FRead := fun_mk (st := sRead) lRead cRead kRead
  have bRead := FRead.binds (ps := ["text"]) fun _ _ _ _ _ _ us hl => match us, hl with | [_], _ => rfl
  have FisRow := fun_mk (st := sIsRow) lisRow cisRow kisRow
  have bisRow := FisRow.binds (ps := ["row", "count"]) fun _ _ _ _ _ _ us hl => match us, hl with | [_, _], _ => rfl
  have FreadRow := fun_mk (st := sReadRow) lreadRow creadRow kreadRow
  have breadRow := FreadRow.binds (ps := ["piece"]) fun _ _ _ _ _ _ us hl => match us, hl with | [_], _ => rfl
  have FisRowC := fun_mk (st := CL.sIsRow) lisRowC cisRowC kisRowC
  have bisRowC := FisRowC.binds (ps := ["row", "count"]) fun _ _ _ _ _ _ us hl => match us, hl with | [_, _], _ => rfl
  have FcheckC := fun_mk (st := CL.sCheck) lcheckC ccheckC kcheckC
  have bcheckC := FcheckC.binds (ps := ["rows"]) fun _ _ _ _ _ _ us hl => match us, hl with | [_], _ => rfl
  have FisInt := fun_mk (st := sIsInt) lisInt cisInt kisInt
  have bisInt := FisInt.binds (ps := ["value"]) fun _ _ _ _ _ _ us hl => match us, hl with | [_], _ => rfl
  have Fbelow := fun_mk (st := sBelow) lbelow cbelow kbelow
  have bbelow := Fbelow.binds (ps := ["value", "count"]) fun _ _ _ _ _ _ us hl => match us, hl with | [_, _], _ => rfl
  have Fcheck := fun_mk (st := sCheck) lcheck ccheck kcheck
  have bcheck := Fcheck.binds (ps := ["rows", "starts"]) fun _ _ _ _ _ _ us hl => match us, hl with | [_, _], _ => rfl
  have FrowsTx := fun_mk (st := sRowsTx) lrowsTx crowsTx krowsTx
  have browsTx := FrowsTx.binds (ps := ["rows"]) fun _ _ _ _ _ _ us hl => match us, hl with | [_], _ => rfl
  have FrowTx := fun_mk (st := sRowTx) lrowTx crowTx krowTx
  have browTx := FrowTx.binds (ps := ["row"]) fun _ _ _ _ _ _ us hl => match us, hl with | [_], _ => rfl
  have FstTx := fun_mk (st := sStartsTx) lstTx cstTx kstTx
  have bstTx := FstTx.binds (ps := ["starts"]) fun _ _ _ _ _ _ us hl => match us, hl with | [_], _ => rfl
  have FreadSt := fun_mk (st := sReadSt) lreadSt creadSt kreadSt
  have breadSt := FreadSt.binds (ps := ["word"]) fun _ _ _ _ _ _ us hl => match us, hl with | [_], _ => rfl
  have Fnext := fun_mk (st := sNext) lnext cnext knext
  have bnext := Fnext.binds (ps := ["claim_rows", "rule_rows", "entry", "at", "call"]) fun _ _ _ _ _ _ us hl => match us, hl with | [_, _, _, _, _], _ => rfl
  have Fallowed := fun_mk (st := sAllowed) lallowed callowed kallowed
  have ballowed := Fallowed.binds (ps := ["claim_rows", "entry"]) fun _ _ _ _ _ _ us hl => match us, hl with | [_, _], _ => rfl
  have Fnumber := fun_mk (st := sNumV) lnumber cnumber knumber
  have bnumber := Fnumber.binds (ps := ["rows", "state"]) fun _ _ _ _ _ _ us hl => match us, hl with | [_, _], _ => rfl
  have Fway := fun_mk (st := sWay) lway cway kway
  have bway := Fway.binds (ps := ["entries", "at"]) fun _ _ _ _ _ _ us hl => match us, hl with | [_, _], _ => rfl
  have FafterC := fun_mk (st := sAfterC) lafterC cafterC kafterC
  have bafterC := FafterC.binds (ps := ["rows", "calls"]) fun _ _ _ _ _ _ us hl => match us, hl with | [_, _], _ => rfl
  have Fstill := fun_mk (st := sStill) lstill cstill kstill
  have bstill := Fstill.binds (ps := []) fun _ _ _ _ _ _ us hl => match us, hl with | [], _ => rfl
  have Fdraw := fun_mk (st := sDraw) ldraw cdraw kdraw
  have bdraw := Fdraw.binds (ps := ["_law_stream", "_law_many"]) fun _ _ _ _ _ _ us hl => match us, hl with | [_, _], _ => rfl
  have Fstart := fun_mk (st := sStart) lstart cstart kstart
  have bstart := Fstart.binds (ps := ["_law_script"]) fun _ _ _ _ _ _ us hl => match us, hl with | [_], _ => rfl
  have Fpick := fun_mk (st := sPick) lpick cpick kpick
  have bpick := Fpick.binds (ps := ["_law_stream", "_law_some"]) fun _ _ _ _ _ _ us hl => match us, hl with | [_, _], _ => rfl
  have Fsame := fun_mk (st := sSame) lsame csame ksame
  have bsame := Fsame.binds (ps := ["_law_found", "_law_due"]) fun _ _ _ _ _ _ us hl => match us, hl with | [_, _], _ => rfl
  have Fjth := fun_mk (st := sJth) ljth cjth kjth
  have bjth := Fjth.binds (ps := ["_law_word", "_law_sign", "_law_j"]) fun _ _ _ _ _ _ us hl => match us, hl with | [_, _, _], _ => rfl
  have Fplast := fun_mk (st := sPLast) lplast cplast kplast
  have bplast := Fplast.binds (ps := ["_law_j"]) fun _ _ _ _ _ _ us hl => match us, hl with | [_], _ => rfl
  have Ftable := fun_mk (st := sTable) ltable ctable ktable
  have btable := Ftable.binds (ps := ["_law_stream", "_law_most", "_law_marks"]) fun _ _ _ _ _ _ us hl => match us, hl with | [_, _, _], _ => rfl
  have Faft := fun_mk (st := sAft) laft caft kaft
  have baft := Faft.binds (ps := ["_law_row", "_law_behind"]) fun _ _ _ _ _ _ us hl => match us, hl with | [_, _], _ => rfl
  have Fpair := fun_mk (st := sPair) lpair cpair kpair
  have bpair := Fpair.binds (ps := ["_law_table", "_law_low", "_law_high", "_law_calls"]) fun _ _ _ _ _ _ us hl => match us, hl with | [_, _, _, _], _ => rfl
  have Fclaim := fun_mk (st := CL.sClaim) lclaim cclaim kclaim
  have bclaim := Fclaim.binds (ps := ["_law_stream", "_law_most"]) fun _ _ _ _ _ _ us hl => match us, hl with | [_, _], _ => rfl
  have Fallows := fun_mk (st := sAllows) lallows callows kallows
  have ballows := Fallows.binds (ps := ["_law_word", "_law_same_here"]) fun _ _ _ _ _ _ us hl => match us, hl with | [_, _], _ => rfl
  have Fkept := fun_mk (st := sKept) lkept ckept kkept
  have bkept := Fkept.binds (ps := ["_law_table", "_law_most"]) fun _ _ _ _ _ _ us hl => match us, hl with | [_, _], _ => rfl
  have Flbrk := fun_mk (st := sLBrk) llbrk clbrk klbrk
  have blbrk := Flbrk.binds (ps := ["_law_table", "_law_lines"]) fun _ _ _ _ _ _ us hl => match us, hl with | [_, _], _ => rfl
  have PR : Prog K w mg C X P_ gCI DD gisInt gbelow gisRow gcheck gStr growsTx growTx gstTx greadSt greadRow gRead pR CC XC P_ Fo gKI gisRowC gcheckC gBrk gnext gallowed gnumber gway gVer gafterC gHas gstill gdraw gstart gpick gsame gjth gplast gtable gaft gpair gclaim gallows gkept glbrk (.type "type") (PySem.W.fnOf "__init__" "Rule.__init__" (defArgs sInit) (defBody sInit) (defScope sInit) (.ref TT) kVCI dcCI pmCI anCI cdCI ctCI) (PySem.W.fnOf "is_integer" "is_integer" (defArgs sIsInt) (defBody sIsInt) (defScope sIsInt) .none kVisInt dcisInt pmisInt anisInt cdisInt ctisInt) (PySem.W.fnOf "is_below" "is_below" (defArgs sBelow) (defBody sBelow) (defScope sBelow) .none kVbelow dcbelow pmbelow anbelow cdbelow ctbelow) (PySem.W.fnOf "_is_row" "_is_row" (defArgs sIsRow) (defBody sIsRow) (defScope sIsRow) .none kVisRow dcisRow pmisRow anisRow cdisRow ctisRow) (PySem.W.fnOf "_check_table" "_check_table" (defArgs sCheck) (defBody sCheck) (defScope sCheck) .none kVcheck dccheck pmcheck ancheck cdcheck ctcheck) (PySem.W.fnOf "__str__" "Rule.__str__" (defArgs sStr) (defBody sStr) (defScope sStr) .none kVStr dcStr pmStr anStr cdStr ctStr) (PySem.W.fnOf "_rows_text" "_rows_text" (defArgs sRowsTx) (defBody sRowsTx) (defScope sRowsTx) .none kVrowsTx dcrowsTx pmrowsTx anrowsTx cdrowsTx ctrowsTx) (PySem.W.fnOf "_row_text" "_row_text" (defArgs sRowTx) (defBody sRowTx) (defScope sRowTx) .none kVrowTx dcrowTx pmrowTx anrowTx cdrowTx ctrowTx) (PySem.W.fnOf "_starts_text" "_starts_text" (defArgs sStartsTx) (defBody sStartsTx) (defScope sStartsTx) .none kVstTx dcstTx pmstTx anstTx cdstTx ctstTx) (PySem.W.fnOf "read_state" "read_state" (defArgs sReadSt) (defBody sReadSt) (defScope sReadSt) .none kVreadSt dcreadSt pmreadSt anreadSt cdreadSt ctreadSt) (PySem.W.fnOf "_read_row" "_read_row" (defArgs sReadRow) (defBody sReadRow) (defScope sReadRow) .none kVreadRow dcreadRow pmreadRow anreadRow cdreadRow ctreadRow) (PySem.W.fnOf "read" "Rule.read" (defArgs sRead) (defBody sRead) (defScope sRead) .none kVRead dcRead pmRead anRead cdRead ctRead) (PySem.W.fnOf "__init__" "Claim.__init__" (defArgs CL.sInit) (defBody CL.sInit) (defScope CL.sInit) .none kVKI dcKI pmKI anKI cdKI ctKI) (PySem.W.fnOf "_is_row" "_is_row" (defArgs CL.sIsRow) (defBody CL.sIsRow) (defScope CL.sIsRow) .none kVisRowC dcisRowC pmisRowC anisRowC cdisRowC ctisRowC) (PySem.W.fnOf "_check_rows" "_check_rows" (defArgs CL.sCheck) (defBody CL.sCheck) (defScope CL.sCheck) .none kVcheckC dccheckC pmcheckC ancheckC cdcheckC ctcheckC) (PySem.W.fnOf "broken" "Claim.broken" (defArgs sBroken) (defBody sBroken) (defScope sBroken) .none kVBrk dcBrk pmBrk anBrk cdBrk ctBrk) (PySem.W.fnOf "_next_entry" "_next_entry" (defArgs sNext) (defBody sNext) (defScope sNext) .none kVnext dcnext pmnext annext cdnext ctnext) (PySem.W.fnOf "_is_allowed" "_is_allowed" (defArgs sAllowed) (defBody sAllowed) (defScope sAllowed) .none kVallowed dcallowed pmallowed anallowed cdallowed ctallowed) (PySem.W.fnOf "_number" "_number" (defArgs sNumV) (defBody sNumV) (defScope sNumV) .none kVnumber dcnumber pmnumber annumber cdnumber ctnumber) (PySem.W.fnOf "way_to" "way_to" (defArgs sWay) (defBody sWay) (defScope sWay) .none kVway dcway pmway anway cdway ctway) (PySem.W.fnOf "verdict" "Claim.verdict" (defArgs sVerC) (defBody sVerC) (defScope sVerC) .none kVVer dcVer pmVer anVer cdVer ctVer) (PySem.W.fnOf "state_after" "state_after" (defArgs sAfterC) (defBody sAfterC) (defScope sAfterC) .none kVafterC dcafterC pmafterC anafterC cdafterC ctafterC) (PySem.W.fnOf "__contains__" "Claim.__contains__" (defArgs sHasC) (defBody sHasC) (defScope sHasC) .none kVHas dcHas pmHas anHas cdHas ctHas) (PySem.W.fnOf "still" "still" (defArgs sStill) (defBody sStill) (defScope sStill) .none kVstill dcstill pmstill anstill cdstill ctstill) (PySem.W.fnOf "_law_draw" "_law_draw" (defArgs sDraw) (defBody sDraw) (defScope sDraw) .none kVdraw dcdraw pmdraw andraw cddraw ctdraw) (PySem.W.fnOf "_law_start" "_law_start" (defArgs sStart) (defBody sStart) (defScope sStart) .none kVstart dcstart pmstart anstart cdstart ctstart) (PySem.W.fnOf "_law_pick" "_law_pick" (defArgs sPick) (defBody sPick) (defScope sPick) .none kVpick dcpick pmpick anpick cdpick ctpick) (PySem.W.fnOf "_law_same" "_law_same" (defArgs sSame) (defBody sSame) (defScope sSame) .none kVsame dcsame pmsame ansame cdsame ctsame) (PySem.W.fnOf "_law_p_jth" "_law_p_jth" (defArgs sJth) (defBody sJth) (defScope sJth) .none kVjth dcjth pmjth anjth cdjth ctjth) (PySem.W.fnOf "_law_p_last" "_law_p_last" (defArgs sPLast) (defBody sPLast) (defScope sPLast) .none kVplast dcplast pmplast anplast cdplast ctplast) (PySem.W.fnOf "_law_m_table" "_law_m_table" (defArgs sTable) (defBody sTable) (defScope sTable) .none kVtable dctable pmtable antable cdtable cttable) (PySem.W.fnOf "_law_m_after" "_law_m_after" (defArgs sAft) (defBody sAft) (defScope sAft) .none kVaft dcaft pmaft anaft cdaft ctaft) (PySem.W.fnOf "_law_m_pair" "_law_m_pair" (defArgs sPair) (defBody sPair) (defScope sPair) .none kVpair dcpair pmpair anpair cdpair ctpair) (PySem.W.fnOf "_law_m_claim" "_law_m_claim" (defArgs CL.sClaim) (defBody CL.sClaim) (defScope CL.sClaim) .none kVclaim dcclaim pmclaim anclaim cdclaim ctclaim) (PySem.W.fnOf "_law_m_allows" "_law_m_allows" (defArgs sAllows) (defBody sAllows) (defScope sAllows) .none kVallows dcallows pmallows anallows cdallows ctallows) (PySem.W.fnOf "_law_m_kept" "_law_m_kept" (defArgs sKept) (defBody sKept) (defScope sKept) .none kVkept dckept pmkept ankept cdkept ctkept) (PySem.W.fnOf "_law_m_broken" "_law_m_broken" (defArgs sLBrk) (defBody sLBrk) (defScope sLBrk) .none kVlbrk dclbrk pmlbrk anlbrk cdlbrk ctlbrk) := ⟨⟨⟨⟨pgC, hdC, poC, saC⟩, nCrows, nCstarts, nCmarks, PySem.W.mg_of X_ G aC, PySem.W.mg_none_of X_ G zisinstance, PySem.W.mg_none_of X_ G zint, PySem.W.mg_none_of X_ G zbool, PySem.W.mg_none_of X_ G zlist, PySem.W.mg_none_of X_ G ztuple, PySem.W.mg_none_of X_ G zlen, PySem.W.mg_none_of X_ G zall, PySem.W.mg_none_of X_ G zzip, PySem.W.mg_none_of X_ G zrange, ⟨tkM, PySem.W.mg_of X_ G aMost⟩, ⟨DM, PySem.W.mg_of X_ G aM, ⟨⟨x1, x2, x3, x4, y1, y2, y3, y4, nM_, lM⟩, lw⟩⟩⟩, ⟨xX, PySem.W.mg_of X_ G aX, kX, bX, tX, PySem.W.mg_of X_ G aP_, exm_2 bP_ isP_ tP_ sXP_, exm_2 bX isX tX sXX⟩, ⟨PySem.W.mg_none_of X_ G zstr, ⟨DP, PySem.W.mg_of X_ G aP, hdp⟩⟩, ⟨⟨DF_, PySem.W.mg_of X_ G aF_, kget_words lF_ kF_ wF_⟩, ⟨DG_, PySem.W.mg_of X_ G aG_, kget_words lG_ kG_ wG_⟩⟩, FCI, ⟨mkC, aCI, iCI, kcC⟩, bI2_of FCI, ⟨FisInt, bisInt, PySem.W.mg_of X_ G aisInt⟩, ⟨Fbelow, bbelow, PySem.W.mg_of X_ G abelow⟩, ⟨FisRow, bisRow, PySem.W.mg_of X_ G aisRow⟩, ⟨Fcheck, bcheck, PySem.W.mg_of X_ G acheck⟩, FStr, bStr, ⟨aStr, iStr, kStr⟩, ⟨FrowsTx, browsTx, PySem.W.mg_of X_ G arowsTx⟩, ⟨FrowTx, browTx, PySem.W.mg_of X_ G arowTx⟩, ⟨FstTx, bstTx, PySem.W.mg_of X_ G astTx⟩, ⟨FreadSt, breadSt, PySem.W.mg_of X_ G areadSt⟩, ⟨FreadRow, breadRow, PySem.W.mg_of X_ G areadRow⟩⟩, FRead, bRead, ⟨crd, cga⟩, ⟨cfi, ⟨_, aRead⟩, chi⟩, ⟨PySem.W.mg_none_of X_ G zisinstance, PySem.W.mg_none_of X_ G zint, PySem.W.mg_none_of X_ G zbool, PySem.W.mg_none_of X_ G zlist, PySem.W.mg_none_of X_ G ztuple, PySem.W.mg_none_of X_ G zstr, PySem.W.mg_none_of X_ G zlen, PySem.W.mg_none_of X_ G zall, PySem.W.mg_none_of X_ G zzip, PySem.W.mg_none_of X_ G zrange, PySem.W.mg_none_of X_ G zmax, ⟨tkM, PySem.W.mg_of X_ G aMost⟩, ⟨DV, PySem.W.mg_of X_ G aV, hdv⟩⟩, ⟨⟨pgCC, hdCC, poCC, saCC⟩, nCCrows, PySem.W.mg_of X_ G aCC, PySem.W.mg_of X_ G aFo, kit_cls iCF tCF sLF, kit_cls iCF tCF sTF⟩, ⟨xXC, PySem.W.mg_of X_ G aXC, kXC, bXC, tXC, PySem.W.mg_of X_ G aP_, exm_2 bP_ isP_ tP_ sXCP_, exm_2 bXC isXC tXC sXCXC⟩, ⟨⟨DV, _, PySem.W.mg_of X_ G aV, lV, rfl, rfl, hdv⟩, ⟨tkL, PySem.W.mg_of X_ G aLa⟩, ⟨tkO, PySem.W.mg_of X_ G aOt⟩⟩, FKI, ⟨mkCC, aKI, iKI, kcCC⟩, bKI, ⟨FisRowC, bisRowC, PySem.W.mg_of X_ G aisRowC⟩, ⟨FcheckC, bcheckC, PySem.W.mg_of X_ G acheckC⟩, FBrk, bBrk, ⟨aBrk, iBrk, kBrk⟩, ⟨Fnext, bnext, PySem.W.mg_of X_ G anext⟩, ⟨Fallowed, ballowed, PySem.W.mg_of X_ G aallowed⟩, ⟨Fnumber, bnumber, PySem.W.mg_of X_ G anumber⟩, ⟨Fway, bway, PySem.W.mg_of X_ G away⟩, FVer, bVer, ⟨aVer, iVer, kVer⟩, ⟨FafterC, bafterC, PySem.W.mg_of X_ G aafterC⟩, FHas, bHas, ⟨aHas, iHas, kHas⟩, ⟨Fstill, bstill, PySem.W.mg_of X_ G astill⟩, ⟨Fdraw, bdraw, PySem.W.mg_of X_ G adraw⟩, ⟨Fstart, bstart, PySem.W.mg_of X_ G astart⟩, ⟨Fpick, bpick, PySem.W.mg_of X_ G apick⟩, ⟨Fsame, bsame, PySem.W.mg_of X_ G asame⟩, ⟨Fjth, bjth, PySem.W.mg_of X_ G ajth⟩, ⟨Fplast, bplast, PySem.W.mg_of X_ G aplast⟩, ⟨Ftable, btable, PySem.W.mg_of X_ G atable⟩, ⟨Faft, baft, PySem.W.mg_of X_ G aaft⟩, ⟨Fpair, bpair, PySem.W.mg_of X_ G apair⟩, ⟨Fclaim, bclaim, PySem.W.mg_of X_ G aclaim⟩, ⟨Fallows, ballows, PySem.W.mg_of X_ G aallows⟩, ⟨Fkept, bkept, PySem.W.mg_of X_ G akept⟩, ⟨Flbrk, blbrk, PySem.W.mg_of X_ G albrk⟩⟩
  exact ⟨PySem.W.fnOf "law" "law" (defArgs sLaw) (defBody sLaw) (defScope sLaw) .none kVLaw dcLaw pmLaw anLaw cdLaw ctLaw, fun s v => .of_eq rfl, fun base _ _ => ok_law (fun_mk (st := sLaw) lLaw cLaw kLaw) PR⟩
theorem walk_ {l : PySem.W.OpenLaw} {q : Program} {loose : List Str} {XP : (Str → Option Value) → Heap → Prop} {YP : World → Heap → Prop} {d : DefRec} {K : Params → PySem.W.Frag} (hn : l.most = some 63) (hdf : d.params.defaults = [])
    (hY : ∀ (w : World) (h : Heap), YP w h → (K w.params).In h)
    (F : ∀ (w : World) (mg : Str → Option Value) (fa : Addr) (h : Heap), (K w.params).In h → h.Ns mainGlobals mg → mg d.name = some (.ref fa) →
      ∃ fd : FuncData, (∀ (s : Shared) (u : Value), BindsTo s fd ⟨[u], []⟩ [("_law_script", u)]) ∧ ∀ base : Heap, (K w.params).In base → base.Ns mainGlobals mg → FnOk l.prog w (K w.params) mg base CX0 9 fa fd ["_law_script"] (spLaw (K w.params))) :
    PySem.W.WalkO q loose XP YP l.row.toRowW d [] (fun f vs => PySem.call f vs) :=
  L2.walk_of (n := 63) (k := 9) (x := "_law_script") (CX := fun _ => CX0) (sp := fun w => spLaw (K w.params)) hn (by decide) hdf ⟨rfl, by decide, by decide⟩ hY F (fun _ _ a ns hl _ hS => ⟨a, ns, rfl, hS, hl, fun _ => rfl⟩) fun _ _ _ _ _ z => z
end PA

open PySem PySem.W PyProof.Rows
set_option maxRecDepth 100000 in
set_option maxHeartbeats 0 in
theorem PySem.Challenge.cw_pairahead_k25_broken_claims_holds : PySem.Challenge.rw_pairahead_k25_broken_claims.Holds := by
  w_on; o_law; k_head; (case hw => w_witness2)
  k_fill
  refine PA.walk_ (l := PySem.Challenge.rw_pairahead_k25_broken_claims) rfl rfl (fun w h Y => PySem.W.kIn_of Y) ?F
  case F =>
    intro w mg fa h KX G hmg
    refine' PA.all_mk KX G hmg ?aC ?pgC ?hdC ?poC ?saC ?kcC ?mkC ?nCrows ?nCstarts ?nCmarks ?aCI ?lCI ?cCI ?kCI ?iCI ?lT ?lD ?aM ?lM ?lw ?aMost ?aStr ?lStr ?cStr ?kStr ?iStr ?aP ?lP ?aF_ ?lF_ ?kF_ ?wF_ ?aG_ ?lG_ ?kG_ ?wG_ ?aX ?xX ?kX ?bX ?tX ?isX ?aP_ ?bP_ ?tP_ ?isP_ ?sXP_ ?sXX ?aXC ?xXC ?kXC ?bXC ?tXC ?isXC ?sXCP_ ?sXCXC ?aCC ?pgCC ?hdCC ?poCC ?saCC ?kcCC ?mkCC ?nCCrows ?aKI ?lKI ?cKI ?kKI ?iKI ?aFo ?iCF ?tCF ?sLF ?sTF ?aBrk ?lBrk ?cBrk ?kBrk ?iBrk ?aVer ?lVer ?cVer ?kVer ?iVer ?aHas ?lHas ?cHas ?kHas ?iHas ?aV ?lV ?aLa ?aOt ?crd ?cga ?cfi ?aRead ?lRead ?cRead ?kRead ?chi ?zisinstance ?zint ?zbool ?zlist ?ztuple ?zlen ?zall ?zzip ?zrange ?zstr ?zmax ?aisRow ?lisRow ?cisRow ?kisRow ?areadRow ?lreadRow ?creadRow ?kreadRow ?aisRowC ?lisRowC ?cisRowC ?kisRowC ?acheckC ?lcheckC ?ccheckC ?kcheckC ?aisInt ?lisInt ?cisInt ?kisInt ?abelow ?lbelow ?cbelow ?kbelow ?acheck ?lcheck ?ccheck ?kcheck ?arowsTx ?lrowsTx ?crowsTx ?krowsTx ?arowTx ?lrowTx ?crowTx ?krowTx ?astTx ?lstTx ?cstTx ?kstTx ?areadSt ?lreadSt ?creadSt ?kreadSt ?anext ?lnext ?cnext ?knext ?aallowed ?lallowed ?callowed ?kallowed ?anumber ?lnumber ?cnumber ?knumber ?away ?lway ?cway ?kway ?aafterC ?lafterC ?cafterC ?kafterC ?astill ?lstill ?cstill ?kstill ?adraw ?ldraw ?cdraw ?kdraw ?astart ?lstart ?cstart ?kstart ?apick ?lpick ?cpick ?kpick ?asame ?lsame ?csame ?ksame ?ajth ?ljth ?cjth ?kjth ?aplast ?lplast ?cplast ?kplast ?atable ?ltable ?ctable ?ktable ?aaft ?laft ?caft ?kaft ?apair ?lpair ?cpair ?kpair ?aclaim ?lclaim ?cclaim ?kclaim ?aallows ?lallows ?callows ?kallows ?akept ?lkept ?ckept ?kkept ?albrk ?llbrk ?clbrk ?klbrk ?aLaw ?lLaw ?cLaw ?kLaw
    (case aC => k_is)
    (case pgC => k_is)
    (case hdC => k_is)
    (case poC => k_is)
    (case saC => k_is)
    (case kcC => k_is)
    (case mkC => k_is)
    (case nCrows => k_is)
    (case nCstarts => k_is)
    (case nCmarks => k_is)
    (case aCI => k_is)
    (case lCI => k_is)
    (case cCI => k_is)
    (case kCI => k_is)
    (case iCI => k_is)
    (case lT => k_is)
    (case lD => k_is)
    (case aM => k_is)
    (case lM => k_is)
    (case lw => first | rfl | decide | k_is)
    (case aMost => k_is)
    (case aStr => k_is)
    (case lStr => k_is)
    (case cStr => k_is)
    (case kStr => k_is)
    (case iStr => k_is)
    (case aP => k_is)
    (case lP => k_is)
    (case aF_ => k_is)
    (case lF_ => k_is)
    (case kF_ => first | exact And.intro (Exists.intro _ (Exists.intro _ (And.intro rfl rfl))) (And.intro (Exists.intro _ (Exists.intro _ (And.intro rfl rfl))) trivial) | exact ⟨⟨_, _, rfl, rfl⟩, ⟨_, _, rfl, rfl⟩, trivial⟩ | (simp only [PySem.W.KeysLit]; exact ⟨⟨_, _, rfl, rfl⟩, ⟨_, _, rfl, rfl⟩, trivial⟩) | (trace_state; k_is))
    (case wF_ => first | rfl | decide | k_is)
    (case aG_ => k_is)
    (case lG_ => k_is)
    (case kG_ => first | exact And.intro (Exists.intro _ (Exists.intro _ (And.intro rfl rfl))) (And.intro (Exists.intro _ (Exists.intro _ (And.intro rfl rfl))) trivial) | exact ⟨⟨_, _, rfl, rfl⟩, ⟨_, _, rfl, rfl⟩, trivial⟩ | (simp only [PySem.W.KeysLit]; exact ⟨⟨_, _, rfl, rfl⟩, ⟨_, _, rfl, rfl⟩, trivial⟩) | (trace_state; k_is))
    (case wG_ => first | rfl | decide | k_is)
    (case aX => k_is)
    (case xX => k_exc)
    (case kX => k_is)
    (case bX => k_is)
    (case tX => k_is)
    (case isX => k_is)
    (case aP_ => k_is)
    (case bP_ => k_is)
    (case tP_ => k_is)
    (case isP_ => k_is)
    (case sXP_ => first | rfl | k_is)
    (case sXX => first | rfl | k_is)
    (case aXC => k_is)
    (case xXC => k_exc)
    (case kXC => k_is)
    (case bXC => k_is)
    (case tXC => k_is)
    (case isXC => k_is)
    (case sXCP_ => first | rfl | k_is)
    (case sXCXC => first | rfl | k_is)
    (case aCC => k_is)
    (case pgCC => k_is)
    (case hdCC => k_is)
    (case poCC => k_is)
    (case saCC => k_is)
    (case kcCC => k_is)
    (case mkCC => k_is)
    (case nCCrows => k_is)
    (case aKI => k_is)
    (case lKI => k_is)
    (case cKI => k_is)
    (case kKI => k_is)
    (case iKI => k_is)
    (case aFo => k_is)
    (case iCF => k_is)
    (case tCF => k_is)
    (case sLF => k_is)
    (case sTF => k_is)
    (case aBrk => k_is)
    (case lBrk => k_is)
    (case cBrk => k_is)
    (case kBrk => k_is)
    (case iBrk => k_is)
    (case aVer => k_is)
    (case lVer => k_is)
    (case cVer => k_is)
    (case kVer => k_is)
    (case iVer => k_is)
    (case aHas => k_is)
    (case lHas => k_is)
    (case cHas => k_is)
    (case kHas => k_is)
    (case iHas => k_is)
    (case aV => k_is)
    (case lV => k_is)
    (case aLa => k_is)
    (case aOt => k_is)
    (case crd => k_is)
    (case cga => k_is)
    (case cfi => k_is)
    (case aRead => k_is)
    (case lRead => k_is)
    (case cRead => k_is)
    (case kRead => k_is)
    (case chi => first | rfl | decide | k_is)
    (case zisinstance => k_is)
    (case zint => k_is)
    (case zbool => k_is)
    (case zlist => k_is)
    (case ztuple => k_is)
    (case zlen => k_is)
    (case zall => k_is)
    (case zzip => k_is)
    (case zrange => k_is)
    (case zstr => k_is)
    (case zmax => k_is)
    (case aisRow => k_is)
    (case lisRow => k_is)
    (case cisRow => k_is)
    (case kisRow => k_is)
    (case areadRow => k_is)
    (case lreadRow => k_is)
    (case creadRow => k_is)
    (case kreadRow => k_is)
    (case aisRowC => k_is)
    (case lisRowC => k_is)
    (case cisRowC => k_is)
    (case kisRowC => k_is)
    (case acheckC => k_is)
    (case lcheckC => k_is)
    (case ccheckC => k_is)
    (case kcheckC => k_is)
    (case aisInt => k_is)
    (case lisInt => k_is)
    (case cisInt => k_is)
    (case kisInt => k_is)
    (case abelow => k_is)
    (case lbelow => k_is)
    (case cbelow => k_is)
    (case kbelow => k_is)
    (case acheck => k_is)
    (case lcheck => k_is)
    (case ccheck => k_is)
    (case kcheck => k_is)
    (case arowsTx => k_is)
    (case lrowsTx => k_is)
    (case crowsTx => k_is)
    (case krowsTx => k_is)
    (case arowTx => k_is)
    (case lrowTx => k_is)
    (case crowTx => k_is)
    (case krowTx => k_is)
    (case astTx => k_is)
    (case lstTx => k_is)
    (case cstTx => k_is)
    (case kstTx => k_is)
    (case areadSt => k_is)
    (case lreadSt => k_is)
    (case creadSt => k_is)
    (case kreadSt => k_is)
    (case anext => k_is)
    (case lnext => k_is)
    (case cnext => k_is)
    (case knext => k_is)
    (case aallowed => k_is)
    (case lallowed => k_is)
    (case callowed => k_is)
    (case kallowed => k_is)
    (case anumber => k_is)
    (case lnumber => k_is)
    (case cnumber => k_is)
    (case knumber => k_is)
    (case away => k_is)
    (case lway => k_is)
    (case cway => k_is)
    (case kway => k_is)
    (case aafterC => k_is)
    (case lafterC => k_is)
    (case cafterC => k_is)
    (case kafterC => k_is)
    (case astill => k_is)
    (case lstill => k_is)
    (case cstill => k_is)
    (case kstill => k_is)
    (case adraw => k_is)
    (case ldraw => k_is)
    (case cdraw => k_is)
    (case kdraw => k_is)
    (case astart => k_is)
    (case lstart => k_is)
    (case cstart => k_is)
    (case kstart => k_is)
    (case apick => k_is)
    (case lpick => k_is)
    (case cpick => k_is)
    (case kpick => k_is)
    (case asame => k_is)
    (case lsame => k_is)
    (case csame => k_is)
    (case ksame => k_is)
    (case ajth => k_is)
    (case ljth => k_is)
    (case cjth => k_is)
    (case kjth => k_is)
    (case aplast => k_is)
    (case lplast => k_is)
    (case cplast => k_is)
    (case kplast => k_is)
    (case atable => k_is)
    (case ltable => k_is)
    (case ctable => k_is)
    (case ktable => k_is)
    (case aaft => k_is)
    (case laft => k_is)
    (case caft => k_is)
    (case kaft => k_is)
    (case apair => k_is)
    (case lpair => k_is)
    (case cpair => k_is)
    (case kpair => k_is)
    (case aclaim => k_is)
    (case lclaim => k_is)
    (case cclaim => k_is)
    (case kclaim => k_is)
    (case aallows => k_is)
    (case lallows => k_is)
    (case callows => k_is)
    (case kallows => k_is)
    (case akept => k_is)
    (case lkept => k_is)
    (case ckept => k_is)
    (case kkept => k_is)
    (case albrk => k_is)
    (case llbrk => k_is)
    (case clbrk => k_is)
    (case klbrk => k_is)
    (case aLaw => k_is)
    (case lLaw => k_is)
    (case cLaw => k_is)
    (case kLaw => k_is)
#print axioms PySem.Challenge.cw_pairahead_k25_broken_claims_holds
