import PyProof.Rows.All
import Wide.All
import OpenK.AllK
import Wide.FinOn
import HandS.ForMost
import HandS.Star
import HandS.TupAny
import HandS.CallLocal
import HandS.IsInst
import HandS.SortRule
import HandS.Style
import KE.SortData
import HandS.Iter
import HandS.Conv
import HandS.Wide
import KE.KRevSl
import HandS.TupLen
import HandS.Walk
import KE.KEqDict
import PyProof.P3Eq
import HandS.Zip
import KE.GoesEnum
import KE.KDictDisplayH
import KE.KDictSum
import PySem.Challenge.RW_shopwhole_k41_lots
set_option Elab.async false
set_option linter.all false
section
set_option autoImplicit true
namespace SM
abbrev Slab (β : Type) := Int × Int × β
section
variable {β : Type} {E : Int → Prop} {G : β → Prop}
/-- what stands at a number -/
def at' : List (Slab β) → Int → Option β
  | [], _ => none
  | s :: r, z => if s.1 ≤ z ∧ z < s.2.1 then some s.2.2 else at' r z
structure Ok (E : Int → Prop) (G : β → Prop) (s : Slab β) : Prop where
  lt : s.1 < s.2.1
  e1 : E s.1
  e2 : E s.2.1
  g : G s.2.2
def Lk (s t : Slab β) : Prop := s.2.1 ≤ t.1 ∧ (s.2.1 = t.1 → s.2.2 ≠ t.2.2)
/-- slabs in their form: ends in E, insides in G -/
def Form (E : Int → Prop) (G : β → Prop) : List (Slab β) → Prop
  | [] => True
  | s :: r => Ok E G s ∧ (∀ t, r.head? = some t → Lk s t) ∧ Form E G r
theorem Form.mem : ∀ {L : List (Slab β)}, Form E G L → ∀ s ∈ L, Ok E G s
  | s :: r, h, t, m => by
    rcases List.mem_cons.mp m with e | m
    · rw [e]; exact h.1
    · exact Form.mem h.2.2 t m
theorem Form.above : ∀ {r : List (Slab β)} {s : Slab β}, Form E G (s :: r) → ∀ t ∈ r, s.2.1 ≤ t.1
  | u :: r, s, h, t, m => by
    have h1 : s.2.1 ≤ u.1 := (h.2.1 u rfl).1
    rcases List.mem_cons.mp m with e | m
    · rw [e]; exact h1
    · have h2 := Form.above (s := u) h.2.2 t m
      have h3 := h.2.2.1.lt
      omega
theorem at_above {L : List (Slab β)} {z : Int} : (∀ t ∈ L, z < t.1) → at' L z = none := by
  intro h
  induction L with
  | nil => rfl
  | cons s r ih =>
    have h1 := h s List.mem_cons_self
    unfold at'
    rw [if_neg (by omega)]
    exact ih fun t m => h t (List.mem_cons_of_mem _ m)
theorem at_below {L : List (Slab β)} {z : Int} : (∀ t ∈ L, t.2.1 ≤ z) → at' L z = none := by
  intro h
  induction L with
  | nil => rfl
  | cons s r ih =>
    have h1 := h s List.mem_cons_self
    unfold at'
    rw [if_neg (by omega)]
    exact ih fun t m => h t (List.mem_cons_of_mem _ m)
theorem at_some {L : List (Slab β)} {z : Int} {x : β} : at' L z = some x → ∃ s ∈ L, s.1 ≤ z ∧ z < s.2.1 ∧ s.2.2 = x := by
  intro h
  induction L with
  | nil => cases h
  | cons s r ih =>
    unfold at' at h
    split at h
    · rename_i c
      cases h
      exact ⟨s, List.mem_cons_self, c.1, c.2, rfl⟩
    · obtain ⟨t, m, q⟩ := ih h
      exact ⟨t, List.mem_cons_of_mem _ m, q⟩
theorem at_append {a b : List (Slab β)} {z : Int} : at' (a ++ b) z = (at' a z).or (at' b z) := by
  induction a with
  | nil => simp [at']
  | cons s r ih =>
    simp only [List.cons_append, at']
    split
    · simp
    · exact ih
theorem form_append {a b : List (Slab β)} : Form E G (a ++ b) ↔ Form E G a ∧ Form E G b ∧ ∀ s t, a.getLast? = some s → b.head? = some t → Lk s t := by
  induction a with
  | nil => simp [Form]
  | cons s r ih =>
    simp only [List.cons_append, Form]
    cases r with
    | nil =>
      simp only [List.nil_append, Form, List.head?_nil, List.getLast?_singleton]
      constructor
      · rintro ⟨h1, h2, h3⟩
        exact ⟨⟨h1, (fun _ e => nomatch e), trivial⟩, h3, fun u t e1 e2 => by cases e1; exact h2 t e2⟩
      · rintro ⟨⟨h1, _, _⟩, h3, h4⟩
        exact ⟨h1, fun t e => h4 s t rfl e, h3⟩
    | cons u r =>
      rw [ih]
      simp only [List.cons_append, List.head?_cons, List.getLast?_cons_cons]
      constructor
      · rintro ⟨h1, h2, h3, h4, h5⟩
        exact ⟨⟨h1, h2, h3⟩, h4, h5⟩
      · rintro ⟨⟨h1, h2, h3⟩, h4, h5⟩
        exact ⟨h1, h2, h3, h4, h5⟩
theorem form_one {s : Slab β} (h : Ok E G s) : Form E G [s] := ⟨h, (fun _ e => nomatch e), trivial⟩
/-- the form is one -/
theorem ext : ∀ {a b : List (Slab β)}, Form E G a → Form E G b → (∀ z, at' a z = at' b z) → a = b := by
  intro a
  induction a with
  | nil =>
    intro b _ hb h
    cases b with
    | nil => rfl
    | cons t q =>
      have := h t.1
      have l := hb.1.lt
      simp only [at'] at this
      rw [if_pos ⟨by omega, l⟩] at this
      cases this
  | cons s r ih =>
    intro b ha hb h
    cases b with
    | nil =>
      have := h s.1
      have l := ha.1.lt
      simp only [at'] at this
      rw [if_pos ⟨by omega, l⟩] at this
      cases this
    | cons t q =>
      have ls := ha.1.lt
      have lt := hb.1.lt
      have abs := Form.above ha
      have abt := Form.above hb
      have firstA : at' (s :: r) s.1 = some s.2.2 := by simp only [at']; rw [if_pos ⟨by omega, ls⟩]
      have firstB : at' (t :: q) t.1 = some t.2.2 := by simp only [at']; rw [if_pos ⟨by omega, lt⟩]
      have le1 : t.1 ≤ s.1 := by
        obtain ⟨u, m, h1, h2, _⟩ := at_some ((h s.1).symm.trans firstA)
        rcases List.mem_cons.mp m with e | m
        · rw [e] at h1; exact h1
        · have := abt u m; omega
      have le2 : s.1 ≤ t.1 := by
        obtain ⟨u, m, h1, h2, _⟩ := at_some ((h t.1).trans firstB)
        rcases List.mem_cons.mp m with e | m
        · rw [e] at h1; exact h1
        · have := abs u m; omega
      have e1 : s.1 = t.1 := by omega
      have e3 : s.2.2 = t.2.2 := by
        have := (h s.1).symm.trans firstA
        rw [e1, firstB] at this
        exact (Option.some.inj this).symm
      -- the one that ends first would be followed by a touching slab of the same inside
      have half : ∀ {s t : Slab β} {r q : List (Slab β)}, Form E G (s :: r) → Form E G (t :: q) → (∀ z, at' (s :: r) z = at' (t :: q) z) → s.1 = t.1 → s.2.2 = t.2.2 → ¬ s.2.1 < t.2.1 := by
        intro s t r q ha hb h e1 e3 l
        have ls := ha.1.lt
        have q1 : at' (t :: q) s.2.1 = some t.2.2 := by simp only [at']; rw [if_pos ⟨by omega, l⟩]
        have q2 := (h s.2.1).trans q1
        simp only [at'] at q2
        rw [if_neg (by omega)] at q2
        obtain ⟨u, m, h1, h2, h3⟩ := at_some q2
        cases r with
        | nil => cases m
        | cons w r =>
          have k := ha.2.1 w rfl
          have ew : w.1 = s.2.1 := by
            rcases List.mem_cons.mp m with e | m
            · rw [e] at h1; have := k.1; omega
            · have g1 := Form.above ha.2.2 u m
              have g2 := ha.2.2.1.lt
              have := k.1
              omega
          have q3 : at' (w :: r) s.2.1 = some w.2.2 := by
            have g2 := ha.2.2.1.lt
            simp only [at']; rw [if_pos ⟨by omega, by omega⟩]
          rw [q3] at q2
          exact k.2 ew.symm (e3.trans (Option.some.inj q2).symm)
      have e2 : s.2.1 = t.2.1 := by
        have n1 := half ha hb h e1 e3
        have n2 := half hb ha (fun z => (h z).symm) e1.symm e3.symm
        omega
      have est : s = t := by
        obtain ⟨a, b, c⟩ := s
        obtain ⟨a', b', c'⟩ := t
        simp only at e1 e2 e3
        rw [e1, e2, e3]
      subst est
      have : r = q := ih ha.2.2 hb.2.2 fun z => by
        by_cases hz : z < s.2.1
        · rw [at_above fun t m => by have := abs t m; omega, at_above fun t m => by have := abt t m; omega]
        · have := h z
          simp only [at'] at this
          rw [if_neg (by omega), if_neg (by omega)] at this
          exact this
      rw [this]
/-- the last one -/
theorem last_below {R : List (Slab β)} (h : Form E G R) {l : Slab β} (e : R.getLast? = some l) : ∀ s ∈ R, s.2.1 ≤ l.2.1 := by
  induction R with
  | nil => cases e
  | cons s r ih =>
    intro t m
    cases r with
    | nil =>
      rw [List.getLast?_singleton] at e
      cases e
      rcases List.mem_cons.mp m with e | m
      · rw [e]; omega
      · cases m
    | cons u r =>
      rw [List.getLast?_cons_cons] at e
      rcases List.mem_cons.mp m with e1 | m
      · have := ih h.2.2 e u List.mem_cons_self
        have h1 := (h.2.1 u rfl).1
        have h2 := h.2.2.1.lt
        rw [e1]; omega
      · exact ih h.2.2 e t m
theorem Form.imp {E' : Int → Prop} {G' : β → Prop} (he : ∀ x, E x → E' x) (hg : ∀ x, G x → G' x) : ∀ {L : List (Slab β)}, Form E G L → Form E' G' L
  | [], _ => trivial
  | _ :: _, h => ⟨⟨h.1.lt, he _ h.1.e1, he _ h.1.e2, hg _ h.1.g⟩, h.2.1, Form.imp he hg h.2.2⟩
/-- starts go up -/
theorem Form.starts : ∀ {L : List (Slab β)}, Form E G L → (L.map (·.1)).Pairwise (· < ·)
  | [], _ => .nil
  | s :: r, h => by
    rw [List.map_cons, List.pairwise_cons]
    refine ⟨fun x m => ?_, Form.starts h.2.2⟩
    obtain ⟨t, mt, rfl⟩ := List.mem_map.mp m
    have := Form.above h t mt
    have := h.1.lt
    omega
/-- few numbers are ends -/
def Few (E : Int → Prop) (M : Nat) : Prop := ∀ l : List Int, l.Pairwise (· < ·) → (∀ x ∈ l, E x) → l.length ≤ M
theorem Form.few {M : Nat} (hE : Few E M) {L : List (Slab β)} (h : Form E G L) : L.length ≤ M := by
  have := hE (L.map (·.1)) (Form.starts h) fun x m => by
    obtain ⟨t, mt, rfl⟩ := List.mem_map.mp m
    exact (Form.mem h t mt).e1
  simpa using this

/-! ### putting slabs behind others -/
variable [DecidableEq β]
def putM (isE : β → Bool) (R : List (Slab β)) (lo hi : Int) (x : β) : List (Slab β) :=
  if isE x = true then R else match R.getLast? with
    | some l => if l.2.1 = lo ∧ l.2.2 = x then R.dropLast ++ [(l.1, hi, x)] else R ++ [(lo, hi, x)]
    | none => [(lo, hi, x)]
theorem dropLast_last {α : Type} {R : List α} {l : α} (h : R.getLast? = some l) : R.dropLast ++ [l] = R := by
  cases R with
  | nil => cases h
  | cons a r =>
    rw [List.getLast?_eq_some_getLast (List.cons_ne_nil a r)] at h
    rw [← Option.some.inj h]
    exact List.dropLast_concat_getLast _
theorem put_ok {isE : β → Bool} {R : List (Slab β)} {lo hi : Int} {x : β} (hR : Form E G R) (hb : ∀ s ∈ R, s.2.1 ≤ lo) (hl : lo < hi) (h1 : E lo) (h2 : E hi) (hx : isE x = false → G x) :
    Form E G (putM isE R lo hi x) ∧ (∀ s ∈ putM isE R lo hi x, s.2.1 ≤ hi) ∧ ∀ z, at' (putM isE R lo hi x) z = (at' R z).or (if lo ≤ z ∧ z < hi ∧ isE x = false then some x else none) := by
  unfold putM
  by_cases ex : isE x = true
  · rw [if_pos ex]
    refine ⟨hR, fun s m => by have := hb s m; omega, fun z => ?_⟩
    rw [if_neg (by rw [ex]; simp)]
    simp
  · have ex' : isE x = false := by simpa using ex
    rw [if_neg ex]
    have one : Ok E G (lo, hi, x) := ⟨hl, h1, h2, hx ex'⟩
    have at1 : ∀ z, at' [(lo, hi, x)] z = if lo ≤ z ∧ z < hi ∧ isE x = false then some x else none := fun z => by
      simp only [at', ex', and_true]
    cases e : R.getLast? with
    | none =>
      have : R = [] := List.getLast?_eq_none_iff.mp e
      subst this
      refine ⟨form_one one, fun s m => ?_, fun z => ?_⟩
      · have : s = (lo, hi, x) := by simpa using m
        rw [this]; exact Int.le_refl _
      · rw [at1]; simp [at']
    | some l =>
      dsimp only
      have hd := dropLast_last e
      by_cases c : l.2.1 = lo ∧ l.2.2 = x
      · rw [if_pos c]
        have hf : Form E G (R.dropLast ++ [l]) := by rw [hd]; exact hR
        rw [form_append] at hf
        obtain ⟨f1, f2, f3⟩ := hf
        have okl := f2.1
        have new : Ok E G (l.1, hi, x) := ⟨by show l.1 < hi; have := okl.lt; omega, okl.e1, h2, hx ex'⟩
        refine ⟨form_append.mpr ⟨f1, form_one new, fun s t e1 e2 => ?_⟩, fun s m => ?_, fun z => ?_⟩
        · cases e2
          have k := f3 s l e1 rfl
          exact ⟨k.1, fun q => by have := k.2 q; rw [c.2] at this; exact this⟩
        · rcases List.mem_append.mp m with m | m
          · have := hb s (by rw [← hd]; exact List.mem_append_left _ m); omega
          · have : s = (l.1, hi, x) := by simpa using m
            rw [this]; exact Int.le_refl _
        · have hz : at' R z = (at' R.dropLast z).or (at' [l] z) := by rw [← at_append, hd]
          rw [at_append, hz]
          have below : l.1 ≤ z → at' R.dropLast z = none := fun h => at_below fun t m => by
            -- all ahead of the last one end at its begin or below
            have : ∀ {a : List (Slab β)}, Form E G (a ++ [l]) → ∀ t ∈ a, t.2.1 ≤ l.1 := by
              intro a
              induction a with
              | nil => intro _ t m; cases m
              | cons u a ih =>
                intro hf t m
                rcases List.mem_cons.mp m with e1 | m
                · rw [e1]; exact Form.above hf l (List.mem_append_right _ (List.mem_singleton_self _))
                · exact ih hf.2.2 t m
            have := this (by rw [hd]; exact hR) t m
            omega
          simp only [at', ex', and_true]
          by_cases g1 : l.1 ≤ z
          · rw [below g1]
            have := okl.lt
            by_cases g2 : z < l.2.1
            · rw [if_pos ⟨g1, by omega⟩, if_pos ⟨g1, g2⟩]
              simp [c.2]
            · rw [if_neg (show ¬ (l.1 ≤ z ∧ z < l.2.1) by omega)]
              by_cases g3 : z < hi
              · rw [if_pos ⟨g1, g3⟩, if_pos ⟨by omega, g3⟩]; simp
              · rw [if_neg (by omega), if_neg (by omega)]; simp
          · have := okl.lt
            rw [if_neg (by omega), if_neg (by omega), if_neg (by omega)]
            simp
      · rw [if_neg c]
        refine ⟨form_append.mpr ⟨hR, form_one one, fun s t e1 e2 => ?_⟩, fun s m => ?_, fun z => ?_⟩
        · cases e2
          rw [e] at e1
          cases e1
          exact ⟨hb l (List.mem_of_getLast? e), fun q r => c ⟨q, r⟩⟩
        · rcases List.mem_append.mp m with m | m
          · have := hb s m; omega
          · have : s = (lo, hi, x) := by simpa using m
            rw [this]; exact Int.le_refl _
        · rw [at_append, at1]
def putAllM (isE : β → Bool) (R L : List (Slab β)) (b : Int) : List (Slab β) := match L with
  | [] => R
  | s :: r => putM isE R (max s.1 b) s.2.1 s.2.2 ++ r
theorem putM_last {isE : β → Bool} {R : List (Slab β)} {lo hi : Int} {x : β} (hx : isE x = false) : ∃ a, (putM isE R lo hi x).getLast? = some (a, hi, x) := by
  unfold putM
  rw [if_neg (by rw [hx]; simp)]
  cases R.getLast? with
  | none => exact ⟨lo, rfl⟩
  | some l =>
    dsimp only
    split
    · exact ⟨l.1, by simp⟩
    · exact ⟨lo, by simp⟩
theorem putAll_ok {isE : β → Bool} {R L : List (Slab β)} {b : Int} (hR : Form E G R) (hb : ∀ s ∈ R, s.2.1 ≤ b) (hL : Form E G L) (h1 : ∀ s, L.head? = some s → b < s.2.1) (hE : E b) (hG : ∀ x, G x → isE x = false) :
    Form E G (putAllM isE R L b) ∧ ∀ z, at' (putAllM isE R L b) z = (at' R z).or (if b ≤ z then at' L z else none) := by
  cases L with
  | nil => exact ⟨hR, fun z => by simp [putAllM, at']⟩
  | cons s r =>
    have hs := hL.1
    have hbs := h1 s rfl
    have lm : max s.1 b < s.2.1 := by have := hs.lt; omega
    have em : E (max s.1 b) := by
      rcases Int.le_total s.1 b with h | h
      · rw [Int.max_eq_right h]; exact hE
      · rw [Int.max_eq_left h]; exact hs.e1
    obtain ⟨p1, p2, p3⟩ := put_ok (isE := isE) (x := s.2.2) hR (fun t m => by have := hb t m; omega) lm em hs.e2 fun _ => hs.g
    have ex := hG _ hs.g
    obtain ⟨a, ea⟩ := putM_last (R := R) (lo := max s.1 b) (hi := s.2.1) ex
    refine ⟨form_append.mpr ⟨p1, hL.2.2, fun u t e1 e2 => ?_⟩, fun z => ?_⟩
    · rw [ea] at e1
      cases e1
      exact hL.2.1 t e2
    · show at' (putM isE R (max s.1 b) s.2.1 s.2.2 ++ r) z = _
      rw [at_append, p3, Option.or_assoc]
      congr 1
      have ab := Form.above hL
      simp only [at', ex, and_true]
      by_cases g : b ≤ z
      · rw [if_pos g]
        by_cases g1 : s.1 ≤ z ∧ z < s.2.1
        · rw [if_pos g1, if_pos ⟨by omega, g1.2⟩]; simp
        · rw [if_neg g1, if_neg (by omega)]; simp
      · rw [if_neg g, if_neg (by omega), at_above fun t m => by have := ab t m; omega]; simp
end
end SM
end
section
set_option autoImplicit true
namespace SM
section
variable {β : Type} [DecidableEq β] {E : Int → Prop} {G : β → Prop} {isE : β → Bool}
def comb (keeps : Bool × Bool) (rule : β → β → β) (isE : β → Bool) (x y : Option β) : Option β := match x, y with
  | none, none => none
  | some x, none => if keeps.1 = true then some x else none
  | none, some y => if keeps.2 = true then some y else none
  | some x, some y => if isE (rule x y) = true then none else some (rule x y)
theorem at_i {a : List (Slab β)} {i : Nat} {s : Slab β} {p z : Int} (ha : Form E G a) (hi : a[i]? = some s) (hb : ∀ t ∈ a.take i, t.2.1 ≤ p) (h1 : p ≤ z) (h2 : z < s.2.1) : at' a z = if s.1 ≤ z then some s.2.2 else none := by
  have hlt : i < a.length := (List.getElem?_eq_some_iff.mp hi).1
  have hs : a[i] = s := (List.getElem?_eq_some_iff.mp hi).2
  have e : a = a.take i ++ s :: a.drop (i + 1) := by
    rw [← hs, ← List.drop_eq_getElem_cons hlt, List.take_append_drop]
  have hf : Form E G (a.take i ++ s :: a.drop (i + 1)) := by rw [← e]; exact ha
  rw [form_append] at hf
  have ab := Form.above hf.2.1
  rw [e, at_append, at_below fun t m => by have := hb t m; omega]
  simp only [Option.none_or, at']
  by_cases g : s.1 ≤ z
  · rw [if_pos ⟨g, h2⟩, if_pos g]
  · rw [if_neg (by omega), if_neg g, at_above fun t m => by have := ab t m; have := hf.2.1.1.lt; omega]
theorem at_drop {a : List (Slab β)} {i : Nat} {p z : Int} (hb : ∀ t ∈ a.take i, t.2.1 ≤ p) (h1 : p ≤ z) : at' a z = at' (a.drop i) z := by
  conv => lhs; rw [← List.take_append_drop i a]
  rw [at_append, at_below fun t m => by have := hb t m; omega]
  simp
structure LO (keeps : Bool × Bool) (rule : β → β → β) (isE : β → Bool) (E : Int → Prop) (G : β → Prop) (a b R0 : List (Slab β)) (i j : Nat) (p : Int) (R : List (Slab β)) : Prop where
  fR : Form E G R
  bR : ∀ s ∈ R, s.2.1 ≤ p
  ep : E p
  il : i ≤ a.length
  jl : j ≤ b.length
  ai : ∀ s ∈ a.take i, s.2.1 ≤ p
  bj : ∀ s ∈ b.take j, s.2.1 ≤ p
  an : ∀ s, a[i]? = some s → p < s.2.1
  bn : ∀ s, b[j]? = some s → p < s.2.1
  eq : ∀ z, at' R z = (at' R0 z).or (if z < p then comb keeps rule isE (at' a z) (at' b z) else none)
theorem below_of_at {R : List (Slab β)} (h : Form E G R) {q : Int} (hz : ∀ z, q ≤ z → at' R z = none) : ∀ s ∈ R, s.2.1 ≤ q := by
  intro s m
  have ok := Form.mem h s m
  apply Classical.byContradiction
  intro hn
  have : at' R (s.2.1 - 1) ≠ none := by
    clear hz hn
    induction R with
    | nil => cases m
    | cons t r ih =>
      simp only [at']
      split
      · exact fun z => nomatch z
      · rename_i c
        rcases List.mem_cons.mp m with e | m
        · exfalso
          rw [← e] at c
          have := ok.lt
          omega
        · exact ih h.2.2 m
  exact this (hz _ (by omega))
theorem adv {a : List (Slab β)} (ha : Form E G a) {i : Nat} {s : Slab β} {p p' : Int} (hi : a[i]? = some s) (hb : ∀ t ∈ a.take i, t.2.1 ≤ p) (hp : p ≤ p') (hs : p' ≤ s.2.1) :
    (if s.2.1 ≤ p' then i + 1 else i) ≤ a.length ∧ (∀ t ∈ a.take (if s.2.1 ≤ p' then i + 1 else i), t.2.1 ≤ p') ∧ ∀ t, a[if s.2.1 ≤ p' then i + 1 else i]? = some t → p' < t.2.1 := by
  have hlt : i < a.length := (List.getElem?_eq_some_iff.mp hi).1
  have hs' : a[i] = s := (List.getElem?_eq_some_iff.mp hi).2
  by_cases c : s.2.1 ≤ p'
  · rw [if_pos c]
    refine ⟨hlt, fun t m => ?_, fun t ht => ?_⟩
    · rw [List.take_add_one, hi] at m
      rcases List.mem_append.mp m with m | m
      · have := hb t m; omega
      · have : t = s := by simpa using m
        rw [this]; exact c
    · have e : a = a.take i ++ s :: a.drop (i + 1) := by
        rw [← hs', ← List.drop_eq_getElem_cons hlt, List.take_append_drop]
      have hf : Form E G (a.take i ++ s :: a.drop (i + 1)) := by rw [← e]; exact ha
      rw [form_append] at hf
      have m : t ∈ a.drop (i + 1) := List.mem_of_getElem? (i := 0) (by rw [List.getElem?_drop]; simpa using ht)
      have := Form.above hf.2.1 t m
      have := (Form.mem ha t (List.mem_of_getElem? ht)).lt
      omega
  · rw [if_neg c]
    exact ⟨by omega, fun t m => by have := hb t m; omega, fun t ht => by rw [hi] at ht; cases ht; omega⟩
theorem min_E {x y : Int} (h1 : E x) (h2 : E y) : E (min x y) := by
  rcases Int.le_total x y with h | h
  · rw [Int.min_eq_left h]; exact h1
  · rw [Int.min_eq_right h]; exact h2
theorem max_E {x y : Int} (h1 : E x) (h2 : E y) : E (max x y) := by
  rcases Int.le_total x y with h | h
  · rw [Int.max_eq_right h]; exact h2
  · rw [Int.max_eq_left h]; exact h1
variable {keeps : Bool × Bool} {rule : β → β → β} {a b R0 R : List (Slab β)} {i j : Nat} {p : Int}
theorem LO.start (ha : Form E G a) (hb : Form E G b) (h0 : Form E G R0) {sa sb : Slab β} (e1 : a.head? = some sa) (e2 : b.head? = some sb) (hR : ∀ s ∈ R0, s.2.1 ≤ min sa.1 sb.1) : LO keeps rule isE E G a b R0 0 0 (min sa.1 sb.1) R0 := by
  cases a with
  | nil => cases e1
  | cons sa' ra =>
    cases b with
    | nil => cases e2
    | cons sb' rb =>
      cases e1; cases e2
      have la := ha.1.lt
      have lb := hb.1.lt
      refine ⟨h0, hR, min_E ha.1.e1 hb.1.e1, Nat.zero_le _, Nat.zero_le _, fun s m => by simp at m, fun s m => by simp at m, fun s e => ?_, fun s e => ?_, fun z => ?_⟩
      · simp at e; subst e; omega
      · simp at e; subst e; omega
      · split
        · have aa := Form.above ha
          have bb := Form.above hb
          rw [at_above (L := sa :: ra) fun t m => by
              rcases List.mem_cons.mp m with e | m
              · rw [e]; omega
              · have := aa t m; omega,
            at_above (L := sb :: rb) fun t m => by
              rcases List.mem_cons.mp m with e | m
              · rw [e]; omega
              · have := bb t m; omega]
          simp [comb]
        · simp
/-- one turn -/
theorem LO.step (ha : Form E G a) (hb : Form E G b) (hG : ∀ x, G x → isE x = false) (hr : ∀ x y, G x → G y → isE (rule x y) = false → G (rule x y)) (h : LO keeps rule isE E G a b R0 i j p R) {sa sb : Slab β} (e1 : a[i]? = some sa) (e2 : b[j]? = some sb) :
    (max sa.1 p < max sb.1 p → LO keeps rule isE E G a b R0 (if sa.2.1 ≤ min sa.2.1 (max sb.1 p) then i + 1 else i) (if sb.2.1 ≤ min sa.2.1 (max sb.1 p) then j + 1 else j) (min sa.2.1 (max sb.1 p)) (if keeps.1 = true then putM isE R (max sa.1 p) (min sa.2.1 (max sb.1 p)) sa.2.2 else R)) ∧
    (max sb.1 p < max sa.1 p → LO keeps rule isE E G a b R0 (if sa.2.1 ≤ min sb.2.1 (max sa.1 p) then i + 1 else i) (if sb.2.1 ≤ min sb.2.1 (max sa.1 p) then j + 1 else j) (min sb.2.1 (max sa.1 p)) (if keeps.2 = true then putM isE R (max sb.1 p) (min sb.2.1 (max sa.1 p)) sb.2.2 else R)) ∧
    (max sa.1 p = max sb.1 p → LO keeps rule isE E G a b R0 (if sa.2.1 ≤ min sa.2.1 sb.2.1 then i + 1 else i) (if sb.2.1 ≤ min sa.2.1 sb.2.1 then j + 1 else j) (min sa.2.1 sb.2.1) (putM isE R (max sa.1 p) (min sa.2.1 sb.2.1) (rule sa.2.2 sb.2.2))) := by
  have oa := Form.mem ha sa (List.mem_of_getElem? e1)
  have ob := Form.mem hb sb (List.mem_of_getElem? e2)
  have la := oa.lt
  have lb := ob.lt
  have pa := h.an sa e1
  have pb := h.bn sb e2
  have up : ∀ {p' : Int} {R' : List (Slab β)}, p ≤ p' → (∀ z, at' R' z = (at' R z).or (if p ≤ z ∧ z < p' then comb keeps rule isE (at' a z) (at' b z) else none)) → ∀ z, at' R' z = (at' R0 z).or (if z < p' then comb keeps rule isE (at' a z) (at' b z) else none) := fun {p' R'} hp hz z => by
    rw [hz, h.eq, Option.or_assoc]
    congr 1
    by_cases g : z < p
    · rw [if_pos g, if_neg (by omega), if_pos (by omega)]; simp
    · rw [if_neg g]
      by_cases g2 : z < p'
      · rw [if_pos ⟨by omega, g2⟩, if_pos g2]; simp
      · rw [if_neg (by omega), if_neg g2]; simp
  refine ⟨fun c => ?_, fun c => ?_, fun c => ?_⟩
  · have hp : p ≤ min sa.2.1 (max sb.1 p) := by omega
    obtain ⟨a1, a2, a3⟩ := adv ha e1 h.ai hp (by omega : min sa.2.1 (max sb.1 p) ≤ sa.2.1)
    obtain ⟨b1, b2, b3⟩ := adv hb e2 h.bj hp (by omega : min sa.2.1 (max sb.1 p) ≤ sb.2.1)
    have ep' : E (min sa.2.1 (max sb.1 p)) := min_E oa.e2 (max_E ob.e1 h.ep)
    obtain ⟨p1, p2, p3⟩ := put_ok (isE := isE) (x := sa.2.2) (lo := max sa.1 p) (hi := min sa.2.1 (max sb.1 p)) h.fR (fun s m => by have := h.bR s m; omega) (by omega) (max_E oa.e1 h.ep) ep' fun _ => oa.g
    have bz : ∀ z, p ≤ z → z < min sa.2.1 (max sb.1 p) → at' b z = none := fun z h1 h2 => by
      rw [at_i hb e2 h.bj h1 (by omega), if_neg (by omega)]
    have az : ∀ z, p ≤ z → z < min sa.2.1 (max sb.1 p) → at' a z = if sa.1 ≤ z then some sa.2.2 else none := fun z h1 h2 => at_i ha e1 h.ai h1 (by omega)
    have ex := hG _ oa.g
    by_cases k : keeps.1 = true
    · rw [if_pos k]
      refine ⟨p1, p2, ep', a1, b1, a2, b2, a3, b3, up hp fun z => ?_⟩
      rw [p3]
      congr 1
      by_cases g : p ≤ z ∧ z < min sa.2.1 (max sb.1 p)
      · rw [if_pos g, bz z g.1 g.2, az z g.1 g.2]
        by_cases g2 : sa.1 ≤ z
        · rw [if_pos ⟨by omega, g.2, ex⟩, if_pos g2]; simp [comb, k]
        · rw [if_neg (by omega), if_neg g2]; simp [comb]
      · rw [if_neg g, if_neg (by omega)]
    · rw [if_neg k]
      refine ⟨h.fR, fun s m => by have := h.bR s m; omega, ep', a1, b1, a2, b2, a3, b3, up hp fun z => ?_⟩
      by_cases g : p ≤ z ∧ z < min sa.2.1 (max sb.1 p)
      · rw [if_pos g, bz z g.1 g.2, az z g.1 g.2]
        by_cases g2 : sa.1 ≤ z
        · rw [if_pos g2]; simp [comb, k]
        · rw [if_neg g2]; simp [comb]
      · rw [if_neg g]; simp
  · have hp : p ≤ min sb.2.1 (max sa.1 p) := by omega
    obtain ⟨a1, a2, a3⟩ := adv ha e1 h.ai hp (by omega : min sb.2.1 (max sa.1 p) ≤ sa.2.1)
    obtain ⟨b1, b2, b3⟩ := adv hb e2 h.bj hp (by omega : min sb.2.1 (max sa.1 p) ≤ sb.2.1)
    have ep' : E (min sb.2.1 (max sa.1 p)) := min_E ob.e2 (max_E oa.e1 h.ep)
    obtain ⟨p1, p2, p3⟩ := put_ok (isE := isE) (x := sb.2.2) (lo := max sb.1 p) (hi := min sb.2.1 (max sa.1 p)) h.fR (fun s m => by have := h.bR s m; omega) (by omega) (max_E ob.e1 h.ep) ep' fun _ => ob.g
    have az : ∀ z, p ≤ z → z < min sb.2.1 (max sa.1 p) → at' a z = none := fun z h1 h2 => by
      rw [at_i ha e1 h.ai h1 (by omega), if_neg (by omega)]
    have bz : ∀ z, p ≤ z → z < min sb.2.1 (max sa.1 p) → at' b z = if sb.1 ≤ z then some sb.2.2 else none := fun z h1 h2 => at_i hb e2 h.bj h1 (by omega)
    have ex := hG _ ob.g
    by_cases k : keeps.2 = true
    · rw [if_pos k]
      refine ⟨p1, p2, ep', a1, b1, a2, b2, a3, b3, up hp fun z => ?_⟩
      rw [p3]
      congr 1
      by_cases g : p ≤ z ∧ z < min sb.2.1 (max sa.1 p)
      · rw [if_pos g, bz z g.1 g.2, az z g.1 g.2]
        by_cases g2 : sb.1 ≤ z
        · rw [if_pos ⟨by omega, g.2, ex⟩, if_pos g2]; simp [comb, k]
        · rw [if_neg (by omega), if_neg g2]; simp [comb]
      · rw [if_neg g, if_neg (by omega)]
    · rw [if_neg k]
      refine ⟨h.fR, fun s m => by have := h.bR s m; omega, ep', a1, b1, a2, b2, a3, b3, up hp fun z => ?_⟩
      by_cases g : p ≤ z ∧ z < min sb.2.1 (max sa.1 p)
      · rw [if_pos g, bz z g.1 g.2, az z g.1 g.2]
        by_cases g2 : sb.1 ≤ z
        · rw [if_pos g2]; simp [comb, k]
        · rw [if_neg g2]; simp [comb]
      · rw [if_neg g]; simp
  · have hp : p ≤ min sa.2.1 sb.2.1 := by omega
    obtain ⟨a1, a2, a3⟩ := adv ha e1 h.ai hp (by omega : min sa.2.1 sb.2.1 ≤ sa.2.1)
    obtain ⟨b1, b2, b3⟩ := adv hb e2 h.bj hp (by omega : min sa.2.1 sb.2.1 ≤ sb.2.1)
    have ep' : E (min sa.2.1 sb.2.1) := min_E oa.e2 ob.e2
    obtain ⟨p1, p2, p3⟩ := put_ok (isE := isE) (x := rule sa.2.2 sb.2.2) (lo := max sa.1 p) (hi := min sa.2.1 sb.2.1) h.fR (fun s m => by have := h.bR s m; omega) (by omega) (max_E oa.e1 h.ep) ep' fun q => hr _ _ oa.g ob.g q
    have bz : ∀ z, p ≤ z → z < min sa.2.1 sb.2.1 → at' b z = if sb.1 ≤ z then some sb.2.2 else none := fun z h1 h2 => at_i hb e2 h.bj h1 (by omega)
    have az : ∀ z, p ≤ z → z < min sa.2.1 sb.2.1 → at' a z = if sa.1 ≤ z then some sa.2.2 else none := fun z h1 h2 => at_i ha e1 h.ai h1 (by omega)
    refine ⟨p1, p2, ep', a1, b1, a2, b2, a3, b3, up hp fun z => ?_⟩
    rw [p3]
    congr 1
    by_cases g : p ≤ z ∧ z < min sa.2.1 sb.2.1
    · rw [if_pos g, bz z g.1 g.2, az z g.1 g.2]
      by_cases g2 : sa.1 ≤ z
      · rw [if_pos g2, if_pos (show sb.1 ≤ z by omega)]
        by_cases k : isE (rule sa.2.2 sb.2.2) = true
        · rw [if_neg (by rw [k]; simp)]; simp [comb, k]
        · rw [if_pos ⟨by omega, g.2, by simpa using k⟩]; simp [comb, k]
      · rw [if_neg (by omega), if_neg g2, if_neg (show ¬ sb.1 ≤ z by omega)]; simp [comb]
    · rw [if_neg g, if_neg (by omega)]
theorem LO.done (ha : Form E G a) (hb : Form E G b) (hG : ∀ x, G x → isE x = false) (h : LO keeps rule isE E G a b R0 i j p R) (hd : i = a.length ∨ j = b.length) {R1 R2 : List (Slab β)} (h1 : R1 = if keeps.1 = true then putAllM isE R (a.drop i) p else R) (h2 : R2 = if keeps.2 = true then putAllM isE R1 (b.drop j) p else R1) :
    Form E G R2 ∧ ∀ z, at' R2 z = (at' R0 z).or (comb keeps rule isE (at' a z) (at' b z)) := by
  have fa : Form E G (a.drop i) := (form_append.mp (by rw [List.take_append_drop]; exact ha : Form E G (a.take i ++ a.drop i))).2.1
  have fb : Form E G (b.drop j) := (form_append.mp (by rw [List.take_append_drop]; exact hb : Form E G (b.take j ++ b.drop j))).2.1
  have ha' : ∀ s, (a.drop i).head? = some s → p < s.2.1 := fun s e => h.an s (by rw [List.head?_drop] at e; exact e)
  have hb' : ∀ s, (b.drop j).head? = some s → p < s.2.1 := fun s e => h.bn s (by rw [List.head?_drop] at e; exact e)
  have A := putAll_ok (isE := isE) h.fR h.bR fa ha' h.ep hG
  have step1 : Form E G R1 ∧ (∀ z, at' R1 z = (at' R z).or (if keeps.1 = true ∧ p ≤ z then at' (a.drop i) z else none)) := by
    rw [h1]
    by_cases k : keeps.1 = true
    · rw [if_pos k]
      refine ⟨A.1, fun z => ?_⟩
      rw [A.2]
      simp [k]
    · rw [if_neg k]
      exact ⟨h.fR, fun z => by simp [k]⟩
  have fin : ∀ z, (at' R z).or ((if keeps.1 = true ∧ p ≤ z then at' (a.drop i) z else none).or (if keeps.2 = true ∧ p ≤ z then at' (b.drop j) z else none)) = (at' R0 z).or (comb keeps rule isE (at' a z) (at' b z)) := fun z => by
    rw [h.eq, Option.or_assoc]
    congr 1
    by_cases g : z < p
    · rw [if_pos g, if_neg (by omega), if_neg (by omega)]; simp
    · rw [if_neg g, at_drop h.ai (by omega : p ≤ z), at_drop h.bj (by omega : p ≤ z)]
      simp only [show p ≤ z by omega, and_true, Option.none_or]
      rcases hd with e | e
      · rw [show a.drop i = [] by rw [e]; exact List.drop_length]
        simp only [at', ite_self, Option.none_or]
        cases at' (b.drop j) z <;> simp [comb]
      · rw [show b.drop j = [] by rw [e]; exact List.drop_length]
        simp only [at', ite_self, Option.or_none]
        cases at' (a.drop i) z <;> simp [comb]
  rw [h2]
  by_cases k : keeps.2 = true
  · rw [if_pos k]
    by_cases eb : b.drop j = []
    · rw [eb]
      refine ⟨step1.1, fun z => ?_⟩
      show at' R1 z = _
      rw [← fin, step1.2, eb]
      simp [at']
    · -- then a is through
      have ea : a.drop i = [] := by
        rcases hd with e | e
        · rw [e]; exact List.drop_length
        · exact absurd (by rw [e]; exact List.drop_length) eb
      have eR : R1 = R := by
        rw [h1, ea]
        split <;> rfl
      have B := putAll_ok (isE := isE) h.fR h.bR fb hb' h.ep hG
      rw [eR]
      refine ⟨B.1, fun z => ?_⟩
      rw [B.2, ← fin, ea]
      simp [at', k]
  · rw [if_neg k]
    refine ⟨step1.1, fun z => ?_⟩
    rw [step1.2, ← fin]
    simp [k]
end
end SM
end
section
set_option autoImplicit true
set_option linter.unusedSectionVars false
namespace SM
section
variable {β : Type} [DecidableEq β] {E : Int → Prop} {G : β → Prop} {isE : β → Bool} {keeps : Bool × Bool} {rule : β → β → β} {a b R0 R : List (Slab β)} {i j : Nat} {p : Int}
theorem form_take (n : Nat) (h : Form E G a) : Form E G (a.take n) := (form_append.mp (by rw [List.take_append_drop]; exact h : Form E G (a.take n ++ a.drop n))).1
theorem form_drop (n : Nat) (h : Form E G a) : Form E G (a.drop n) := (form_append.mp (by rw [List.take_append_drop]; exact h : Form E G (a.take n ++ a.drop n))).2.1
/-- what is ahead ends below what is behind -/
theorem form_cross {x y : List (Slab β)} (h : Form E G (x ++ y)) : ∀ s ∈ x, ∀ t ∈ y, s.2.1 ≤ t.1 := by
  induction x with
  | nil => intro s m; cases m
  | cons u r ih =>
    intro s m t mt
    rcases List.mem_cons.mp m with e | m
    · rw [e]; exact Form.above h t (List.mem_append_right _ mt)
    · exact ih h.2.2 s m t mt
theorem comb_none_r (x : Option β) : comb keeps rule isE x none = if keeps.1 = true then x else none := by cases x <;> simp [comb]
theorem comb_none_l (x : Option β) : comb keeps rule isE none x = if keeps.2 = true then x else none := by cases x <;> simp [comb]
theorem or_nn {α : Type} {x y : Option α} (h : x.or y = none) : x = none ∧ y = none := by
  cases x with
  | none => exact ⟨rfl, by simpa using h⟩
  | some a => simp at h
theorem ite_at {c : Prop} [Decidable c] {l : List (Slab β)} {z : Int} (h : at' l z = none) : at' (if c then l else []) z = none := by
  by_cases hc : c
  · rw [if_pos hc]; exact h
  · rw [if_neg hc]; rfl
/-- combined: the parts between put together -/
theorem comb_done {a0 al b0 bl : Slab β} {fa ta fb tb : Nat} (ha : Form E G a) (hb : Form E G b) (hG : ∀ x, G x → isE x = false) (ea : a.head? = some a0) (eb : b.head? = some b0) (ela : a.getLast? = some al) (elb : b.getLast? = some bl)
    (fa1 : ∀ s ∈ a.take fa, s.2.1 ≤ max a0.1 b0.1) (fa2 : ∀ s ∈ a.drop fa, max a0.1 b0.1 < s.2.1) (fb1 : ∀ s ∈ b.take fb, s.2.1 ≤ max a0.1 b0.1) (fb2 : ∀ s ∈ b.drop fb, max a0.1 b0.1 < s.2.1)
    (lta : fa ≤ ta) (ltb : fb ≤ tb) (ta1 : ∀ s ∈ a.drop ta, min al.2.1 bl.2.1 ≤ s.1) (tb1 : ∀ s ∈ b.drop tb, min al.2.1 bl.2.1 ≤ s.1)
    {M R1 R2 : List (Slab β)} (hM : Form E G M) (eM : ∀ z, at' M z = (at' ((if keeps.1 = true then a.take fa else []) ++ (if keeps.2 = true then b.take fb else [])) z).or (comb keeps rule isE (at' ((a.drop fa).take (ta - fa)) z) (at' ((b.drop fb).take (tb - fb)) z)))
    (h1 : R1 = if keeps.1 = true then putAllM isE M (a.drop ta) ((a[ta]?.map (·.1)).getD 0) else M) (h2 : R2 = if keeps.2 = true then putAllM isE R1 (b.drop tb) ((b[tb]?.map (·.1)).getD 0) else R1) :
    Form E G R2 ∧ ∀ z, at' R2 z = comb keeps rule isE (at' a z) (at' b z) := by
  have spl : ∀ {l : List (Slab β)} {f t : Nat}, f ≤ t → l = l.take f ++ ((l.drop f).take (t - f) ++ l.drop t) := fun {l f t} h => by
    have e1 : l.drop t = (l.drop f).drop (t - f) := by rw [List.drop_drop]; congr 1; omega
    rw [e1, List.take_append_drop, List.take_append_drop]
  have sa := spl (l := a) lta
  have sb := spl (l := b) ltb
  have az : ∀ z, at' a z = (at' (a.take fa) z).or ((at' ((a.drop fa).take (ta - fa)) z).or (at' (a.drop ta) z)) := fun z => by
    conv => lhs; rw [sa]
    rw [at_append, at_append]
  have bz : ∀ z, at' b z = (at' (b.take fb) z).or ((at' ((b.drop fb).take (tb - fb)) z).or (at' (b.drop tb) z)) := fun z => by
    conv => lhs; rw [sb]
    rw [at_append, at_append]
  -- begins and ends
  have hda : ∀ s ∈ a, a0.1 ≤ s.1 := fun s m => by
    cases a with
    | nil => cases ea
    | cons u r =>
      cases ea
      rcases List.mem_cons.mp m with e | m
      · rw [e]; exact Int.le_refl _
      · have := Form.above ha s m; have := ha.1.lt; omega
  have hdb : ∀ s ∈ b, b0.1 ≤ s.1 := fun s m => by
    cases b with
    | nil => cases eb
    | cons u r =>
      cases eb
      rcases List.mem_cons.mp m with e | m
      · rw [e]; exact Int.le_refl _
      · have := Form.above hb s m; have := hb.1.lt; omega
  have lda := last_below ha ela
  have ldb := last_below hb elb
  have oka := Form.mem ha al (List.mem_of_getLast? ela)
  have okb := Form.mem hb bl (List.mem_of_getLast? elb)
  have memA : ∀ {s : Slab β}, s ∈ a.drop ta → s ∈ a := fun m => List.mem_of_mem_drop m
  -- who is empty
  have e1 : a0.1 ≤ b0.1 → b.take fb = [] := fun h => by
    cases q : b.take fb with
    | nil => rfl
    | cons s r =>
      have m : s ∈ b.take fb := by rw [q]; exact List.mem_cons_self
      have := fb1 s m
      have := hdb s (List.mem_of_mem_take m)
      have := (Form.mem hb s (List.mem_of_mem_take m)).lt
      omega
  have e2 : b0.1 ≤ a0.1 → a.take fa = [] := fun h => by
    cases q : a.take fa with
    | nil => rfl
    | cons s r =>
      have m : s ∈ a.take fa := by rw [q]; exact List.mem_cons_self
      have := fa1 s m
      have := hda s (List.mem_of_mem_take m)
      have := (Form.mem ha s (List.mem_of_mem_take m)).lt
      omega
  have a3z : ∀ z, z < min al.2.1 bl.2.1 → at' (a.drop ta) z = none := fun z h => at_above fun t m => by have := ta1 t m; omega
  have b3z : ∀ z, z < min al.2.1 bl.2.1 → at' (b.drop tb) z = none := fun z h => at_above fun t m => by have := tb1 t m; omega
  have a1z : ∀ z, max a0.1 b0.1 ≤ z → at' (a.take fa) z = none := fun z h => at_below fun t m => by have := fa1 t m; omega
  have b1z : ∀ z, max a0.1 b0.1 ≤ z → at' (b.take fb) z = none := fun z h => at_below fun t m => by have := fb1 t m; omega
  -- the whole, place by place
  have whole : ∀ z, ((at' M z).or (if keeps.1 = true then at' (a.drop ta) z else none)).or (if keeps.2 = true then at' (b.drop tb) z else none) = comb keeps rule isE (at' a z) (at' b z) := fun z => by
    rw [eM, at_append]
    by_cases g1 : z < max a0.1 b0.1
    · by_cases g2 : a0.1 ≤ b0.1
      · -- b has nothing here
        have bn : at' b z = none := at_above fun t m => by have := hdb t m; omega
        have bq := bz z
        rw [bn] at bq
        have b1 : at' (b.take fb) z = none := by rw [e1 g2]; rfl
        rw [b1, Option.none_or] at bq
        have ⟨b2, b3⟩ := or_nn bq.symm
        rw [bn, b2, b3, comb_none_r, comb_none_r, e1 g2, az z]
        by_cases k : keeps.1 = true
        · simp [k, at', Option.or_assoc]
        · simp [k, at']
      · have an : at' a z = none := at_above fun t m => by have := hda t m; omega
        have aq := az z
        rw [an] at aq
        have a1 : at' (a.take fa) z = none := by rw [e2 (by omega)]; rfl
        rw [a1, Option.none_or] at aq
        have ⟨a2, a3⟩ := or_nn aq.symm
        rw [an, a2, a3, comb_none_l, comb_none_l, e2 (by omega), bz z]
        by_cases k : keeps.2 = true
        · simp [k, at', Option.or_assoc]
        · simp [k, at']
    · have o1 : at' (if keeps.1 = true then a.take fa else []) z = none := ite_at (a1z z (by omega))
      have o2 : at' (if keeps.2 = true then b.take fb else []) z = none := ite_at (b1z z (by omega))
      rw [o1, o2, az z, bz z, a1z z (by omega), b1z z (by omega)]
      simp only [Option.none_or]
      by_cases g2 : z < min al.2.1 bl.2.1
      · rw [a3z z g2, b3z z g2]; simp
      · by_cases g3 : al.2.1 ≤ bl.2.1
        · have an : at' a z = none := at_below fun t m => by have := lda t m; omega
          have aq := az z
          rw [an, a1z z (by omega), Option.none_or] at aq
          have ⟨a2, a3⟩ := or_nn aq.symm
          rw [a2, a3]
          simp only [Option.or_none, comb_none_l, ite_self]
          by_cases k : keeps.2 = true
          · simp [k]
          · simp [k]
        · have bn : at' b z = none := at_below fun t m => by have := ldb t m; omega
          have bq := bz z
          rw [bn, b1z z (by omega), Option.none_or] at bq
          have ⟨b2, b3⟩ := or_nn bq.symm
          rw [b2, b3]
          simp only [Option.or_none, comb_none_r, ite_self]
          by_cases k : keeps.1 = true
          · simp [k]
          · simp [k]
  -- the ends
  have fa3 : Form E G (a.drop ta) := form_drop ta ha
  have fb3 : Form E G (b.drop tb) := form_drop tb hb
  have aft : ∀ {l : List (Slab β)} {t : Nat} {s : Slab β}, (l.drop t).head? = some s → (l[t]?.map (·.1)).getD 0 = s.1 := fun {l t s} h => by
    rw [List.head?_drop] at h
    rw [h]; rfl
  have Mhi : ∀ q, (∀ z, q ≤ z → at' M z = none) → ∀ s ∈ M, s.2.1 ≤ q := fun q hz => below_of_at hM hz
  have step1 : Form E G R1 ∧ ∀ z, at' R1 z = (at' M z).or (if keeps.1 = true then at' (a.drop ta) z else none) := by
    rw [h1]
    by_cases k : keeps.1 = true
    · rw [if_pos k]
      cases q : a.drop ta with
      | nil => exact ⟨hM, fun z => by simp [putAllM, at', k]⟩
      | cons s r =>
        have hs : (a.drop ta).head? = some s := by rw [q]; rfl
        rw [aft hs]
        have ms : s ∈ a.drop ta := by rw [q]; exact List.mem_cons_self
        have hq := ta1 s ms
        have ls := (Form.mem ha s (memA ms)).lt
        have hal := lda s (memA ms)
        have below : ∀ u ∈ M, u.2.1 ≤ s.1 := Mhi s.1 fun z hz => by
          have w := whole z
          -- b is through, and the parts of a ahead too
          have bn : at' b z = none := at_below fun t m => by have := ldb t m; omega
          have cr := form_cross (x := a.take ta) (y := a.drop ta) (by rw [List.take_append_drop]; exact ha)
          have a12 : at' (a.take ta) z = none := at_below fun t m => by have := cr t m s ms; omega
          have et : a.take ta = a.take fa ++ (a.drop fa).take (ta - fa) := by
            rw [show ta = fa + (ta - fa) by omega, List.take_add]
            congr 2
            omega
          rw [et, at_append] at a12
          have ⟨a1, a2⟩ := or_nn a12
          have bq := bz z
          rw [bn] at bq
          have ⟨b1, b23⟩ := or_nn bq.symm
          have ⟨b2, _⟩ := or_nn b23
          rw [eM, at_append, a2, b2]
          have o1 : at' (if keeps.1 = true then a.take fa else []) z = none := ite_at (a1)
          have o2 : at' (if keeps.2 = true then b.take fb else []) z = none := ite_at (b1)
          rw [o1, o2]
          simp [comb]
        have A := putAll_ok (isE := isE) (L := a.drop ta) (b := s.1) hM below fa3 (fun t e => by rw [hs] at e; cases e; exact ls) (Form.mem ha s (memA ms)).e1 hG
        rw [← q]
        refine ⟨A.1, fun z => ?_⟩
        rw [A.2, if_pos k]
        congr 1
        by_cases hz : s.1 ≤ z
        · rw [if_pos hz]
        · rw [if_neg hz]
          symm
          refine at_above fun t m => ?_
          rw [q] at m
          rcases List.mem_cons.mp m with e | m
          · rw [e]; omega
          · have := Form.above (by rw [← q]; exact fa3 : Form E G (s :: r)) t m; omega
    · rw [if_neg k]
      exact ⟨hM, fun z => by simp [k]⟩
  rw [h2]
  by_cases k : keeps.2 = true
  · rw [if_pos k]
    cases q : b.drop tb with
    | nil =>
      refine ⟨step1.1, fun z => ?_⟩
      show at' R1 z = _
      rw [← whole, step1.2, q]
      simp [at']
    | cons s r =>
      have hs : (b.drop tb).head? = some s := by rw [q]; rfl
      rw [aft hs]
      have ms : s ∈ b.drop tb := by rw [q]; exact List.mem_cons_self
      have mb : s ∈ b := List.mem_of_mem_drop ms
      have hq := tb1 s ms
      have ls := (Form.mem hb s mb).lt
      have hbl := ldb s mb
      have below : ∀ u ∈ R1, u.2.1 ≤ s.1 := below_of_at step1.1 fun z hz => by
        have an : at' a z = none := at_below fun t m => by have := lda t m; omega
        have aq := az z
        rw [an] at aq
        have ⟨a1, a23⟩ := or_nn aq.symm
        have ⟨a2, a3⟩ := or_nn a23
        have cr := form_cross (x := b.take tb) (y := b.drop tb) (by rw [List.take_append_drop]; exact hb)
        have b12 : at' (b.take tb) z = none := at_below fun t m => by have := cr t m s ms; omega
        have et : b.take tb = b.take fb ++ (b.drop fb).take (tb - fb) := by
          rw [show tb = fb + (tb - fb) by omega, List.take_add]
          congr 2
          omega
        rw [et, at_append] at b12
        have ⟨b1, b2⟩ := or_nn b12
        rw [step1.2, eM, at_append, a2, b2, a3]
        have o1 : at' (if keeps.1 = true then a.take fa else []) z = none := ite_at (a1)
        have o2 : at' (if keeps.2 = true then b.take fb else []) z = none := ite_at (b1)
        rw [o1, o2]
        simp [comb]
      have B := putAll_ok (isE := isE) (L := b.drop tb) (b := s.1) step1.1 below fb3 (fun t e => by rw [hs] at e; cases e; exact ls) (Form.mem hb s mb).e1 hG
      rw [← q]
      refine ⟨B.1, fun z => ?_⟩
      rw [B.2, ← whole, step1.2, if_pos k]
      congr 1
      by_cases hz : s.1 ≤ z
      · rw [if_pos hz]
      · rw [if_neg hz]
        symm
        refine at_above fun t m => ?_
        rw [q] at m
        rcases List.mem_cons.mp m with e | m
        · rw [e]; omega
        · have := Form.above (by rw [← q]; exact fb3 : Form E G (s :: r)) t m; omega
  · rw [if_neg k]
    refine ⟨step1.1, fun z => ?_⟩
    rw [← whole, step1.2]
    simp [k]
end
end SM
end
section
set_option autoImplicit true
namespace SM
section
variable {β : Type} [DecidableEq β] {E : Int → Prop} {G : β → Prop} {isE : β → Bool} {keeps : Bool × Bool} {rule : β → β → β} {a b : List (Slab β)} {a0 b0 : Slab β} {fa ta fb tb : Nat}
def pre (keeps : Bool × Bool) (a b : List (Slab β)) (fa fb : Nat) : List (Slab β) := (if keeps.1 = true then a.take fa else []) ++ (if keeps.2 = true then b.take fb else [])
theorem first_le (ha : Form E G a) (ea : a.head? = some a0) : ∀ s ∈ a, a0.1 ≤ s.1 := fun s m => by
  cases a with
  | nil => cases ea
  | cons u r =>
    cases ea
    rcases List.mem_cons.mp m with e | m
    · rw [e]; exact Int.le_refl _
    · have := Form.above ha s m; have := ha.1.lt; omega
/-- the one that begins later has none ahead -/
theorem take_nil_of (hb : Form E G b) (eb : b.head? = some b0) (h : ∀ s ∈ b.take fb, s.2.1 ≤ b0.1) : b.take fb = [] := by
  cases e : b.take fb with
  | nil => rfl
  | cons s r =>
    have m : s ∈ b.take fb := by rw [e]; exact List.mem_cons_self
    have h1 := h s m
    have h2 := first_le hb eb s (List.mem_of_mem_take m)
    have h3 := (Form.mem hb s (List.mem_of_mem_take m)).lt
    omega
theorem pre_one (ha : Form E G a) (hb : Form E G b) (ea : a.head? = some a0) (eb : b.head? = some b0) (fa1 : ∀ s ∈ a.take fa, s.2.1 ≤ max a0.1 b0.1) (fb1 : ∀ s ∈ b.take fb, s.2.1 ≤ max a0.1 b0.1) :
    (b.take fb = [] ∧ a0.1 ≤ b0.1) ∨ (a.take fa = [] ∧ b0.1 ≤ a0.1) := by
  rcases Int.le_total a0.1 b0.1 with h | h
  · exact .inl ⟨take_nil_of hb eb fun s m => by have := fb1 s m; omega, h⟩
  · exact .inr ⟨take_nil_of ha ea fun s m => by have := fa1 s m; omega, h⟩
theorem pre_form (ha : Form E G a) (hb : Form E G b) (ea : a.head? = some a0) (eb : b.head? = some b0) (fa1 : ∀ s ∈ a.take fa, s.2.1 ≤ max a0.1 b0.1) (fb1 : ∀ s ∈ b.take fb, s.2.1 ≤ max a0.1 b0.1) : Form E G (pre keeps a b fa fb) := by
  unfold pre
  rcases pre_one ha hb ea eb fa1 fb1 with ⟨e, _⟩ | ⟨e, _⟩
  · rw [e]
    have : (if keeps.2 = true then ([] : List (Slab β)) else []) = [] := by split <;> rfl
    rw [this, List.append_nil]
    split
    · exact form_take fa ha
    · trivial
  · rw [e]
    have : (if keeps.1 = true then ([] : List (Slab β)) else []) = [] := by split <;> rfl
    rw [this, List.nil_append]
    split
    · exact form_take fb hb
    · trivial
theorem head_drop {α : Type} {l : List α} {i : Nat} {x : α} (e : l[i]? = some x) : l.drop i = x :: l.drop (i + 1) := by
  have hi : i < l.length := (List.getElem?_eq_some_iff.mp e).1
  rw [List.drop_eq_getElem_cons hi, (List.getElem?_eq_some_iff.mp e).2]
theorem take_end (ha : Form E G a) {s : Slab β} (e : a[fa]? = some s) : ∀ t ∈ a.take fa, t.2.1 ≤ s.1 := fun t m =>
  form_cross (by rw [List.take_append_drop]; exact ha : Form E G (a.take fa ++ a.drop fa)) t m s (by rw [head_drop e]; exact List.mem_cons_self)
theorem pre_below_a (ha : Form E G a) (hb : Form E G b) (ea : a.head? = some a0) (eb : b.head? = some b0) (fa1 : ∀ s ∈ a.take fa, s.2.1 ≤ max a0.1 b0.1) (fb1 : ∀ s ∈ b.take fb, s.2.1 ≤ max a0.1 b0.1) {s : Slab β} (e : a[fa]? = some s) :
    ∀ t ∈ pre keeps a b fa fb, t.2.1 ≤ s.1 := fun t m => by
  have hs := first_le ha ea s (List.mem_of_getElem? e)
  rcases List.mem_append.mp m with m | m
  · split at m
    · exact take_end ha e t m
    · cases m
  · split at m
    · rcases pre_one ha hb ea eb fa1 fb1 with ⟨z, _⟩ | ⟨_, z⟩
      · rw [z] at m; cases m
      · have := fb1 t m; omega
    · cases m
theorem pre_below_b (ha : Form E G a) (hb : Form E G b) (ea : a.head? = some a0) (eb : b.head? = some b0) (fa1 : ∀ s ∈ a.take fa, s.2.1 ≤ max a0.1 b0.1) (fb1 : ∀ s ∈ b.take fb, s.2.1 ≤ max a0.1 b0.1) {s : Slab β} (e : b[fb]? = some s) :
    ∀ t ∈ pre keeps a b fa fb, t.2.1 ≤ s.1 := fun t m => by
  have hs := first_le hb eb s (List.mem_of_getElem? e)
  rcases List.mem_append.mp m with m | m
  · split at m
    · rcases pre_one ha hb ea eb fa1 fb1 with ⟨_, z⟩ | ⟨z, _⟩
      · have := fa1 t m; omega
      · rw [z] at m; cases m
    · cases m
  · split at m
    · exact take_end hb e t m
    · cases m
theorem head_mid {α : Type} {l : List α} {f t : Nat} {x : α} (h : f < t) (e : l[f]? = some x) : ((l.drop f).take (t - f)).head? = some x := by
  rw [head_drop e]
  cases k : t - f with
  | zero => omega
  | succ n => rfl
theorem at_from {L : List (Slab β)} (h : Form E G L) {s : Slab β} (e : L.head? = some s) (z : Int) : (if s.1 ≤ z then at' L z else none) = at' L z := by
  by_cases c : s.1 ≤ z
  · rw [if_pos c]
  · rw [if_neg c, at_above fun t m => by have := first_le h e t m; omega]
/-- only slabs of a between -/
theorem mid_a (ha : Form E G a) (hb : Form E G b) (hG : ∀ x, G x → isE x = false) (ea : a.head? = some a0) (eb : b.head? = some b0) (fa1 : ∀ s ∈ a.take fa, s.2.1 ≤ max a0.1 b0.1) (fb1 : ∀ s ∈ b.take fb, s.2.1 ≤ max a0.1 b0.1) (hn : tb ≤ fb) {s : Slab β} (hf : fa < ta) (e : a[fa]? = some s) (hk : keeps.1 = true) :
    Form E G (putAllM isE (pre keeps a b fa fb) ((a.drop fa).take (ta - fa)) s.1) ∧ ∀ z, at' (putAllM isE (pre keeps a b fa fb) ((a.drop fa).take (ta - fa)) s.1) z = (at' (pre keeps a b fa fb) z).or (comb keeps rule isE (at' ((a.drop fa).take (ta - fa)) z) (at' ((b.drop fb).take (tb - fb)) z)) := by
  have hh := head_mid (l := a) hf e
  have hL : Form E G ((a.drop fa).take (ta - fa)) := form_take _ (form_drop _ ha)
  have okS := Form.mem ha s (List.mem_of_getElem? e)
  obtain ⟨p1, p2⟩ := putAll_ok (isE := isE) (pre_form (keeps := keeps) ha hb ea eb fa1 fb1) (pre_below_a ha hb ea eb fa1 fb1 e) hL (fun u q => by rw [hh] at q; cases q; exact okS.lt) okS.e1 hG
  refine ⟨p1, fun z => ?_⟩
  rw [p2, at_from hL hh, show tb - fb = 0 by omega, List.take_zero]
  simp only [at']
  rw [comb_none_r, if_pos hk]
theorem mid_b (ha : Form E G a) (hb : Form E G b) (hG : ∀ x, G x → isE x = false) (ea : a.head? = some a0) (eb : b.head? = some b0) (fa1 : ∀ s ∈ a.take fa, s.2.1 ≤ max a0.1 b0.1) (fb1 : ∀ s ∈ b.take fb, s.2.1 ≤ max a0.1 b0.1) (hn : ta ≤ fa) {s : Slab β} (hf : fb < tb) (e : b[fb]? = some s) (hk : keeps.2 = true) :
    Form E G (putAllM isE (pre keeps a b fa fb) ((b.drop fb).take (tb - fb)) s.1) ∧ ∀ z, at' (putAllM isE (pre keeps a b fa fb) ((b.drop fb).take (tb - fb)) s.1) z = (at' (pre keeps a b fa fb) z).or (comb keeps rule isE (at' ((a.drop fa).take (ta - fa)) z) (at' ((b.drop fb).take (tb - fb)) z)) := by
  have hh := head_mid (l := b) hf e
  have hL : Form E G ((b.drop fb).take (tb - fb)) := form_take _ (form_drop _ hb)
  have okS := Form.mem hb s (List.mem_of_getElem? e)
  obtain ⟨p1, p2⟩ := putAll_ok (isE := isE) (pre_form (keeps := keeps) ha hb ea eb fa1 fb1) (pre_below_b ha hb ea eb fa1 fb1 e) hL (fun u q => by rw [hh] at q; cases q; exact okS.lt) okS.e1 hG
  refine ⟨p1, fun z => ?_⟩
  rw [p2, at_from hL hh, show ta - fa = 0 by omega, List.take_zero]
  simp only [at']
  rw [comb_none_l, if_pos hk]
/-- nothing is kept between -/
theorem mid_no (ha : Form E G a) (hb : Form E G b) (ea : a.head? = some a0) (eb : b.head? = some b0) (fa1 : ∀ s ∈ a.take fa, s.2.1 ≤ max a0.1 b0.1) (fb1 : ∀ s ∈ b.take fb, s.2.1 ≤ max a0.1 b0.1) (h1 : ta ≤ fa ∨ tb ≤ fb) (h2 : keeps.1 = true → ta ≤ fa) (h3 : keeps.2 = true → tb ≤ fb) :
    Form E G (pre keeps a b fa fb) ∧ ∀ z, at' (pre keeps a b fa fb) z = (at' (pre keeps a b fa fb) z).or (comb keeps rule isE (at' ((a.drop fa).take (ta - fa)) z) (at' ((b.drop fb).take (tb - fb)) z)) := by
  refine ⟨pre_form ha hb ea eb fa1 fb1, fun z => ?_⟩
  have : comb keeps rule isE (at' ((a.drop fa).take (ta - fa)) z) (at' ((b.drop fb).take (tb - fb)) z) = none := by
    rcases h1 with h | h
    · rw [show ta - fa = 0 by omega, List.take_zero]
      simp only [at']
      rw [comb_none_l]
      split
      · rename_i k
        have := h3 k
        rw [show tb - fb = 0 by omega, List.take_zero]; rfl
      · rfl
    · rw [show tb - fb = 0 by omega, List.take_zero]
      simp only [at']
      rw [comb_none_r]
      split
      · rename_i k
        have := h2 k
        rw [show ta - fa = 0 by omega, List.take_zero]; rfl
      · rfl
  rw [this]; simp
end
end SM
end
section
set_option autoImplicit true
set_option linter.all false
namespace SM
section
variable {β γ : Type} [DecidableEq β] {E : Int → Prop} {G : β → Prop} {isE : β → Bool} {keeps : Bool × Bool} {rule : β → β → β} {a b R0 R : List (Slab β)}
/-- the going through comes to an end -/
theorem LO.run (ha : Form E G a) (hb : Form E G b) (hG : ∀ x, G x → isE x = false) (hr : ∀ x y, G x → G y → isE (rule x y) = false → G (rule x y)) : ∀ (m i j d : Nat) (p : Int) (R : List (Slab β)), LO keeps rule isE E G a b R0 i j p R → m = 2 * ((a.length - i) + (b.length - j)) + d → d ≤ 1 →
    (d = 0 → ∀ sa sb, a[i]? = some sa → b[j]? = some sb → max sa.1 p = max sb.1 p) → ∃ i' j' p' R', LO keeps rule isE E G a b R0 i' j' p' R' ∧ (i' = a.length ∨ j' = b.length) := by
  intro m
  induction m using Nat.strongRecOn with
  | _ m ih =>
    intro i j d p R lo hm hd hd0
    by_cases hi : i < a.length
    · by_cases hj : j < b.length
      · obtain ⟨sa, hsa⟩ : ∃ s, a[i]? = some s := ⟨_, List.getElem?_eq_getElem hi⟩
        obtain ⟨sb, hsb⟩ : ∃ s, b[j]? = some s := ⟨_, List.getElem?_eq_getElem hj⟩
        obtain ⟨st1, st2, st3⟩ := LO.step ha hb hG hr lo hsa hsb
        have pa := lo.an sa hsa
        have pb := lo.bn sb hsb
        have la := (Form.mem ha sa (List.mem_of_getElem? hsa)).lt
        have lb := (Form.mem hb sb (List.mem_of_getElem? hsb)).lt
        have next : ∀ (R' : List (Slab β)) (p' : Int), LO keeps rule isE E G a b R0 (if sa.2.1 ≤ p' then i + 1 else i) (if sb.2.1 ≤ p' then j + 1 else j) p' R' → (sa.2.1 ≤ p' ∨ sb.2.1 ≤ p' ∨ (d = 1 ∧ max sa.1 p' = max sb.1 p')) → ∃ i' j' p' R', LO keeps rule isE E G a b R0 i' j' p' R' ∧ (i' = a.length ∨ j' = b.length) := by
          intro R' p' l' pr
          by_cases c1 : sa.2.1 ≤ p'
          · refine ih _ ?_ _ _ 1 p' R' l' rfl (Nat.le_refl _) (fun z => nomatch z)
            rw [if_pos c1]; split <;> omega
          · by_cases c2 : sb.2.1 ≤ p'
            · refine ih _ ?_ _ _ 1 p' R' l' rfl (Nat.le_refl _) (fun z => nomatch z)
              rw [if_neg c1, if_pos c2]; omega
            · rcases pr with h | h | ⟨h1, h2⟩
              · exact absurd h c1
              · exact absurd h c2
              · refine ih _ ?_ _ _ 0 p' R' l' rfl (by omega) (fun _ ta tb e1 e2 => ?_)
                · rw [if_neg c1, if_neg c2]; omega
                · rw [if_neg c1, hsa] at e1
                  rw [if_neg c2, hsb] at e2
                  cases e1; cases e2
                  exact h2
        have d1 : max sa.1 p ≠ max sb.1 p → d = 1 := fun h => by
          rcases Nat.lt_or_ge d 1 with h' | h'
          · exact absurd (hd0 (by omega) sa sb hsa hsb) h
          · omega
        by_cases c1 : max sa.1 p < max sb.1 p
        · refine next _ _ (st1 c1) ?_
          by_cases z : sa.2.1 ≤ max sb.1 p
          · exact .inl (by omega)
          · exact .inr (.inr ⟨d1 (by omega), by omega⟩)
        · by_cases c2 : max sb.1 p < max sa.1 p
          · refine next _ _ (st2 c2) ?_
            by_cases z : sb.2.1 ≤ max sa.1 p
            · exact .inr (.inl (by omega))
            · exact .inr (.inr ⟨d1 (by omega), by omega⟩)
          · refine next _ _ (st3 (by omega)) ?_
            by_cases z : sa.2.1 ≤ sb.2.1
            · exact .inl (by omega)
            · exact .inr (.inl (by omega))
      · exact ⟨i, j, p, R, lo, .inr (by have := lo.jl; omega)⟩
    · exact ⟨i, j, p, R, lo, .inl (by have := lo.il; omega)⟩
/-- there is a combination -/
theorem comb_exists (keeps : Bool × Bool) (ha : Form E G a) (hb : Form E G b) (hG : ∀ x, G x → isE x = false) (hr : ∀ x y, G x → G y → isE (rule x y) = false → G (rule x y)) : ∃ R, Form E G R ∧ ∀ z, at' R z = comb keeps rule isE (at' a z) (at' b z) := by
  cases a with
  | nil =>
    refine ⟨if keeps.2 = true then b else [], ?_, fun z => ?_⟩
    · split
      · exact hb
      · trivial
    · rw [show at' ([] : List (Slab β)) z = none from rfl, comb_none_l]
      split <;> rfl
  | cons a0 ra =>
    cases b with
    | nil =>
      refine ⟨if keeps.1 = true then a0 :: ra else [], ?_, fun z => ?_⟩
      · split
        · exact ha
        · trivial
      · rw [show at' ([] : List (Slab β)) z = none from rfl, comb_none_r]
        split <;> rfl
    | cons b0 rb =>
      have st := LO.start (keeps := keeps) (rule := rule) (isE := isE) (R0 := []) ha hb trivial rfl rfl (fun s m => nomatch m)
      obtain ⟨i, j, p, R, lo, hij⟩ := LO.run ha hb hG hr _ 0 0 1 _ _ st rfl (Nat.le_refl _) (fun z => nomatch z)
      obtain ⟨f1, f2⟩ := LO.done ha hb hG lo hij rfl rfl
      exact ⟨_, f1, fun z => by rw [f2]; rfl⟩
/-! ### the one form of what stands at the numbers -/
open Classical in
noncomputable def canon (p : Int → Option β) : List (Slab β) := if h : ∃ R, Form (fun _ => True) (fun _ => True) R ∧ ∀ z, at' R z = p z then Classical.choose h else []
theorem canon_eq {p : Int → Option β} (h : Form E G R) (hz : ∀ z, at' R z = p z) : canon p = R := by
  have hx : ∃ R, Form (fun _ => True) (fun _ => True) R ∧ ∀ z, at' R z = p z := ⟨R, Form.imp (fun _ _ => trivial) (fun _ _ => trivial) h, hz⟩
  unfold canon
  rw [dif_pos hx]
  have hs := Classical.choose_spec hx
  exact ext hs.1 (Form.imp (fun _ _ => trivial) (fun _ _ => trivial) h) fun z => by rw [hs.2, hz]
noncomputable def combF (keeps : Bool × Bool) (rule : β → β → β) (isE : β → Bool) (a b : List (Slab β)) : List (Slab β) := canon fun z => comb keeps rule isE (at' a z) (at' b z)
theorem combF_ok (keeps : Bool × Bool) (ha : Form E G a) (hb : Form E G b) (hG : ∀ x, G x → isE x = false) (hr : ∀ x y, G x → G y → isE (rule x y) = false → G (rule x y)) : Form E G (combF keeps rule isE a b) ∧ ∀ z, at' (combF keeps rule isE a b) z = comb keeps rule isE (at' a z) (at' b z) := by
  obtain ⟨R, h1, h2⟩ := comb_exists keeps ha hb hG hr
  have e : combF keeps rule isE a b = R := canon_eq h1 h2
  rw [e]
  exact ⟨h1, h2⟩
/-! ### cells -/
def lift (C : β → γ → Bool) : Option β → γ → Bool
  | some x, p => C x p
  | none, _ => false
theorem at_good (h : Form E G R) {z : Int} {x : β} (e : at' R z = some x) : G x := by
  obtain ⟨s, m, _, _, rfl⟩ := at_some e
  exact (Form.mem h s m).g
theorem comb_cells {C : β → γ → Bool} {op : Bool → Bool → Bool} (h0 : op false false = false) (k1 : keeps.1 = op true false) (k2 : keeps.2 = op false true) (hrule : ∀ x y, G x → G y → ∀ p, C (rule x y) p = op (C x p) (C y p)) (hE : ∀ x, isE x = true → ∀ p, C x p = false)
    {x y : Option β} (hx : ∀ u, x = some u → G u) (hy : ∀ u, y = some u → G u) (p : γ) : lift C (comb keeps rule isE x y) p = op (lift C x p) (lift C y p) := by
  cases x with
  | none =>
    cases y with
    | none => exact h0.symm
    | some v =>
      show lift C (if keeps.2 = true then some v else none) p = op false (C v p)
      rw [k2]
      cases h : op false true with
      | true => cases hc : C v p <;> simp [lift, hc, h, h0]
      | false => cases hc : C v p <;> simp [lift, h, h0]
  | some u =>
    cases y with
    | none =>
      show lift C (if keeps.1 = true then some u else none) p = op (C u p) false
      rw [k1]
      cases h : op true false with
      | true => cases hc : C u p <;> simp [lift, hc, h, h0]
      | false => cases hc : C u p <;> simp [lift, h, h0]
    | some v =>
      show lift C (if isE (rule u v) = true then none else some (rule u v)) p = op (C u p) (C v p)
      rw [← hrule u v (hx u rfl) (hy v rfl)]
      split
      · rename_i h
        rw [hE _ h]; rfl
      · rfl
/-- same cells, same form -/
theorem cells_ext {C : β → γ → Bool} (ne : ∀ x, G x → ∃ p, C x p = true) (inj : ∀ x y, G x → G y → (∀ p, C x p = C y p) → x = y) (ha : Form E G a) (hb : Form E G b) (h : ∀ z p, lift C (at' a z) p = lift C (at' b z) p) : a = b := by
  refine ext ha hb fun z => ?_
  cases ea : at' a z with
  | none =>
    cases eb : at' b z with
    | none => rfl
    | some y =>
      obtain ⟨p, hp⟩ := ne y (at_good hb eb)
      have := h z p
      rw [ea, eb] at this
      have this : false = C y p := this
      rw [hp] at this
      cases this
  | some x =>
    cases eb : at' b z with
    | none =>
      obtain ⟨p, hp⟩ := ne x (at_good ha ea)
      have := h z p
      rw [ea, eb] at this
      have this : C x p = false := this
      rw [hp] at this
      cases this
    | some y =>
      rw [inj x y (at_good ha ea) (at_good hb eb) fun p => by
        have := h z p
        rw [ea, eb] at this
        exact this]
theorem cells_ne {C : β → γ → Bool} (ne : ∀ x, G x → ∃ p, C x p = true) (ha : Form E G a) (h : a ≠ []) : ∃ z p, lift C (at' a z) p = true := by
  cases a with
  | nil => exact absurd rfl h
  | cons s r =>
    obtain ⟨p, hp⟩ := ne s.2.2 ha.1.g
    refine ⟨s.1, p, ?_⟩
    have : at' (s :: r) s.1 = some s.2.2 := by
      simp only [at']
      rw [if_pos ⟨Int.le_refl _, ha.1.lt⟩]
    rw [this]
    exact hp
end
/-! ### rows, layers, solids -/
abbrev Row := List (Slab Unit)
abbrev Lay := List (Slab Row)
abbrev Sol := List (Slab Lay)
instance decRow : DecidableEq Row := inferInstanceAs (DecidableEq (List (Int × Int × Unit)))
instance decSR : DecidableEq (Slab Row) := inferInstanceAs (DecidableEq (Int × Int × Row))
instance decLay : DecidableEq Lay := inferInstanceAs (DecidableEq (List (Slab Row)))
instance decSL : DecidableEq (Slab Lay) := inferInstanceAs (DecidableEq (Int × Int × Lay))
instance decLay' : DecidableEq (List (Slab Row)) := decLay
instance decSol : DecidableEq Sol := inferInstanceAs (DecidableEq (List (Slab Lay)))
def AnyU : Unit → Prop := fun _ => True
section
variable {E : Int → Prop}
def FRow (E : Int → Prop) (r : Row) : Prop := Form E AnyU r ∧ r ≠ []
def FLay (E : Int → Prop) (l : Lay) : Prop := Form E (FRow E) l ∧ l ≠ []
def FSol (E : Int → Prop) (s : Sol) : Prop := Form E (FLay E) s
def cU : Unit → Unit → Bool := fun _ _ => true
def cR (r : Row) (x : Int) : Bool := lift cU (at' r x) ()
def cL (l : Lay) (p : Int × Int) : Bool := lift cR (at' l p.1) p.2
def cS (s : Sol) (p : Int × Int × Int) : Bool := lift cL (at' s p.1) p.2
theorem row_ext {a b : Row} (ha : Form E AnyU a) (hb : Form E AnyU b) (h : ∀ x, cR a x = cR b x) : a = b :=
  cells_ext (C := cU) (fun _ _ => ⟨(), rfl⟩) (fun _ _ _ _ _ => rfl) ha hb fun z _ => h z
theorem row_ne {a : Row} (h : FRow E a) : ∃ x, cR a x = true := by
  obtain ⟨z, p, e⟩ := cells_ne (C := cU) (fun _ _ => ⟨(), rfl⟩) h.1 h.2
  exact ⟨z, e⟩
theorem lay_ext {a b : Lay} (ha : Form E (FRow E) a) (hb : Form E (FRow E) b) (h : ∀ p, cL a p = cL b p) : a = b :=
  cells_ext (C := cR) (fun _ g => row_ne g) (fun _ _ g g' k => row_ext g.1 g'.1 k) ha hb fun z p => h (z, p)
theorem lay_ne {a : Lay} (h : FLay E a) : ∃ p, cL a p = true := by
  obtain ⟨z, p, e⟩ := cells_ne (C := cR) (fun _ g => row_ne g) h.1 h.2
  exact ⟨(z, p), e⟩
theorem sol_ext {a b : Sol} (ha : FSol E a) (hb : FSol E b) (h : ∀ p, cS a p = cS b p) : a = b :=
  cells_ext (C := cL) (fun _ g => lay_ne g) (fun _ _ g g' k => lay_ext g.1 g'.1 k) ha hb fun z p => h (z, p)
/-- one operation at the three heights -/
structure Op (op : Bool → Bool → Bool) (keeps : Bool × Bool) : Prop where
  h0 : op false false = false
  k1 : keeps.1 = op true false
  k2 : keeps.2 = op false true
/-- rows: a rule with the right cells, that makes rows -/
def RowRule (op : Bool → Bool → Bool) (E : Int → Prop) (f : Row → Row → Row) : Prop := ∀ a b, Form E AnyU a → Form E AnyU b → Form E AnyU (f a b) ∧ ∀ x, cR (f a b) x = op (cR a x) (cR b x)
theorem emptyR {x : Row} (h : x.isEmpty = true) (p : Int) : cR x p = false := by
  cases x with
  | nil => rfl
  | cons _ _ => cases h
theorem emptyL {x : Lay} (h : x.isEmpty = true) (p : Int × Int) : cL x p = false := by
  cases x with
  | nil => rfl
  | cons _ _ => cases h
theorem ne_isE {α : Type} {x : List α} (h : x ≠ []) : x.isEmpty = false := by
  cases x with
  | nil => exact absurd rfl h
  | cons _ _ => rfl
theorem isE_ne {α : Type} {x : List α} (h : x.isEmpty = false) : x ≠ [] := by
  cases x with
  | nil => cases h
  | cons _ _ => exact fun z => nomatch z
noncomputable def combL (keeps : Bool × Bool) (f : Row → Row → Row) : Lay → Lay → Lay := combF keeps f List.isEmpty
noncomputable def combS (keeps : Bool × Bool) (f : Row → Row → Row) : Sol → Sol → Sol := combF keeps (combL keeps f) List.isEmpty
variable {op : Bool → Bool → Bool} {keeps : Bool × Bool} {f : Row → Row → Row}
theorem row_hr (hf : RowRule op E f) : ∀ x y, FRow E x → FRow E y → (f x y).isEmpty = false → FRow E (f x y) := fun x y gx gy h => ⟨(hf x y gx.1 gy.1).1, isE_ne h⟩
theorem combL_ok (o : Op op keeps) (hf : RowRule op E f) {a b : Lay} (ha : Form E (FRow E) a) (hb : Form E (FRow E) b) : Form E (FRow E) (combL keeps f a b) ∧ (∀ z, at' (combL keeps f a b) z = comb keeps f List.isEmpty (at' a z) (at' b z)) ∧ ∀ p, cL (combL keeps f a b) p = op (cL a p) (cL b p) := by
  obtain ⟨h1, h2⟩ := combF_ok (isE := List.isEmpty) (rule := f) keeps ha hb (fun x g => ne_isE g.2) (row_hr hf)
  refine ⟨h1, h2, fun p => ?_⟩
  show lift cR (at' (combF keeps f List.isEmpty a b) p.1) p.2 = _
  rw [h2]
  exact comb_cells (G := FRow E) (C := cR) o.h0 o.k1 o.k2 (fun x y gx gy q => (hf x y gx.1 gy.1).2 q) (fun x h q => emptyR h q) (fun u e => at_good ha e) (fun u e => at_good hb e) p.2
theorem lay_hr (o : Op op keeps) (hf : RowRule op E f) : ∀ x y, FLay E x → FLay E y → (combL keeps f x y).isEmpty = false → FLay E (combL keeps f x y) := fun x y gx gy h => ⟨(combL_ok o hf gx.1 gy.1).1, isE_ne h⟩
theorem combS_ok (o : Op op keeps) (hf : RowRule op E f) {a b : Sol} (ha : FSol E a) (hb : FSol E b) : FSol E (combS keeps f a b) ∧ (∀ z, at' (combS keeps f a b) z = comb keeps (combL keeps f) List.isEmpty (at' a z) (at' b z)) ∧ ∀ p, cS (combS keeps f a b) p = op (cS a p) (cS b p) := by
  obtain ⟨h1, h2⟩ := combF_ok (isE := List.isEmpty) (rule := combL keeps f) keeps ha hb (fun x g => ne_isE g.2) (lay_hr o hf)
  refine ⟨h1, h2, fun p => ?_⟩
  show lift cL (at' (combF keeps (combL keeps f) List.isEmpty a b) p.1) p.2 = _
  rw [h2]
  exact comb_cells (G := FLay E) (C := cL) o.h0 o.k1 o.k2 (fun x y gx gy q => (combL_ok o hf gx.1 gy.1).2.2 q) (fun x h q => emptyL h q) (fun u e => at_good ha e) (fun u e => at_good hb e) p.2
/-! union of rows -/
noncomputable def joinR : Row → Row → Row := combF (true, true) (fun _ _ => ()) (fun _ => false)
theorem joinR_at (x y : Option Unit) : comb (true, true) (fun _ _ => ()) (fun _ => false) x y = x.or y := by cases x <;> cases y <;> rfl
theorem joinR_ok {a b : Row} (ha : Form E AnyU a) (hb : Form E AnyU b) : Form E AnyU (joinR a b) ∧ (∀ z, at' (joinR a b) z = (at' a z).or (at' b z)) ∧ ∀ x, cR (joinR a b) x = (cR a x || cR b x) := by
  obtain ⟨h1, h2⟩ := combF_ok (G := AnyU) (isE := fun _ => false) (rule := fun _ _ => ()) (true, true) ha hb (fun _ _ => rfl) (fun _ _ _ _ _ => trivial)
  have h2' : ∀ z, at' (joinR a b) z = (at' a z).or (at' b z) := fun z => by rw [show at' (joinR a b) z = _ from h2 z, joinR_at]
  refine ⟨h1, h2', fun x => ?_⟩
  unfold cR
  rw [h2']
  cases at' a x <;> cases at' b x <;> rfl
theorem joinR_rule : RowRule (fun x y => x || y) E joinR := fun a b ha hb => ⟨(joinR_ok ha hb).1, (joinR_ok ha hb).2.2⟩
theorem op_or : Op (fun x y => x || y) (true, true) := ⟨rfl, rfl, rfl⟩
noncomputable abbrev joinL : Lay → Lay → Lay := combL (true, true) joinR
noncomputable abbrev joinS : Sol → Sol → Sol := combS (true, true) joinR
end
end SM
end
section
set_option Elab.async false
set_option linter.all false
set_option maxRecDepth 100000
set_option maxHeartbeats 1000000
/-! A layer over HandS: expressions and statements by the DATA that they work on. -/
namespace DL
open PySem L2

inductive DV where
  | dat (d : PyData) | fn (v : V) | lst (xs : List PyData) | arg (xs : List PyData) | dic (kvs : List (List Key × PyData)) | own (i : Nat)
abbrev Den := List (Option DV)
def DV.isOwn : DV → Bool
  | .lst _ => true
  | .arg _ => true
  | .dic _ => true
  | _ => false

/-! ### frozen data: tuples that are tracked, lists, dicts that are locked for good -/
def kD : Key → PyData
  | .inl i => .int i
  | .inr x => .str x
abbrev keyT (k : List Key) : PyData := .tuple (k.map kD)
mutual
inductive Dp (K : PySem.W.Frag) (H : Hp) : V → PyData → Prop
  | non : Dp K H .non .none
  | bl (b : Bool) : Dp K H (.bl b) (.bool b)
  | int (i : Int) : Dp K H (.int i) (.int i)
  | str (x : Str) : Dp K H (.str x) (.str x)
  | lst {a : Addr} {xs : List V} {ds : List PyData} : SqL K H a xs → DpAll K H xs ds → Dp K H (.ref a) (.list ds)
  | tup {a : Addr} {xs : List V} {ds : List PyData} : H a = some (.tup xs) → DpAll K H xs ds → Dp K H (.ref a) (.tuple ds)
  | dcT {a : Addr} {o : Obj} {ws : List (List Key × V)} {ds : List PyData} {kvs : List (PyData × PyData)} : H a = some (.frz o (.dT ws)) → kvs.map (·.1) = ws.map (fun p => keyT p.1) → kvs.map (·.2) = ds → DpAll K H (ws.map (·.2)) ds → Dp K H (.ref a) (.dict kvs)
  | dcK {a : Addr} {o : Obj} {ws : List (Key × V)} {ds : List PyData} {kvs : List (PyData × PyData)} : H a = some (.frz o (.dK ws)) → kvs.map (·.1) = ws.map (fun p => kD p.1) → kvs.map (·.2) = ds → DpAll K H (ws.map (·.2)) ds → Dp K H (.ref a) (.dict ((.none, .none) :: kvs))
inductive DpAll (K : PySem.W.Frag) (H : Hp) : List V → List PyData → Prop
  | nil : DpAll K H [] []
  | cons {v : V} {vs : List V} {d : PyData} {ds : List PyData} : Dp K H v d → DpAll K H vs ds → DpAll K H (v :: vs) (d :: ds)
end
section
variable {K : PySem.W.Frag} {H H' : Hp}
theorem sqT_mono (e : Same H H') {a : Addr} {xs : List V} (h : SqT K H a xs) : SqT K H' a xs := by
  rcases h with (h | ⟨o, h⟩) | h
  · exact .inl (.inl (e _ _ h))
  · exact .inl (.inr ⟨o, e _ _ h⟩)
  · exact .inr h
theorem tupS (e : Same H H') {a : Addr} {xs : List V} (h : H a = some (.tup xs)) : SqT K H' a xs := .inl (.inl (e _ _ h))
mutual
theorem dp_mono (e : Same H H') : ∀ (d : PyData) (v : V), Dp K H v d → Dp K H' v d
  | _, _, .non => .non
  | _, _, .bl b => .bl b
  | _, _, .int i => .int i
  | _, _, .str x => .str x
  | _, _, .lst hs ha => .lst (e.seq hs) (dpAll_mono e _ _ ha)
  | _, _, .tup hs ha => .tup (e _ _ hs) (dpAll_mono e _ _ ha)
  | _, _, .dcT h k r ha => .dcT (e _ _ h) k r (dpAll_mono e _ _ ha)
  | _, _, .dcK h k r ha => .dcK (e _ _ h) k r (dpAll_mono e _ _ ha)
theorem dpAll_mono (e : Same H H') : ∀ (ds : List PyData) (vs : List V), DpAll K H vs ds → DpAll K H' vs ds
  | _, _, .nil => .nil
  | _, _, .cons h1 h2 => .cons (dp_mono e _ _ h1) (dpAll_mono e _ _ h2)
end
end
mutual
def noD : PyData → Bool
  | .dict _ => false
  | .list xs => noDAll xs
  | .tuple xs => noDAll xs
  | _ => true
def noDAll : List PyData → Bool
  | [] => true
  | x :: xs => noD x && noDAll xs
end
mutual
theorem noD_can : ∀ d : PyData, d.canLay0 = true → noD d = true
  | .none, _ => rfl
  | .bool _, _ => rfl
  | .int _, _ => rfl
  | .str _, _ => rfl
  | .list xs, h => by rw [PyData.canLay0.eq_5] at h; exact noDAll_can xs h
  | .tuple xs, h => by rw [PyData.canLay0.eq_6] at h; exact noDAll_can xs h
  | .dict _, h => by rw [PyData.canLay0.eq_7] at h; cases h
theorem noDAll_can : ∀ ds : List PyData, PyData.canLayAll0 ds = true → noDAll ds = true
  | [], _ => rfl
  | d :: ds, h => by
    rw [PyData.canLayAll0.eq_2, Bool.and_eq_true] at h
    show (noD d && noDAll ds) = true
    rw [noD_can d h.1, noDAll_can ds h.2]; rfl
end
section
variable {K : PySem.W.Frag} {H H' : Hp}
mutual
/-- what has no dict is of the library's kind -/
theorem Dp.old : ∀ {v : V} {d : PyData}, Dp K H v d → noD d = true → L2.Dp K H v d
  | _, _, .non, _ => .non
  | _, _, .bl b, _ => .bl b
  | _, _, .int i, _ => .int i
  | _, _, .str x, _ => .str x
  | _, _, .lst hs ha, h => .lst hs (DpAll.old ha h)
  | _, _, .tup hs ha, h => .tup (.inl (.inl hs)) (DpAll.old ha h)
  | _, _, .dcT _ _ _ _, h => by cases h
  | _, _, .dcK _ _ _ _, h => by cases h
theorem DpAll.old : ∀ {vs : List V} {ds : List PyData}, DpAll K H vs ds → noDAll ds = true → L2.DpAll K H vs ds
  | _, _, .nil, _ => .nil
  | _, _, .cons h1 h2, h => by
    have h := Bool.and_eq_true_iff.mp h
    exact .cons (Dp.old h1 h.1) (DpAll.old h2 h.2)
end
theorem DpAll.length : ∀ {vs : List V} {ds : List PyData}, DpAll K H vs ds → vs.length = ds.length
  | _, _, .nil => rfl
  | _, _, .cons _ t => congrArg (· + 1) (DpAll.length t)
theorem DpAll.get : ∀ {vs : List V} {ds : List PyData} {i : Nat} {d : PyData}, DpAll K H vs ds → ds[i]? = some d → ∃ v, vs[i]? = some v ∧ Dp K H v d
  | _, _, _, _, .nil, e => by simp at e
  | _, _, 0, _, .cons h _, e => by simp at e; subst e; exact ⟨_, rfl, h⟩
  | _, _, i + 1, d, .cons _ t, e => by
    obtain ⟨v, h1, h2⟩ := DpAll.get (i := i) (d := d) t (by simpa using e)
    exact ⟨v, by simpa using h1, h2⟩
theorem DpAll.getV : ∀ {vs : List V} {ds : List PyData} {i : Nat} {v : V}, DpAll K H vs ds → vs[i]? = some v → ∃ d, ds[i]? = some d ∧ Dp K H v d
  | _, _, _, _, .nil, e => by simp at e
  | _, _, 0, _, .cons h _, e => by simp at e; subst e; exact ⟨_, rfl, h⟩
  | _, _, i + 1, v, .cons _ t, e => by
    obtain ⟨d, h1, h2⟩ := DpAll.getV (i := i) (v := v) t (by simpa using e)
    exact ⟨d, by simpa using h1, h2⟩
theorem DpAll.app : ∀ {vs ws : List V} {ds es : List PyData}, DpAll K H vs ds → DpAll K H ws es → DpAll K H (vs ++ ws) (ds ++ es)
  | _, _, _, _, .nil, s => s
  | _, _, _, _, .cons h t, s => .cons h (DpAll.app t s)
theorem DpAll.take : ∀ {vs : List V} {ds : List PyData} (n : Nat), DpAll K H vs ds → DpAll K H (vs.take n) (ds.take n)
  | _, _, 0, _ => .nil
  | _, _, _ + 1, .nil => .nil
  | _, _, n + 1, .cons h t => .cons h (DpAll.take n t)
theorem DpAll.drop : ∀ {vs : List V} {ds : List PyData} (n : Nat), DpAll K H vs ds → DpAll K H (vs.drop n) (ds.drop n)
  | _, _, 0, h => h
  | _, _, _ + 1, .nil => .nil
  | _, _, n + 1, .cons _ t => DpAll.drop n t
theorem DpAll.set {v : V} {d : PyData} (hv : Dp K H v d) : ∀ {vs : List V} {ds : List PyData} (i : Nat), DpAll K H vs ds → DpAll K H (vs.set i v) (ds.set i d)
  | _, _, _, .nil => .nil
  | _, _, 0, .cons _ t => .cons hv t
  | _, _, i + 1, .cons h t => .cons h (DpAll.set hv i t)
theorem DpAll.rev {vs : List V} {ds : List PyData} (h : DpAll K H vs ds) : DpAll K H vs.reverse ds.reverse := by
  induction ds generalizing vs with
  | nil => cases h; exact .nil
  | cons d ds ih =>
    cases h with
    | cons h1 h2 =>
      rw [List.reverse_cons, List.reverse_cons]
      exact DpAll.app (ih h2) (.cons h1 .nil)
end

/-! ### what stands for what -/
def OwnR (K : PySem.W.Frag) (Hf H : Hp) (a : Addr) : DV → Prop
  | .lst xs => ∃ vs, H a = some (.lst vs) ∧ DpAll K Hf vs xs
  | .arg xs => ∃ vs, H a = some (.lst vs) ∧ DpAll K Hf vs xs
  | .dic kvs => ∃ ws, H a = some (.dT ws) ∧ Paired (fun (p : List Key × V) (q : List Key × PyData) => p.1 = q.1 ∧ Dp K Hf p.2 q.2) ws kvs
  | _ => False
def VR (K : PySem.W.Frag) (Hf H : Hp) (v : V) (d : DV) : Prop := match d with
  | .dat d => Dp K Hf v d
  | .fn u => v = u
  | .own _ => False
  | o => ∃ a, v = .ref a ∧ Hf a = none ∧ OwnR K Hf H a o
structure ER (K : PySem.W.Frag) (Hf H : Hp) (σ : St) (ρ : Den) : Prop where
  len : σ.length = ρ.length
  ex : Same Hf H
  sl : ∀ (i : Nat) (d : DV), ρ[i]? = some (some d) → ∃ v, σ[i]? = some (some v) ∧ VR K Hf H v d
  dj : ∀ (i j : Nat) (d e : DV) (a : Addr), ρ[i]? = some (some d) → ρ[j]? = some (some e) → d.isOwn = true → e.isOwn = true → σ[i]? = some (some (.ref a)) → σ[j]? = some (some (.ref a)) → i = j
def Ow (σ : St) (ρ : Den) (a : Addr) : Prop := ∃ (i : Nat) (d : DV), ρ[i]? = some (some d) ∧ d.isOwn = true ∧ σ[i]? = some (some (.ref a))
structure Stp (Hf H Hf' H' : Hp) (O : Addr → Prop) : Prop where
  fx : Same Hf Hf'
  fr : ∀ b o, H b = some o → ¬ O b → H' b = some o
  al : ∀ b, H' b = none → H b = none
  nf : ∀ b o, Hf' b = some o → Hf b = none → H b = none ∨ O b ∨ ∃ ys, H b = some (.tup ys)
structure St2 (K : PySem.W.Frag) (σ : St) (Hf H : Hp) (ρ : Den) (Hf' H' : Hp) (ρ' : Den) : Prop where
  st : Stp Hf H Hf' H' (Ow σ ρ)
  er : ER K Hf' H' σ ρ'
  lo : ∀ a, Ow σ ρ' a → Ow σ ρ a
  ar : ∀ i : Nat, (∃ xs, ρ'[i]? = some (some (.arg xs))) ↔ ∃ xs, ρ[i]? = some (some (.arg xs))
/-- a value that has come: H0 the heap ahead of it -/
def RR (K : PySem.W.Frag) (H0 Hf H : Hp) (σ : St) (v : V) (d : DV) : Prop := match d with
  | .own i => σ[i]? = some (some v)
  | d => VR K Hf H v d ∧ (d.isOwn = true → ∀ a, v = .ref a → H0 a = none)

section
variable {K : PySem.W.Frag} {σ : St} {Hf H Hf1 H1 Hf2 H2 H0 : Hp} {ρ ρ1 ρ2 : Den} {v : V} {d : DV}
theorem vr_own {a : Addr} (h : VR K Hf H (.ref a) d) (ho : d.isOwn = true) : Hf a = none ∧ OwnR K Hf H a d := by
  cases d with
  | lst xs => obtain ⟨b, e, h1, h2⟩ := h; cases e; exact ⟨h1, h2⟩
  | arg xs => obtain ⟨b, e, h1, h2⟩ := h; cases e; exact ⟨h1, h2⟩
  | dic xs => obtain ⟨b, e, h1, h2⟩ := h; cases e; exact ⟨h1, h2⟩
  | _ => cases ho
theorem vr_ref (h : VR K Hf H v d) (ho : d.isOwn = true) : ∃ a, v = .ref a ∧ Hf a = none ∧ OwnR K Hf H a d := by
  cases d with
  | lst xs => exact h
  | arg xs => exact h
  | dic xs => exact h
  | _ => cases ho
theorem ownR_some {a : Addr} (h : OwnR K Hf H a d) : H a ≠ none := by
  cases d with
  | lst xs => obtain ⟨vs, e, _⟩ := h; rw [e]; exact fun z => nomatch z
  | arg xs => obtain ⟨vs, e, _⟩ := h; rw [e]; exact fun z => nomatch z
  | dic xs => obtain ⟨vs, e, _⟩ := h; rw [e]; exact fun z => nomatch z
  | _ => exact h.elim
theorem ownR_tup {a : Addr} {ys : List V} (h : OwnR K Hf H a d) : H a ≠ some (.tup ys) := by
  cases d with
  | lst xs => obtain ⟨vs, e, _⟩ := h; rw [e]; exact fun z => nomatch z
  | arg xs => obtain ⟨vs, e, _⟩ := h; rw [e]; exact fun z => nomatch z
  | dic xs => obtain ⟨vs, e, _⟩ := h; rw [e]; exact fun z => nomatch z
  | _ => exact h.elim
theorem ownR_step {a : Addr} (h : OwnR K Hf H a d) (e : Same Hf Hf1) (e2 : ∀ o, H a = some o → H1 a = some o) : OwnR K Hf1 H1 a d := by
  cases d with
  | lst xs => obtain ⟨vs, q, r⟩ := h; exact ⟨vs, e2 _ q, dpAll_mono e _ _ r⟩
  | arg xs => obtain ⟨vs, q, r⟩ := h; exact ⟨vs, e2 _ q, dpAll_mono e _ _ r⟩
  | dic xs => obtain ⟨vs, q, r⟩ := h; exact ⟨vs, e2 _ q, Paired.mapP r fun p q z => ⟨z.1, dp_mono e _ _ z.2⟩⟩
  | _ => exact h.elim
theorem ER.own {i : Nat} (E : ER K Hf H σ ρ) (h : ρ[i]? = some (some d)) (ho : d.isOwn = true) : ∃ a, σ[i]? = some (some (.ref a)) ∧ Hf a = none ∧ OwnR K Hf H a d := by
  obtain ⟨v, h1, h2⟩ := E.sl i d h
  obtain ⟨a, rfl, h3, h4⟩ := vr_ref h2 ho
  exact ⟨a, h1, h3, h4⟩
theorem ER.ow (E : ER K Hf H σ ρ) {a : Addr} (h : Ow σ ρ a) : H a ≠ none ∧ Hf a = none := by
  obtain ⟨i, d, h1, h2, h3⟩ := h
  obtain ⟨b, e, h4, h5⟩ := E.own h1 h2
  rw [h3] at e
  cases e
  exact ⟨ownR_some h5, h4⟩
theorem ER.owT (E : ER K Hf H σ ρ) {a : Addr} (h : Ow σ ρ a) (ys : List V) : H a ≠ some (.tup ys) := by
  obtain ⟨i, d, h1, h2, h3⟩ := h
  obtain ⟨b, e, h4, h5⟩ := E.own h1 h2
  rw [h3] at e
  cases e
  exact ownR_tup h5
theorem Stp.refl {O : Addr → Prop} : Stp Hf H Hf H O := ⟨Same.refl _, fun _ _ h _ => h, fun _ h => h, fun b o h n => by rw [n] at h; cases h⟩
theorem Stp.trans {O O1 : Addr → Prop} (a : Stp Hf H Hf1 H1 O) (b : Stp Hf1 H1 Hf2 H2 O1) (ho : ∀ x, O1 x → O x ∨ H x = none) : Stp Hf H Hf2 H2 O where
  fx := a.fx.trans b.fx
  fr := fun x o h n => b.fr x o (a.fr x o h n) fun z => by
    rcases ho x z with q | q
    · exact n q
    · rw [q] at h; cases h
  al := fun x h => a.al x (b.al x h)
  nf := fun x o h n => by
    cases q : Hf1 x with
    | some u => exact a.nf x u q n
    | none =>
      rcases b.nf x o h q with z | z | ⟨ys, z⟩
      · exact .inl (a.al x z)
      · rcases ho x z with y | y
        · exact .inr (.inl y)
        · exact .inl y
      · by_cases hO : O x
        · exact .inr (.inl hO)
        · cases hx : H x with
          | none => exact .inl rfl
          | some o' =>
            have := a.fr x o' hx hO
            rw [z] at this
            cases this
            exact .inr (.inr ⟨ys, rfl⟩)
theorem St2.refl (E : ER K Hf H σ ρ) : St2 K σ Hf H ρ Hf H ρ := ⟨.refl, E, fun _ h => h, fun _ => Iff.rfl⟩
theorem St2.trans (a : St2 K σ Hf H ρ Hf1 H1 ρ1) (b : St2 K σ Hf1 H1 ρ1 Hf2 H2 ρ2) : St2 K σ Hf H ρ Hf2 H2 ρ2 :=
  ⟨a.st.trans b.st fun x h => .inl (a.lo x h), b.er, fun x h => a.lo x (b.lo x h), fun i => (b.ar i).trans (a.ar i)⟩
/-- a value stays -/
theorem rr_step {Hf0 : Hp} {ρ0 : Den} (E : ER K Hf0 H0 σ ρ0) (a : St2 K σ Hf0 H0 ρ0 Hf H ρ) (h : RR K H0 Hf H σ v d) (b : St2 K σ Hf H ρ Hf1 H1 ρ1) : RR K H0 Hf1 H1 σ v d := by
  have own : ∀ a', d.isOwn = true → VR K Hf H v d → (∀ x, v = .ref x → H0 x = none) → v = .ref a' → Hf a' = none → OwnR K Hf H a' d → Hf1 a' = none ∧ OwnR K Hf1 H1 a' d := fun x ho hv hn ex h1 h2 => by
    have nO : ¬ Ow σ ρ x := fun z => (E.ow (a.lo x z)).1 (hn x ex)
    refine ⟨?_, ownR_step h2 b.st.fx fun o q => b.st.fr x o q nO⟩
    cases q : Hf1 x with
    | none => rfl
    | some o =>
      rcases b.st.nf x o q h1 with z | z | ⟨ys, z⟩
      · exact absurd z (ownR_some h2)
      · exact absurd z nO
      · exact absurd z (ownR_tup h2)
  cases d with
  | dat d => exact ⟨dp_mono b.st.fx _ _ h.1, fun z => nomatch z⟩
  | fn u => exact ⟨h.1, fun z => nomatch z⟩
  | own i => exact h
  | lst xs =>
    obtain ⟨x, ex, h1, h2⟩ := h.1
    exact ⟨⟨x, ex, own x rfl h.1 (h.2 rfl) ex h1 h2⟩, h.2⟩
  | arg xs =>
    obtain ⟨x, ex, h1, h2⟩ := h.1
    exact ⟨⟨x, ex, own x rfl h.1 (h.2 rfl) ex h1 h2⟩, h.2⟩
  | dic xs =>
    obtain ⟨x, ex, h1, h2⟩ := h.1
    exact ⟨⟨x, ex, own x rfl h.1 (h.2 rfl) ex h1 h2⟩, h.2⟩
/-- .. seen from further back -/
theorem rr_back {Hf0 : Hp} {ρ0 : Den} (a : St2 K σ Hf0 H0 ρ0 Hf H ρ) (h : RR K H Hf1 H1 σ v d) : RR K H0 Hf1 H1 σ v d := by
  cases d with
  | own i => exact h
  | dat d => exact ⟨h.1, fun z => nomatch z⟩
  | fn u => exact ⟨h.1, fun z => nomatch z⟩
  | lst xs => exact ⟨h.1, fun z x e => a.st.al x (h.2 z x e)⟩
  | arg xs => exact ⟨h.1, fun z x e => a.st.al x (h.2 z x e)⟩
  | dic xs => exact ⟨h.1, fun z x e => a.st.al x (h.2 z x e)⟩
end
end DL
end
section
set_option Elab.async false
set_option linter.all false
set_option maxRecDepth 100000
set_option maxHeartbeats 1000000
namespace DL
open PySem L2

abbrev WE := Den → (DV → Den → Prop) → Prop
abbrev WT := Den → (Bool → Den → Prop) → Prop
abbrev WA := Den → (List DV → Den → Prop) → Prop
/-- a value as an operand -/
def VS (K : PySem.W.Frag) (Hf H : Hp) (σ : St) (v : V) (d : DV) : Prop := match d with
  | .own i => σ[i]? = some (some v)
  | d => VR K Hf H v d
/-- .. as an argument -/
def AV (K : PySem.W.Frag) (Hf : Hp) (σ : St) (v : V) (d : DV) : Prop := match d with
  | .own i => σ[i]? = some (some v)
  | .dat d => Dp K Hf v d
  | .fn u => v = u
  | _ => False
abbrev AVs (K : PySem.W.Frag) (Hf : Hp) (σ : St) : List V → List DV → Prop := Paired (AV K Hf σ)
def CnE (K : PySem.W.Frag) (σ : St) (Hf H : Hp) (ρ : Den) (Q : DV → Den → Prop) (Q' : VK) : Prop :=
  ∀ v Hf' H' d ρ', St2 K σ Hf H ρ Hf' H' ρ' → RR K H Hf' H' σ v d → Q d ρ' → Q' v H'
def CnT (K : PySem.W.Frag) (σ : St) (Hf H : Hp) (ρ : Den) (Q : Bool → Den → Prop) (Q' : Bool → Hp → Prop) : Prop :=
  ∀ b Hf' H' ρ', St2 K σ Hf H ρ Hf' H' ρ' → Q b ρ' → Q' b H'
def CnA (K : PySem.W.Frag) (σ : St) (Hf H : Hp) (ρ : Den) (Q : List DV → Den → Prop) (Q' : List V → Hp → Prop) : Prop :=
  ∀ vs Hf' H' ds ρ', St2 K σ Hf H ρ Hf' H' ρ' → AVs K Hf' σ vs ds → Q ds ρ' → Q' vs H'
structure XE (X : Cx) (e : Expr) (t : TE) (w : WE) : Prop where
  pe : PE X e t
  so : ∀ Hf H σ ρ Q Q', ER X.K Hf H σ ρ → w ρ Q → CnE X.K σ Hf H ρ Q Q' → t σ H Q'
structure XT (X : Cx) (e : Expr) (t : TT) (w : WT) : Prop where
  pt : PT X e t
  so : ∀ Hf H σ ρ Q Q', ER X.K Hf H σ ρ → w ρ Q → CnT X.K σ Hf H ρ Q Q' → t σ H Q'
/-- a test by and, or -/
structure XW (X : Cx) (e : Expr) (t : TT) (w : WT) : Prop where
  pw : PW X e t
  so : ∀ Hf H σ ρ Q Q', ER X.K Hf H σ ρ → w ρ Q → CnT X.K σ Hf H ρ Q Q' → t σ H Q'
structure XA (X : Cx) (es : List Expr) (t : TA) (w : WA) : Prop where
  pa : PA X es t
  so : ∀ Hf H σ ρ Q Q', ER X.K Hf H σ ρ → w ρ Q → CnA X.K σ Hf H ρ Q Q' → t σ H Q'

section
variable {K : PySem.W.Frag} {σ : St} {Hf H Hf1 H1 Hf2 H2 H0 : Hp} {ρ ρ1 ρ2 : Den} {v : V} {d : DV} {Q : DV → Den → Prop} {Q' : VK}
theorem RR.vs (h : RR K H0 Hf H σ v d) : VS K Hf H σ v d := by
  cases d with
  | own i => exact h
  | _ => exact h.1
theorem CnE.step (a : St2 K σ Hf H ρ Hf1 H1 ρ1) (c : CnE K σ Hf H ρ Q Q') : CnE K σ Hf1 H1 ρ1 Q Q' :=
  fun v Hf' H' d ρ' s r q => c v Hf' H' d ρ' (a.trans s) (rr_back a r) q
theorem CnT.step {Q : Bool → Den → Prop} {Q' : Bool → Hp → Prop} (a : St2 K σ Hf H ρ Hf1 H1 ρ1) (c : CnT K σ Hf H ρ Q Q') : CnT K σ Hf1 H1 ρ1 Q Q' :=
  fun v Hf' H' ρ' s q => c v Hf' H' ρ' (a.trans s) q
theorem CnA.step {Q : List DV → Den → Prop} {Q' : List V → Hp → Prop} (a : St2 K σ Hf H ρ Hf1 H1 ρ1) (c : CnA K σ Hf H ρ Q Q') : CnA K σ Hf1 H1 ρ1 Q Q' :=
  fun v Hf' H' ds ρ' s r q => c v Hf' H' ds ρ' (a.trans s) r q
/-- plain data have come, the heap as it was -/
theorem CnE.dat (E : ER K Hf H σ ρ) (c : CnE K σ Hf H ρ Q Q') {x : PyData} (r : Dp K Hf v x) (q : Q (.dat x) ρ) : Q' v H :=
  c v Hf H (.dat x) ρ (.refl E) ⟨r, fun z => nomatch z⟩ q
theorem AV.mono {a : DV} (e : Same Hf Hf1) (h : AV K Hf σ v a) : AV K Hf1 σ v a := by
  cases a with
  | dat x => exact dp_mono e _ _ h
  | fn u => exact h
  | own i => exact h
  | _ => exact h.elim
theorem ER.hf_none (E : ER K Hf H σ ρ) {p : Addr} (h : H p = none) : Hf p = none := by
  cases q : Hf p with
  | none => rfl
  | some o => rw [E.ex p o q] at h; cases h
theorem same_upd2 {p : Addr} {o : HO} (e : Same Hf H) (h : H p = none) : Same (upd Hf p o) (upd H p o) := fun b x q => by
  by_cases z : b = p
  · subst z; rw [upd_same] at q ⊢; exact q
  · rw [upd_ne z] at q ⊢; exact e b x q
theorem same_new {p : Addr} {o : HO} (h : H p = none) : Same H (upd H p o) := fun b x q => by rw [upd_ne (ne_of_none q h)]; exact q
theorem vr_keep (h : VR K Hf H v d) (e : Same Hf Hf1) (e2 : ∀ a, v = .ref a → d.isOwn = true → (Hf a = none → Hf1 a = none) ∧ ∀ o, H a = some o → H1 a = some o) : VR K Hf1 H1 v d := by
  cases d with
  | dat d => exact dp_mono e _ _ h
  | fn u => exact h
  | own i => exact h
  | lst xs => obtain ⟨a, rfl, h1, h2⟩ := h; exact ⟨a, rfl, (e2 a rfl rfl).1 h1, ownR_step h2 e (e2 a rfl rfl).2⟩
  | arg xs => obtain ⟨a, rfl, h1, h2⟩ := h; exact ⟨a, rfl, (e2 a rfl rfl).1 h1, ownR_step h2 e (e2 a rfl rfl).2⟩
  | dic xs => obtain ⟨a, rfl, h1, h2⟩ := h; exact ⟨a, rfl, (e2 a rfl rfl).1 h1, ownR_step h2 e (e2 a rfl rfl).2⟩
/-- a new frozen object -/
theorem st2_new {p : Addr} {o : HO} (E : ER K Hf H σ ρ) (h : H p = none) : St2 K σ Hf H ρ (upd Hf p o) (upd H p o) ρ := by
  have hf := E.hf_none h
  refine ⟨⟨same_new hf, fun b x q _ => same_new h b x q, fun b q => ?_, fun b x q n => ?_⟩, ⟨E.len, same_upd2 E.ex h, fun i d q => ?_, E.dj⟩, fun _ z => z, fun _ => Iff.rfl⟩
  · cases z : H b with
    | none => rfl
    | some u => rw [same_new h b u z] at q; cases q
  · by_cases z : b = p
    · exact .inl (z ▸ h)
    · rw [upd_ne z, n] at q; cases q
  · obtain ⟨v, h1, h2⟩ := E.sl i d q
    refine ⟨v, h1, vr_keep h2 (same_new hf) fun a ea ho => ?_⟩
    subst ea
    have na : a ≠ p := fun z => (E.ow ⟨i, d, q, ho, h1⟩).1 (z ▸ h)
    exact ⟨fun z => by rw [upd_ne na]; exact z, fun u z => same_new h a u z⟩
/-- a new object of one's own -/
theorem st2_newO {p : Addr} {o : HO} (E : ER K Hf H σ ρ) (h : H p = none) : St2 K σ Hf H ρ Hf (upd H p o) ρ := by
  refine ⟨⟨Same.refl _, fun b x q _ => same_new h b x q, fun b q => ?_, fun b x q n => by rw [n] at q; cases q⟩, ⟨E.len, E.ex.trans (same_new h), fun i d q => ?_, E.dj⟩, fun _ z => z, fun _ => Iff.rfl⟩
  · cases z : H b with
    | none => rfl
    | some u => rw [same_new h b u z] at q; cases q
  · obtain ⟨v, h1, h2⟩ := E.sl i d q
    exact ⟨v, h1, vr_keep h2 (Same.refl _) fun a ea ho => ⟨fun z => z, fun u z => same_new h a u z⟩⟩
theorem set_get {α : Type} {l : List α} {i j : Nat} {x y : α} (h : (l.set i x)[j]? = some y) : (i = j ∧ y = x) ∨ (i ≠ j ∧ l[j]? = some y) := by
  by_cases e : i = j
  · subst e
    by_cases hl : i < l.length
    · rw [List.getElem?_set_self hl] at h
      cases h
      exact .inl ⟨rfl, rfl⟩
    · rw [List.getElem?_eq_none (by simpa using hl)] at h
      cases h
  · rw [List.getElem?_set_ne e] at h
    exact .inr ⟨e, h⟩
/-- an object of one's own has changed -/
theorem st2_mut {i : Nat} {a : Addr} {d d' : DV} {o : HO} (E : ER K Hf H σ ρ) (hi : ρ[i]? = some (some d)) (ho : d.isOwn = true) (ha : σ[i]? = some (some (.ref a))) (ho' : d'.isOwn = true) (hk : (∃ xs, d' = .arg xs) ↔ ∃ xs, d = .arg xs)
    (hr : OwnR K Hf (upd H a o) a d') : St2 K σ Hf H ρ Hf (upd H a o) (ρ.set i (some d')) := by
  obtain ⟨h1, h2⟩ := E.ow ⟨i, d, hi, ho, ha⟩
  have hil : i < ρ.length := (List.getElem?_eq_some_iff.mp hi).1
  have back : ∀ {j : Nat} {e : DV}, (ρ.set i (some d'))[j]? = some (some e) → e.isOwn = true → ∃ e', ρ[j]? = some (some e') ∧ e'.isOwn = true := fun {j e} q oe => by
    rcases set_get q with ⟨rfl, e1⟩ | ⟨_, q⟩
    · exact ⟨d, hi, ho⟩
    · exact ⟨e, q, oe⟩
  refine ⟨⟨Same.refl _, fun b x q n => ?_, fun b q => ?_, fun b x q n => by rw [n] at q; cases q⟩, ⟨by rw [List.length_set]; exact E.len, fun b x q => ?_, fun j e q => ?_, fun j k e f b q1 q2 o1 o2 s1 s2 => ?_⟩, fun b ⟨j, e, q, oe, s⟩ => ?_, fun j => ?_⟩
  · rw [upd_ne (show b ≠ a from fun z => n (by rw [z]; exact ⟨i, d, hi, ho, ha⟩))]; exact q
  · by_cases z : b = a
    · rw [z, upd_same] at q; cases q
    · rw [upd_ne z] at q; exact q
  · have z : b ≠ a := fun z => by rw [z, h2] at q; cases q
    rw [upd_ne z]; exact E.ex b x q
  · rcases set_get q with ⟨rfl, e1⟩ | ⟨ne, q⟩
    · have e2 : e = d' := Option.some.inj e1
      subst e2
      refine ⟨.ref a, ha, ?_⟩
      cases e with
      | lst xs => exact ⟨a, rfl, h2, hr⟩
      | arg xs => exact ⟨a, rfl, h2, hr⟩
      | dic xs => exact ⟨a, rfl, h2, hr⟩
      | _ => cases ho'
    · obtain ⟨v, g1, g2⟩ := E.sl j e q
      refine ⟨v, g1, vr_keep g2 (Same.refl _) fun b eb oe => ⟨fun z => z, fun u z => ?_⟩⟩
      subst eb
      have nb : b ≠ a := fun z => ne (E.dj i j d e a hi q ho oe ha (z ▸ g1))
      rw [upd_ne nb]; exact z
  · obtain ⟨e', q1', o1'⟩ := back q1 o1
    obtain ⟨f', q2', o2'⟩ := back q2 o2
    exact E.dj j k e' f' b q1' q2' o1' o2' s1 s2
  · obtain ⟨e', q', oe'⟩ := back q oe
    exact ⟨j, e', q', oe', s⟩
  · constructor
    · rintro ⟨xs, q⟩
      rcases set_get q with ⟨rfl, e1⟩ | ⟨_, q⟩
      · obtain ⟨ys, e2⟩ := hk.mp ⟨xs, (Option.some.inj e1).symm⟩
        exact ⟨ys, by rw [hi, e2]⟩
      · exact ⟨xs, q⟩
    · rintro ⟨xs, q⟩
      by_cases e : i = j
      · subst e
        rw [hi] at q
        cases q
        obtain ⟨ys, e2⟩ := hk.mpr ⟨xs, rfl⟩
        exact ⟨ys, by rw [List.getElem?_set_self hil, e2]⟩
      · exact ⟨xs, by rw [List.getElem?_set_ne e]; exact q⟩
/-- a list that has come is frozen -/
theorem st2_freeze {xs : List PyData} (E : ER K Hf H σ ρ) (s : St2 K σ Hf H ρ Hf1 H1 ρ1) (r : RR K H Hf1 H1 σ v (.lst xs)) : ∃ Hf2, St2 K σ Hf H ρ Hf2 H1 ρ1 ∧ Dp K Hf2 v (.list xs) := by
  obtain ⟨⟨a, rfl, h1, vs, h2, h3⟩, h4⟩ := r
  have hn := h4 rfl a rfl
  have nO : ¬ Ow σ ρ a := fun z => (E.ow z).1 hn
  have e1 : Same Hf1 (upd Hf1 a (.lst vs)) := same_new h1
  refine ⟨upd Hf1 a (.lst vs), ⟨⟨s.st.fx.trans e1, s.st.fr, s.st.al, fun b o q n => ?_⟩, ⟨s.er.len, fun b o q => ?_, fun i d q => ?_, s.er.dj⟩, s.lo, s.ar⟩, .lst (.inl (.inl upd_same)) (dpAll_mono e1 _ _ h3)⟩
  · by_cases z : b = a
    · exact .inl (z ▸ hn)
    · rw [upd_ne z] at q; exact s.st.nf b o q n
  · by_cases z : b = a
    · subst z; rw [upd_same] at q; cases q; exact h2
    · rw [upd_ne z] at q; exact s.er.ex b o q
  · obtain ⟨u, g1, g2⟩ := s.er.sl i d q
    refine ⟨u, g1, vr_keep g2 e1 fun b eb oe => ⟨fun z => ?_, fun o z => z⟩⟩
    subst eb
    have nb : b ≠ a := fun z => nO (s.lo a ⟨i, d, q, oe, z ▸ g1⟩)
    rw [upd_ne nb]; exact z
end

/-! ### names and constants -/
section
variable {X : Cx} {pos : Pos}
def wName (i : Nat) : WE := fun ρ Q => match ρ[i]? with
  | some (some d) => if d.isOwn = true then Q (.own i) ρ else Q d ρ
  | _ => False
theorem xe_name {e : Expr} {i : Nat} (h : PE X e (tVar i)) : XE X e (tVar i) (wName i) := by
  refine ⟨h, fun Hf H σ ρ Q Q' E hw c => ?_⟩
  unfold wName at hw
  split at hw
  · rename_i d hd
    obtain ⟨v, h1, h2⟩ := E.sl i d hd
    refine ⟨v, h1, ?_⟩
    split at hw
    · exact c v Hf H (.own i) ρ (.refl E) h1 hw
    · rename_i no
      refine c v Hf H d ρ (.refl E) ?_ hw
      cases d with
      | own j => exact h2.elim
      | dat x => exact ⟨h2, fun z => nomatch z⟩
      | fn u => exact ⟨h2, fun z => nomatch z⟩
      | lst x => exact absurd rfl no
      | arg x => exact absurd rfl no
      | dic x => exact absurd rfl no
  · exact hw.elim
def wC (d : PyData) : WE := fun ρ Q => Q (.dat d) ρ
theorem xe_int {i j} : XE X (.Constant (.int i) j pos) (tC (.int i)) (wC (.int i)) := ⟨pe_int, fun _ _ _ _ _ _ E hw c => c.dat E (.int i) hw⟩
theorem xe_bl {b j} : XE X (.Constant (.bool b) j pos) (tC (.bl b)) (wC (.bool b)) := ⟨pe_bl, fun _ _ _ _ _ _ E hw c => c.dat E (.bl b) hw⟩
theorem xe_non {j} : XE X (.Constant .none j pos) (tC .non) (wC .none) := ⟨pe_non, fun _ _ _ _ _ _ E hw c => c.dat E .non hw⟩
theorem xe_str {x j} : XE X (.Constant (.str x) j pos) (tC (.str x)) (wC (.str x)) := ⟨pe_str, fun _ _ _ _ _ _ E hw c => c.dat E (.str x) hw⟩
/-- a global value: a def, a class -/
def wFn (v : V) : WE := fun ρ Q => Q (.fn v) ρ
theorem xe_glob {e : Expr} {v : V} (h : PE X e (tC v)) : XE X e (tC v) (wFn v) :=
  ⟨h, fun Hf H σ ρ Q Q' E hw c => c v Hf H (.fn v) ρ (.refl E) ⟨rfl, fun z => nomatch z⟩ hw⟩

/-! ### operations -/
abbrev WO := DV → DV → Den → (DV → Den → Prop) → Prop
structure XO (X : Cx) (f : Value → Value → Sem Value) (r : R2) (o : WO) : Prop where
  op : OpR X f r
  so : ∀ Hf H σ ρ Q Q' x y dx dy, ER X.K Hf H σ ρ → VS X.K Hf H σ x dx → VS X.K Hf H σ y dy → o dx dy ρ Q → CnE X.K σ Hf H ρ Q Q' → r x y H Q'
def wBin (o : WO) (wa wb : WE) : WE := fun ρ Q => wa ρ fun x ρ1 => wb ρ1 fun y ρ2 => o x y ρ2 Q
theorem bin_so {a b : Expr} {ta tb : TE} {wa wb : WE} {o : WO} {f : Value → Value → Sem Value} {r : R2} (ho : XO X f r o) (ha : XE X a ta wa) (hb : XE X b tb wb) {Hf H : Hp} {σ : St} {ρ : Den} {Q : DV → Den → Prop} {Q' : VK} (E : ER X.K Hf H σ ρ) (hw : wBin o wa wb ρ Q)
    (c : CnE X.K σ Hf H ρ Q Q') : tOp r ta tb σ H Q' := by
  refine ha.so Hf H σ ρ _ _ E hw fun x Hf1 H1 dx ρ1 s1 r1 q1 => ?_
  refine hb.so Hf1 H1 σ ρ1 _ _ s1.er q1 fun y Hf2 H2 dy ρ2 s2 r2 q2 => ?_
  exact ho.so Hf2 H2 σ ρ2 Q Q' x y dx dy s2.er (rr_step E s1 r1 s2).vs r2.vs q2 (c.step (s1.trans s2))
theorem xe_op {op : Operator} {a b : Expr} {ta tb : TE} {wa wb : WE} {o : WO} {r : R2} (ho : XO X (binaryOp op) r o) (ha : XE X a ta wa) (hb : XE X b tb wb) : XE X (.BinOp a op b pos) (tOp r ta tb) (wBin o wa wb) :=
  ⟨pe_op ho.op ha.pe hb.pe, fun Hf H σ ρ Q Q' E hw c => bin_so ho ha hb E hw c⟩
theorem xe_cmp {op : CmpOp} {a b : Expr} {ta tb : TE} {wa wb : WE} {o : WO} {r : R2} (ho : XO X (compareOp op) r o) (ha : XE X a ta wa) (hb : XE X b tb wb) (hm : behindInMarks op b = false) : XE X (.Compare a [op] [b] pos) (tOp r ta tb) (wBin o wa wb) :=
  ⟨pe_cmpR ho.op ha.pe hb.pe hm, fun Hf H σ ρ Q Q' E hw c => bin_so ho ha hb E hw c⟩
def wTest (w : WE) : WT := fun ρ Q => w ρ fun x ρ1 => match x with
  | .dat (.bool b) => Q b ρ1
  | _ => False
theorem test_so {e : Expr} {t : TE} {w : WE} (h : XE X e t w) {Hf H : Hp} {σ : St} {ρ : Den} {Q : Bool → Den → Prop} {Q' : Bool → Hp → Prop} (E : ER X.K Hf H σ ρ) (hw : wTest w ρ Q) (c : CnT X.K σ Hf H ρ Q Q') : t σ H fun x H' => ∃ k, x = .bl k ∧ Q' k H' := by
  refine h.so Hf H σ ρ _ _ E hw fun x Hf1 H1 d ρ1 s1 r1 q1 => ?_
  split at q1
  · cases r1.1
    exact ⟨_, rfl, c _ Hf1 H1 ρ1 s1 q1⟩
  · exact q1.elim
theorem xt_cmp {op : CmpOp} {a b : Expr} {ta tb : TE} {wa wb : WE} {o : WO} {r : R2} (ho : XO X (compareOp op) r o) (ha : XE X a ta wa) (hb : XE X b tb wb) (hm : behindInMarks op b = false) : XT X (.Compare a [op] [b] pos) (tTest (tOp r ta tb)) (wTest (wBin o wa wb)) :=
  ⟨pt_cmpR ho.op ha.pe hb.pe hm, fun Hf H σ ρ Q Q' E hw c => test_so (xe_cmp (pos := pos) ho ha hb hm) E hw c⟩
theorem xt_val {e : Expr} {t : TE} {w : WE} (h : XE X e t w) (he : ∀ whole, isTrue e X.env whole = (do let v ← whole; standAt e.pos; holding [v] (truthy v)) := by intro _; rfl) : XT X e (tB t) (wTest w) :=
  ⟨pt_val h.pe he, fun Hf H σ ρ Q Q' E hw c => test_so h E hw c⟩

/-- ints -/
def oInt (C : Int → Int → Prop) (g : Int → Int → PyData) : WO := fun x y ρ Q => match x, y with
  | .dat (.int i), .dat (.int j) => C i j ∧ Q (.dat (g i j)) ρ
  | _, _ => False
theorem int_so {C : Int → Int → Prop} {g : Int → Int → PyData} {Hf H : Hp} {σ : St} {ρ : Den} {Q : DV → Den → Prop} {x y : V} {dx dy : DV} {K : PySem.W.Frag} (hx : VS K Hf H σ x dx) (hy : VS K Hf H σ y dy) (h : oInt C g dx dy ρ Q) :
    ∃ i j, x = .int i ∧ y = .int j ∧ C i j ∧ Q (.dat (g i j)) ρ := by
  unfold oInt at h
  split at h
  · cases hx; cases hy; exact ⟨_, _, rfl, rfl, h⟩
  · exact h.elim
theorem xo_I {f : Value → Value → Sem Value} {C : Int → Int → Prop} {g : Int → Int → Int} (h : OpR X f (rI C fun i j => .int (g i j))) : XO X f (rI C fun i j => .int (g i j)) (oInt C fun i j => .int (g i j)) :=
  ⟨h, fun Hf H σ ρ Q Q' x y dx dy E hx hy ho c => by
    obtain ⟨i, j, rfl, rfl, hc, q⟩ := int_so hx hy ho
    exact ⟨i, j, rfl, rfl, hc, c.dat E (.int _) q⟩⟩
theorem xo_I0 {f : Value → Value → Sem Value} {g : Int → Int → Int} (h : OpR X f (rI0 fun i j => .int (g i j))) : XO X f (rI0 fun i j => .int (g i j)) (oInt (fun _ _ => True) fun i j => .int (g i j)) :=
  ⟨h, fun Hf H σ ρ Q Q' x y dx dy E hx hy ho c => by
    obtain ⟨i, j, rfl, rfl, hc, q⟩ := int_so hx hy ho
    exact ⟨i, j, rfl, rfl, c.dat E (.int _) q⟩⟩
theorem xo_B0 {f : Value → Value → Sem Value} {g : Int → Int → Bool} (h : OpR X f (rI0 fun i j => .bl (g i j))) : XO X f (rI0 fun i j => .bl (g i j)) (oInt (fun _ _ => True) fun i j => .bool (g i j)) :=
  ⟨h, fun Hf H σ ρ Q Q' x y dx dy E hx hy ho c => by
    obtain ⟨i, j, rfl, rfl, hc, q⟩ := int_so hx hy ho
    exact ⟨i, j, rfl, rfl, c.dat E (.bl _) q⟩⟩
theorem xo_add : XO X (binaryOp .Add) (rI0 fun i j => .int (i + j)) (oInt (fun _ _ => True) fun i j => .int (i + j)) := xo_I0 op_add
theorem xo_sub : XO X (binaryOp .Sub) (rI0 fun i j => .int (i - j)) (oInt (fun _ _ => True) fun i j => .int (i - j)) := xo_I0 op_sub
theorem xo_mul : XO X (binaryOp .Mult) (rI CMul fun i j => .int (i * j)) (oInt CMul fun i j => .int (i * j)) := xo_I op_mul
theorem xo_fdiv : XO X (binaryOp .FloorDiv) (rI CDiv fun i j => .int (i / j)) (oInt CDiv fun i j => .int (i / j)) := xo_I op_fdiv
theorem xo_mod : XO X (binaryOp .Mod) (rI (fun _ j => 0 < j) fun i j => .int (i % j)) (oInt (fun _ j => 0 < j) fun i j => .int (i % j)) := xo_I op_mod
theorem xo_lt : XO X (compareOp .Lt) (rI0 fun i j => .bl (decide (i < j))) (oInt (fun _ _ => True) fun i j => .bool (decide (i < j))) := xo_B0 op_lt
theorem xo_le : XO X (compareOp .LtE) (rI0 fun i j => .bl (decide (i ≤ j))) (oInt (fun _ _ => True) fun i j => .bool (decide (i ≤ j))) := xo_B0 op_le
theorem xo_gt : XO X (compareOp .Gt) (rI0 fun i j => .bl (decide (j < i))) (oInt (fun _ _ => True) fun i j => .bool (decide (j < i))) := xo_B0 op_gt
theorem xo_ge : XO X (compareOp .GtE) (rI0 fun i j => .bl (decide (j ≤ i))) (oInt (fun _ _ => True) fun i j => .bool (decide (j ≤ i))) := xo_B0 op_ge
theorem xo_iadd : XO X (inplaceOp .Add) (rI0 fun i j => .int (i + j)) (oInt (fun _ _ => True) fun i j => .int (i + j)) := xo_I0 iop_add
theorem xo_isub : XO X (inplaceOp .Sub) (rI0 fun i j => .int (i - j)) (oInt (fun _ _ => True) fun i j => .int (i - j)) := xo_I0 iop_sub

/-! ### data of one kind: what is read of a value -/
/-- a value as data, frozen or one's own -/
def ownDat : Option (Option DV) → Option PyData
  | some (some (.lst xs)) => some (.list xs)
  | some (some (.arg xs)) => some (.list xs)
  | _ => none
def datOf (ρ : Den) : DV → Option PyData
  | .dat d => some d
  | .lst xs => some (.list xs)
  | .own i => ownDat ρ[i]?
  | _ => none
theorem ownDat_some {q : Option (Option DV)} {x : PyData} (h : ownDat q = some x) : ∃ xs, x = .list xs ∧ (q = some (some (.lst xs)) ∨ q = some (some (.arg xs))) := by
  unfold ownDat at h
  split at h
  · cases h; exact ⟨_, rfl, .inl rfl⟩
  · cases h; exact ⟨_, rfl, .inr rfl⟩
  · cases h
theorem dat_of {K : PySem.W.Frag} {Hf H : Hp} {σ : St} {ρ : Den} {v : V} {d : DV} {x : PyData} (E : ER K Hf H σ ρ) (h : VS K Hf H σ v d) (e : datOf ρ d = some x) : Dp K H v x := by
  have own : ∀ {a : Addr} {xs : List PyData}, (∃ vs, H a = some (.lst vs) ∧ DpAll K Hf vs xs) → Dp K H (.ref a) (.list xs) := fun ⟨vs, h1, h2⟩ => .lst (.inl (.inl h1)) (dpAll_mono E.ex _ _ h2)
  cases d with
  | dat y => cases e; exact dp_mono E.ex _ _ h
  | lst xs =>
    cases e
    obtain ⟨a, rfl, _, h2⟩ := h
    exact own h2
  | own i =>
    obtain ⟨xs, rfl, q⟩ := ownDat_some e
    have h' : σ[i]? = some (some v) := h
    rcases q with q | q
    · obtain ⟨a, h1, h2, h3⟩ := E.own (d := .lst xs) q rfl
      rw [h1] at h'; cases h'
      exact own h3
    · obtain ⟨a, h1, h2, h3⟩ := E.own (d := .arg xs) q rfl
      rw [h1] at h'; cases h'
      exact own h3
  | _ => cases e
/-- == and != of data -/
def oEq (neg : Bool) : WO := fun x y ρ Q => match datOf ρ x, datOf ρ y with
  | some d, some e => SeqAt.shaped d = true ∧ SeqAt.shaped e = true ∧ Q (.dat (.bool (if neg then !PyData.eqv d e else PyData.eqv d e))) ρ
  | _, _ => False
theorem xo_eq (hu : X.A.units + 64 < cLine) : XO X (compareOp .Eq) (rEqD X.K) (oEq false) :=
  ⟨op_eqD hu, fun Hf H σ ρ Q Q' x y dx dy E hx hy ho c => by
    unfold oEq at ho
    split at ho
    · rename_i d e h1 h2
      exact ⟨d, e, Dp.old (dat_of E hx h1) (noD_can _ (SeqAt.canLay_of_shaped ho.1)), Dp.old (dat_of E hy h2) (noD_can _ (SeqAt.canLay_of_shaped ho.2.1)), ho.1, ho.2.1, c.dat E (.bl _) ho.2.2⟩
    · exact ho.elim⟩
theorem xo_ne (hu : X.A.units + 64 < cLine) : XO X (compareOp .NotEq) (rNeD X.K) (oEq true) :=
  ⟨op_neD hu, fun Hf H σ ρ Q Q' x y dx dy E hx hy ho c => by
    unfold oEq at ho
    split at ho
    · rename_i d e h1 h2
      exact ⟨d, e, Dp.old (dat_of E hx h1) (noD_can _ (SeqAt.canLay_of_shaped ho.1)), Dp.old (dat_of E hy h2) (noD_can _ (SeqAt.canLay_of_shaped ho.2.1)), ho.1, ho.2.1, c.dat E (.bl _) ho.2.2⟩
    · exact ho.elim⟩
/-- is None -/
def isNone : PyData → Bool
  | .none => true
  | _ => false
def oIsN (neg : Bool) : WO := fun x y ρ Q => match x, y with
  | .dat d, .dat .none => Q (.dat (.bool (if neg then !isNone d else isNone d))) ρ
  | _, _ => False
theorem isNone_dp {K : PySem.W.Frag} {H : Hp} {v : V} {d : PyData} (h : Dp K H v d) : decide (v = .non) = isNone d := by
  cases h <;> simp [isNone]
theorem xo_is : XO X (compareOp .Is) (fun x y H Q => y = .non ∧ Q (.bl (decide (x = .non))) H) (oIsN false) :=
  ⟨op_isN, fun Hf H σ ρ Q Q' x y dx dy E hx hy ho c => by
    unfold oIsN at ho
    split at ho
    · cases hy
      refine ⟨rfl, c.dat E (x := .bool _) (.bl _) ?_⟩
      rw [isNone_dp hx]; exact ho
    · exact ho.elim⟩
theorem xo_isNot : XO X (compareOp .IsNot) (fun x y H Q => y = .non ∧ Q (.bl (!decide (x = .non))) H) (oIsN true) :=
  ⟨op_notN, fun Hf H σ ρ Q Q' x y dx dy E hx hy ho c => by
    unfold oIsN at ho
    split at ho
    · cases hy
      refine ⟨rfl, c.dat E (x := .bool _) (.bl _) ?_⟩
      rw [isNone_dp hx]; exact ho
    · exact ho.elim⟩

/-! ### unary -/
def wNeg (w : WE) : WE := fun ρ Q => w ρ fun x ρ1 => match x with
  | .dat (.int i) => Q (.dat (.int (-i))) ρ1
  | _ => False
theorem xe_neg {a : Expr} {ta : TE} {wa : WE} (ha : XE X a ta wa) : XE X (.UnaryOp .USub a pos) (tUn (rU fun i => .int (-i)) ta) (wNeg wa) :=
  ⟨pe_un un_neg ha.pe, fun Hf H σ ρ Q Q' E hw c => by
    refine ha.so Hf H σ ρ _ _ E hw fun x Hf1 H1 d ρ1 s1 r1 q1 => ?_
    split at q1
    · cases r1.1
      exact ⟨_, rfl, (c.step s1).dat s1.er (.int _) q1⟩
    · exact q1.elim⟩

/-! ### tests -/
def wNot (w : WT) : WT := fun ρ Q => w ρ fun b ρ1 => Q (!b) ρ1
theorem xt_not {a : Expr} {t : TT} {w : WT} (h : XT X a t w) : XT X (.UnaryOp .Not a pos) (tNot t) (wNot w) :=
  ⟨pt_not h.pt, fun Hf H σ ρ Q Q' E hw c => h.so Hf H σ ρ _ _ E hw fun b Hf1 H1 ρ1 s1 q1 => c _ Hf1 H1 ρ1 s1 q1⟩
theorem XW.xt {e : Expr} {t : TT} {w : WT} (h : XW X e t w) : XT X e t w := ⟨h.pw.pt, h.so⟩
theorem xw_and1 {a : Expr} {t : TT} {w : WT} (h : XT X a t w) : XW X (.BoolOp .And [a] pos) t w := ⟨pw_and1 h.pt, h.so⟩
theorem xw_or1 {a : Expr} {t : TT} {w : WT} (h : XT X a t w) : XW X (.BoolOp .Or [a] pos) t w := ⟨pw_or1 h.pt, h.so⟩
def wAnd (w u : WT) : WT := fun ρ Q => w ρ fun b ρ1 => if b = true then u ρ1 Q else Q false ρ1
def wOr (w u : WT) : WT := fun ρ Q => w ρ fun b ρ1 => if b = true then Q true ρ1 else u ρ1 Q
theorem xw_and {a b : Expr} {rest : List Expr} {t u : TT} {w x : WT} (h : XT X a t w) (h2 : XW X (.BoolOp .And (b :: rest) pos) u x) : XW X (.BoolOp .And (a :: b :: rest) pos) (tAnd t u) (wAnd w x) :=
  ⟨pw_and h.pt h2.pw, fun Hf H σ ρ Q Q' E hw c => h.so Hf H σ ρ _ _ E hw fun k Hf1 H1 ρ1 s1 q1 => by
    cases k with
    | true => exact h2.so Hf1 H1 σ ρ1 Q Q' s1.er q1 (c.step s1)
    | false => exact c _ Hf1 H1 ρ1 s1 q1⟩
theorem xw_or {a b : Expr} {rest : List Expr} {t u : TT} {w x : WT} (h : XT X a t w) (h2 : XW X (.BoolOp .Or (b :: rest) pos) u x) : XW X (.BoolOp .Or (a :: b :: rest) pos) (tOr t u) (wOr w x) :=
  ⟨pw_or h.pt h2.pw, fun Hf H σ ρ Q Q' E hw c => h.so Hf H σ ρ _ _ E hw fun k Hf1 H1 ρ1 s1 q1 => by
    cases k with
    | false => exact h2.so Hf1 H1 σ ρ1 Q Q' s1.er q1 (c.step s1)
    | true => exact c _ Hf1 H1 ρ1 s1 q1⟩
/-- by truth -/
def truD : PyData → Option Bool
  | .none => some false
  | .bool b => some b
  | .int i => some (i != 0)
  | .list xs => some (!xs.isEmpty)
  | .tuple xs => some (!xs.isEmpty)
  | _ => none
def wTru (w : WE) : WT := fun ρ Q => w ρ fun x ρ1 => match (datOf ρ1 x).bind truD with
  | some b => Q b ρ1
  | none => False
theorem dpAll_empty {K : PySem.W.Frag} {H : Hp} {vs : List V} {ds : List PyData} (h : DpAll K H vs ds) : vs.isEmpty = ds.isEmpty := by cases h <;> rfl
theorem tru_of {K : PySem.W.Frag} {H : Hp} {v : V} {d : PyData} {b : Bool} (h : Dp K H v d) (e : truD d = some b) : TruV K v H b := by
  cases h with
  | non => cases e; rfl
  | bl c => cases e; rfl
  | int i => cases e; rfl
  | str x => cases e
  | lst hs ha => cases e; exact .inl ⟨_, hs, by rw [dpAll_empty ha]⟩
  | tup hs ha => cases e; exact .inr (.inl ⟨_, .inl (.inl hs), by rw [dpAll_empty ha]⟩)
  | dcT _ _ _ _ => cases e
  | dcK _ _ _ _ => cases e
theorem xt_tru {e : Expr} {t : TE} {w : WE} (h : XE X e t w) (he : ∀ whole, isTrue e X.env whole = (do let v ← whole; standAt e.pos; holding [v] (truthy v)) := by intro _; rfl) : XT X e (fun σ H Q => t σ H fun x H' => ∃ k, TruV X.K x H' k ∧ Q k H') (wTru w) :=
  ⟨pt_truth h.pe he, fun Hf H σ ρ Q Q' E hw c => by
    refine h.so Hf H σ ρ _ _ E hw fun x Hf1 H1 d ρ1 s1 r1 q1 => ?_
    split at q1
    · rename_i b hb
      obtain ⟨y, h1, h2⟩ := Option.bind_eq_some_iff.mp hb
      exact ⟨b, tru_of (dat_of s1.er r1.vs h1) h2, c b Hf1 H1 ρ1 s1 q1⟩
    · exact q1.elim⟩
/-- a if t else b -/
def wIf (t : WT) (a b : WE) : WE := fun ρ Q => t ρ fun k ρ1 => if k = true then a ρ1 Q else b ρ1 Q
theorem xe_if {c a b : Expr} {tc : TT} {ta tb : TE} {wc : WT} {wa wb : WE} (hc : XT X c tc wc) (ha : XE X a ta wa) (hb : XE X b tb wb) : XE X (.IfExp c a b pos) (tIf tc ta tb) (wIf wc wa wb) :=
  ⟨pe_ifExp hc.pt ha.pe hb.pe, fun Hf H σ ρ Q Q' E hw c => hc.so Hf H σ ρ _ _ E hw fun k Hf1 H1 ρ1 s1 q1 => by
    cases k with
    | true => exact ha.so Hf1 H1 σ ρ1 Q Q' s1.er q1 (c.step s1)
    | false => exact hb.so Hf1 H1 σ ρ1 Q Q' s1.er q1 (c.step s1)⟩
/-- and, or as values: bools -/
def wAndV (w u : WE) : WE := fun ρ Q => w ρ fun x ρ1 => match x with
  | .dat (.bool c) => if c = true then u ρ1 Q else Q (.dat (.bool false)) ρ1
  | _ => False
def wOrV (w u : WE) : WE := fun ρ Q => w ρ fun x ρ1 => match x with
  | .dat (.bool c) => if c = true then Q (.dat (.bool true)) ρ1 else u ρ1 Q
  | _ => False
theorem xe_one {op} {a : Expr} {t : TE} {w : WE} (h : XE X a t w) : XE X (.BoolOp op [a] pos) t w := ⟨pe_one h.pe, h.so⟩
theorem xe_and {a b : Expr} {rest : List Expr} {t u : TE} {w x : WE} (h : XE X a t w) (h2 : XE X (.BoolOp .And (b :: rest) pos) u x) : XE X (.BoolOp .And (a :: b :: rest) pos) (tAndV t u) (wAndV w x) :=
  ⟨pe_and h.pe h2.pe, fun Hf H σ ρ Q Q' E hw c => h.so Hf H σ ρ _ _ E hw fun v Hf1 H1 d ρ1 s1 r1 q1 => by
    split at q1
    · rename_i k
      cases r1.1
      refine ⟨k, rfl, ?_⟩
      cases k with
      | true => exact h2.so Hf1 H1 σ ρ1 Q Q' s1.er q1 (c.step s1)
      | false => exact (c.step s1).dat s1.er (.bl _) q1
    · exact q1.elim⟩
theorem xe_or {a b : Expr} {rest : List Expr} {t u : TE} {w x : WE} (h : XE X a t w) (h2 : XE X (.BoolOp .Or (b :: rest) pos) u x) : XE X (.BoolOp .Or (a :: b :: rest) pos) (tOrV t u) (wOrV w x) :=
  ⟨pe_or h.pe h2.pe, fun Hf H σ ρ Q Q' E hw c => h.so Hf H σ ρ _ _ E hw fun v Hf1 H1 d ρ1 s1 r1 q1 => by
    split at q1
    · rename_i k
      cases r1.1
      refine ⟨k, rfl, ?_⟩
      cases k with
      | false => exact h2.so Hf1 H1 σ ρ1 Q Q' s1.er q1 (c.step s1)
      | true => exact (c.step s1).dat s1.er (.bl _) q1
    · exact q1.elim⟩
def wNotV (w : WE) : WE := fun ρ Q => w ρ fun x ρ1 => match x with
  | .dat (.bool c) => Q (.dat (.bool (!c))) ρ1
  | _ => False
theorem xe_not {a : Expr} {t : TE} {w : WE} (h : XE X a t w) : XE X (.UnaryOp .Not a pos) (tNotV t) (wNotV w) :=
  ⟨pe_not h.pe, fun Hf H σ ρ Q Q' E hw c => h.so Hf H σ ρ _ _ E hw fun v Hf1 H1 d ρ1 s1 r1 q1 => by
    split at q1
    · rename_i k
      cases r1.1
      exact ⟨k, rfl, (c.step s1).dat s1.er (.bl _) q1⟩
    · exact q1.elim⟩
end
end DL
end
section
set_option Elab.async false
set_option linter.all false
set_option maxRecDepth 100000
set_option maxHeartbeats 1000000
namespace DL
open PySem L2

section
variable {K : PySem.W.Frag} {σ : St} {Hf H H0 Hf1 H1 : Hp} {ρ ρ1 : Den} {v : V} {d : DV} {Q : DV → Den → Prop} {Q' : VK}
theorem AV.vs (h : AV K Hf σ v d) : VS K Hf H σ v d := by
  cases d with
  | dat x => exact h
  | fn u => exact h
  | own i => exact h
  | _ => exact h.elim
/-- what is walked, indexed, cut -/
def seqOf (ρ : Den) (d : DV) : Option (Bool × List PyData) := match datOf ρ d with
  | some (.list xs) => some (false, xs)
  | some (.tuple xs) => some (true, xs)
  | _ => none
def Sq (K : PySem.W.Frag) (H : Hp) (a : Addr) (b : Bool) (vs : List V) : Prop := match b with
  | true => SqT K H a vs
  | false => SqL K H a vs
theorem Sq.mono {a : Addr} {b : Bool} {vs : List V} (e : Same H H1) (h : Sq K H a b vs) : Sq K H1 a b vs := by
  cases b with
  | true => exact sqT_mono e h
  | false => exact e.seq h
theorem Sq.or {a : Addr} {b : Bool} {vs : List V} (h : Sq K H a b vs) : SqL K H a vs ∨ SqT K H a vs := by
  cases b with
  | true => exact .inr h
  | false => exact .inl h
theorem seq_of {b : Bool} {ds : List PyData} (E : ER K Hf H σ ρ) (h : VS K Hf H σ v d) (e : seqOf ρ d = some (b, ds)) : ∃ a vs, v = .ref a ∧ Sq K H a b vs ∧ DpAll K Hf vs ds := by
  unfold seqOf at e
  cases d with
  | dat x =>
    have h : Dp K Hf v x := h
    cases h with
    | lst hs ha => cases e; exact ⟨_, _, rfl, E.ex.seq hs, ha⟩
    | tup hs ha => cases e; exact ⟨_, _, rfl, tupS E.ex hs, ha⟩
    | _ => cases e
  | lst xs =>
    cases e
    obtain ⟨a, rfl, _, vs, h1, h2⟩ := h
    exact ⟨a, vs, rfl, .inl (.inl h1), h2⟩
  | own i =>
    have h' : σ[i]? = some (some v) := h
    cases q : ownDat ρ[i]? with
    | none => rw [show datOf ρ (.own i) = ownDat ρ[i]? from rfl, q] at e; cases e
    | some y =>
      obtain ⟨xs, rfl, q2⟩ := ownDat_some q
      rw [show datOf ρ (.own i) = ownDat ρ[i]? from rfl, q] at e
      cases e
      rcases q2 with q2 | q2
      · obtain ⟨a, h1, h2, vs, h3, h4⟩ := E.own (d := .lst ds) q2 rfl
        rw [h1] at h'; cases h'
        exact ⟨a, vs, rfl, .inl (.inl h3), h4⟩
      · obtain ⟨a, h1, h2, vs, h3, h4⟩ := E.own (d := .arg ds) q2 rfl
        rw [h1] at h'; cases h'
        exact ⟨a, vs, rfl, .inl (.inl h3), h4⟩
  | _ => cases e
/-- a new tuple of data -/
theorem CnE.tup {vs : List V} {ds : List PyData} {p : Addr} (E : ER K Hf H σ ρ) (c : CnE K σ Hf H ρ Q Q') (ha : DpAll K Hf vs ds) (h : H p = none) (q : Q (.dat (.tuple ds)) ρ) : Q' (.ref p) (upd H p (.tup vs)) :=
  c (.ref p) _ _ (.dat (.tuple ds)) ρ (st2_new E h) ⟨.tup upd_same (dpAll_mono (same_new (E.hf_none h)) _ _ ha), fun z => nomatch z⟩ q
/-- a new list of data -/
theorem CnE.lst {vs : List V} {ds : List PyData} {p : Addr} (E : ER K Hf H σ ρ) (c : CnE K σ Hf H ρ Q Q') (ha : DpAll K Hf vs ds) (h : H p = none) (q : Q (.lst ds) ρ) : Q' (.ref p) (upd H p (.lst vs)) :=
  c (.ref p) _ _ (.lst ds) ρ (st2_newO E h) ⟨⟨p, rfl, E.hf_none h, vs, upd_same, ha⟩, fun _ a e => by cases e; exact h⟩ q
end

section
variable {X : Cx} {pos : Pos}
/-! ### arguments -/
def wNil : WA := fun ρ Q => Q [] ρ
def wCons (w : WE) (wa : WA) : WA := fun ρ Q => w ρ fun x ρ1 => match x with
  | .dat d => wa ρ1 fun xs ρ2 => Q (.dat d :: xs) ρ2
  | .fn v => wa ρ1 fun xs ρ2 => Q (.fn v :: xs) ρ2
  | .own i => wa ρ1 fun xs ρ2 => Q (.own i :: xs) ρ2
  | .lst l => wa ρ1 fun xs ρ2 => Q (.dat (.list l) :: xs) ρ2
  | _ => False
theorem xa_nil : XA X [] tNil wNil := ⟨pa_nil, fun Hf H σ ρ Q Q' E hw c => c [] Hf H [] ρ (.refl E) .nil hw⟩
theorem xa_cons {e : Expr} {es : List Expr} {t : TE} {ta : TA} {w : WE} {wa : WA} (h : XE X e t w) (h2 : XA X es ta wa) (hs : starEach (e :: es) X.env = (false, eval e X.env) :: starEach es X.env := by rfl) : XA X (e :: es) (tCons t ta) (wCons w wa) := by
  refine ⟨pa_cons h.pe h2.pa hs, fun Hf H σ ρ Q Q' E hw c => ?_⟩
  refine h.so Hf H σ ρ _ _ E hw fun x Hf1 H1 d ρ1 s1 r1 q1 => ?_
  have fin : ∀ {Hf2 : Hp} {d' : DV}, St2 X.K σ Hf H ρ Hf2 H1 ρ1 → AV X.K Hf2 σ x d' → wa ρ1 (fun xs ρ2 => Q (d' :: xs) ρ2) → ta σ H1 fun xs H2 => Q' (x :: xs) H2 := fun {Hf2 d'} s a q => by
    refine h2.so Hf2 H1 σ ρ1 _ _ s.er q fun ys Hf3 H3 ds ρ3 s3 r3 q3 => ?_
    exact c (x :: ys) Hf3 H3 (d' :: ds) ρ3 (s.trans s3) (.cons (a.mono s3.st.fx) r3) q3
  cases d with
  | dat y => exact fin (d' := .dat y) s1 r1.1 q1
  | fn u => exact fin (d' := .fn u) s1 r1.1 q1
  | own i => exact fin (d' := .own i) s1 r1 q1
  | lst xs =>
    obtain ⟨Hf2, s2, a2⟩ := st2_freeze E s1 r1
    exact fin (d' := .dat (.list xs)) s2 a2 q1
  | _ => exact q1.elim
def wStar (w : WE) (wa : WA) : WA := fun ρ Q => w ρ fun x ρ1 => match seqOf ρ1 x with
  | some (_, ds) => wa ρ1 fun xs ρ2 => Q (ds.map DV.dat ++ xs) ρ2
  | none => False
theorem avs_dats {K : PySem.W.Frag} {Hf : Hp} {σ : St} : ∀ {vs : List V} {ds : List PyData}, DpAll K Hf vs ds → AVs K Hf σ vs (ds.map DV.dat)
  | _, _, .nil => .nil
  | _, _, .cons h t => .cons h (avs_dats t)
theorem AVs.app {K : PySem.W.Frag} {Hf : Hp} {σ : St} : ∀ {vs us : List V} {ds es : List DV}, AVs K Hf σ vs ds → AVs K Hf σ us es → AVs K Hf σ (vs ++ us) (ds ++ es)
  | _, _, _, _, .nil, s => s
  | _, _, _, _, .cons h t, s => .cons h (AVs.app t s)
theorem xa_star {e : Expr} {es : List Expr} {t : TE} {ta : TA} {w : WE} {wa : WA} {p : Pos} (h : XE X e t w) (h2 : XA X es ta wa) (hs : starEach (.Starred e p :: es) X.env = (true, eval e X.env) :: starEach es X.env := by rfl) : XA X (.Starred e p :: es) (StX.tStar X.K t ta) (wStar w wa) := by
  refine ⟨StX.pa_star h.pe h2.pa hs, fun Hf H σ ρ Q Q' E hw c => ?_⟩
  refine h.so Hf H σ ρ _ _ E hw fun x Hf1 H1 d ρ1 s1 r1 q1 => ?_
  split at q1
  · rename_i b ds hq
    obtain ⟨a, vs, rfl, hs2, ha⟩ := seq_of s1.er r1.vs hq
    refine ⟨a, vs, rfl, hs2.or.symm, ?_⟩
    refine h2.so Hf1 H1 σ ρ1 _ _ s1.er q1 fun ys Hf3 H3 es ρ3 s3 r3 q3 => ?_
    exact c _ Hf3 H3 _ ρ3 (s1.trans s3) (AVs.app (avs_dats (dpAll_mono s3.st.fx _ _ ha)) r3) q3
  · exact q1.elim
/-- all of them data -/
def dats : List DV → Option (List PyData)
  | [] => some []
  | .dat d :: xs => (dats xs).map (d :: ·)
  | _ :: _ => none
theorem dats_of {K : PySem.W.Frag} {Hf : Hp} {σ : St} : ∀ {vs : List V} {xs : List DV} {ds : List PyData}, AVs K Hf σ vs xs → dats xs = some ds → DpAll K Hf vs ds
  | _, [], _, .nil, e => by cases e; exact .nil
  | _, .dat d :: xs, ds, .cons h t, e => by
    obtain ⟨es, h1, rfl⟩ := Option.map_eq_some_iff.mp (show (dats xs).map (d :: ·) = some ds from e)
    exact .cons h (dats_of t h1)
  | _, .fn _ :: _, _, .cons h t, e => by cases e
  | _, .lst _ :: _, _, .cons h t, e => by cases e
  | _, .arg _ :: _, _, .cons h t, e => by cases e
  | _, .dic _ :: _, _, .cons h t, e => by cases e
  | _, .own _ :: _, _, .cons h t, e => by cases e
theorem dats_map (ds : List PyData) (xs : List DV) : dats (ds.map DV.dat ++ xs) = (dats xs).map (ds ++ ·) := by
  induction ds with
  | nil => cases h : dats xs <;> simp [h]
  | cons d ds ih =>
    show (dats (ds.map DV.dat ++ xs)).map (d :: ·) = _
    rw [ih]
    cases h : dats xs <;> simp
theorem dats_map0 (ds : List PyData) : dats (ds.map DV.dat) = some ds := by
  have := dats_map ds []
  simpa [dats] using this
def wTup (wa : WA) : WE := fun ρ Q => wa ρ fun xs ρ1 => match dats xs with
  | some ds => ds.length ≤ sizeLine ∧ Q (.dat (.tuple ds)) ρ1
  | none => False
def wLst (wa : WA) : WE := fun ρ Q => wa ρ fun xs ρ1 => match dats xs with
  | some ds => ds.length ≤ sizeLine ∧ Q (.lst ds) ρ1
  | none => False
theorem xe_tup {es : List Expr} {k : Nat} {t : TA} {wa : WA} (h : XA X es t wa) : XE X (.Tuple es k pos) (tTup t) (wTup wa) :=
  ⟨pe_tup h.pa, fun Hf H σ ρ Q Q' E hw c => by
    refine h.so Hf H σ ρ _ _ E hw fun vs Hf1 H1 xs ρ1 s1 r1 q1 => ?_
    split at q1
    · rename_i ds hd
      have ha := dats_of r1 hd
      exact ⟨by rw [DpAll.length ha]; exact q1.1, fun p hp => (c.step s1).tup s1.er ha hp q1.2⟩
    · exact q1.elim⟩
theorem xe_lst {es : List Expr} {t : TA} {wa : WA} (h : XA X es t wa) : XE X (.List es pos) (tLst t) (wLst wa) :=
  ⟨pe_lst h.pa, fun Hf H σ ρ Q Q' E hw c => by
    refine h.so Hf H σ ρ _ _ E hw fun vs Hf1 H1 xs ρ1 s1 r1 q1 => ?_
    split at q1
    · rename_i ds hd
      have ha := dats_of r1 hd
      exact ⟨by rw [DpAll.length ha]; exact q1.1, fun p hp => (c.step s1).lst s1.er ha hp q1.2⟩
    · exact q1.elim⟩

/-! ### places, cuts -/
def oIx : WO := fun x y ρ Q => match seqOf ρ x, y with
  | some (_, ds), .dat (.int i) => match atI ds i with
    | some d => Q (.dat d) ρ
    | none => False
  | _, _ => False
theorem atI_dp {K : PySem.W.Frag} {H : Hp} {vs : List V} {ds : List PyData} {i : Int} {d : PyData} (ha : DpAll K H vs ds) (e : atI ds i = some d) : ∃ v, atI vs i = some v ∧ Dp K H v d := by
  unfold atI at e ⊢
  obtain ⟨j, h1, h2⟩ := Option.bind_eq_some_iff.mp e
  obtain ⟨v, h3, h4⟩ := DpAll.get ha h2
  exact ⟨v, by rw [DpAll.length ha, h1]; exact h3, h4⟩
theorem xe_ix {a b : Expr} {ta tb : TE} {wa wb : WE} (ha : XE X a ta wa) (hb : XE X b tb wb) (hs : PlainIx b) : XE X (.Subscript a b pos) (tOp (rIx X.K) ta tb) (wBin oIx wa wb) :=
  ⟨pe_ix ix_seq ha.pe hb.pe hs, fun Hf H σ ρ Q Q' E hw c => by
    refine ha.so Hf H σ ρ _ _ E hw fun x Hf1 H1 dx ρ1 s1 r1 q1 => ?_
    refine hb.so Hf1 H1 σ ρ1 _ _ s1.er q1 fun y Hf2 H2 dy ρ2 s2 r2 q2 => ?_
    have r1' := rr_step E s1 r1 s2
    unfold oIx at q2
    split at q2
    · rename_i b ds i hq
      split at q2
      · rename_i d hd
        obtain ⟨p, vs, rfl, h1, h2⟩ := seq_of s2.er r1'.vs hq
        obtain ⟨v, h3, h4⟩ := atI_dp h2 hd
        cases r2.1
        have fin : Q' v H2 := (c.step (s1.trans s2)).dat s2.er h4 q2
        cases b with
        | true => exact .inr (.inl ⟨p, vs, i, v, rfl, rfl, h1, h3, fin⟩)
        | false => exact .inl ⟨p, vs, i, v, rfl, rfl, h1, h3, fin⟩
      · exact q2.elim
    · exact q2.elim⟩
def cutD {α : Type} (xs : List α) (lo hi : Option Int) : List α := (xs.drop (HT.sIx xs.length 0 lo)).take (HT.sIx xs.length xs.length hi - HT.sIx xs.length 0 lo)
abbrev WP := Den → (Option Int → Den → Prop) → Prop
structure XP (X : Cx) (e : Option Expr) (t : TO) (w : WP) : Prop where
  po : PO X e t
  so : ∀ Hf H σ ρ (Q : Option Int → Den → Prop) (Q' : Option Int → Hp → Prop), ER X.K Hf H σ ρ → w ρ Q → (∀ o Hf' H' ρ', St2 X.K σ Hf H ρ Hf' H' ρ' → Q o ρ' → Q' o H') → t σ H Q'
def wNoPart : WP := fun ρ Q => Q none ρ
def wPart (w : WE) : WP := fun ρ Q => w ρ fun x ρ1 => match x with
  | .dat (.int i) => Q (some i) ρ1
  | _ => False
theorem xp_none : XP X none tNoPart wNoPart := ⟨po_none, fun Hf H σ ρ Q Q' E hw c => c none Hf H ρ (.refl E) hw⟩
theorem xp_some {e : Expr} {t : TE} {w : WE} (h : XE X e t w) : XP X (some e) (tPart t) (wPart w) :=
  ⟨po_some h.pe, fun Hf H σ ρ Q Q' E hw c => by
    refine h.so Hf H σ ρ _ _ E hw fun x Hf1 H1 d ρ1 s1 r1 q1 => ?_
    split at q1
    · cases r1.1
      exact ⟨_, rfl, c _ Hf1 H1 ρ1 s1 q1⟩
    · exact q1.elim⟩
def wSl (w : WE) (wl wh : WP) : WE := fun ρ Q => w ρ fun x ρ1 => wl ρ1 fun lo ρ2 => wh ρ2 fun hi ρ3 => match seqOf ρ3 x with
  | some (true, ds) => Q (.dat (.tuple (cutD ds lo hi))) ρ3
  | some (false, ds) => Q (.lst (cutD ds lo hi)) ρ3
  | none => False
theorem cut_dp {K : PySem.W.Frag} {H : Hp} {vs : List V} {ds : List PyData} (lo hi : Option Int) (h : DpAll K H vs ds) : DpAll K H (cutV vs lo hi) (cutD ds lo hi) := by
  unfold cutV cutD
  rw [DpAll.length h]
  exact DpAll.take _ (DpAll.drop _ h)
theorem xe_sl {e : Expr} {lo hi : Option Expr} {t : TE} {tl th : TO} {w : WE} {wl wh : WP} {p2 : Pos} (h : XE X e t w) (hl : XP X lo tl wl) (hh : XP X hi th wh) :
    XE X (.Subscript e (.Slice lo hi none p2) pos) (tSl (fun x l u H Q => rSlA X.K x l u H Q ∨ rSlL X.K x l u H Q) t tl th) (wSl w wl wh) :=
  ⟨pe_slice (SlR.or sl_tupA sl_list) h.pe hl.po hh.po, fun Hf H σ ρ Q Q' E hw c => by
    refine h.so Hf H σ ρ _ _ E hw fun x Hf1 H1 dx ρ1 s1 r1 q1 => ?_
    refine hl.so Hf1 H1 σ ρ1 _ _ s1.er q1 fun l Hf2 H2 ρ2 s2 q2 => ?_
    refine hh.so Hf2 H2 σ ρ2 _ _ s2.er q2 fun u Hf3 H3 ρ3 s3 q3 => ?_
    have r1' := rr_step E s1 r1 (s2.trans s3)
    have c' := c.step (s1.trans (s2.trans s3))
    split at q3
    · rename_i ds hq
      obtain ⟨a, vs, rfl, h1, h2⟩ := seq_of s3.er r1'.vs hq
      refine .inl ⟨a, vs, rfl, h1, fun hw => ?_, fun _ p hp => c'.tup s3.er (cut_dp l u h2) hp q3⟩
      have e : cutD ds l u = ds := by
        unfold cutD
        rw [← DpAll.length h2, hw.1, hw.2, DpAll.length h2]
        simp
      rw [e] at q3
      have hb := h1
      refine c' (.ref a) Hf3 H3 (.dat (.tuple ds)) ρ3 (.refl s3.er) ⟨?_, fun z => nomatch z⟩ q3
      cases dx with
      | dat y =>
        have hy : y = .tuple ds := by
          unfold seqOf at hq
          cases y <;> first | (cases hq; rfl) | cases hq
        subst hy
        exact r1'.1
      | own i =>
        unfold seqOf at hq
        rw [show datOf ρ3 (.own i) = ownDat ρ3[i]? from rfl] at hq
        cases q : ownDat ρ3[i]? with
        | none => rw [q] at hq; cases hq
        | some z =>
          obtain ⟨xs, rfl, _⟩ := ownDat_some q
          rw [q] at hq; cases hq
      | _ => cases hq
    · rename_i ds hq
      obtain ⟨a, vs, rfl, h1, h2⟩ := seq_of s3.er r1'.vs hq
      exact .inr ⟨a, vs, rfl, h1, fun p hp => c'.lst s3.er (cut_dp l u h2) hp q3⟩
    · exact q3.elim⟩
/-- t + u -/
def oCat : WO := fun x y ρ Q => match x, y with
  | .dat (.tuple ds), .dat (.tuple es) => ds.length + es.length ≤ sizeLine ∧ Q (.dat (.tuple (ds ++ es))) ρ
  | _, _ => False
theorem dpAll_nil {K : PySem.W.Frag} {H : Hp} {ds : List PyData} (h : DpAll K H [] ds) : ds = [] := by cases h; rfl
theorem xo_catT : XO X (binaryOp .Add) (rCatA X.K) oCat :=
  ⟨op_catA, fun Hf H σ ρ Q Q' x y dx dy E hx hy ho c => by
    unfold oCat at ho
    split at ho
    · rename_i ds es
      have hx : Dp X.K Hf x (.tuple ds) := hx
      have hy : Dp X.K Hf y (.tuple es) := hy
      cases hx with
      | tup s1 a1 =>
        cases hy with
        | tup s2 a2 =>
          refine ⟨_, _, _, _, rfl, rfl, tupS E.ex s1, tupS E.ex s2, by rw [DpAll.length a1, DpAll.length a2]; exact ho.1, fun e => ?_, fun _ e => ?_, fun _ _ p hp => c.tup E (DpAll.app a1 a2) hp ho.2⟩
          · subst e
            have := dpAll_nil a1
            subst this
            exact c.dat E (.tup s2 a2) ho.2
          · subst e
            have := dpAll_nil a2
            subst this
            have q := ho.2
            rw [List.append_nil] at q
            exact c.dat E (.tup s1 a1) q
    · exact ho.elim⟩

/-! ### calls of built-ins -/
abbrev WC := List DV → Den → (DV → Den → Prop) → Prop
structure XC (X : Cx) (f : Value) (r : List V → Hp → VK → Prop) (o : WC) : Prop where
  cr : CallR X f r
  so : ∀ Hf H σ ρ Q Q' vs ds, ER X.K Hf H σ ρ → AVs X.K Hf σ vs ds → o ds ρ Q → CnE X.K σ Hf H ρ Q Q' → r vs H Q'
def wCall (o : WC) (wa : WA) : WE := fun ρ Q => wa ρ fun xs ρ1 => o xs ρ1 Q
theorem xe_callB {id : String} {x : Str} {p : Pos} {e : Expr} {es : List Expr} {t : TA} {wa : WA} {r : List V → Hp → VK → Prop} {o : WC} (hc : XC X (.builtin id) r o) (hg : Gl X x) (hm : X.mg x = none) (hv : bootBuiltins x = some (.builtin id)) (ha : XA X (e :: es) t wa) (hn : x ≠ "__name__" := by decide)
    (hdb : (x == ("__debug__" : Str)) = false := by decide) (he : starEach (e :: es) X.env = (false, eval e X.env) :: starEach es X.env := by rfl) (hpl : (backTo pos (starEach es X.env)).any (·.1) = false := by rfl) : XE X (.Call (.Name x p) (e :: es) [] pos) (tCB r t) (wCall o wa) :=
  ⟨pe_callB hc.cr hg hm hv ha.pa hn hdb he hpl, fun Hf H σ ρ Q Q' E hw c => ha.so Hf H σ ρ _ _ E hw fun vs Hf1 H1 xs ρ1 s1 r1 q1 => hc.so Hf1 H1 σ ρ1 Q Q' vs xs s1.er r1 q1 (c.step s1)⟩
theorem xe_callTy {T : String} {x : Str} {p : Pos} {e : Expr} {es : List Expr} {t : TA} {wa : WA} {r : List V → Hp → VK → Prop} {o : WC} (hc : XC X (.type T) r o) (hg : Gl X x) (hm : X.mg x = none) (hv : bootBuiltins x = some (.type T)) (ha : XA X (e :: es) t wa) (hn : x ≠ "__name__" := by decide)
    (hdb : (x == ("__debug__" : Str)) = false := by decide) (he : starEach (e :: es) X.env = (false, eval e X.env) :: starEach es X.env := by rfl) (hpl : (backTo pos (starEach es X.env)).any (·.1) = false := by rfl) : XE X (.Call (.Name x p) (e :: es) [] pos) (tCB r t) (wCall o wa) :=
  ⟨pe_callTy hc.cr hg hm hv ha.pa hn hdb he hpl, fun Hf H σ ρ Q Q' E hw c => ha.so Hf H σ ρ _ _ E hw fun vs Hf1 H1 xs ρ1 s1 r1 q1 => hc.so Hf1 H1 σ ρ1 Q Q' vs xs s1.er r1 q1 (c.step s1)⟩
theorem avs1 {K : PySem.W.Frag} {Hf : Hp} {σ : St} {vs : List V} {d : DV} (h : AVs K Hf σ vs [d]) : ∃ v, vs = [v] ∧ AV K Hf σ v d := by
  cases h with
  | cons h t => cases t; exact ⟨_, rfl, h⟩
theorem avs2 {K : PySem.W.Frag} {Hf : Hp} {σ : St} {vs : List V} {d e : DV} (h : AVs K Hf σ vs [d, e]) : ∃ v u, vs = [v, u] ∧ AV K Hf σ v d ∧ AV K Hf σ u e := by
  cases h with
  | cons h t => cases t with
    | cons h2 t2 => cases t2; exact ⟨_, _, rfl, h, h2⟩
def oLen : WC := fun xs ρ Q => match xs with
  | [x] => match seqOf ρ x with
    | some (_, ds) => Q (.dat (.int (ds.length : Nat))) ρ
    | none => False
  | _ => False
theorem xc_len : XC X (.builtin "len") (fun xs H Q => ∃ p ys, xs = [.ref p] ∧ (SqL X.K H p ys ∨ SqT X.K H p ys) ∧ Q (.int ys.length) H) oLen :=
  ⟨call_len_seq, fun Hf H σ ρ Q Q' vs ds E ha ho c => by
    unfold oLen at ho
    split at ho
    · rename_i x
      obtain ⟨v, rfl, hv⟩ := avs1 ha
      split at ho
      · rename_i b ds hq
        obtain ⟨a, vs, rfl, h1, h2⟩ := seq_of E hv.vs hq
        refine ⟨a, vs, rfl, h1.or, c.dat E (x := .int _) (.int _) ?_⟩
        rw [DpAll.length h2]; exact ho
      · exact ho.elim
    · exact ho.elim⟩
def oMax2 : WC := fun xs ρ Q => match xs with
  | [.dat (.int i), .dat (.int j)] => Q (.dat (.int (max i j))) ρ
  | _ => False
def oMin2 : WC := fun xs ρ Q => match xs with
  | [.dat (.int i), .dat (.int j)] => Q (.dat (.int (min i j))) ρ
  | _ => False
theorem xc_max2 (hc : X.calm = true := by rfl) : XC X (.builtin "max") (fun xs H Q => ∃ i j, xs = [.int i, .int j] ∧ Q (.int (if j > i then j else i)) H) oMax2 :=
  ⟨call_max2 hc, fun Hf H σ ρ Q Q' vs ds E ha ho c => by
    unfold oMax2 at ho
    split at ho
    · rename_i i j
      obtain ⟨v, u, rfl, h1, h2⟩ := avs2 ha
      cases h1; cases h2
      refine ⟨i, j, rfl, c.dat E (x := .int _) (.int _) ?_⟩
      rw [show (if j > i then j else i) = max i j by split <;> omega]; exact ho
    · exact ho.elim⟩
theorem xc_min2 (hc : X.calm = true := by rfl) : XC X (.builtin "min") (fun xs H Q => ∃ i j, xs = [.int i, .int j] ∧ Q (.int (if j < i then j else i)) H) oMin2 :=
  ⟨call_min2 hc, fun Hf H σ ρ Q Q' vs ds E ha ho c => by
    unfold oMin2 at ho
    split at ho
    · rename_i i j
      obtain ⟨v, u, rfl, h1, h2⟩ := avs2 ha
      cases h1; cases h2
      refine ⟨i, j, rfl, c.dat E (x := .int _) (.int _) ?_⟩
      rw [show (if j < i then j else i) = min i j by split <;> omega]; exact ho
    · exact ho.elim⟩
def oTuple : WC := fun xs ρ Q => match xs with
  | [x] => match seqOf ρ x with
    | some (_, ds) => Q (.dat (.tuple ds)) ρ
    | none => False
  | _ => False
theorem xc_tuple : XC X (.type "tuple") (fun xs H Q => ∃ p ys, xs = [.ref p] ∧ ((SqL X.K H p ys ∧ ∀ l, H l = none → Q (.ref l) (upd H l (.tup ys))) ∨ (SqT X.K H p ys ∧ Q (.ref p) H))) oTuple :=
  ⟨call_tuple_of, fun Hf H σ ρ Q Q' vs ds E ha ho c => by
    unfold oTuple at ho
    split at ho
    · rename_i x
      obtain ⟨v, rfl, hv⟩ := avs1 ha
      split at ho
      · rename_i b ds hq
        obtain ⟨a, vs, rfl, h1, h2⟩ := seq_of E hv.vs hq
        refine ⟨a, vs, rfl, ?_⟩
        cases b with
        | false => exact .inl ⟨h1, fun l hl => c.tup E h2 hl ho⟩
        | true =>
          refine .inr ⟨h1, c (.ref a) Hf H (.dat (.tuple ds)) ρ (.refl E) ⟨?_, fun z => nomatch z⟩ ho⟩
          cases x with
          | dat y =>
            have hy : y = .tuple ds := by
              unfold seqOf at hq
              cases y <;> first | (cases hq; rfl) | cases hq
            subst hy
            exact hv
          | own i =>
            unfold seqOf at hq
            rw [show datOf ρ (.own i) = ownDat ρ[i]? from rfl] at hq
            cases q : ownDat ρ[i]? with
            | none => rw [q] at hq; cases hq
            | some z =>
              obtain ⟨xs, rfl, _⟩ := ownDat_some q
              rw [q] at hq; cases hq
          | _ => cases hq
      · exact ho.elim
    · exact ho.elim⟩
def oList : WC := fun xs ρ Q => match xs with
  | [x] => match seqOf ρ x with
    | some (_, ds) => Q (.lst ds) ρ
    | none => False
  | _ => False
theorem xc_list : XC X (.type "list") (fun xs H Q => ∃ p ys, xs = [.ref p] ∧ (SqL X.K H p ys ∨ SqT X.K H p ys) ∧ ∀ l, H l = none → Q (.ref l) (upd H l (.lst ys))) oList :=
  ⟨call_list_of, fun Hf H σ ρ Q Q' vs ds E ha ho c => by
    unfold oList at ho
    split at ho
    · rename_i x
      obtain ⟨v, rfl, hv⟩ := avs1 ha
      split at ho
      · rename_i b ds hq
        obtain ⟨a, vs, rfl, h1, h2⟩ := seq_of E hv.vs hq
        exact ⟨a, vs, rfl, h1.or, fun l hl => c.lst E h2 hl ho⟩
      · exact ho.elim
    · exact ho.elim⟩
def oInt1 : WC := fun xs ρ Q => match xs with
  | [.dat (.int i)] => Q (.dat (.int i)) ρ
  | _ => False
theorem xc_int : XC X (.type "int") (fun xs H Q => (∃ i, xs = [.int i] ∧ Q (.int i) H) ∨ ∃ k, xs = [.bl k] ∧ Q (.int (if k then 1 else 0)) H) oInt1 :=
  ⟨call_int1, fun Hf H σ ρ Q Q' vs ds E ha ho c => by
    unfold oInt1 at ho
    split at ho
    · rename_i i
      obtain ⟨v, rfl, h1⟩ := avs1 ha
      cases h1
      exact .inl ⟨i, rfl, c.dat E (.int _) ho⟩
    · exact ho.elim⟩
end
end DL
end
section
set_option Elab.async false
set_option linter.all false
set_option maxRecDepth 100000
set_option maxHeartbeats 1000000
namespace DL
open PySem L2

/-! ### a name whose list is frozen -/
section
variable {K : PySem.W.Frag} {σ : St} {Hf H H0 Hf1 H1 : Hp} {ρ ρ1 : Den} {v : V} {d : DV} {Q : DV → Den → Prop} {Q' : VK}
theorem st2_frz {i : Nat} {xs : List PyData} {v : V} (E : ER K Hf H σ ρ) (hi : ρ[i]? = some (some (.lst xs))) (hv : σ[i]? = some (some v)) :
    ∃ Hf2, St2 K σ Hf H ρ Hf2 H (ρ.set i (some (.dat (.list xs)))) ∧ Dp K Hf2 v (.list xs) := by
  obtain ⟨a, h1, h2, vs, h3, h4⟩ := E.own (d := .lst xs) hi rfl
  rw [h1] at hv; cases hv
  have hil : i < ρ.length := (List.getElem?_eq_some_iff.mp hi).1
  have e1 : Same Hf (upd Hf a (.lst vs)) := same_new h2
  have dp : Dp K (upd Hf a (.lst vs)) (.ref a) (.list xs) := .lst (.inl (.inl upd_same)) (dpAll_mono e1 _ _ h4)
  have back : ∀ {j : Nat} {e : DV}, (ρ.set i (some (.dat (.list xs))))[j]? = some (some e) → e.isOwn = true → i ≠ j ∧ ρ[j]? = some (some e) := fun {j e} q oe => by
    rcases set_get q with ⟨_, e1⟩ | q
    · cases e1; cases oe
    · exact q
  refine ⟨upd Hf a (.lst vs), ⟨⟨e1, fun b o q _ => q, fun _ q => q, fun b o q n => ?_⟩, ⟨by rw [List.length_set]; exact E.len, fun b o q => ?_, fun j e q => ?_, fun j k e f b q1 q2 o1 o2 s1 s2 => ?_⟩, fun b ⟨j, e, q, oe, s⟩ => ⟨j, e, (back q oe).2, oe, s⟩, fun j => ?_⟩, dp⟩
  · by_cases z : b = a
    · exact .inr (.inl (z ▸ ⟨i, _, hi, rfl, h1⟩))
    · rw [upd_ne z, n] at q; cases q
  · by_cases z : b = a
    · subst z; rw [upd_same] at q; cases q; exact h3
    · rw [upd_ne z] at q; exact E.ex b o q
  · rcases set_get q with ⟨rfl, e1'⟩ | ⟨ne, q⟩
    · cases e1'
      exact ⟨.ref a, h1, dp⟩
    · obtain ⟨u, g1, g2⟩ := E.sl j e q
      refine ⟨u, g1, vr_keep g2 e1 fun b eb oe => ⟨fun z => ?_, fun o z => z⟩⟩
      subst eb
      have nb : b ≠ a := fun z => ne (E.dj i j _ e a hi q rfl oe h1 (z ▸ g1))
      rw [upd_ne nb]; exact z
  · exact E.dj j k e f b (back q1 o1).2 (back q2 o2).2 o1 o2 s1 s2
  · constructor
    · rintro ⟨ys, q⟩
      exact ⟨ys, (back q rfl).2⟩
    · rintro ⟨ys, q⟩
      have ne : i ≠ j := fun e => by rw [← e, hi] at q; cases q
      exact ⟨ys, by rw [List.getElem?_set_ne ne]; exact q⟩
end
def wNameF (i : Nat) : WE := fun ρ Q => match ρ[i]? with
  | some (some (.lst xs)) => Q (.dat (.list xs)) (ρ.set i (some (.dat (.list xs))))
  | some (some d) => if d.isOwn = true then Q (.own i) ρ else Q d ρ
  | _ => False
theorem xe_nameF {X : Cx} {e : Expr} {i : Nat} (h : PE X e (tVar i)) : XE X e (tVar i) (wNameF i) := by
  refine ⟨h, fun Hf H σ ρ Q Q' E hw c => ?_⟩
  unfold wNameF at hw
  split at hw
  · rename_i xs hd
    obtain ⟨v, h1, h2⟩ := E.sl i _ hd
    obtain ⟨Hf2, s2, d2⟩ := st2_frz E hd h1
    exact ⟨v, h1, c v Hf2 H (.dat (.list xs)) _ s2 ⟨d2, fun z => nomatch z⟩ hw⟩
  · rename_i d nl hd
    exact (xe_name h).so Hf H σ ρ Q Q' E (by unfold wName; rw [hd]; exact hw) c
  · exact hw.elim

/-! ### calls of defs -/
abbrev DSpec := List DV → (DV → List DV → Prop) → Prop
def argOk : DV → Bool
  | .dat _ => true
  | .fn _ => true
  | .arg _ => true
  | _ => false
def Shp : List DV → List DV → Prop := Paired fun d o => match d with
  | .arg _ => ∃ ys, o = .arg ys
  | d => o = d
def spD (K : PySem.W.Frag) (S : DSpec) : Sp := fun vs H Q _ => ∃ (Hf : Hp) (ds : List DV) (K' : DV → List DV → Prop), ER K Hf H (vs.map some) (ds.map some) ∧ ds.all argOk = true ∧ S ds K' ∧
  ∀ v Hf' H' r outs, Stp Hf H Hf' H' (Ow (vs.map some) (ds.map some)) → ER K Hf' H' (vs.map some) (outs.map some) → Shp ds outs → VR K Hf' H' v r → (r.isOwn = true → ∀ a, v = .ref a → H a = none) → K' r outs → Q v H'
def toArg (ρ : Den) : DV → Option DV
  | .own i => match ownDat ρ[i]? with
    | some (.list xs) => some (.arg xs)
    | _ => none
  | .dat d => some (.dat d)
  | .fn v => some (.fn v)
  | _ => none
def toArgs (ρ : Den) : List DV → Option (List DV)
  | [] => some []
  | x :: xs => (toArg ρ x).bind fun d => (toArgs ρ xs).map (d :: ·)
def owns : List DV → List Nat
  | [] => []
  | .own i :: xs => i :: owns xs
  | _ :: xs => owns xs
def findOut (j : Nat) : List DV → List DV → Option (List PyData)
  | .own i :: xs, o :: os => if i = j then (match o with | .arg ys => some ys | _ => none) else findOut j xs os
  | _ :: xs, _ :: os => findOut j xs os
  | _, _ => none
def pb1 (d : Option DV) (o : Option (List PyData)) : Option DV := match d, o with
  | some (.lst _), some ys => some (.lst ys)
  | some (.arg _), some ys => some (.arg ys)
  | d, _ => d
def pbGo (k : Nat) (xs outs : List DV) : Den → Den
  | [] => []
  | d :: r => pb1 d (findOut k xs outs) :: pbGo (k + 1) xs outs r
abbrev putBack (xs outs : List DV) (ρ : Den) : Den := pbGo 0 xs outs ρ
theorem pbGo_get {xs outs : List DV} : ∀ (ρ : Den) (k j : Nat), (pbGo k xs outs ρ)[j]? = (ρ[j]?).map fun d => pb1 d (findOut (k + j) xs outs)
  | [], k, j => by simp [pbGo]
  | d :: r, k, 0 => by simp [pbGo]
  | d :: r, k, j + 1 => by
    show (pb1 d (findOut k xs outs) :: pbGo (k + 1) xs outs r)[j + 1]? = _
    rw [List.getElem?_cons_succ, pbGo_get r (k + 1) j, List.getElem?_cons_succ, show k + 1 + j = k + (j + 1) by omega]
theorem pbGo_len {xs outs : List DV} : ∀ (ρ : Den) (k : Nat), (pbGo k xs outs ρ).length = ρ.length
  | [], _ => rfl
  | d :: r, k => congrArg (· + 1) (pbGo_len r (k + 1))
def wUser (S : DSpec) (wa : WA) : WE := fun ρ Q => wa ρ fun xs ρ1 => (owns xs).Nodup ∧ match toArgs ρ1 xs with
  | some ds => S ds fun r outs => Q r (putBack xs outs ρ1)
  | none => False

section
variable {K : PySem.W.Frag} {σ : St} {Hf H : Hp} {ρ : Den}
theorem toArg_ok {x d : DV} (h : toArg ρ x = some d) : argOk d = true ∧ ((d = x ∧ x.isOwn = false) ∨ ∃ i xs, x = .own i ∧ d = .arg xs ∧ (ρ[i]? = some (some (.lst xs)) ∨ ρ[i]? = some (some (.arg xs)))) := by
  cases x with
  | own i =>
    cases q : ownDat ρ[i]? with
    | none => rw [show toArg ρ (.own i) = (match ownDat ρ[i]? with | some (.list xs) => some (.arg xs) | _ => none) from rfl, q] at h; cases h
    | some y =>
      obtain ⟨xs, rfl, q2⟩ := ownDat_some q
      rw [show toArg ρ (.own i) = (match ownDat ρ[i]? with | some (.list xs) => some (.arg xs) | _ => none) from rfl, q] at h
      cases h
      exact ⟨rfl, .inr ⟨i, xs, rfl, rfl, q2⟩⟩
  | dat y => cases h; exact ⟨rfl, .inl ⟨rfl, rfl⟩⟩
  | fn u => cases h; exact ⟨rfl, .inl ⟨rfl, rfl⟩⟩
  | _ => cases h
/-- the arguments, place by place -/
theorem args_at (E : ER K Hf H σ ρ) : ∀ {vs : List V} {xs ds : List DV}, AVs K Hf σ vs xs → toArgs ρ xs = some ds →
    ∀ (i : Nat) (d : DV), ds[i]? = some d → ∃ v x, vs[i]? = some v ∧ xs[i]? = some x ∧ AV K Hf σ v x ∧ toArg ρ x = some d := by
  intro vs xs
  induction xs generalizing vs with
  | nil =>
    intro ds ha e i d hd
    cases e
    simp at hd
  | cons x xs ih =>
    intro ds ha e i d hd
    obtain ⟨d0, h1, h2⟩ := Option.bind_eq_some_iff.mp (show (toArg ρ x).bind (fun d => (toArgs ρ xs).map (d :: ·)) = some ds from e)
    obtain ⟨ds', h3, rfl⟩ := Option.map_eq_some_iff.mp h2
    cases ha with
    | cons h t =>
      cases i with
      | zero =>
        simp at hd
        subst hd
        exact ⟨_, x, rfl, rfl, h, h1⟩
      | succ i =>
        obtain ⟨v, y, g1, g2, g3, g4⟩ := ih t h3 i d (by simpa using hd)
        exact ⟨v, y, by simpa using g1, by simpa using g2, g3, g4⟩
theorem toArgs_len : ∀ {xs ds : List DV}, toArgs ρ xs = some ds → ds.length = xs.length := by
  intro xs
  induction xs with
  | nil => intro ds e; cases e; rfl
  | cons x xs ih =>
    intro ds e
    obtain ⟨d0, h1, h2⟩ := Option.bind_eq_some_iff.mp (show (toArg ρ x).bind (fun d => (toArgs ρ xs).map (d :: ·)) = some ds from e)
    obtain ⟨ds', h3, rfl⟩ := Option.map_eq_some_iff.mp h2
    simp [ih h3]
theorem owns_at : ∀ {xs : List DV} {i j k : Nat}, (owns xs).Nodup → xs[i]? = some (.own k) → xs[j]? = some (.own k) → i = j := by
  have mem : ∀ {xs : List DV} {i k : Nat}, xs[i]? = some (.own k) → k ∈ owns xs := by
    intro xs
    induction xs with
    | nil => intro i k h; simp at h
    | cons x xs ih =>
      intro i k h
      cases i with
      | zero => simp at h; subst h; exact List.mem_cons_self
      | succ i =>
        have := ih (i := i) (k := k) (by simpa using h)
        cases x <;> first | exact this | exact List.mem_cons_of_mem _ this
  intro xs
  induction xs with
  | nil => intro i j k _ h; simp at h
  | cons x xs ih =>
    intro i j k nd h1 h2
    have nd' : (owns xs).Nodup := by cases x <;> first | exact nd | exact (List.nodup_cons.mp nd).2
    cases i with
    | zero =>
      cases j with
      | zero => rfl
      | succ j =>
        simp at h1
        subst h1
        exact absurd (mem (i := j) (by simpa using h2)) (List.nodup_cons.mp nd).1
    | succ i =>
      cases j with
      | zero =>
        simp at h2
        subst h2
        exact absurd (mem (i := i) (by simpa using h1)) (List.nodup_cons.mp nd).1
      | succ j => exact congrArg (· + 1) (ih nd' (by simpa using h1) (by simpa using h2))
theorem findOut_at : ∀ {xs outs : List DV} {k i : Nat} {ys : List PyData}, (owns xs).Nodup → xs[i]? = some (.own k) → outs[i]? = some (.arg ys) → findOut k xs outs = some ys := by
  intro xs
  induction xs with
  | nil => intro outs k i ys _ h; simp at h
  | cons x xs ih =>
    intro outs k i ys nd h1 h2
    cases outs with
    | nil => simp at h2
    | cons o outs =>
      cases i with
      | zero =>
        simp at h1 h2
        subst h1; subst h2
        show (if k = k then _ else _) = _
        rw [if_pos rfl]
      | succ i =>
        have nd' : (owns xs).Nodup := by cases x <;> first | exact nd | exact (List.nodup_cons.mp nd).2
        have r := ih nd' (i := i) (by simpa using h1) (by simpa using h2)
        cases x with
        | own j =>
          have ne : ¬ j = k := fun e => by
            have := owns_at nd (i := 0) (j := i + 1) (k := k) (by simp [e]) h1
            cases this
          show (if j = k then _ else findOut k xs outs) = _
          rw [if_neg ne]; exact r
        | _ => exact r
theorem findOut_none : ∀ {xs outs : List DV} {k : Nat}, (∀ i : Nat, xs[i]? ≠ some (.own k)) → findOut k xs outs = none := by
  intro xs
  induction xs with
  | nil => intro outs k _; rfl
  | cons x xs ih =>
    intro outs k h
    have r : ∀ os : List DV, findOut k xs os = none := fun os => ih (outs := os) fun i => by simpa using h (i + 1)
    cases outs with
    | nil => cases x <;> rfl
    | cons o outs =>
      cases x with
      | own j =>
        have ne : ¬ j = k := fun e => h 0 (by simp [e])
        show (if j = k then _ else findOut k xs outs) = _
        rw [if_neg ne]; exact r outs
      | _ => exact r outs
theorem paired_at {α β : Type} {F : α → β → Prop} : ∀ {l : List α} {m : List β} {i : Nat} {x : α}, Paired F l m → l[i]? = some x → ∃ y, m[i]? = some y ∧ F x y
  | _, _, _, _, .nil, e => by simp at e
  | _, _, 0, _, .cons r _, e => by simp at e; subst e; exact ⟨_, rfl, r⟩
  | _, _, i + 1, x, .cons _ t, e => by
    obtain ⟨u, h1, h2⟩ := paired_at (i := i) (x := x) t (by simpa using e)
    exact ⟨u, by simpa using h1, h2⟩
theorem getMap {α : Type} {l : List α} {i : Nat} {x : α} (h : (l.map some)[i]? = some (some x)) : l[i]? = some x := by
  rw [List.getElem?_map] at h
  cases q : l[i]? with
  | none => rw [q] at h; cases h
  | some y => rw [q] at h; cases h; rfl
theorem mapGet {α : Type} {l : List α} {i : Nat} {x : α} (h : l[i]? = some x) : (l.map some)[i]? = some (some x) := by rw [List.getElem?_map, h]; rfl
/-- the caller's side of a call -/
theorem call_so {S : DSpec} {vs : List V} {xs ds : List DV} {Q : DV → Den → Prop} {Q' : VK} {E0 : XK} (E : ER K Hf H σ ρ) (ha : AVs K Hf σ vs xs) (nd : (owns xs).Nodup) (hd : toArgs ρ xs = some ds) (hs : S ds fun r outs => Q r (putBack xs outs ρ))
    (c : CnE K σ Hf H ρ Q Q') : spD K S vs H Q' E0 := by
  have at_ := args_at E ha hd
  have vr_of : ∀ {v : V} {x d : DV}, AV K Hf σ v x → toArg ρ x = some d → VR K Hf H v d := fun {v x d} h1 h2 => by
    obtain ⟨ok, q⟩ := toArg_ok h2
    rcases q with ⟨rfl, ho⟩ | ⟨i, ys, rfl, rfl, q⟩
    · cases d with
      | dat y => exact h1
      | fn u => exact h1
      | own i => cases ok
      | lst y => exact h1.elim
      | arg y => exact h1.elim
      | dic y => exact h1.elim
    · have h1' : σ[i]? = some (some v) := h1
      rcases q with q | q
      · obtain ⟨a, g1, g2, g3⟩ := E.own (d := .lst ys) q rfl
        rw [h1'] at g1; cases g1
        exact ⟨a, rfl, g2, g3⟩
      · obtain ⟨a, g1, g2, g3⟩ := E.own (d := .arg ys) q rfl
        rw [h1'] at g1; cases g1
        exact ⟨a, rfl, g2, g3⟩
  have vlen : vs.length = xs.length := Paired.length ha
  have dlen : ds.length = xs.length := toArgs_len hd
  -- an owned argument is an owned slot
  have own_at : ∀ {i : Nat} {d : DV} {a : Addr}, ds[i]? = some d → d.isOwn = true → vs[i]? = some (.ref a) → ∃ k ys e, xs[i]? = some (.own k) ∧ d = .arg ys ∧ ρ[k]? = some (some e) ∧ (e = .lst ys ∨ e = .arg ys) ∧ σ[k]? = some (some (.ref a)) := fun {i d a} h1 h2 h3 => by
    obtain ⟨v, x, g1, g2, g3, g4⟩ := at_ i d h1
    rw [h3] at g1; cases g1
    obtain ⟨ok, q⟩ := toArg_ok g4
    rcases q with ⟨rfl, ho⟩ | ⟨k, ys, rfl, rfl, q⟩
    · rw [h2] at ho; cases ho
    · rcases q with q | q
      · exact ⟨k, ys, _, g2, rfl, q, .inl rfl, g3⟩
      · exact ⟨k, ys, _, g2, rfl, q, .inr rfl, g3⟩
  have eo : ∀ {e : DV} {ys : List PyData}, (e = .lst ys ∨ e = .arg ys) → e.isOwn = true := fun {e ys} h => by rcases h with rfl | rfl <;> rfl
  have sub : ∀ a, Ow (vs.map some) (ds.map some) a → Ow σ ρ a := fun a ⟨i, d, h1, h2, h3⟩ => by
    obtain ⟨k, ys, e, g1, g2, g3, g4, g5⟩ := own_at (getMap h1) h2 (getMap h3)
    exact ⟨k, e, g3, eo g4, g5⟩
  refine ⟨Hf, ds, _, ⟨by rw [List.length_map, List.length_map, vlen, dlen], E.ex, fun i d h => ?_, fun i j d e a h1 h2 o1 o2 s1 s2 => ?_⟩, ?_, hs, fun v Hf' H' r outs st er sh vr fr q => ?_⟩
  · obtain ⟨v, x, g1, g2, g3, g4⟩ := at_ i d (getMap h)
    exact ⟨v, mapGet g1, vr_of g3 g4⟩
  · obtain ⟨k, ys, e1, g1, _, g3, g4, g5⟩ := own_at (getMap h1) o1 (getMap s1)
    obtain ⟨k', ys', e2, f1, _, f3, f4, f5⟩ := own_at (getMap h2) o2 (getMap s2)
    have := E.dj k k' e1 e2 a g3 f3 (eo g4) (eo f4) g5 f5
    subst this
    exact owns_at nd g1 f1
  · rw [List.all_eq_true]
    intro d hmem
    obtain ⟨i, hi⟩ := List.getElem?_of_mem hmem
    obtain ⟨v, x, g1, g2, g3, g4⟩ := at_ i d hi
    exact (toArg_ok g4).1
  · -- back in the caller
    have oat : ∀ {i k : Nat}, xs[i]? = some (.own k) → ∃ d ys ys', ds[i]? = some d ∧ d = .arg ys ∧ outs[i]? = some (.arg ys') ∧ findOut k xs outs = some ys' := fun {i k} hx => by
      have hi : i < ds.length := by rw [dlen]; exact (List.getElem?_eq_some_iff.mp hx).1
      have hd' : ds[i]? = some ds[i] := List.getElem?_eq_getElem hi
      obtain ⟨v, x, g1, g2, g3, g4⟩ := at_ i _ hd'
      rw [hx] at g2; cases g2
      obtain ⟨ok, q⟩ := toArg_ok g4
      rcases q with ⟨e, ho⟩ | ⟨k', ys, e1, e2, q⟩
      · rw [e] at ok; cases ok
      · obtain ⟨o, h1, h2⟩ := paired_at sh hd'
        rw [e2] at h2
        obtain ⟨ys', rfl⟩ := h2
        exact ⟨_, ys, ys', hd', e2, h1, findOut_at nd hx h1⟩
    have pbi : ∀ {j : Nat} {e : DV}, (putBack xs outs ρ)[j]? = some (some e) → ∃ e0, ρ[j]? = some (some e0) ∧ e0.isOwn = e.isOwn ∧ ((∃ zs, e = .arg zs) ↔ ∃ zs, e0 = .arg zs) ∧ ((e0 = e ∧ (e.isOwn = true → ∀ i : Nat, xs[i]? ≠ some (.own j))) ∨ ∃ (i : Nat) (ys : List PyData), xs[i]? = some (.own j) ∧ outs[i]? = some (.arg ys) ∧ (e = .lst ys ∨ e = .arg ys)) := fun {j e} h => by
      rw [show putBack xs outs ρ = pbGo 0 xs outs ρ from rfl, pbGo_get] at h
      cases q : ρ[j]? with
      | none => rw [q] at h; cases h
      | some d0 =>
        rw [q] at h
        have h' : pb1 d0 (findOut (0 + j) xs outs) = some e := by simpa using h
        rw [Nat.zero_add] at h'
        cases f : findOut j xs outs with
        | none =>
          rw [f] at h'
          have e2 : d0 = some e := by
            cases d0 with
            | none => exact h'
            | some y => cases y <;> exact h'
          subst e2
          refine ⟨e, rfl, rfl, Iff.rfl, .inl ⟨rfl, fun _ i hx => ?_⟩⟩
          obtain ⟨_, _, ys', _, _, _, g⟩ := oat hx
          rw [f] at g; cases g
        | some ys =>
          rw [f] at h'
          have : ∃ i : Nat, xs[i]? = some (.own j) := by
            apply Classical.byContradiction
            intro hn
            have := findOut_none (xs := xs) (outs := outs) (k := j) fun i hi => hn ⟨i, hi⟩
            rw [f] at this; cases this
          obtain ⟨i, hx⟩ := this
          obtain ⟨_, _, ys', _, _, g1, g2⟩ := oat hx
          rw [f] at g2; cases g2
          cases d0 with
          | none => cases h'
          | some y =>
            cases y with
            | lst zs => cases h'; exact ⟨_, rfl, rfl, ⟨(fun z => by obtain ⟨_, z⟩ := z; cases z), (fun z => by obtain ⟨_, z⟩ := z; cases z)⟩, .inr ⟨i, ys, hx, g1, .inl rfl⟩⟩
            | arg zs => cases h'; exact ⟨_, rfl, rfl, ⟨fun _ => ⟨_, rfl⟩, fun _ => ⟨_, rfl⟩⟩, .inr ⟨i, ys, hx, g1, .inr rfl⟩⟩
            | dat z => cases h'; exact ⟨_, rfl, rfl, Iff.rfl, .inl ⟨rfl, fun z => nomatch z⟩⟩
            | fn z => cases h'; exact ⟨_, rfl, rfl, Iff.rfl, .inl ⟨rfl, fun z => nomatch z⟩⟩
            | own z => cases h'; exact ⟨_, rfl, rfl, Iff.rfl, .inl ⟨rfl, fun z => nomatch z⟩⟩
            | dic z =>
              exfalso
              obtain ⟨d', ys1, _, hd1, e1, _, _⟩ := oat hx
              obtain ⟨v, x, g1', g2', g3', g4'⟩ := at_ i d' hd1
              rw [hx] at g2'; cases g2'
              obtain ⟨_, qq⟩ := toArg_ok g4'
              rcases qq with ⟨e3, ho⟩ | ⟨k3, ys3, e3, e4, q3⟩
              · rw [e1] at e3; cases e3
              · cases e3
                rcases q3 with q3 | q3 <;> (rw [q] at q3; cases q3)
    have pin : ∀ {j : Nat} {zs : List PyData}, ρ[j]? = some (some (.arg zs)) → ∃ ws, (putBack xs outs ρ)[j]? = some (some (.arg ws)) := fun {j zs} h => by
      rw [show putBack xs outs ρ = pbGo 0 xs outs ρ from rfl, pbGo_get, h]
      cases f : findOut (0 + j) xs outs with
      | none => exact ⟨zs, by simp [f, pb1]⟩
      | some ys => exact ⟨ys, by simp [f, pb1]⟩
    have slot : ∀ {i j : Nat} {ys : List PyData} {v : V}, xs[i]? = some (.own j) → outs[i]? = some (.arg ys) → σ[j]? = some (some v) → ∃ a, v = .ref a ∧ Hf' a = none ∧ ∃ us, H' a = some (.lst us) ∧ DpAll K Hf' us ys := fun {i j ys v} hx ho hv => by
      obtain ⟨u, g1, g2⟩ := er.sl i _ (mapGet ho)
      have hu := getMap g1
      obtain ⟨a, e1, g3, us, g4, g5⟩ := g2
      have hi : i < vs.length := (List.getElem?_eq_some_iff.mp hu).1
      obtain ⟨d', _, _, hd', _, _, _⟩ := oat hx
      obtain ⟨v', x', f1, f2, f3, f4⟩ := at_ i d' hd'
      rw [hx] at f2; cases f2
      rw [hu] at f1; cases f1
      have f3' : σ[j]? = some (some u) := f3
      rw [hv] at f3'; cases f3'
      exact ⟨a, e1, g3, us, g4, g5⟩
    have st' : Stp Hf H Hf' H' (Ow σ ρ) := ⟨st.fx, fun b o h n => st.fr b o h fun z => n (sub b z), st.al, fun b o h n => (st.nf b o h n).imp id (.imp (sub b) id)⟩
    refine c v Hf' H' r _ ⟨st', ⟨by rw [show putBack xs outs ρ = pbGo 0 xs outs ρ from rfl, pbGo_len]; exact E.len, er.ex, fun j e h => ?_, fun i j d e a h1 h2 o1 o2 s1 s2 => ?_⟩, fun a z => ?_, fun j => ?_⟩ ?_ q
    · obtain ⟨e0, g1, g2, g3, g4⟩ := pbi h
      obtain ⟨v, f1, f2⟩ := E.sl j e0 g1
      refine ⟨v, f1, ?_⟩
      rcases g4 with ⟨rfl, hn⟩ | ⟨i, ys, hx, ho, he⟩
      · refine vr_keep f2 st.fx fun a ea oe => ?_
        subst ea
        have nO : ¬ Ow (vs.map some) (ds.map some) a := fun ⟨i, d, h1, h2, h3⟩ => by
          obtain ⟨k, ys, e1, q1, _, q3, q4, q5⟩ := own_at (getMap h1) h2 (getMap h3)
          have := E.dj k j e1 e0 a q3 g1 (eo q4) oe q5 f1
          subst this
          exact hn oe i q1
        obtain ⟨hH, hHf⟩ := E.ow ⟨j, e0, g1, oe, f1⟩
        refine ⟨fun _ => ?_, fun o ho => st.fr a o ho nO⟩
        cases z : Hf' a with
        | none => rfl
        | some o =>
          rcases st.nf a o z hHf with y | y | ⟨ys, y⟩
          · exact absurd y hH
          · exact absurd y nO
          · exact absurd y (E.owT ⟨j, e0, g1, oe, f1⟩ ys)
      · obtain ⟨a, rfl, h1, us, h2, h3⟩ := slot hx ho f1
        rcases he with rfl | rfl
        · exact ⟨a, rfl, h1, us, h2, h3⟩
        · exact ⟨a, rfl, h1, us, h2, h3⟩
    · obtain ⟨d0, g1, g2, _, _⟩ := pbi h1
      obtain ⟨e0, f1, f2, _, _⟩ := pbi h2
      exact E.dj i j d0 e0 a g1 f1 (g2.trans o1) (f2.trans o2) s1 s2
    · obtain ⟨j, e, h1, h2, h3⟩ := z
      obtain ⟨e0, g1, g2, _, _⟩ := pbi h1
      exact ⟨j, e0, g1, g2.trans h2, h3⟩
    · constructor
      · rintro ⟨zs, h⟩
        obtain ⟨e0, g1, _, g3, _⟩ := pbi h
        obtain ⟨ws, e⟩ := g3.mp ⟨zs, rfl⟩
        exact ⟨ws, by rw [g1, e]⟩
      · rintro ⟨zs, h⟩
        exact pin h
    · cases r with
      | own i => exact vr.elim
      | dat y => exact ⟨vr, fr⟩
      | fn u => exact ⟨vr, fr⟩
      | lst y => exact ⟨vr, fr⟩
      | arg y => exact ⟨vr, fr⟩
      | dic y => exact ⟨vr, fr⟩
end
section
variable {X : Cx} {pos : Pos}
theorem xe_call {k : Nat} {f : Addr} {fd : FuncData} {ps : List Str} {S : DSpec} {x : Str} {p : Pos} {e : Expr} {es : List Expr} {t : TA} {wa : WA} (F : FnOk X.prog X.w X.K X.mg X.base CX0 k f fd ps (spD X.K S)) (hr : Room k X.A) (hg : Gl X x) (hm : X.mg x = some (.ref f))
    (hk : PySem.W.keepIn X.K (.ref f) = true) (hb : Binds X.K fd ps []) (ha : XA X (e :: es) t wa) (hdb : (x == ("__debug__" : Str)) = false := by decide) (he : starEach (e :: es) X.env = (false, eval e X.env) :: starEach es X.env := by rfl)
    (hpl : (backTo pos (starEach es X.env)).any (·.1) = false := by rfl) : XE X (.Call (.Name x p) (e :: es) [] pos) (tCall (spD X.K S) [] E0 t) (wUser S wa) :=
  ⟨pe_call F hr hg hm hk hb .nil pass0 ha.pa hdb he hpl, fun Hf H σ ρ Q Q' E hw c => ha.so Hf H σ ρ _ _ E hw fun vs Hf1 H1 xs ρ1 s1 r1 q1 => by
    obtain ⟨nd, q1⟩ := q1
    split at q1
    · rename_i ds hd
      rw [List.append_nil]
      exact call_so s1.er r1 nd hd q1 (c.step s1)
    · exact q1.elim⟩
/-- a call of a slot that holds a def -/
def wLoc (i : Nat) (S : Addr → Option DSpec) (wa : WA) : WE := fun ρ Q => match ρ[i]? with
  | some (some (.fn (.ref f))) => match S f with
    | some sp => wUser sp wa ρ Q
    | none => False
  | _ => False
theorem xe_callL {k i : Nat} {S : Addr → Option DSpec} {x : Str} {p : Pos} {e : Expr} {es : List Expr} {t : TA} {wa : WA} (A : ∀ f sp, S f = some sp → Held X.prog X.w X.K X.mg X.base k f (spD X.K sp)) (hr : Room k X.A) (hN : X.N[i]? = some x) (hv : Vis X.env.scope x) (ha : XA X (e :: es) t wa)
    (hdb : (x == ("__debug__" : Str)) = false := by decide) (hcd : (x == ("__classdict__" : Str)) = false := by decide)
    (he : starEach (e :: es) X.env = (false, eval e X.env) :: starEach es X.env := by rfl) (hpl : (backTo pos (starEach es X.env)).any (·.1) = false := by rfl) :
    XE X (.Call (.Name x p) (e :: es) [] pos) (tCallA i (fun f => (S f).map (spD X.K)) t) (wLoc i S wa) :=
  ⟨pe_callA (fun f sp h => by
      obtain ⟨sp', h1, rfl⟩ := Option.map_eq_some_iff.mp h
      exact A f sp' h1) hr hN hv ha.pa hdb hcd he hpl, fun Hf H σ ρ Q Q' E hw c => by
    unfold wLoc at hw
    split at hw
    · rename_i f hf
      split at hw
      · rename_i sp hsp
        obtain ⟨v, g1, g2⟩ := E.sl i _ hf
        cases g2
        refine ⟨f, spD X.K sp, g1, by show (S f).map (spD X.K) = _; rw [hsp]; rfl, ?_⟩
        refine ha.so Hf H σ ρ _ _ E hw fun vs Hf1 H1 xs ρ1 s1 r1 q1 => ?_
        obtain ⟨nd, q1⟩ := q1
        split at q1
        · rename_i ds hd
          exact call_so s1.er r1 nd hd q1 (c.step s1)
        · exact q1.elim
      · exact hw.elim
    · exact hw.elim⟩
end
end DL
end
section
set_option Elab.async false
set_option linter.all false
set_option maxRecDepth 100000
set_option maxHeartbeats 1000000
namespace DL
open PySem L2

/-! ### statements -/
structure DE where
  nx : Den → Prop
  rt : DV → Den → Prop
  bk : Den → Prop := fun _ => False
  ct : Den → Prop := fun _ => False
abbrev WS := DE → Den → Prop
/-- the entry of a def -/
structure Ent where
  Hf : Hp
  H : Hp
  O : Addr → Prop
  R : Nat → Option Addr
  G : Hp
structure SR (K : PySem.W.Frag) (N : Ent) (Hf H : Hp) (σ : St) (ρ : Den) : Prop where
  st : Stp N.Hf N.H Hf H N.O
  er : ER K Hf H σ ρ
  lo : ∀ (i : Nat) (d : DV) (a : Addr), ρ[i]? = some (some d) → d.isOwn = true → σ[i]? = some (some (.ref a)) → (∃ xs, d = .arg xs) ∨ N.H a = none
  rt : ∀ (i : Nat) (a : Addr), N.R i = some a → σ[i]? = some (some (.ref a)) ∧ ∃ xs, ρ[i]? = some (some (.arg xs))
  ar : ∀ (i : Nat) (xs : List PyData), ρ[i]? = some (some (.arg xs)) → ∃ a, N.R i = some a ∧ N.O a
  gh : Same N.G Hf
structure Cp (K : PySem.W.Frag) (N : Ent) (D' : DE) (D : Ends) : Prop where
  nx : ∀ Hf H σ ρ, SR K N Hf H σ ρ → D'.nx ρ → D.nx σ H
  bk : ∀ Hf H σ ρ, SR K N Hf H σ ρ → D'.bk ρ → D.bk σ H
  ct : ∀ Hf H σ ρ, SR K N Hf H σ ρ → D'.ct ρ → D.ct σ H
  rt : ∀ Hf H σ ρ v r, SR K N Hf H σ ρ → VR K Hf H v r → (r.isOwn = true → ∀ a, v = .ref a → N.H a = none) → D'.rt r ρ → D.rt v H
structure XS (X : Cx) (st : Stmt) (t : TS) (w : WS) : Prop where
  ps : PS X st t
  so : ∀ N D' D Hf H σ ρ, Cp X.K N D' D → SR X.K N Hf H σ ρ → w D' ρ → t D σ H
structure XSs (X : Cx) (st : List Stmt) (t : TS) (w : WS) : Prop where
  ps : PSs X st t
  so : ∀ N D' D Hf H σ ρ, Cp X.K N D' D → SR X.K N Hf H σ ρ → w D' ρ → t D σ H

section
variable {K : PySem.W.Frag} {N : Ent} {σ σ' : St} {Hf H Hf1 H1 : Hp} {ρ ρ1 ρ' : Den} {v : V} {d : DV}
theorem SR.ow (S : SR K N Hf H σ ρ) {a : Addr} (h : Ow σ ρ a) : N.O a ∨ N.H a = none := by
  obtain ⟨i, d, h1, h2, h3⟩ := h
  rcases S.lo i d a h1 h2 h3 with ⟨xs, rfl⟩ | h
  · obtain ⟨b, g1, g2⟩ := S.ar i xs h1
    obtain ⟨g3, _⟩ := S.rt i b g1
    rw [h3] at g3; cases g3
    exact .inl g2
  · exact .inr h
theorem SR.step (S : SR K N Hf H σ ρ) (b : St2 K σ Hf H ρ Hf1 H1 ρ1) : SR K N Hf1 H1 σ ρ1 := by
  refine ⟨S.st.trans b.st fun x h => S.ow h, b.er, fun i d a h1 h2 h3 => ?_, fun i a h => ?_, fun i xs h => ?_, S.gh.trans b.st.fx⟩
  · obtain ⟨j, e, g1, g2, g3⟩ := b.lo a ⟨i, d, h1, h2, h3⟩
    rcases S.lo j e a g1 g2 g3 with ⟨xs, rfl⟩ | h
    · obtain ⟨ys, q⟩ := (b.ar j).mpr ⟨xs, g1⟩
      have := b.er.dj i j d _ a h1 q h2 rfl h3 g3
      subst this
      rw [h1] at q
      cases q
      exact .inl ⟨ys, rfl⟩
    · exact .inr h
  · obtain ⟨g1, xs, g2⟩ := S.rt i a h
    exact ⟨g1, (b.ar i).mpr ⟨xs, g2⟩⟩
  · obtain ⟨ys, g⟩ := (b.ar i).mp ⟨xs, h⟩
    exact S.ar i ys g
/-- slots have been stored: data, or a value that is new; all else as it was -/
structure Asg (K : PySem.W.Frag) (N : Ent) (Hf H : Hp) (σ : St) (ρ : Den) (σ' : St) (ρ' : Den) : Prop where
  len : σ'.length = ρ'.length
  sl : ∀ (i : Nat) (d : DV), ρ'[i]? = some (some d) → (σ'[i]? = σ[i]? ∧ ρ[i]? = some (some d)) ∨ ((∀ xs, ρ[i]? ≠ some (some (.arg xs))) ∧ (∀ xs, d ≠ .arg xs) ∧ ∃ v, σ'[i]? = some (some v) ∧ VR K Hf H v d ∧ (d.isOwn = true → ∀ a, v = .ref a → N.H a = none ∧ ¬ Ow σ ρ a ∧ ∀ (j : Nat) (e : DV), ρ'[j]? = some (some e) → e.isOwn = true → σ'[j]? = some (some v) → i = j))
  ar : ∀ (i : Nat) (xs : List PyData), ρ[i]? = some (some (.arg xs)) → σ'[i]? = σ[i]? ∧ ρ'[i]? = ρ[i]?
theorem SR.asg (S : SR K N Hf H σ ρ) (A : Asg K N Hf H σ ρ σ' ρ') : SR K N Hf H σ' ρ' := by
  refine ⟨S.st, ⟨A.len, S.er.ex, fun i d h => ?_, fun i j d e a h1 h2 o1 o2 s1 s2 => ?_⟩, fun i d a h1 h2 h3 => ?_, fun i a h => ?_, fun i xs h => ?_, S.gh⟩
  · rcases A.sl i d h with ⟨h1, h2⟩ | ⟨_, _, v, h1, h2, _⟩
    · rw [h1]; exact S.er.sl i d h2
    · exact ⟨v, h1, h2⟩
  · rcases A.sl i d h1 with ⟨g1, g2⟩ | ⟨_, _, v, g1, g2, g3⟩
    · rcases A.sl j e h2 with ⟨f1, f2⟩ | ⟨_, _, u, f1, f2, f3⟩
      · exact S.er.dj i j d e a g2 f2 o1 o2 (g1 ▸ s1) (f1 ▸ s2)
      · rw [s2] at f1; cases f1
        exact ((f3 o2 a rfl).2.2 i d h1 o1 s1).symm
    · rw [s1] at g1; cases g1
      exact (g3 o1 a rfl).2.2 j e h2 o2 s2
  · rcases A.sl i d h1 with ⟨g1, g2⟩ | ⟨_, _, v, g1, g2, g3⟩
    · exact S.lo i d a g2 h2 (g1 ▸ h3)
    · rw [h3] at g1; cases g1
      exact .inr (g3 h2 a rfl).1
  · obtain ⟨g1, xs, g2⟩ := S.rt i a h
    obtain ⟨f1, f2⟩ := A.ar i xs g2
    exact ⟨f1.trans g1, xs, f2.trans g2⟩
  · rcases A.sl i _ h with ⟨_, g2⟩ | ⟨_, g, _⟩
    · exact S.ar i xs g2
    · exact absurd rfl (g xs)
theorem len_of_get {α : Type} {l : List α} {i : Nat} {x : α} (h : l[i]? = some x) : i < l.length := (List.getElem?_eq_some_iff.mp h).1
/-- one slot is stored -/
theorem asg_set {i : Nat} (E : ER K Hf H σ ρ) (hn : ∀ xs, ρ[i]? ≠ some (some (.arg xs))) (hi : i < ρ.length) (hd : ∀ xs, d ≠ .arg xs) (hv : VR K Hf H v d) (ho : d.isOwn = true → ∀ a, v = .ref a → N.H a = none ∧ ¬ Ow σ ρ a) : Asg K N Hf H σ ρ (σ.set i (some v)) (ρ.set i (some d)) := by
  refine ⟨by rw [List.length_set, List.length_set]; exact E.len, fun j e h => ?_, fun j xs h => ?_⟩
  · rcases set_get h with ⟨rfl, e1⟩ | ⟨ne, q⟩
    · cases e1
      refine .inr ⟨hn, hd, v, List.getElem?_set_self (by rw [E.len]; exact hi), hv, fun o a ea => ⟨(ho o a ea).1, (ho o a ea).2, fun k e' h1 h2 h3 => ?_⟩⟩
      rcases set_get h1 with ⟨rfl, _⟩ | ⟨ne, q⟩
      · rfl
      · rw [List.getElem?_set_ne ne] at h3
        subst ea
        exact absurd ⟨k, e', q, h2, h3⟩ (ho o a rfl).2
    · exact .inl ⟨List.getElem?_set_ne ne, q⟩
  · have ne : i ≠ j := fun e => hn xs (e ▸ h)
    exact ⟨List.getElem?_set_ne ne, List.getElem?_set_ne ne⟩
/-- what has come may be stored, or handed back -/
theorem rr_fresh {Hf0 H0 : Hp} {ρ0 : Den} (S : SR K N Hf0 H0 σ ρ0) (s : St2 K σ Hf0 H0 ρ0 Hf H ρ) (r : RR K H0 Hf H σ v d) (hd : ∀ i, d ≠ .own i) : VR K Hf H v d ∧ (d.isOwn = true → ∀ a, v = .ref a → N.H a = none ∧ ¬ Ow σ ρ a) := by
  have g : VR K Hf H v d ∧ (d.isOwn = true → ∀ a, v = .ref a → H0 a = none) := by
    cases d with
    | own i => exact absurd rfl (hd i)
    | _ => exact r
  refine ⟨g.1, fun o a e => ?_⟩
  have h0 := g.2 o a e
  exact ⟨S.st.al a h0, fun z => (S.er.ow (s.lo a z)).1 h0⟩
end

section
variable {X : Cx} {pos : Pos}
def wNext : WS := fun D ρ => D.nx ρ
def wSeq (a b : WS) : WS := fun D ρ => a { D with nx := b D } ρ
theorem xss_nil : XSs X [] tNext wNext := ⟨pss_nil, fun N D' D Hf H σ ρ c s hw => c.nx Hf H σ ρ s hw⟩
theorem xss_cons {st : Stmt} {rest : List Stmt} {t u : TS} {a b : WS} (h1 : XS X st t a) (h2 : XSs X rest u b) : XSs X (st :: rest) (tSeq t u) (wSeq a b) :=
  ⟨pss_cons h1.ps h2.ps, fun N D' D Hf H σ ρ c s hw => h1.so N { D' with nx := b D' } { D with nx := u D } Hf H σ ρ ⟨fun Hf1 H1 σ1 ρ1 s1 q => h2.so N D' D Hf1 H1 σ1 ρ1 c s1 q, c.bk, c.ct, c.rt⟩ s hw⟩
theorem xss_one {st : Stmt} {t : TS} {a : WS} (h1 : XS X st t a) : XSs X [st] t a := ⟨pss_one h1.ps, h1.so⟩
theorem xs_pass : XS X (.Pass pos) tNext wNext := ⟨ps_pass, fun N D' D Hf H σ ρ c s hw => c.nx Hf H σ ρ s hw⟩
def wBreak : WS := fun D ρ => D.bk ρ
def wCont : WS := fun D ρ => D.ct ρ
theorem xs_break : XS X (.Break pos) tBreak wBreak := ⟨ps_break, fun N D' D Hf H σ ρ c s hw => c.bk Hf H σ ρ s hw⟩
theorem xs_cont : XS X (.Continue pos) tCont wCont := ⟨ps_continue, fun N D' D Hf H σ ρ c s hw => c.ct Hf H σ ρ s hw⟩
def wExpr (w : WE) : WS := fun D ρ => w ρ fun _ ρ1 => D.nx ρ1
theorem xs_expr {e : Expr} {t : TE} {w : WE} (h : XE X e t w) (hs : swapsWith e none pos.line X.env = pure false := by rfl) : XS X (.Expr e pos) (tDrop t) (wExpr w) :=
  ⟨ps_expr h.pe hs, fun N D' D Hf H σ ρ c s hw => h.so Hf H σ ρ _ _ s.er hw fun v Hf1 H1 d ρ1 s1 r1 q1 => c.nx Hf1 H1 σ ρ1 (s.step s1) q1⟩
def wRet (w : WE) : WS := fun D ρ => w ρ fun d ρ1 => match d with
  | .own i => match ρ1[i]? with
    | some (some (.lst xs)) => D.rt (.lst xs) ρ1
    | some (some (.dic xs)) => D.rt (.dic xs) ρ1
    | _ => False
  | d => D.rt d ρ1
theorem xs_ret {e : Expr} {t : TE} {w : WE} (h : XE X e t w) : XS X (.Return (some e) pos) (tRet t) (wRet w) :=
  ⟨ps_ret h.pe, fun N D' D Hf H σ ρ c s hw => h.so Hf H σ ρ _ _ s.er hw fun v Hf1 H1 d ρ1 s1 r1 q1 => by
    have s' := s.step s1
    have back : (∀ i, d ≠ .own i) → D'.rt d ρ1 → D.rt v H1 := fun hd q => by
      obtain ⟨g1, g2⟩ := rr_fresh s s1 r1 hd
      exact c.rt Hf1 H1 σ ρ1 v d s' g1 (fun o a e => (g2 o a e).1) q
    cases d with
    | own i =>
      have r1' : σ[i]? = some (some v) := r1
      have own : ∀ {x : DV}, ρ1[i]? = some (some x) → x.isOwn = true → (∀ xs, x ≠ .arg xs) → D'.rt x ρ1 → D.rt v H1 := fun {x} hx ho hn q => by
        obtain ⟨u, g1, g2⟩ := s'.er.sl i x hx
        rw [r1'] at g1; cases g1
        obtain ⟨a, rfl, _, _⟩ := vr_ref g2 ho
        refine c.rt Hf1 H1 σ ρ1 _ x s' g2 (fun o b e => ?_) q
        cases e
        rcases s'.lo i x a hx ho r1' with ⟨xs, e⟩ | z
        · exact absurd e (hn xs)
        · exact z
      have q1' : match ρ1[i]? with
        | some (some (.lst xs)) => D'.rt (.lst xs) ρ1
        | some (some (.dic xs)) => D'.rt (.dic xs) ρ1
        | _ => False := q1
      split at q1'
      · rename_i xs hx
        exact own hx rfl (fun _ z => nomatch z) q1'
      · rename_i xs hx
        exact own hx rfl (fun _ z => nomatch z) q1'
      · exact q1'.elim
    | dat y => exact back (fun _ z => nomatch z) q1
    | fn u => exact back (fun _ z => nomatch z) q1
    | lst y => exact back (fun _ z => nomatch z) q1
    | arg y => exact back (fun _ z => nomatch z) q1
    | dic y => exact back (fun _ z => nomatch z) q1⟩
def wRetN : WS := fun D ρ => D.rt (.dat .none) ρ
theorem xs_retN : XS X (.Return none pos) tRetN wRetN := ⟨ps_retN, fun N D' D Hf H σ ρ c s hw => c.rt Hf H σ ρ .non (.dat .none) s .non (fun z => nomatch z) hw⟩
def wIfS (t : WT) (a b : WS) : WS := fun D ρ => t ρ fun k ρ1 => if k = true then a D ρ1 else b D ρ1
theorem xs_if {e : Expr} {p q : List Stmt} {tc : TT} {t u : TS} {wc : WT} {a b : WS} (hc : XT X e tc wc) (h1 : XSs X p t a) (h2 : XSs X q u b) : XS X (.If e p q pos) (tIfS tc t u) (wIfS wc a b) :=
  ⟨ps_if hc.pt h1.ps h2.ps, fun N D' D Hf H σ ρ c s hw => hc.so Hf H σ ρ _ _ s.er hw fun k Hf1 H1 ρ1 s1 q1 => by
    cases k with
    | true => exact h1.so N D' D Hf1 H1 σ ρ1 c (s.step s1) q1
    | false => exact h2.so N D' D Hf1 H1 σ ρ1 c (s.step s1) q1⟩
/-- name = value -/
def notArg : Option (Option DV) → Prop
  | some (some (.arg _)) => False
  | some _ => True
  | none => False
def wSet (i : Nat) (w : WE) : WS := fun D ρ => w ρ fun d ρ1 => notArg ρ1[i]? ∧ match d with
  | .own _ => False
  | .arg _ => False
  | d => D.nx (ρ1.set i (some d))
theorem notArg_of {ρ : Den} {i : Nat} (h : notArg ρ[i]?) : (∀ xs, ρ[i]? ≠ some (some (.arg xs))) ∧ i < ρ.length := by
  refine ⟨fun xs e => ?_, ?_⟩
  · rw [e] at h; exact h
  · cases q : ρ[i]? with
    | none => rw [q] at h; exact h.elim
    | some x => exact len_of_get q
theorem set_so {N : Ent} {i : Nat} {D' : DE} {D : Ends} {Hf H Hf1 H1 : Hp} {σ : St} {ρ ρ1 : Den} {v : V} {d : DV} (c : Cp X.K N D' D) (s : SR X.K N Hf H σ ρ) (s1 : St2 X.K σ Hf H ρ Hf1 H1 ρ1) (r1 : RR X.K H Hf1 H1 σ v d) (hn : notArg ρ1[i]?) (h1 : ∀ j, d ≠ .own j) (h2 : ∀ xs, d ≠ .arg xs) (q : D'.nx (ρ1.set i (some d))) : D.nx (σ.set i (some v)) H1 := by
  obtain ⟨g1, g2⟩ := notArg_of hn
  obtain ⟨f1, f2⟩ := rr_fresh s s1 r1 h1
  exact c.nx Hf1 H1 _ _ ((s.step s1).asg (asg_set s1.er g1 g2 h2 f1 f2)) q
theorem xs_set {i : Nat} {x : Str} {e : Expr} {t : TE} {w : WE} {pos' : Pos} (hN : X.N.Nodup) (hi : X.N[i]? = some x) (hx : Loc X.env.scope x) (he : XE X e t w) (hs : swapsWith e (some (.Name x pos')) pos.line X.env = pure false := by rfl) (hf : X.fn x = true ∨ X.env.scope.names.lookup x = some .local := by first | exact .inl rfl | exact .inr rfl | assumption) :
    XS X (.Assign [.Name x pos'] e pos) (tAsg t (gName i)) (wSet i w) :=
  ⟨ps_set hN hi hx he.pe hs hf, fun N D' D Hf H σ ρ c s hw => he.so Hf H σ ρ _ _ s.er hw fun v Hf1 H1 d ρ1 s1 r1 q1 => by
    obtain ⟨hn, q1⟩ := q1
    cases d with
    | own j => exact q1.elim
    | arg y => exact q1.elim
    | dat y => exact set_so c s s1 r1 hn (fun _ z => nomatch z) (fun _ z => nomatch z) q1
    | fn u => exact set_so c s s1 r1 hn (fun _ z => nomatch z) (fun _ z => nomatch z) q1
    | lst y => exact set_so c s s1 r1 hn (fun _ z => nomatch z) (fun _ z => nomatch z) q1
    | dic y => exact set_so c s s1 r1 hn (fun _ z => nomatch z) (fun _ z => nomatch z) q1⟩
/-- a, b = x, y -/
def datFn : DV → Bool
  | .dat _ => true
  | .fn _ => true
  | _ => false
def wPar (i j : Nat) (wa : WA) : WS := fun D ρ => wa ρ fun xs ρ1 => match xs with
  | [d, e] => datFn d = true ∧ datFn e = true ∧ notArg ρ1[i]? ∧ notArg ρ1[j]? ∧ D.nx ((ρ1.set i (some d)).set j (some e))
  | _ => False
theorem av_vr {K : PySem.W.Frag} {Hf H : Hp} {σ : St} {v : V} {d : DV} (h : AV K Hf σ v d) (o : datFn d = true) : VR K Hf H v d ∧ d.isOwn = false ∧ ∀ xs, d ≠ .arg xs := by
  cases d with
  | dat y => exact ⟨h, rfl, fun _ z => nomatch z⟩
  | fn u => exact ⟨h, rfl, fun _ z => nomatch z⟩
  | _ => cases o
theorem notArg_set {ρ : Den} {i j : Nat} {d : DV} (hd : ∀ xs, d ≠ .arg xs) (h : notArg ρ[j]?) : notArg (ρ.set i (some d))[j]? := by
  by_cases e : i = j
  · subst e
    rw [List.getElem?_set_self (notArg_of h).2]
    cases d with
    | arg xs => exact absurd rfl (hd xs)
    | _ => exact True.intro
  · rw [List.getElem?_set_ne e]; exact h
theorem xs_par {i j : Nat} {x y : Str} {a b : Expr} {ta : TA} {wa : WA} {px py pt : Pos} {kt k2 pt2} (hc : X.calm = true) (hN : X.N.Nodup) (hi : X.N[i]? = some x) (hj : X.N[j]? = some y) (hij : i ≠ j)
    (hx : X.env.scope.names.lookup x = some .local) (hy : X.env.scope.names.lookup y = some .local) (ha : XA X [a, b] ta wa)
    (hw : swappedStores [.Tuple [.Name x px, .Name y py] kt pt] (.Tuple [a, b] k2 pt2) X.env = pure (some [x, y]))
    (hs : swapsWithSole [.Tuple [.Name x px, .Name y py] kt pt] (.Tuple [a, b] k2 pt2) pos.line X.env = pure false := by rfl) :
    XS X (.Assign [.Tuple [.Name x px, .Name y py] kt pt] (.Tuple [a, b] k2 pt2) pos) (tPar i j ta) (wPar i j wa) :=
  ⟨ps_par hc hN hi hj hij hx hy ha.pa hw hs, fun N D' D Hf H σ ρ c s hw => ha.so Hf H σ ρ _ _ s.er hw fun vs Hf1 H1 ds ρ1 s1 r1 q1 => by
    split at q1
    · rename_i d e
      obtain ⟨o1, o2, n1, n2, q⟩ := q1
      obtain ⟨v, u, rfl, h1, h2⟩ := avs2 r1
      obtain ⟨g1, g2, g3⟩ := av_vr (H := H1) h1 o1
      obtain ⟨f1, f2, f3⟩ := av_vr (H := H1) h2 o2
      refine ⟨v, u, rfl, ?_⟩
      obtain ⟨m1, m2⟩ := notArg_of n1
      have S1 := (s.step s1).asg (asg_set s1.er m1 m2 g3 g1 fun o => by rw [g2] at o; cases o)
      obtain ⟨m3, m4⟩ := notArg_of (notArg_set (i := i) g3 n2)
      exact c.nx Hf1 H1 _ _ (S1.asg (asg_set S1.er m3 m4 f3 f1 fun o => by rw [f2] at o; cases o)) q
    · exact q1.elim⟩
/-! ### targets that take data apart -/
/-- the slots S have been stored, with data -/
structure Ch (K : PySem.W.Frag) (Hf : Hp) (S : List Nat) (σ : St) (ρ : Den) (σ' : St) (ρ' : Den) : Prop where
  len : σ'.length = ρ'.length
  lenD : ρ'.length = ρ.length
  out : ∀ i : Nat, i ∉ S → σ'[i]? = σ[i]? ∧ ρ'[i]? = ρ[i]?
  inn : ∀ i : Nat, i ∈ S → (σ'[i]? = σ[i]? ∧ ρ'[i]? = ρ[i]?) ∨ (notArg ρ[i]? ∧ ∃ u e, σ'[i]? = some (some u) ∧ ρ'[i]? = some (some (.dat e)) ∧ Dp K Hf u e)
/-- what a target makes of the slots: f d ρ; it stores at the slots S alone -/
structure XG (X : Cx) (tg : Expr) (g : TG) (f : PyData → Den → Option Den) (S : List Nat) : Prop where
  pg : PG X tg g
  so : ∀ Hf H σ ρ v d ρ' (Q : St → Hp → Prop), Same Hf H → Dp X.K Hf v d → f d ρ = some ρ' → σ.length = ρ.length → (∀ σ', Ch X.K Hf S σ ρ σ' ρ' → Q σ' H) → g v σ H Q
structure XGs (X : Cx) (ts : List Expr) (g : TGs) (f : List PyData → Den → Option Den) (S : List Nat) : Prop where
  pg : PGs X ts g
  so : ∀ Hf H σ ρ vs ds ρ' (Q : St → Hp → Prop), Same Hf H → DpAll X.K Hf vs ds → f ds ρ = some ρ' → σ.length = ρ.length → (∀ σ', Ch X.K Hf S σ ρ σ' ρ' → Q σ' H) → g vs σ H Q
theorem Ch.refl {K : PySem.W.Frag} {Hf : Hp} {S : List Nat} {σ : St} {ρ : Den} (h : σ.length = ρ.length) : Ch K Hf S σ ρ σ ρ := ⟨h, rfl, fun _ _ => ⟨rfl, rfl⟩, fun _ _ => .inl ⟨rfl, rfl⟩⟩
theorem Ch.trans {K : PySem.W.Frag} {Hf : Hp} {S S' : List Nat} {σ σ1 σ2 : St} {ρ ρ1 ρ2 : Den} (a : Ch K Hf S σ ρ σ1 ρ1) (b : Ch K Hf S' σ1 ρ1 σ2 ρ2) : Ch K Hf (S ++ S') σ ρ σ2 ρ2 := by
  have first : ∀ i : Nat, (σ1[i]? = σ[i]? ∧ ρ1[i]? = ρ[i]?) ∨ (notArg ρ[i]? ∧ ∃ u e, σ1[i]? = some (some u) ∧ ρ1[i]? = some (some (.dat e)) ∧ Dp K Hf u e) := fun i => by
    by_cases h : i ∈ S
    · exact a.inn i h
    · exact .inl (a.out i h)
  have second : ∀ i : Nat, (σ2[i]? = σ1[i]? ∧ ρ2[i]? = ρ1[i]?) ∨ (notArg ρ1[i]? ∧ ∃ u e, σ2[i]? = some (some u) ∧ ρ2[i]? = some (some (.dat e)) ∧ Dp K Hf u e) := fun i => by
    by_cases h : i ∈ S'
    · exact b.inn i h
    · exact .inl (b.out i h)
  refine ⟨b.len, b.lenD.trans a.lenD, fun i h => ?_, fun i _ => ?_⟩
  · obtain ⟨g1, g2⟩ := a.out i fun z => h (List.mem_append_left _ z)
    obtain ⟨f1, f2⟩ := b.out i fun z => h (List.mem_append_right _ z)
    exact ⟨f1.trans g1, f2.trans g2⟩
  · rcases second i with ⟨f1, f2⟩ | ⟨n, u, e, f1, f2, f3⟩
    · rcases first i with ⟨g1, g2⟩ | ⟨n, u, e, g1, g2, g3⟩
      · exact .inl ⟨f1.trans g1, f2.trans g2⟩
      · exact .inr ⟨n, u, e, f1.trans g1, f2.trans g2, g3⟩
    · refine .inr ⟨?_, u, e, f1, f2, f3⟩
      rcases first i with ⟨_, g2⟩ | ⟨n', _⟩
      · rw [g2] at n; exact n
      · exact n'
def notArgB : Option (Option DV) → Bool
  | some (some (.arg _)) => false
  | some _ => true
  | none => false
theorem notArgB_of {q : Option (Option DV)} (h : notArgB q = true) : notArg q := by
  unfold notArgB at h
  split at h
  · cases h
  · rename_i d hn
    cases d with
    | none => exact True.intro
    | some y =>
      cases y with
      | arg xs => exact absurd rfl (hn xs)
      | _ => exact True.intro
  · cases h
def fName (i : Nat) : PyData → Den → Option Den := fun d ρ => if notArgB ρ[i]? = true then some (ρ.set i (some (.dat d))) else none
theorem xg_name {i : Nat} {x : Str} (hN : X.N.Nodup) (hi : X.N[i]? = some x) (hx : Loc X.env.scope x) (hf : X.fn x = true ∨ X.env.scope.names.lookup x = some .local := by first | exact .inl rfl | exact .inr rfl | assumption) : XG X (.Name x pos) (gName i) (fName i) [i] :=
  ⟨pg_name hN hi hx hf, fun Hf H σ ρ v d ρ' Q e hd h hl k => by
    unfold fName at h
    split at h
    · rename_i hn
      have n := notArgB_of hn
      cases h
      have hil : i < ρ.length := (notArg_of n).2
      refine k (σ.set i (some v)) ⟨by rw [List.length_set, List.length_set]; exact hl, List.length_set, fun j hj => ?_, fun j hj => ?_⟩
      · have ne : i ≠ j := fun e => hj (by simp [e])
        exact ⟨List.getElem?_set_ne ne, List.getElem?_set_ne ne⟩
      · have e : j = i := by simpa using hj
        subst e
        exact .inr ⟨n, v, d, List.getElem?_set_self (by rw [hl]; exact hil), List.getElem?_set_self hil, hd⟩
    · cases h⟩
def fNil : List PyData → Den → Option Den := fun ds ρ => match ds with
  | [] => some ρ
  | _ => none
def fCons (f : PyData → Den → Option Den) (g : List PyData → Den → Option Den) : List PyData → Den → Option Den := fun ds ρ => match ds with
  | d :: r => (f d ρ).bind (g r)
  | [] => none
theorem xgs_nil : XGs X [] gNil fNil [] :=
  ⟨pgs_nil, fun Hf H σ ρ vs ds ρ' Q e hd h hl k => by
    cases ds with
    | nil =>
      cases h
      cases hd
      exact ⟨rfl, k σ (.refl hl)⟩
    | cons _ _ => cases h⟩
theorem xgs_cons {e : Expr} {es : List Expr} {t : TG} {u : TGs} {f : PyData → Den → Option Den} {g : List PyData → Den → Option Den} {S S' : List Nat} (h1 : XG X e t f S) (h2 : XGs X es u g S')
    (hs : (assignEach (e :: es) X.env).map (·.2) = assign e X.env :: (assignEach es X.env).map (·.2) := by rfl) : XGs X (e :: es) (gCons t u) (fCons f g) (S ++ S') :=
  ⟨pgs_cons h1.pg h2.pg hs, fun Hf H σ ρ vs ds ρ' Q e hd h hl k => by
    cases ds with
    | nil => cases h
    | cons d r =>
      cases hd with
      | cons a b =>
        obtain ⟨ρ1, g1, g2⟩ := Option.bind_eq_some_iff.mp (show (f d ρ).bind (g r) = some ρ' from h)
        refine ⟨_, _, rfl, h1.so Hf H σ ρ _ d ρ1 _ e a g1 hl fun σ1 c1 => ?_⟩
        exact h2.so Hf H σ1 ρ1 _ r ρ' _ e b g2 c1.len fun σ2 c2 => k σ2 (c1.trans c2)⟩
def fTup (n : Nat) (g : List PyData → Den → Option Den) : PyData → Den → Option Den := fun d ρ => match d with
  | .tuple ds => if ds.length = n then g ds ρ else none
  | _ => none
theorem xg_tup {es : List Expr} {k : Nat} {t : TGs} {n : Nat} {g : List PyData → Den → Option Den} {S : List Nat} (hc : X.calm = true) (h : XGs X es t g S)
    (hn : (assignEach es X.env).length = n := by rfl) (hst : (assignEach es X.env).findIdx? (·.1) = none := by rfl) : XG X (.Tuple es k pos) (gTup X.K n t) (fTup n g) S :=
  ⟨pg_tup hc h.pg hn hst, fun Hf H σ ρ v d ρ' Q e hd hf hl q => by
    cases d with
    | tuple ds =>
      have hf : (if ds.length = n then g ds ρ else none) = some ρ' := hf
      split at hf
      · rename_i hlen
        cases hd with
        | tup hs ha => exact ⟨_, _, rfl, tupS e hs, by rw [DpAll.length ha]; exact hlen, h.so Hf H σ ρ _ ds ρ' Q e ha hf hl q⟩
      · cases hf
    | _ => cases hf⟩
theorem SR.ch {K : PySem.W.Frag} {N : Ent} {S : List Nat} {Hf H : Hp} {σ σ' : St} {ρ ρ' : Den} (s : SR K N Hf H σ ρ) (c : Ch K Hf S σ ρ σ' ρ') : SR K N Hf H σ' ρ' := by
  have all : ∀ i : Nat, (σ'[i]? = σ[i]? ∧ ρ'[i]? = ρ[i]?) ∨ (notArg ρ[i]? ∧ ∃ u e, σ'[i]? = some (some u) ∧ ρ'[i]? = some (some (.dat e)) ∧ Dp K Hf u e) := fun i => by
    by_cases h : i ∈ S
    · exact c.inn i h
    · exact .inl (c.out i h)
  refine s.asg ⟨c.len, fun i d h => ?_, fun i xs h => ?_⟩
  · rcases all i with ⟨g1, g2⟩ | ⟨n, u, e, g1, g2, g3⟩
    · exact .inl ⟨g1, g2 ▸ h⟩
    · rw [h] at g2; cases g2
      exact .inr ⟨(notArg_of n).1, fun _ z => (nomatch z), u, g1, g3, fun z => (nomatch z)⟩
  · rcases all i with g | ⟨n, _⟩
    · exact g
    · exact absurd h ((notArg_of n).1 xs)
def wAsg (w : WE) (f : PyData → Den → Option Den) : WS := fun D ρ => w ρ fun d ρ1 => match d with
  | .dat x => match f x ρ1 with
    | some ρ2 => D.nx ρ2
    | none => False
  | _ => False
theorem xs_asg {tg e : Expr} {te : TE} {w : WE} {g : TG} {f : PyData → Den → Option Den} {S : List Nat} (he : XE X e te w) (hg : XG X tg g f S) (hs : swapsWithSole [tg] e pos.line X.env = pure false := by rfl) (hw : swappedStores [tg] e X.env = pure none := by rfl)
    (h1 : (assignEach [tg] X.env).map (·.2) = [assign tg X.env] := by rfl) : XS X (.Assign [tg] e pos) (tAsg te g) (wAsg w f) :=
  ⟨ps_asg he.pe hg.pg hs hw h1, fun N D' D Hf H σ ρ c s hw => he.so Hf H σ ρ _ _ s.er hw fun v Hf1 H1 d ρ1 s1 r1 q1 => by
    have s' := s.step s1
    split at q1
    · rename_i x
      split at q1
      · rename_i ρ2 h2
        exact hg.so Hf1 H1 σ ρ1 v x ρ2 _ s'.er.ex r1.1 h2 s'.er.len fun σ2 c2 => c.nx Hf1 H1 σ2 ρ2 (s'.ch c2) q1
      · exact q1.elim
    · exact q1.elim⟩
/-! ### while -/
def wWhile (t : WT) (b : WS) : WS := fun D ρ => ∃ W : Nat → Den → Prop, (∃ m, W m ρ) ∧ ∀ m ρ, W m ρ → t ρ fun k ρ1 => if k = true then b { D with nx := fun ρ' => ∃ m', m' < m ∧ W m' ρ', ct := fun ρ' => ∃ m', m' < m ∧ W m' ρ', bk := D.nx } ρ1 else D.nx ρ1
theorem xs_while {c : Expr} {body : List Stmt} {tc : TT} {tb : TS} {wc : WT} {wb : WS} (hp : PassesOwn (model X.prog X.w) X.A X.env X.xe) (hc : XT X c tc wc) (hb : XSs X body tb wb) : XS X (.While c body [] pos) (tWhile tc tb) (wWhile wc wb) :=
  ⟨ps_while hp hc.pt hb.ps, fun N D' D Hf H σ ρ cp s hw => by
    obtain ⟨W, ⟨m0, w0⟩, turn⟩ := hw
    refine ⟨fun m σ H => ∃ Hf ρ, SR X.K N Hf H σ ρ ∧ W m ρ, ⟨m0, Hf, ρ, s, w0⟩, ?_⟩
    rintro m σ1 H1 ⟨Hf1, ρ1, s1, w1⟩
    refine hc.so Hf1 H1 σ1 ρ1 _ _ s1.er (turn m ρ1 w1) fun k Hf2 H2 ρ2 s2 q2 => ?_
    have s' := s1.step s2
    cases k with
    | true =>
      refine ⟨fun σ' H' => ∃ m', m' < m ∧ ∃ Hf ρ, SR X.K N Hf H' σ' ρ ∧ W m' ρ, fun σ' H' h => h, ?_⟩
      have again : ∀ Hf H σ ρ, SR X.K N Hf H σ ρ → (∃ m', m' < m ∧ W m' ρ) → ∃ m', m' < m ∧ ∃ Hf ρ, SR X.K N Hf H σ ρ ∧ W m' ρ := fun Hf H σ ρ s ⟨m', h1, h2⟩ => ⟨m', h1, Hf, ρ, s, h2⟩
      exact hb.so N { D' with nx := fun ρ' => ∃ m', m' < m ∧ W m' ρ', ct := fun ρ' => ∃ m', m' < m ∧ W m' ρ', bk := D'.nx } _ Hf2 H2 σ1 ρ2 ⟨again, cp.nx, again, cp.rt⟩ s' q2
    | false => exact cp.nx Hf2 H2 σ1 ρ2 s' q2⟩
end
end DL
end
section
set_option Elab.async false
set_option linter.all false
set_option maxRecDepth 100000
set_option maxHeartbeats 1000000
namespace DL
open PySem L2

/-- the frozen grows, all else stays -/
structure Grow (Hf H Hf' H' : Hp) : Prop where
  fx : Same Hf Hf'
  kp : Same H H'
  ex : Same Hf' H'
  nf : ∀ b o, Hf' b = some o → Hf b = none → H b = none ∨ ∃ ys, H b = some (.tup ys)
theorem Grow.refl {Hf H : Hp} (e : Same Hf H) : Grow Hf H Hf H := ⟨Same.refl _, Same.refl _, e, fun b o h n => by rw [n] at h; cases h⟩
theorem Grow.new {Hf H : Hp} {T : Addr} {o : HO} (e : Same Hf H) (h : H T = none) : Grow Hf H (upd Hf T o) (upd H T o) := by
  have hf : Hf T = none := by
    cases z : Hf T with
    | none => rfl
    | some u => rw [e T u z] at h; cases h
  refine ⟨same_new hf, same_new h, same_upd2 e h, fun b x q n => ?_⟩
  by_cases z : b = T
  · exact .inl (z ▸ h)
  · rw [upd_ne z, n] at q; cases q
/-- a tracked tuple is taken in -/
theorem Grow.tup {Hf H : Hp} {q : Addr} {ys : List V} (e : Same Hf H) (h : H q = some (.tup ys)) : ∃ Hf', Grow Hf H Hf' H ∧ Hf' q = some (.tup ys) := by
  cases z : Hf q with
  | some o =>
    have := e q o z
    rw [h] at this; cases this
    exact ⟨Hf, .refl e, z⟩
  | none =>
    refine ⟨upd Hf q (.tup ys), ⟨same_new z, Same.refl _, fun b o g => ?_, fun b o g n => ?_⟩, upd_same⟩
    · by_cases y : b = q
      · rw [y, upd_same] at g; cases g; rw [y]; exact h
      · rw [upd_ne y] at g; exact e b o g
    · by_cases y : b = q
      · exact .inr ⟨ys, y ▸ h⟩
      · rw [upd_ne y, n] at g; cases g
theorem grow_st2 {K : PySem.W.Frag} {Hf H Hf' H' : Hp} {σ : St} {ρ : Den} (E : ER K Hf H σ ρ) (g : Grow Hf H Hf' H') : St2 K σ Hf H ρ Hf' H' ρ := by
  refine ⟨⟨g.fx, fun b x q _ => g.kp b x q, fun b q => ?_, fun b x q n => (g.nf b x q n).imp id .inr⟩, ⟨E.len, g.ex, fun i d q => ?_, E.dj⟩, fun _ z => z, fun _ => Iff.rfl⟩
  · cases z : H b with
    | none => rfl
    | some u => rw [g.kp b u z] at q; cases q
  · obtain ⟨v, h1, h2⟩ := E.sl i d q
    refine ⟨v, h1, vr_keep h2 g.fx fun a ea ho => ⟨fun n => ?_, fun u z => g.kp a u z⟩⟩
    subst ea
    cases z : Hf' a with
    | none => rfl
    | some o =>
      have ow : Ow σ ρ a := ⟨i, d, q, ho, h1⟩
      rcases g.nf a o z n with y | ⟨ys, y⟩
      · exact absurd y (E.ow ow).1
      · exact absurd y (E.owT ow ys)
/-! ### what is walked -/
/-- J yields the data items, whatever the heap, while the frozen objects of Hf stand -/
structure ItOk (K : PySem.W.Frag) (Hf : Hp) (J : It) (items : List PyData) : Prop where
  stop : ∀ i Hf2 H2, Same Hf Hf2 → Same Hf2 H2 → items.length = i → J.stop i H2
  go : ∀ i Hf2 H2, Same Hf Hf2 → Same Hf2 H2 → i < items.length → J.go i H2
  yld : ∀ i Hf2 H2 x H3 d, Same Hf Hf2 → Same Hf2 H2 → items[i]? = some d → J.yld i H2 x H3 → ∃ Hf3, Grow Hf2 H2 Hf3 H3 ∧ Dp K Hf3 x d
abbrev WI := Den → (List PyData → Den → Prop) → Prop
structure XI (X : Cx) (tg iter : Expr) (wi : TI) (w : WI) : Prop where
  pi : PI X tg iter wi
  so : ∀ Hf H σ ρ Q (R : It → Hp → Prop), ER X.K Hf H σ ρ → w ρ Q → (∀ J Hf' H' ρ' items, St2 X.K σ Hf H ρ Hf' H' ρ' → ItOk X.K Hf' J items → Q items ρ' → R J H') → wi σ H R

section
variable {X : Cx} {tg : Expr}
def iSeq (K : PySem.W.Frag) (tl : TE) : TI := fun σ H R => tl σ H fun x H1 => ∃ a, x = .ref a ∧ (((∃ xs, SqL K H1 a xs) ∧ R (Itl K a) H1) ∨ ((∃ xs, SqT K H1 a xs) ∧ R (Itt K a) H1))
theorem pi_seq {l : Expr} {tl : TE} (hl : PE X l tl) : PI X tg l (iSeq X.K tl) := by
  refine ⟨fun pins s σ H R I h => ?_⟩
  refine thn (hl.run pins s σ H _ I h) fun v s1 ⟨x, H1, I1, r1, q1⟩ => ?_
  obtain ⟨a, e, q⟩ := q1
  subst e
  cases r1
  have hfp : ∀ b ∈ [s1.heap.objs.size], FpOk X pins H1 b := fun b hb => by
    have e : b = s1.heap.objs.size := by simpa using hb
    subst e
    exact I1.fpOk (Nat.le_refl _) (I1.hok.fresh (Nat.le_refl _))
  rcases q with ⟨⟨xs, hq⟩, q⟩ | ⟨⟨xs, hq⟩, q⟩
  · obtain ⟨its, rv, p, hz⟩ := I1.list hq
    refine wpAny_pyIter_list p.isList ?_
    exact ⟨s1.heap.objs.size, [s1.heap.objs.size], _, _, H1, rfl, I1.kept (t' := s1.toks) fun b o e => Heap.get?_push_of_some _ e, turn_list a _, ⟨_, Heap.get?_push_size _ rfl, rfl, rfl⟩, hfp, q⟩
  · obtain ⟨its, rv, p, hz⟩ := I1.tuple hq
    refine PySem.wpAny_pyIter_tuple (show s1.heap.IsTuple a its.toArray from p) ?_
    exact ⟨s1.heap.objs.size, [s1.heap.objs.size], _, _, H1, rfl, I1.kept (t' := s1.toks) fun b o e => Heap.get?_push_of_some _ e, turn_tuple a _, ⟨_, Heap.get?_push_size _ rfl, rfl, rfl⟩, hfp, q⟩
def wSeqI (w : WE) : WI := fun ρ Q => w ρ fun x ρ1 => match x with
  | .dat (.list xs) => Q xs ρ1
  | .dat (.tuple xs) => Q xs ρ1
  | .lst xs => Q xs ρ1
  | _ => False
theorem itOk_list {K : PySem.W.Frag} {Hf : Hp} {a : Addr} {vs : List V} {ds : List PyData} (hs : SqL K Hf a vs) (ha : DpAll K Hf vs ds) : ItOk K Hf (Itl K a) ds :=
  ⟨fun i Hf2 H2 e1 e2 h => ⟨vs, (e1.trans e2).seq hs, by rw [DpAll.length ha]; exact Nat.le_of_eq h⟩, fun i Hf2 H2 e1 e2 h => ⟨vs, vs[i]'(by rw [DpAll.length ha]; exact h), (e1.trans e2).seq hs, List.getElem?_eq_getElem _⟩,
    fun i Hf2 H2 x H3 d e1 e2 h y => by
      obtain ⟨rfl, g⟩ := y
      have hx := g vs ((e1.trans e2).seq hs)
      obtain ⟨v, h1, h2⟩ := DpAll.get ha h
      rw [hx] at h1; cases h1
      exact ⟨Hf2, .refl e2, dp_mono e1 _ _ h2⟩⟩
theorem itOk_tup {K : PySem.W.Frag} {Hf : Hp} {a : Addr} {vs : List V} {ds : List PyData} (hs : SqT K Hf a vs) (ha : DpAll K Hf vs ds) : ItOk K Hf (Itt K a) ds :=
  ⟨fun i Hf2 H2 e1 e2 h => ⟨vs, sqT_mono (e1.trans e2) hs, by rw [DpAll.length ha]; exact Nat.le_of_eq h⟩, fun i Hf2 H2 e1 e2 h => ⟨vs, vs[i]'(by rw [DpAll.length ha]; exact h), sqT_mono (e1.trans e2) hs, List.getElem?_eq_getElem _⟩,
    fun i Hf2 H2 x H3 d e1 e2 h y => by
      obtain ⟨rfl, g⟩ := y
      have hx := g vs (sqT_mono (e1.trans e2) hs)
      obtain ⟨v, h1, h2⟩ := DpAll.get ha h
      rw [hx] at h1; cases h1
      exact ⟨Hf2, .refl e2, dp_mono e1 _ _ h2⟩⟩
theorem xi_seq {l : Expr} {tl : TE} {w : WE} (h : XE X l tl w) : XI X tg l (iSeq X.K tl) (wSeqI w) :=
  ⟨pi_seq h.pe, fun Hf H σ ρ Q R E hw c => h.so Hf H σ ρ _ _ E hw fun x Hf1 H1 d ρ1 s1 r1 q1 => by
    have fin : ∀ {Hf2 : Hp} {xs : List PyData}, St2 X.K σ Hf H ρ Hf2 H1 ρ1 → Dp X.K Hf2 x (.list xs) → Q xs ρ1 → ∃ a, x = .ref a ∧ (((∃ xs, SqL X.K H1 a xs) ∧ R (Itl X.K a) H1) ∨ ((∃ xs, SqT X.K H1 a xs) ∧ R (Itt X.K a) H1)) := fun {Hf2 xs} s hd q => by
      cases hd with
      | lst hs ha => exact ⟨_, rfl, .inl ⟨⟨_, s.er.ex.seq hs⟩, c _ Hf2 H1 ρ1 xs s (itOk_list hs ha) q⟩⟩
    cases d with
    | dat y =>
      cases y with
      | list xs => exact fin s1 r1.1 q1
      | tuple xs =>
        have hd : Dp X.K Hf1 x (.tuple xs) := r1.1
        cases hd with
        | tup hs ha => exact ⟨_, rfl, .inr ⟨⟨_, tupS s1.er.ex hs⟩, c _ Hf1 H1 ρ1 xs s1 (itOk_tup (.inl (.inl hs)) ha) q1⟩⟩
      | _ => exact q1.elim
    | lst xs =>
      obtain ⟨Hf2, s2, a2⟩ := st2_freeze E s1 r1
      exact fin s2 a2 q1
    | _ => exact q1.elim⟩
/-- ranges -/
def rangeD (lo : Int) (n : Nat) : List PyData := (List.range n).map fun k => .int (lo + (k : Nat))
theorem rangeD_get {lo : Int} {n i : Nat} {d : PyData} (h : (rangeD lo n)[i]? = some d) : i < n ∧ d = .int (lo + (i : Nat)) := by
  unfold rangeD at h
  rw [List.getElem?_map] at h
  by_cases hi : i < n
  · rw [List.getElem?_range hi] at h
    cases h
    exact ⟨hi, rfl⟩
  · rw [List.getElem?_eq_none (by simpa using hi)] at h
    cases h
theorem rangeD_len {lo : Int} {n : Nat} : (rangeD lo n).length = n := by simp [rangeD]
theorem itOk_rng {K : PySem.W.Frag} {Hf : Hp} {lo : Int} {n : Nat} : ItOk K Hf (Itr lo n) (rangeD lo n) :=
  ⟨fun i Hf2 H2 e1 e2 h => by rw [rangeD_len] at h; exact Nat.le_of_eq h, fun i Hf2 H2 e1 e2 h => by rw [rangeD_len] at h; exact h,
    fun i Hf2 H2 x H3 d e1 e2 h y => by
      obtain ⟨rfl, rfl⟩ := y
      obtain ⟨_, rfl⟩ := rangeD_get h
      exact ⟨Hf2, .refl e2, .int _⟩⟩
def wRng1 (wa : WA) : WI := fun ρ Q => wa ρ fun xs ρ1 => match xs with
  | [.dat (.int j)] => -(2 ^ 62) ≤ j ∧ j < 2 ^ 62 ∧ Q (rangeD 0 j.toNat) ρ1
  | _ => False
def wRng2 (wa : WA) : WI := fun ρ Q => wa ρ fun xs ρ1 => match xs with
  | [.dat (.int i), .dat (.int j)] => (-(2 ^ 62) ≤ i ∧ i < 2 ^ 62 ∧ -(2 ^ 62) ≤ j ∧ j < 2 ^ 62) ∧ Q (rangeD i (j - i).toNat) ρ1
  | _ => False
theorem xi_range1 {a : Expr} {ta : TA} {wa : WA} {p pos : Pos} (hg : Gl X "range") (hm : X.mg "range" = none) (ha : XA X [a] ta wa) (hs : starEach [a] X.env = [(false, eval a X.env)] := by rfl) : XI X tg (.Call (.Name "range" p) [a] [] pos) (iRng1 ta) (wRng1 wa) :=
  ⟨pi_range1 hg hm ha.pa hs, fun Hf H σ ρ Q R E hw c => ha.so Hf H σ ρ _ _ E hw fun vs Hf1 H1 ds ρ1 s1 r1 q1 => by
    split at q1
    · rename_i j
      obtain ⟨v, rfl, h1⟩ := avs1 r1
      cases h1
      exact ⟨j, rfl, q1.1, q1.2.1, c _ Hf1 H1 ρ1 _ s1 itOk_rng q1.2.2⟩
    · exact q1.elim⟩
theorem xi_range2 {a b : Expr} {ta : TA} {wa : WA} {p pos : Pos} (hg : Gl X "range") (hm : X.mg "range" = none) (ha : XA X [a, b] ta wa) (hs : starEach [a, b] X.env = [(false, eval a X.env), (false, eval b X.env)] := by rfl) (hs2 : starEach [b] X.env = [(false, eval b X.env)] := by rfl) : XI X tg (.Call (.Name "range" p) [a, b] [] pos) (iRng2 ta) (wRng2 wa) :=
  ⟨pi_range2 hg hm ha.pa hs hs2, fun Hf H σ ρ Q R E hw c => ha.so Hf H σ ρ _ _ E hw fun vs Hf1 H1 ds ρ1 s1 r1 q1 => by
    split at q1
    · rename_i i j
      obtain ⟨v, u, rfl, h1, h2⟩ := avs2 r1
      cases h1; cases h2
      exact ⟨i, j, rfl, q1.1, c _ Hf1 H1 ρ1 _ s1 itOk_rng q1.2⟩
    · exact q1.elim⟩
def rangeC (lo c : Int) (n : Nat) : List PyData := (List.range n).map fun k => .int (lo + (k : Nat) * c)
theorem rangeC_len {lo c : Int} {n : Nat} : (rangeC lo c n).length = n := by simp [rangeC]
theorem rangeC_get {lo c : Int} {n i : Nat} {d : PyData} (h : (rangeC lo c n)[i]? = some d) : i < n ∧ d = .int (lo + (i : Nat) * c) := by
  unfold rangeC at h
  rw [List.getElem?_map] at h
  by_cases hi : i < n
  · rw [List.getElem?_range hi] at h
    cases h
    exact ⟨hi, rfl⟩
  · rw [List.getElem?_eq_none (by simpa using hi)] at h
    cases h
theorem itOk_rngC {K : PySem.W.Frag} {Hf : Hp} {lo c : Int} {n : Nat} : ItOk K Hf (Itc lo c n) (rangeC lo c n) :=
  ⟨fun i Hf2 H2 e1 e2 h => by rw [rangeC_len] at h; exact Nat.le_of_eq h, fun i Hf2 H2 e1 e2 h => by rw [rangeC_len] at h; exact h,
    fun i Hf2 H2 x H3 d e1 e2 h y => by
      obtain ⟨rfl, rfl⟩ := y
      obtain ⟨_, rfl⟩ := rangeC_get h
      exact ⟨Hf2, .refl e2, .int _⟩⟩
def wRng3 (wa : WA) : WI := fun ρ Q => wa ρ fun xs ρ1 => match xs with
  | [.dat (.int i), .dat (.int j), .dat (.int c)] => ∃ n, RgC i j c n ∧ Q (rangeC i c n) ρ1
  | _ => False

/-! ### for -/
def forGo (f : PyData → Den → Option Den) (wb : WS) (D : DE) : List PyData → Den → Prop
  | [], ρ => D.nx ρ
  | x :: xs, ρ => match f x ρ with
    | some ρ1 => wb { D with nx := forGo f wb D xs, ct := forGo f wb D xs, bk := D.nx } ρ1
    | none => False
def wFor (wi : WI) (f : PyData → Den → Option Den) (wb : WS) : WS := fun D ρ => wi ρ fun items ρ1 => forGo f wb D items ρ1
theorem xs_for {iter : Expr} {body : List Stmt} {wi : TI} {g : TG} {tb : TS} {pos : Pos} {w : WI} {f : PyData → Den → Option Den} {S : List Nat} {wb : WS} (hp : PassesOwn (model X.prog X.w) X.A X.env X.xe) (hc : X.calm = true) (hi : XI X tg iter wi w) (hg : XG X tg g f S) (hb : XSs X body tb wb)
    (hs : ∀ x, foldedSetIterable iter X.env x = pure x := by intro _; rfl) : XS X (.For tg iter body [] pos) (tFor wi g tb) (wFor w f wb) :=
  ⟨ps_for hp hc hi.pi hg.pg hb.ps hs, fun N D' D Hf H σ ρ cp s hw => by
    refine hi.so Hf H σ ρ _ _ s.er hw fun J Hf1 H1 ρ1 items s1 ok q => ?_
    have s' := s.step s1
    let M : Ent := { N with G := Hf1 }
    have toM : SR X.K M Hf1 H1 σ ρ1 := ⟨s'.st, s'.er, s'.lo, s'.rt, s'.ar, Same.refl _⟩
    have toN : ∀ {Hf H σ ρ}, SR X.K M Hf H σ ρ → SR X.K N Hf H σ ρ := fun {Hf H σ ρ} z => ⟨z.st, z.er, z.lo, z.rt, z.ar, s'.gh.trans z.gh⟩
    have cpM : Cp X.K M D' D := ⟨fun Hf H σ ρ z => cp.nx Hf H σ ρ (toN z), fun Hf H σ ρ z => cp.bk Hf H σ ρ (toN z), fun Hf H σ ρ z => cp.ct Hf H σ ρ (toN z), fun Hf H σ ρ v r z => cp.rt Hf H σ ρ v r (toN z)⟩
    refine ⟨fun i m σ H => ∃ Hf ρ, SR X.K M Hf H σ ρ ∧ i + m = items.length ∧ forGo f wb D' (items.drop i) ρ, ⟨items.length, Hf1, ρ1, toM, by omega, q⟩, ?_⟩
    rintro i m σ2 H2 ⟨Hf2, ρ2, s2, em, q2⟩
    by_cases hlt : i < items.length
    · refine .inr ⟨ok.go i Hf2 H2 s2.gh s2.er.ex hlt, fun σ' H' => ∃ m', m' < m ∧ ∃ Hf ρ, SR X.K M Hf H' σ' ρ ∧ i + 1 + m' = items.length ∧ forGo f wb D' (items.drop (i + 1)) ρ, fun σ' H' ⟨m', h1, h2⟩ => ⟨m', h1, h2⟩, fun x H3 hy => ?_⟩
      rw [List.drop_eq_getElem_cons hlt] at q2
      have q2' : match f items[i] ρ2 with
        | some ρ1 => wb { D' with nx := forGo f wb D' (items.drop (i + 1)), ct := forGo f wb D' (items.drop (i + 1)), bk := D'.nx } ρ1
        | none => False := q2
      split at q2'
      · rename_i ρ3 h3
        have body : ∀ {Hf3 : Hp}, SR X.K M Hf3 H3 σ2 ρ2 → Dp X.K Hf3 x items[i] → g x σ2 H3 fun σ3 H4 => tb { D with nx := fun σ' H' => ∃ m', m' < m ∧ ∃ Hf ρ, SR X.K M Hf H' σ' ρ ∧ i + 1 + m' = items.length ∧ forGo f wb D' (items.drop (i + 1)) ρ, ct := fun σ' H' => ∃ m', m' < m ∧ ∃ Hf ρ, SR X.K M Hf H' σ' ρ ∧ i + 1 + m' = items.length ∧ forGo f wb D' (items.drop (i + 1)) ρ, bk := D.nx } σ3 H4 := fun {Hf3} s3 hd => by
          refine hg.so Hf3 H3 σ2 ρ2 x _ ρ3 _ s3.er.ex hd h3 s3.er.len fun σ4 c4 => ?_
          have again : ∀ Hf H σ ρ, SR X.K M Hf H σ ρ → forGo f wb D' (items.drop (i + 1)) ρ → ∃ m', m' < m ∧ ∃ Hf ρ, SR X.K M Hf H σ ρ ∧ i + 1 + m' = items.length ∧ forGo f wb D' (items.drop (i + 1)) ρ :=
            fun Hf H σ ρ z1 z2 => ⟨m - 1, by omega, Hf, ρ, z1, by omega, z2⟩
          exact hb.so M { D' with nx := forGo f wb D' (items.drop (i + 1)), ct := forGo f wb D' (items.drop (i + 1)), bk := D'.nx } _ Hf3 H3 σ4 ρ3 ⟨again, cpM.nx, again, cpM.rt⟩ (s3.ch c4) q2'
        rcases ok.yld i Hf2 H2 x H3 items[i] s2.gh s2.er.ex (List.getElem?_eq_getElem hlt) hy with ⟨Hf3, g3, hd⟩
        exact body (s2.step (grow_st2 s2.er g3)) hd
      · exact q2'.elim
    · have e : i = items.length := by omega
      subst e
      rw [List.drop_length] at q2
      exact .inl ⟨ok.stop _ Hf2 H2 s2.gh s2.er.ex rfl, cp.nx Hf2 H2 σ2 ρ2 (toN s2) q2⟩⟩
end
end DL
end
section
set_option Elab.async false
set_option linter.all false
set_option maxRecDepth 100000
set_option maxHeartbeats 1000000
namespace DL
open PySem L2

section
variable {X : Cx} {tg : Expr} {pos : Pos}
theorem avs3 {K : PySem.W.Frag} {Hf : Hp} {σ : St} {vs : List V} {d e f : DV} (h : AVs K Hf σ vs [d, e, f]) : ∃ v u w, vs = [v, u, w] ∧ AV K Hf σ v d ∧ AV K Hf σ u e ∧ AV K Hf σ w f := by
  cases h with
  | cons h t => cases t with
    | cons h2 t2 => cases t2 with
      | cons h3 t3 => cases t3; exact ⟨_, _, _, rfl, h, h2, h3⟩
theorem xi_range3 {a b c : Expr} {ta : TA} {wa : WA} {p pos : Pos} (h : PI X tg (.Call (.Name "range" p) [a, b, c] [] pos) (iRng3 ta)) (ha : XA X [a, b, c] ta wa) : XI X tg (.Call (.Name "range" p) [a, b, c] [] pos) (iRng3 ta) (wRng3 wa) :=
  ⟨h, fun Hf H σ ρ Q R E hw c => ha.so Hf H σ ρ _ _ E hw fun vs Hf1 H1 ds ρ1 s1 r1 q1 => by
    split at q1
    · rename_i i j k
      obtain ⟨v, u, w, rfl, h1, h2, h3⟩ := avs3 r1
      cases h1; cases h2; cases h3
      obtain ⟨n, g, q⟩ := q1
      exact ⟨i, j, k, n, rfl, g, c _ Hf1 H1 ρ1 _ s1 itOk_rngC q⟩
    · exact q1.elim⟩
/-! ### zip, enumerate -/
def zipD : List PyData → List PyData → List PyData
  | x :: xs, y :: ys => .tuple [x, y] :: zipD xs ys
  | _, _ => []
theorem zipD_get : ∀ {xs ys : List PyData} {i : Nat} {d : PyData}, (zipD xs ys)[i]? = some d → ∃ x y, xs[i]? = some x ∧ ys[i]? = some y ∧ d = .tuple [x, y]
  | [], _, _, _, h => by simp [zipD] at h
  | _ :: _, [], _, _, h => by simp [zipD] at h
  | x :: xs, y :: ys, 0, d, h => by simp [zipD] at h; exact ⟨x, y, rfl, rfl, h.symm⟩
  | x :: xs, y :: ys, i + 1, d, h => by
    obtain ⟨a, b, h1, h2, h3⟩ := zipD_get (xs := xs) (ys := ys) (i := i) (d := d) (by simpa [zipD] using h)
    exact ⟨a, b, by simpa using h1, by simpa using h2, h3⟩
theorem zipD_len : ∀ {xs ys : List PyData}, (zipD xs ys).length = min xs.length ys.length
  | [], _ => by simp [zipD]
  | _ :: _, [] => by simp [zipD]
  | x :: xs, y :: ys => by simp [zipD, zipD_len (xs := xs) (ys := ys)]
def enumD (k : Nat) : List PyData → List PyData
  | [] => []
  | x :: xs => .tuple [.int (k : Nat), x] :: enumD (k + 1) xs
theorem enumD_get : ∀ {xs : List PyData} {k i : Nat} {d : PyData}, (enumD k xs)[i]? = some d → ∃ x, xs[i]? = some x ∧ d = .tuple [.int ((k + i : Nat) : Int), x]
  | [], _, _, _, h => by simp [enumD] at h
  | x :: xs, k, 0, d, h => by simp [enumD] at h; exact ⟨x, rfl, h.symm⟩
  | x :: xs, k, i + 1, d, h => by
    obtain ⟨a, h1, h2⟩ := enumD_get (xs := xs) (k := k + 1) (i := i) (d := d) (by simpa [enumD] using h)
    exact ⟨a, by simpa using h1, by rw [h2, show k + 1 + i = k + (i + 1) by omega]⟩
theorem enumD_len : ∀ {xs : List PyData} {k : Nat}, (enumD k xs).length = xs.length
  | [], _ => rfl
  | x :: xs, k => by simp [enumD, enumD_len (xs := xs)]
end

/-! ### comprehensions -/
def wipeD (ρ : Den) : List Nat → Den
  | [] => ρ
  | v :: vs => (wipeD ρ vs).set v none
def restD (ρ ρ3 : Den) : List Nat → Den
  | [] => ρ3
  | v :: vs => (restD ρ ρ3 vs).set v (ρ[v]?.getD none)
theorem wipeD_get {ρ : Den} {i : Nat} : ∀ {vs : List Nat}, (wipeD ρ vs)[i]? = if i ∈ vs then (ρ[i]?).map (fun _ => none) else ρ[i]?
  | [] => by simp [wipeD]
  | v :: vs => by
    unfold wipeD
    by_cases e : v = i
    · subst e
      rw [if_pos List.mem_cons_self, List.getElem?_set_self']
      rw [wipeD_get (vs := vs)]
      split <;> cases ρ[v]? <;> rfl
    · rw [List.getElem?_set_ne e, wipeD_get (vs := vs)]
      have : (i ∈ v :: vs) ↔ i ∈ vs := by simp [Ne.symm e]
      by_cases h : i ∈ vs
      · rw [if_pos h, if_pos (this.mpr h)]
      · rw [if_neg h, if_neg fun z => h (this.mp z)]
theorem wipe_get {σ : St} {i : Nat} : ∀ {vs : List Nat}, (wipe σ vs)[i]? = if i ∈ vs then (σ[i]?).map (fun _ => none) else σ[i]?
  | [] => by simp [wipe]
  | v :: vs => by
    unfold wipe
    by_cases e : v = i
    · subst e
      rw [if_pos List.mem_cons_self, List.getElem?_set_self']
      rw [wipe_get (vs := vs)]
      split <;> cases σ[v]? <;> rfl
    · rw [List.getElem?_set_ne e, wipe_get (vs := vs)]
      have : (i ∈ v :: vs) ↔ i ∈ vs := by simp [Ne.symm e]
      by_cases h : i ∈ vs
      · rw [if_pos h, if_pos (this.mpr h)]
      · rw [if_neg h, if_neg fun z => h (this.mp z)]
theorem wipeD_len {ρ : Den} : ∀ {vs : List Nat}, (wipeD ρ vs).length = ρ.length
  | [] => rfl
  | v :: vs => by unfold wipeD; rw [List.length_set, wipeD_len]
theorem restD_get {ρ ρ3 : Den} {i : Nat} (hl : ρ3.length = ρ.length) : ∀ {vs : List Nat}, (restD ρ ρ3 vs)[i]? = if i ∈ vs then ρ[i]? else ρ3[i]?
  | [] => by simp [restD]
  | v :: vs => by
    unfold restD
    by_cases e : v = i
    · subst e
      rw [if_pos List.mem_cons_self, List.getElem?_set_self', restD_get hl (vs := vs)]
      by_cases hv : v < ρ.length
      · rw [List.getElem?_eq_getElem hv, List.getElem?_eq_getElem (by rw [hl]; exact hv)]
        split <;> rfl
      · rw [List.getElem?_eq_none (by omega), List.getElem?_eq_none (by omega)]
        split <;> rfl
    · rw [List.getElem?_set_ne e, restD_get hl (vs := vs)]
      have : (i ∈ v :: vs) ↔ i ∈ vs := by simp [Ne.symm e]
      by_cases h : i ∈ vs
      · rw [if_pos h, if_pos (this.mpr h)]
      · rw [if_neg h, if_neg fun z => h (this.mp z)]
theorem restD_len {ρ ρ3 : Den} : ∀ {vs : List Nat}, (restD ρ ρ3 vs).length = ρ3.length
  | [] => rfl
  | v :: vs => by unfold restD; rw [List.length_set, restD_len]
def vsOk (ρ : Den) (vs : List Nat) : Bool := vs.all fun i => match ρ[i]? with
  | some (some d) => !d.isOwn
  | some none => true
  | none => false
def lcGo (f : PyData → Den → Option Den) (wt : WT) (we : WE) (vs : List Nat) (Q : DV → Den → Prop) : List PyData → List PyData → Den → Prop
  | [], acc, ρ => Q (.lst acc) ρ
  | x :: xs, acc, ρ => vsOk ρ vs = true ∧ match f x (wipeD ρ vs) with
    | some ρ2 => wt ρ2 fun b ρ3 => if b = true then we ρ3 fun y ρ4 => match y with
        | .dat d => acc.length < sizeLine ∧ lcGo f wt we vs Q xs (acc ++ [d]) (restD ρ ρ4 vs)
        | .lst l => acc.length < sizeLine ∧ lcGo f wt we vs Q xs (acc ++ [.list l]) (restD ρ ρ4 vs)
        | _ => False
      else lcGo f wt we vs Q xs acc (restD ρ ρ3 vs)
    | none => False
def wLc (wi : WI) (f : PyData → Den → Option Den) (wt : WT) (we : WE) (vs : List Nat) : WE := fun ρ Q => wi ρ fun items ρ1 => lcGo f wt we vs Q items [] ρ1

section
variable {K : PySem.W.Frag} {σ σ2 : St} {Hf H Hf1 H1 : Hp} {ρ ρ2 ρ3 : Den} {vs S : List Nat}
theorem ER.ch (E : ER K Hf H σ ρ) (c : Ch K Hf S σ ρ σ2 ρ2) : ER K Hf H σ2 ρ2 ∧ ∀ a, Ow σ2 ρ2 a → Ow σ ρ a := by
  have all : ∀ i : Nat, (σ2[i]? = σ[i]? ∧ ρ2[i]? = ρ[i]?) ∨ (notArg ρ[i]? ∧ ∃ u e, σ2[i]? = some (some u) ∧ ρ2[i]? = some (some (.dat e)) ∧ Dp K Hf u e) := fun i => by
    by_cases h : i ∈ S
    · exact c.inn i h
    · exact .inl (c.out i h)
  have own : ∀ {i : Nat} {d : DV}, ρ2[i]? = some (some d) → d.isOwn = true → σ2[i]? = σ[i]? ∧ ρ[i]? = some (some d) := fun {i d} h o => by
    rcases all i with ⟨g1, g2⟩ | ⟨n, u, e, g1, g2, g3⟩
    · exact ⟨g1, g2 ▸ h⟩
    · rw [h] at g2; cases g2; cases o
  refine ⟨⟨c.len, E.ex, fun i d h => ?_, fun i j d e a h1 h2 o1 o2 s1 s2 => ?_⟩, fun a ⟨i, d, h1, h2, h3⟩ => ?_⟩
  · rcases all i with ⟨g1, g2⟩ | ⟨n, u, e, g1, g2, g3⟩
    · rw [g1]; exact E.sl i d (g2 ▸ h)
    · rw [h] at g2; cases g2
      exact ⟨u, g1, g3⟩
  · obtain ⟨g1, g2⟩ := own h1 o1
    obtain ⟨f1, f2⟩ := own h2 o2
    exact E.dj i j d e a g2 f2 o1 o2 (g1 ▸ s1) (f1 ▸ s2)
  · obtain ⟨g1, g2⟩ := own h1 h2
    exact ⟨i, d, g2, h2, g1 ▸ h3⟩
theorem vsOk_at (h : vsOk ρ vs = true) {i : Nat} (hi : i ∈ vs) : i < ρ.length ∧ ∀ d, ρ[i]? = some (some d) → d.isOwn = false := by
  have q := List.all_eq_true.mp h i hi
  cases g : ρ[i]? with
  | none => simp [g] at q
  | some o =>
    refine ⟨len_of_get g, fun d e => ?_⟩
    cases e
    simp [g] at q
    exact q
theorem er_wipe (E : ER K Hf H σ ρ) : ER K Hf H (wipe σ vs) (wipeD ρ vs) := by
  have back : ∀ {i : Nat} {d : DV}, (wipeD ρ vs)[i]? = some (some d) → i ∉ vs ∧ ρ[i]? = some (some d) ∧ (wipe σ vs)[i]? = σ[i]? := fun {i d} h => by
    rw [wipeD_get] at h
    by_cases z : i ∈ vs
    · rw [if_pos z] at h
      cases q : ρ[i]? <;> (rw [q] at h; cases h)
    · rw [if_neg z] at h
      exact ⟨z, h, by rw [wipe_get, if_neg z]⟩
  refine ⟨by rw [wipe_length, wipeD_len]; exact E.len, E.ex, fun i d h => ?_, fun i j d e a h1 h2 o1 o2 s1 s2 => ?_⟩
  · obtain ⟨g1, g2, g3⟩ := back h
    rw [g3]; exact E.sl i d g2
  · obtain ⟨_, g2, g3⟩ := back h1
    obtain ⟨_, f2, f3⟩ := back h2
    exact E.dj i j d e a g2 f2 o1 o2 (g3 ▸ s1) (f3 ▸ s2)
/-- a turn of a comprehension, seen from around it -/
theorem st2_turn {ρw : Den} (E : ER K Hf H σ ρ) (ok : vsOk ρ vs = true) (c : Ch K Hf S (wipe σ vs) (wipeD ρ vs) σ2 ρ2) (hS : ∀ i ∈ S, i ∈ vs) (s : St2 K σ2 Hf H ρ2 Hf1 H1 ρ3) : St2 K σ Hf H ρ Hf1 H1 (restD ρ ρ3 vs) := by
  have E2 := (er_wipe (vs := vs) E).ch c
  have hl2 : ρ2.length = ρ.length := c.lenD.trans wipeD_len
  have hl3 : ρ3.length = ρ.length := by rw [← s.er.len, c.len]; exact hl2
  have same2 : ∀ i : Nat, i ∉ vs → σ2[i]? = σ[i]? ∧ ρ2[i]? = ρ[i]? := fun i hi => by
    obtain ⟨g1, g2⟩ := c.out i fun z => hi (hS i z)
    rw [wipe_get, if_neg hi] at g1
    rw [wipeD_get, if_neg hi] at g2
    exact ⟨g1, g2⟩
  -- an owned slot of the block is one of around it
  have own2 : ∀ {i : Nat} {d : DV}, ρ2[i]? = some (some d) → d.isOwn = true → i ∉ vs := fun {i d} h o z => by
    by_cases hi : i ∈ S
    · rcases c.inn i hi with ⟨_, g2⟩ | ⟨_, u, e, _, g2, _⟩
      · rw [h, wipeD_get, if_pos z] at g2
        cases q : ρ[i]? <;> (rw [q] at g2; cases g2)
      · rw [h] at g2; cases g2; cases o
    · obtain ⟨_, g2⟩ := c.out i hi
      rw [h, wipeD_get, if_pos z] at g2
      cases q : ρ[i]? <;> (rw [q] at g2; cases g2)
  have ow2 : ∀ a, Ow σ2 ρ2 a → Ow σ ρ a := fun a ⟨i, d, h1, h2, h3⟩ => by
    have hi := own2 h1 h2
    obtain ⟨g1, g2⟩ := same2 i hi
    exact ⟨i, d, g2 ▸ h1, h2, g1 ▸ h3⟩
  have back : ∀ {i : Nat} {d : DV}, (restD ρ ρ3 vs)[i]? = some (some d) → (i ∈ vs ∧ ρ[i]? = some (some d) ∧ d.isOwn = false) ∨ (i ∉ vs ∧ ρ3[i]? = some (some d) ∧ σ2[i]? = σ[i]?) := fun {i d} h => by
    rw [restD_get hl3] at h
    by_cases z : i ∈ vs
    · rw [if_pos z] at h
      exact .inl ⟨z, h, (vsOk_at ok z).2 d h⟩
    · rw [if_neg z] at h
      exact .inr ⟨z, h, (same2 i z).1⟩
  refine ⟨⟨s.st.fx, fun b o h n => s.st.fr b o h fun z => n (ow2 b z), s.st.al, fun b o h n => (s.st.nf b o h n).imp id (.imp (ow2 b) id)⟩, ⟨by rw [restD_len, hl3]; exact E.len, s.er.ex, fun i d h => ?_, fun i j d e a h1 h2 o1 o2 s1 s2 => ?_⟩, fun a z => ?_, fun i => ?_⟩
  · rcases back h with ⟨z, g1, g2⟩ | ⟨z, g1, g2⟩
    · obtain ⟨v, f1, f2⟩ := E.sl i d g1
      exact ⟨v, f1, vr_keep f2 s.st.fx fun a _ o => by rw [g2] at o; cases o⟩
    · rw [← g2]; exact s.er.sl i d g1
  · rcases back h1 with ⟨_, _, g⟩ | ⟨_, g1, g2⟩
    · rw [o1] at g; cases g
    · rcases back h2 with ⟨_, _, g⟩ | ⟨_, f1, f2⟩
      · rw [o2] at g; cases g
      · exact s.er.dj i j d e a g1 f1 o1 o2 (g2 ▸ s1) (f2 ▸ s2)
  · obtain ⟨i, d, h1, h2, h3⟩ := z
    rcases back h1 with ⟨_, _, g⟩ | ⟨_, g1, g2⟩
    · rw [h2] at g; cases g
    · exact ow2 a (s.lo a ⟨i, d, g1, h2, g2 ▸ h3⟩)
  · constructor
    · rintro ⟨xs, h⟩
      rcases back h with ⟨_, g1, _⟩ | ⟨z, g1, _⟩
      · exact ⟨xs, g1⟩
      · obtain ⟨ys, q⟩ := (s.ar i).mp ⟨xs, g1⟩
        exact ⟨ys, (same2 i z).2 ▸ q⟩
    · rintro ⟨xs, h⟩
      have z : i ∉ vs := fun z => by
        have := (vsOk_at ok z).2 _ h
        cases this
      obtain ⟨ys, q⟩ := (s.ar i).mpr ⟨xs, by rw [(same2 i z).2]; exact h⟩
      exact ⟨ys, by rw [restD_get hl3, if_neg z]; exact q⟩
theorem wipe_ch (hS : ∀ i ∈ S, i ∈ vs) (hl : σ.length = ρ.length) (c : Ch K Hf S (wipe σ vs) (wipeD ρ vs) σ2 ρ2) : wipe σ2 vs = wipe σ vs := by
  apply List.ext_getElem?
  intro i
  rw [wipe_get, wipe_get]
  by_cases z : i ∈ vs
  · rw [if_pos z, if_pos z]
    have l2 : σ2.length = σ.length := by rw [c.len, c.lenD, wipeD_len, hl]
    by_cases hi : i < σ.length
    · rw [List.getElem?_eq_getElem hi, List.getElem?_eq_getElem (by rw [l2]; exact hi)]; rfl
    · rw [List.getElem?_eq_none (by omega), List.getElem?_eq_none (by omega)]
  · rw [if_neg z, if_neg z]
    have g := (c.out i fun y => z (hS i y)).1
    rw [wipe_get, if_neg z] at g
    exact g
end
section
variable {X : Cx} {pos : Pos}
structure XTs (X : Cx) (ifs : List Expr) (t : TT) (w : WT) : Prop where
  pt : PTs X ifs t
  so : ∀ Hf H σ ρ Q Q', ER X.K Hf H σ ρ → w ρ Q → CnT X.K σ Hf H ρ Q Q' → t σ H Q'
def wYes : WT := fun ρ Q => Q true ρ
theorem xts_nil : XTs X [] tYes wYes := ⟨pts_nil, fun Hf H σ ρ Q Q' E hw c => c true Hf H ρ (.refl E) hw⟩
theorem xts_one {e : Expr} {t : TT} {w : WT} (h : XT X e t w) : XTs X [e] t w := ⟨pts_one h.pt, h.so⟩
theorem lc_so {tg iter : Expr} {wi : TI} {g : TG} {tt : TT} {te : TE} {w : WI} {f : PyData → Den → Option Den} {S vs : List Nat} {wt : WT} {we : WE} (hi : XI X tg iter wi w)
    (hg : ∀ Hf H σ ρ v d ρ' (Q : St → Hp → Prop), Same Hf H → Dp X.K Hf v d → f d ρ = some ρ' → σ.length = ρ.length → (∀ σ', Ch X.K Hf S σ ρ σ' ρ' → Q σ' H) → g v σ H Q) (hS : ∀ i ∈ S, i ∈ vs)
    (ht : ∀ Hf H σ ρ Q Q', ER X.K Hf H σ ρ → wt ρ Q → CnT X.K σ Hf H ρ Q Q' → tt σ H Q') (he : ∀ Hf H σ ρ Q Q', ER X.K Hf H σ ρ → we ρ Q → CnE X.K σ Hf H ρ Q Q' → te σ H Q')
    {Hf H : Hp} {σ : St} {ρ : Den} {Q : DV → Den → Prop} {Q' : VK} (E : ER X.K Hf H σ ρ) (hw : wLc w f wt we vs ρ Q) (c : CnE X.K σ Hf H ρ Q Q') : tLc wi g tt te vs σ H Q' := by
  refine hi.so Hf H σ ρ _ _ E hw fun J Hf1 H1 ρ1 items s1 ok q => fun D hD => ?_
  have sD := st2_newO (o := .lst []) s1.er hD
  have s0 := s1.trans sD
  have hD0 : H D = none := s1.st.al D hD
  refine ⟨fun i m H2 => ∃ Hf2 ρ2 acc us, St2 X.K σ Hf H ρ Hf2 H2 ρ2 ∧ Same Hf1 Hf2 ∧ H2 D = some (.lst us) ∧ Hf2 D = none ∧ DpAll X.K Hf2 us acc ∧ i + m = items.length ∧ lcGo f wt we vs Q (items.drop i) acc ρ2,
    ⟨items.length, Hf1, ρ1, [], [], s0, Same.refl _, upd_same, s1.er.hf_none hD, .nil, by omega, q⟩, ?_⟩
  rintro i m H2 ⟨Hf2, ρ2, acc, us, s2, e2, hD2, hfD2, ha2, em, q2⟩
  have nOw : ∀ {ρx : Den}, (∀ a, Ow σ ρx a → Ow σ ρ a) → ¬ Ow σ ρx D := fun {ρx} h z => (E.ow (h D z)).1 hD0
  by_cases hlt : i < items.length
  · refine .inr ⟨ok.go i Hf2 H2 e2 s2.er.ex hlt, fun H' => ∃ Hf3 ρ3 acc us, St2 X.K σ Hf H ρ Hf3 H' ρ3 ∧ Same Hf1 Hf3 ∧ H' D = some (.lst us) ∧ Hf3 D = none ∧ DpAll X.K Hf3 us acc ∧ lcGo f wt we vs Q (items.drop (i + 1)) acc ρ3,
      fun H' ⟨Hf3, ρ3, acc, us, h1, h2, h3, h4, h5, h6⟩ => ⟨m - 1, by omega, Hf3, ρ3, acc, us, h1, h2, h3, h4, h5, by omega, h6⟩, fun x H3 hy => ?_⟩
    rw [List.drop_eq_getElem_cons hlt] at q2
    obtain ⟨vok, q2⟩ := q2
    split at q2
    · rename_i ρ3 h3
      have body : ∀ {Hf3 : Hp}, St2 X.K σ Hf2 H2 ρ2 Hf3 H3 ρ2 → H3 D = some (.lst us) → Hf3 D = none → Dp X.K Hf3 x items[i] → g x (wipe σ vs) H3 fun σ2 H2' => wipe σ2 vs = wipe σ vs ∧ tt σ2 H2' fun b H3' =>
          if b = true then te σ2 H3' fun y H4 => ∃ acc, H4 D = some (.lst acc) ∧ acc.length < sizeLine ∧ ∃ Hf3 ρ3 acc' us, St2 X.K σ Hf H ρ Hf3 (upd H4 D (.lst (acc ++ [y]))) ρ3 ∧ Same Hf1 Hf3 ∧ (upd H4 D (.lst (acc ++ [y]))) D = some (.lst us) ∧ Hf3 D = none ∧ DpAll X.K Hf3 us acc' ∧ lcGo f wt we vs Q (items.drop (i + 1)) acc' ρ3
          else ∃ Hf3 ρ3 acc us, St2 X.K σ Hf H ρ Hf3 H3' ρ3 ∧ Same Hf1 Hf3 ∧ H3' D = some (.lst us) ∧ Hf3 D = none ∧ DpAll X.K Hf3 us acc ∧ lcGo f wt we vs Q (items.drop (i + 1)) acc ρ3 := fun {Hf3} s3 hD3 hfD3 hd => by
        have Ew : ER X.K Hf3 H3 (wipe σ vs) (wipeD ρ2 vs) := er_wipe s3.er
        refine hg Hf3 H3 (wipe σ vs) (wipeD ρ2 vs) x _ ρ3 _ s3.er.ex hd h3 Ew.len fun σ4 c4 => ?_
        obtain ⟨E4, low4⟩ := Ew.ch c4
        refine ⟨wipe_ch hS s3.er.len c4, ?_⟩
        refine ht Hf3 H3 σ4 ρ3 _ _ E4 q2 fun b Hf5 H5 ρ5 s5 q5 => ?_
        -- the list that is made is out of the block's reach
        have turn : ∀ {Hf6 H6 : Hp} {ρ6 : Den}, St2 X.K σ4 Hf3 H3 ρ3 Hf6 H6 ρ6 → St2 X.K σ Hf H ρ Hf6 H6 (restD ρ2 ρ6 vs) ∧ H6 D = some (.lst us) ∧ Hf6 D = none ∧ DpAll X.K Hf6 us acc ∧ Same Hf1 Hf6 := fun {Hf6 H6 ρ6} s6 => by
          have t := st2_turn (ρw := ρ3) s3.er vok c4 hS s6
          have all := (s2.trans s3).trans t
          have n2 : ¬ Ow σ ρ2 D := nOw s2.lo
          refine ⟨all, t.st.fr D _ hD3 n2, ?_, dpAll_mono (s3.st.fx.trans s6.st.fx) _ _ ha2, (e2.trans s3.st.fx).trans s6.st.fx⟩
          cases z : Hf6 D with
          | none => rfl
          | some o =>
            rcases t.st.nf D o z hfD3 with y | y | ⟨ys, y⟩
            · rw [y] at hD3; cases hD3
            · exact absurd y n2
            · rw [y] at hD3; cases hD3
        cases b with
        | false =>
          obtain ⟨t1, t2, t3, t4, t5⟩ := turn s5
          exact ⟨Hf5, _, acc, us, t1, t5, t2, t3, t4, q5⟩
        | true =>
          refine he Hf5 H5 σ4 ρ5 _ _ s5.er q5 fun y Hf7 H7 d7 ρ7 s7 r7 q7 => ?_
          have fin : ∀ {Hf8 : Hp} {dd : PyData}, St2 X.K σ4 Hf5 H5 ρ5 Hf8 H7 ρ7 → Dp X.K Hf8 y dd → acc.length < sizeLine → lcGo f wt we vs Q (items.drop (i + 1)) (acc ++ [dd]) (restD ρ2 ρ7 vs) →
              ∃ acc, H7 D = some (.lst acc) ∧ acc.length < sizeLine ∧ ∃ Hf3 ρ3 acc' us, St2 X.K σ Hf H ρ Hf3 (upd H7 D (.lst (acc ++ [y]))) ρ3 ∧ Same Hf1 Hf3 ∧ (upd H7 D (.lst (acc ++ [y]))) D = some (.lst us) ∧ Hf3 D = none ∧ DpAll X.K Hf3 us acc' ∧ lcGo f wt we vs Q (items.drop (i + 1)) acc' ρ3 := fun {Hf8 dd} s8 hdd hz hq => by
            obtain ⟨t1, t2, t3, t4, t5⟩ := turn (s5.trans s8)
            refine ⟨us, t2, by rw [DpAll.length t4]; exact hz, Hf8, _, acc ++ [dd], us ++ [y], ?_, t5, upd_same, t3, DpAll.app t4 (.cons hdd .nil), hq⟩
            have n3 : ¬ Ow σ (restD ρ2 ρ7 vs) D := nOw t1.lo
            refine ⟨⟨t1.st.fx, fun b o h n => ?_, fun b h => ?_, t1.st.nf⟩, ⟨t1.er.len, fun b o h => ?_, fun j e h => ?_, t1.er.dj⟩, t1.lo, t1.ar⟩
            · have nb : b ≠ D := fun z => by rw [z, hD0] at h; cases h
              rw [upd_ne nb]; exact t1.st.fr b o h n
            · by_cases nb : b = D
              · rw [nb, upd_same] at h; cases h
              · rw [upd_ne nb] at h; exact t1.st.al b h
            · have nb : b ≠ D := fun z => by rw [z, t3] at h; cases h
              rw [upd_ne nb]; exact t1.er.ex b o h
            · obtain ⟨v, g1, g2⟩ := t1.er.sl j e h
              refine ⟨v, g1, vr_keep g2 (Same.refl _) fun a ea oe => ⟨fun z => z, fun o z => ?_⟩⟩
              subst ea
              have na : a ≠ D := fun z => n3 (z ▸ ⟨j, e, h, oe, g1⟩)
              rw [upd_ne na]; exact z
          cases d7 with
          | dat dd => exact fin s7 r7.1 q7.1 q7.2
          | lst l =>
            obtain ⟨Hf8, s8, a8⟩ := st2_freeze s5.er s7 r7
            exact fin s8 a8 q7.1 q7.2
          | _ => exact q7.elim
      rcases ok.yld i Hf2 H2 x H3 items[i] e2 s2.er.ex (List.getElem?_eq_getElem hlt) hy with ⟨Hf3, g3, hd⟩
      refine body (grow_st2 s2.er g3) (g3.kp D _ hD2) ?_ hd
      cases z : Hf3 D with
      | none => rfl
      | some o =>
        rcases g3.nf D o z hfD2 with y | ⟨ys, y⟩
        · rw [hD2] at y; cases y
        · rw [hD2] at y; cases y
    · exact q2.elim
  · have e : i = items.length := by omega
    subst e
    rw [List.drop_length] at q2
    exact .inl ⟨ok.stop _ Hf2 H2 e2 s2.er.ex rfl, c (.ref D) Hf2 H2 (.lst acc) ρ2 s2 ⟨⟨D, rfl, hfD2, us, hD2, ha2⟩, fun _ a e => by cases e; exact hD0⟩ q2⟩
theorem xe_lc {elt tg iter : Expr} {ifs : List Expr} {scope : Scope} {own : List (Str × Nat)} {wi : TI} {g : TG} {tt : TT} {te : TE} {w : WI} {f : PyData → Den → Option Den} {S : List Nat} {wt : WT} {we : WE} (hc : X.calm = true) (hN : X.N.Nodup) (hi : XI X tg iter wi w) (ok : BlkOk X.N X.env.scope scope own)
    (hg : ∀ (s : Shared) (H : Hp) (C : Addr) (cl : List (Str × Addr)) (fp : List Addr), XG (X.blk s H scope (compEnvC scope cl C X.env) fp) tg g f S) (ht : ∀ (s : Shared) (H : Hp) (C : Addr) (cl : List (Str × Addr)) (fp : List Addr), XTs (X.blk s H scope (compEnvC scope cl C X.env) fp) ifs tt wt)
    (he : ∀ (s : Shared) (H : Hp) (C : Addr) (cl : List (Str × Addr)) (fp : List Addr), XE (X.blk s H scope (compEnvC scope cl C X.env) fp) elt te we) (hS : ∀ i ∈ S, i ∈ own.map (·.2) := by decide) (hs : ∀ x, foldedSetIterable iter X.env x = pure x := by intro _; rfl) :
    XE X (.ListComp elt [⟨tg, iter, ifs, 0⟩] scope pos) (tLc wi g tt te (own.map (·.2))) (wLc w f wt we (own.map (·.2))) :=
  ⟨pe_lc hc hN hi.pi ok (fun s H C cl fp => (hg s H C cl fp).pg) (fun s H C cl fp => (ht s H C cl fp).pt) (fun s H C cl fp => (he s H C cl fp).pe) hs,
    fun Hf H σ ρ Q Q' E hw c => lc_so hi (hg X.s_0 X.H_0 0 [] []).so hS (ht X.s_0 X.H_0 0 [] []).so (he X.s_0 X.H_0 0 [] []).so E hw c⟩
end
end DL
end
section
set_option Elab.async false
set_option linter.all false
set_option maxRecDepth 100000
set_option maxHeartbeats 1000000

/-! ### the machine: extend by a tuple, sorted of a tuple -/
namespace DLM
open PySem PySem.W PyProof.Rows PySem.Calls L2
section
variable {prog : Program} {w : World} {A : Around} {E : Value → Shared → Prop} {s : Shared}
theorem collect_tup {l : Addr} {vs : List Value} {Q : List Value → Shared → Prop} (hl : IsTup s.heap l vs.toArray)
    (h : Q vs { s with heap := (s.heap.push (seqObj "list" #[] 0)).update s.heap.objs.size (Obj.mapSeq (· ++ vs.toArray)) }) (hsz : vs.length ≤ sizeLine) :
    wpAny (model prog w) A (collect (.ref l)) Q E s := by
  obtain ⟨o, ho, hc, n, hd⟩ := id hl
  unfold collect
  refine wpAny_bind (wpAny_runValue (codeAny_builtin entry_proto_collect' ?_))
  show wpAny _ _ (do again (.builtin "list.__iadd__" ⟨[← newList [], .ref l], []⟩)) _ _ s
  refine wpAny_bind (wpAny_newList (wpAny_pure ⟨Code.quiet_builtin _ (by decide +kernel), codeAny_builtin entry_list_iadd' ?_⟩))
  show wpAny _ _ (Builtin.List.listExtendWith (.ref s.heap.objs.size) (.ref l) (.ref s.heap.objs.size)) _ _ { s with heap := s.heap.push (seqObj "list" #[] 0) }
  unfold Builtin.List.listExtendWith
  have ho' : (s.heap.push (seqObj "list" #[] 0)).get? l = some o := Heap.get?_push_of_some _ ho
  refine wpAny_bind (wpAny_typeOf (T := "tuple") ⟨o, ho', hc⟩ ?_)
  have ht : (Value.type "tuple" == Value.type "tuple") = true := by rfl
  rw [if_pos (by rw [ht]; simp)]
  refine wpAny_bind (listItems_at ho' hd ?_)
  refine wpAny_bind (listItems_at (xs := #[]) (n := 0) (Heap.get?_push_size _ rfl) rfl ?_)
  rw [if_neg (by simp)]
  refine wpAny_bind (listUpdate_at (xs := #[]) (n := 0) (Heap.get?_push_size _ rfl) rfl ?_ (Nat.zero_le _) (by show (#[] ++ vs.toArray).size ≤ sizeLine + 1; simp only [Array.size_append, List.size_toArray, List.length_nil]; omega))
  refine wpAny_pure ?_
  show wpAny (model prog w) A (do
      let o ← load s.heap.objs.size
      match o.data with
      | .seq xs _ => pure xs.toList
      | _ => unsupported "internal:collect") Q E { s with heap := (s.heap.push (seqObj "list" #[] 0)).update s.heap.objs.size (Obj.mapSeq (· ++ vs.toArray)) }
  refine wpAny_bind (wpAny_load (get?_update_seq (Heap.get?_push_size _ rfl) _) ?_)
  show wpAny _ _ (pure ((#[] : Array Value) ++ vs.toArray).toList) Q E _
  rw [show ((#[] : Array Value) ++ vs.toArray).toList = vs by simp]
  exact wpAny_pure h
theorem sorted_of_sortT {l : Addr} {vs : List Value} {Q : Value → Shared → Prop} (hl : IsTup s.heap l vs.toArray) (hL : vs.length ≤ sizeLine)
    (body : ∀ E' : Value → Shared → Prop, wpAny (model prog w) A.in1.in1 (Builtin.«list.sort» ⟨[.ref (s.heap.objs.size + 1)], []⟩) (fun f s' => f = .done (.ret .none) ∧ Q (.ref (s.heap.objs.size + 1)) s') E' { s with heap := copyHeap s.heap vs }) :
    wpAny (model prog w) A (call (.builtin "sorted") [.ref l]) Q E s := by
  refine call_function_entry_kw kind_sorted plain_sorted entry_sorted (args_sorted1 _) ?_
  unfold Builtin.«sorted»
  refine wpAny_bind (m := checkCount "sorted" 1 1 _) (wpAny_pure ?_)
  refine wpAny_bind (collect_tup hl ?_ hL)
  refine wpAny_bind (wpAny_newList ?_ hL)
  have hsz : ((s.heap.push (seqObj "list" #[] 0)).update s.heap.objs.size (Obj.mapSeq (· ++ vs.toArray))).objs.size = s.heap.objs.size + 1 := by
    rw [Heap.size_update, size_push']
  show wpAny _ _ _ _ _ { s with heap := copyHeap s.heap vs }
  rw [hsz]
  refine wpAny_bind (wpAny_holding (wpAny_call_entry_kw slot_list_sort ⟨_, copyHeap_at s.heap vs, rfl⟩ entry_list_sort ?body (args_list_sort _)))
  case body =>
    show wpAny (model prog w) A.in1.in1 (Builtin.«list.sort» ⟨[.ref (s.heap.objs.size + 1)], []⟩) _ _ _
    refine wpAny_mono (body _) (fun f s' hf => ?_) fun _ _ e => e
    obtain ⟨rfl, hq⟩ := hf
    exact ⟨_, rfl, wpAny_pure ⟨_, rfl, hq⟩⟩
theorem sorted_dataT {β : Type} {vs : List Value} {bs : List β} {enc : β → PyData} {R : Value → β → Prop} {l : Addr} {Q : Value → Shared → Prop} (hl : IsTup s.heap l vs.toArray) (e : EachIs R vs bs) (er : EachIs (fun v b => ∃ as, Reads s.heap v (enc b) as) vs bs) (hal : AllAlike (bs.map enc)) (hk : Sortable (bs.map enc)) (hL : bs.length ≤ sizeLine)
    (hu : ∀ b, b ∈ bs → A.units + 2 + (enc b).depth < cLine) (h : ∀ out, out.length = bs.length → EachIs R out (bs.mergeSort (dataLe false enc)) → Q (.ref (s.heap.objs.size + 1)) { s with heap := sortedAll s.heap vs (List.toArray out) }) :
    wpAny (model prog w) A (call (.builtin "sorted") [.ref l]) Q E s := by
  have er' : EachIs (fun v b => ∃ as, Reads (sortingHeap (copyHeap s.heap vs) (s.heap.objs.size + 1) vs) v (enc b) as) vs bs := er.mono fun _ _ ⟨as, r⟩ => ⟨as, PyProof.Rows.Reads.keeps (fun _ _ => sorting_copy_old) r⟩
  have S := SortsAt.data (prog := prog) (w := w) (A := A.in1.in1) (s := { s with heap := sortingHeap (copyHeap s.heap vs) (s.heap.objs.size + 1) vs }) (each_map (R := fun v d => ∃ as, Reads (sortingHeap (copyHeap s.heap vs) (s.heap.objs.size + 1) vs) v d as) enc er') hal hk (bound_map hu)
  have hvl : vs.length ≤ sizeLine := by rw [e.length]; exact hL
  have q := h _ (by rw [sortVals_length false rfl]; exact e.length) (sortVals_data false e er' hal)
  exact sorted_of_sortT hl hvl fun _ => list_sort_vals (s := { s with heap := copyHeap s.heap vs }) (copyHeap_at s.heap vs) S hvl ⟨rfl, q⟩
end
end DLM
namespace DL
open PySem L2
section
variable {X : Cx}
/-- xs.extend(t) -/
def rExtT (K : PySem.W.Frag) : V → List V → Hp → VK → Prop := fun x vs H Q => ∃ l b xs zs, x = .ref l ∧ vs = [.ref b] ∧ H l = some (.lst xs) ∧ SqT K H b zs ∧ xs.length + zs.length ≤ sizeLine ∧ Q .non (upd H l (.lst (xs ++ zs)))
theorem mt_extT : MtM X "list.extend" (rExtT X.K) := by
  intro pins s σ H x vs v us Q I rx rv h
  obtain ⟨l, b, xs, zs, rfl, rfl, hH, hB, hz, q⟩ := h
  cases rx
  obtain ⟨u, rfl, ru⟩ := rv.one
  cases ru
  obtain ⟨z, its, n, r, hl, e⟩ := I.lstM hH
  obtain ⟨its2, r2, ⟨o2, ho2, hc2, n2, hd2⟩, hz2⟩ := I.tuple hB
  have hl2 := r2.length
  have hsz : its.toArray.size + its2.toArray.size ≤ sizeLine := by rw [List.size_toArray, List.size_toArray]; omega
  have hlong : ¬ (!its.toArray.isEmpty && Builtin.List.listTooLong (its.toArray.size + its2.toArray.size)) = true := by
    rw [notLongL hsz, Bool.and_false]
    exact Bool.false_ne_true
  refine wpAny_call_entry PySem.F.slot_list_extend ⟨_, e, rfl⟩ PySem.F.entry_list_extend ?_ (PySem.F.args_list_extend_2 _ _)
  show wpAny _ _ (Builtin.List.listExtendWith (.ref l) (.ref b) .none) _ _ s
  unfold Builtin.List.listExtendWith
  refine wpAny_bind (wpAny_typeOf ⟨o2, ho2, hc2⟩ ?_)
  rw [if_pos (by simp)]
  refine wpAny_bind (PyProof.Rows.listItems_at ho2 hd2 ?_)
  refine wpAny_bind (PyProof.Rows.listItems_at e rfl ?_)
  rw [if_neg hlong]
  refine wpAny_bind (PyProof.Rows.listUpdate_at e rfl ?_ (by rw [List.size_toArray]; omega) (by rw [Array.size_append]; omega))
  refine wpAny_pure ⟨.none, rfl, .non, upd H l (.lst (xs ++ zs)), ?_, rfl, q⟩
  refine I.lset (f := (· ++ its2.toArray)) (its' := its ++ its2) hH e (by simp) (r.append r2) ?_
  rw [List.length_append]
  omega
theorem each_of {K : PySem.W.Frag} {Hf : Hp} : ∀ {vs : List V} {ds : List PyData} {us : List Value}, DpAll K Hf vs ds → Vals vs us → PySem.W.EachIs (fun u d => ∃ v, RelV v u ∧ Dp K Hf v d) us ds
  | _, [], _, .nil, .nil => .nil
  | _, _ :: _, _, .cons h t, .cons r rr => .cons ⟨_, r, h⟩ (each_of t rr)
theorem of_each {K : PySem.W.Frag} {Hf : Hp} : ∀ {ds : List PyData} {us : List Value}, PySem.W.EachIs (fun u d => ∃ v, RelV v u ∧ Dp K Hf v d) us ds → ∃ vs, Vals vs us ∧ DpAll K Hf vs ds
  | _, _, .nil => ⟨[], .nil, .nil⟩
  | _, _, .cons ⟨v, r, h⟩ t => by
    obtain ⟨vs, h1, h2⟩ := of_each t
    exact ⟨v :: vs, .cons r h1, .cons h h2⟩
/-- sorted(xs), xs a list or a tuple of data of one kind -/
def sortD (ds : List PyData) : List PyData := ds.mergeSort (PySem.W.dataLe false id)
def rSortD (K : PySem.W.Frag) : List V → Hp → VK → Prop := fun vs H Q => ∃ (a : Addr) (b : Bool) (xs : List V) (ds : List PyData) (Hf : Hp), vs = [V.ref a] ∧ Same Hf H ∧ Sq K H a b xs ∧ DpAll K Hf xs ds ∧ PySem.W.AllAlike ds ∧ PySem.W.Sortable ds ∧ (∀ d ∈ ds, d.depth ≤ 60) ∧
  ∀ ys p, DpAll K Hf ys (sortD ds) → H p = none → Q (.ref p) (upd H p (.lst ys))
mutual
theorem noD_alike : ∀ d : PyData, PySem.W.alike d d = true → noD d = true
  | .none, _ => rfl
  | .bool _, _ => rfl
  | .int _, _ => rfl
  | .str _, _ => rfl
  | .list xs, h => noDAll_alike xs (by simpa [PySem.W.alike] using h)
  | .tuple xs, h => noDAll_alike xs (by simpa [PySem.W.alike] using h)
  | .dict _, h => by simp [PySem.W.alike] at h
theorem noDAll_alike : ∀ ds : List PyData, PySem.W.alikeAll ds ds = true → noDAll ds = true
  | [], _ => rfl
  | d :: ds, h => by
    have h : PySem.W.alike d d = true ∧ PySem.W.alikeAll ds ds = true := by simpa [PySem.W.alikeAll] using h
    show (noD d && noDAll ds) = true
    rw [noD_alike d h.1, noDAll_alike ds h.2]; rfl
end
theorem reads_of {X : Cx} {pins : List (Addr × Obj)} {σ : St} {H Hf : Hp} {s : Shared} (I : Inv X pins σ H s) (e : Same Hf H) : ∀ {us : List Value} {ds : List PyData}, PySem.W.EachIs (fun u d => ∃ v, RelV v u ∧ Dp X.K Hf v d) us ds → (∀ d ∈ ds, noD d = true) → PySem.W.EachIs (fun v b => ∃ as, Reads s.heap v (id b) as) us ds
  | _, _, .nil, _ => .nil
  | _, _, .cons ⟨v, r1, r2⟩ t, h => .cons (L2.Dp.reads I _ v _ ((dp_mono e _ _ r2).old (h _ List.mem_cons_self)) r1) (reads_of I e t fun d m => h d (List.mem_cons_of_mem _ m))
theorem cr_sortD (hu : X.A.units + 64 < cLine) : CallR X (.builtin "sorted") (rSortD X.K) := by
  intro pins s σ H vs us Q I r h
  obtain ⟨a, b, xs, ds, Hf, rfl, e, hs, ha, hal, hk, hdp, q⟩ := h
  obtain ⟨u, rfl, ru⟩ := vals1 r
  obtain rfl : u = Value.ref a := ru
  have go : ∀ {its : List Value}, Vals xs its → xs.length ≤ sizeLine → (∀ {Q' : Value → Shared → Prop}, (PySem.W.EachIs (fun u d => ∃ v, RelV v u ∧ Dp X.K Hf v d) its ds) → PySem.W.EachIs (fun v b => ∃ as, Reads s.heap v (id b) as) its ds → PySem.W.AllAlike (ds.map id) → PySem.W.Sortable (ds.map id) → ds.length ≤ sizeLine →
      (∀ b, b ∈ ds → X.A.units + 2 + (id b : PyData).depth < cLine) → (∀ out, out.length = ds.length → PySem.W.EachIs (fun u d => ∃ v, RelV v u ∧ Dp X.K Hf v d) out (sortD ds) → Q' (.ref (s.heap.objs.size + 1)) { s with heap := PyProof.Rows.sortedAll s.heap its (List.toArray out) }) →
      wpAny (model X.prog X.w) X.A (call (.builtin "sorted") [.ref a]) Q' X.xe s) → wpAny (model X.prog X.w) X.A (call (.builtin "sorted") [.ref a]) (EP X pins σ Q) X.xe s := fun {its} rv hz rule => by
    have hl : ds.length = xs.length := (DpAll.length ha).symm
    refine rule (each_of ha rv) (reads_of I e (each_of ha rv) fun d m => noD_alike d (hal d m d m)) (by rw [List.map_id]; exact hal) (by rw [List.map_id]; exact hk) (by omega) (fun d hd => by have := hdp d hd; show X.A.units + 2 + d.depth < cLine; omega) fun out ho hout => ?_
    obtain ⟨ys, r1, r2⟩ := of_each hout
    obtain ⟨ep, he'⟩ := PyProof.Rows.sortedAll_at s.heap its out.toArray
    have hlen : ys.length ≤ sizeLine := by rw [r1.length, ho]; omega
    exact ⟨.ref _, upd H (s.heap.objs.size + 1) (.lst ys), I.laid (t' := s.toks) (fun _ _ => PyProof.Rows.sortedAll_old) (Nat.le_succ _) ⟨hlen, out, ep, r1, he'⟩, rfl, q ys _ r2 (I.hok.fresh (Nat.le_succ _))⟩
  cases b with
  | true =>
    obtain ⟨its, rv, hl, hz⟩ := I.tuple hs
    exact go rv hz fun e er hal hk hL hu' h => DLM.sorted_dataT hl e er hal hk hL hu' h
  | false =>
    obtain ⟨its, rv, hl, hz⟩ := I.list hs
    exact go rv hz fun e er hal hk hL hu' h => PySem.W.sorted_data hl.isList e er hal hk hL hu' h
def oSorted : WC := fun xs ρ Q => match xs with
  | [x] => match seqOf ρ x with
    | some (_, ds) => PySem.W.AllAlike ds ∧ PySem.W.Sortable ds ∧ (∀ d ∈ ds, d.depth ≤ 60) ∧ Q (.lst (sortD ds)) ρ
    | none => False
  | _ => False
theorem xc_sorted (hu : X.A.units + 64 < cLine) : XC X (.builtin "sorted") (rSortD X.K) oSorted :=
  ⟨cr_sortD hu, fun Hf H σ ρ Q Q' vs ds E ha ho c => by
    unfold oSorted at ho
    split at ho
    · rename_i x
      obtain ⟨v, rfl, hv⟩ := avs1 ha
      split at ho
      · rename_i b ds hq
        obtain ⟨a, vs, rfl, h1, h2⟩ := seq_of E hv.vs hq
        exact ⟨a, b, vs, ds, Hf, rfl, E.ex, h1, h2, ho.1, ho.2.1, ho.2.2.1, fun ys p hy hp => c.lst E hy hp ho.2.2.2⟩
      · exact ho.elim
    · exact ho.elim⟩
end

/-! ### methods of lists -/
def ownL : Option (Option DV) → Option (Bool × List PyData)
  | some (some (.lst xs)) => some (false, xs)
  | some (some (.arg xs)) => some (true, xs)
  | _ => none
def mkO : Bool → List PyData → DV
  | false, xs => .lst xs
  | true, xs => .arg xs
theorem ownL_some {q : Option (Option DV)} {b : Bool} {xs : List PyData} (h : ownL q = some (b, xs)) : q = some (some (mkO b xs)) := by
  unfold ownL at h
  split at h
  · cases h; rfl
  · cases h; rfl
  · cases h
section
variable {K : PySem.W.Frag} {σ : St} {Hf H : Hp} {ρ : Den} {v : V}
theorem ownL_at {i : Nat} {b : Bool} {xs : List PyData} (E : ER K Hf H σ ρ) (hv : σ[i]? = some (some v)) (h : ownL ρ[i]? = some (b, xs)) : ∃ a us, v = .ref a ∧ σ[i]? = some (some (.ref a)) ∧ ρ[i]? = some (some (mkO b xs)) ∧ H a = some (.lst us) ∧ DpAll K Hf us xs := by
  have q := ownL_some h
  cases b with
  | false =>
    obtain ⟨a, h1, h2, us, h3, h4⟩ := E.own (d := .lst xs) q rfl
    rw [hv] at h1; cases h1
    exact ⟨a, us, rfl, hv, q, h3, h4⟩
  | true =>
    obtain ⟨a, h1, h2, us, h3, h4⟩ := E.own (d := .arg xs) q rfl
    rw [hv] at h1; cases h1
    exact ⟨a, us, rfl, hv, q, h3, h4⟩
theorem st2_own {i : Nat} {b : Bool} {xs ys : List PyData} {a : Addr} {us : List V} (E : ER K Hf H σ ρ) (ha : σ[i]? = some (some (.ref a))) (h : ρ[i]? = some (some (mkO b xs))) (hy : DpAll K Hf us ys) : St2 K σ Hf H ρ Hf (upd H a (.lst us)) (ρ.set i (some (mkO b ys))) := by
  cases b with
  | false => exact st2_mut E h rfl ha rfl ⟨(fun z => by obtain ⟨_, z⟩ := z; cases z), (fun z => by obtain ⟨_, z⟩ := z; cases z)⟩ ⟨us, upd_same, hy⟩
  | true => exact st2_mut E h rfl ha rfl ⟨fun _ => ⟨_, rfl⟩, fun _ => ⟨_, rfl⟩⟩ ⟨us, upd_same, hy⟩
end
section
variable {X : Cx} {apos cpos pos : Pos}
def wApp (wo : WE) (wa : WA) : WE := fun ρ Q => wo ρ fun x ρ1 => match x with
  | .own i => (ownL ρ1[i]?).isSome = true ∧ wa ρ1 fun ys ρ2 => match ownL ρ2[i]?, ys with
    | some (b, xs), [.dat d] => xs.length < sizeLine ∧ Q (.dat .none) (ρ2.set i (some (mkO b (xs ++ [d]))))
    | _, _ => False
  | _ => False
theorem xe_append {o e : Expr} {to te : TE} {wo we : WE} (ho : XE X o to wo) (he : XA X [e] (tCons te tNil) (wCons we wNil))
    (hbase : attributeBase o "append" X.env (eval o X.env) = eval o X.env := by rfl)
    (hfew : ((backTo cpos (starEach [e] X.env)).all (fun x => !x.1) && (backToKw cpos (keywordEach [] X.env)).all (fun x => x.1.isSome)
      && decide (([e] : List Expr).length + ([] : List Keyword).length + (if ([] : List Keyword).isEmpty then 0 else 1) < 30)) = true := by rfl)
    (hline : (apos.endLine == cpos.line) = true := by rfl) (hs : starEach [e] X.env = (false, eval e X.env) :: starEach [] X.env := by rfl) (hplain : (backTo cpos (starEach [] X.env)).any (·.1) = false := by rfl) :
    XE X (.Call (.Attribute o "append" apos) [e] [] cpos) (tBM X.K "list" rAppend to (tCons te tNil)) (wApp wo (wCons we wNil)) :=
  ⟨pe_bm PySem.F.plainAttrs_list PySem.F.slot_list_append PySem.F.type_list_append mt_append ho.pe he.pa hbase hfew hline hs hplain, fun Hf H σ ρ Q Q' E hw c => by
    refine ho.so Hf H σ ρ _ _ E hw fun x Hf1 H1 d ρ1 s1 r1 q1 => ?_
    split at q1
    · rename_i i
      obtain ⟨hsome, q1⟩ := q1
      obtain ⟨⟨b, xs⟩, hb⟩ := Option.isSome_iff_exists.mp hsome
      have r1' : σ[i]? = some (some x) := r1
      obtain ⟨a, us, rfl, g1, g2, g3, g4⟩ := ownL_at s1.er r1' hb
      refine ⟨.inl ⟨rfl, us, .inl (.inl g3)⟩, ?_⟩
      refine he.so Hf1 H1 σ ρ1 _ _ s1.er q1 fun vs Hf2 H2 ys ρ2 s2 r2 q2 => ?_
      split at q2
      · rename_i b2 xs2 d2 hb2
        obtain ⟨a2, us2, e2, f1, f2, f3, f4⟩ := ownL_at s2.er g1 hb2
        cases e2
        obtain ⟨y, rfl, hy⟩ := avs1 r2
        refine ⟨a, us2, y, rfl, rfl, f3, by rw [DpAll.length f4]; exact q2.1, ?_⟩
        have s3 := st2_own s2.er f1 f2 (DpAll.app f4 (.cons hy .nil))
        exact c .non Hf2 _ (.dat .none) _ ((s1.trans s2).trans s3) ⟨.non, fun z => nomatch z⟩ q2.2
      · exact q2.elim
    · exact q1.elim⟩
def wExt (wo : WE) (wa : WA) : WE := fun ρ Q => wo ρ fun x ρ1 => match x with
  | .own i => (ownL ρ1[i]?).isSome = true ∧ wa ρ1 fun ys ρ2 => match ownL ρ2[i]?, ys with
    | some (b, xs), [.dat (.tuple ds)] => xs.length + ds.length ≤ sizeLine ∧ Q (.dat .none) (ρ2.set i (some (mkO b (xs ++ ds))))
    | _, _ => False
  | _ => False
theorem xe_extend {o e : Expr} {to te : TE} {wo we : WE} (ho : XE X o to wo) (he : XA X [e] (tCons te tNil) (wCons we wNil))
    (hbase : attributeBase o "extend" X.env (eval o X.env) = eval o X.env := by rfl)
    (hfew : ((backTo cpos (starEach [e] X.env)).all (fun x => !x.1) && (backToKw cpos (keywordEach [] X.env)).all (fun x => x.1.isSome)
      && decide (([e] : List Expr).length + ([] : List Keyword).length + (if ([] : List Keyword).isEmpty then 0 else 1) < 30)) = true := by rfl)
    (hline : (apos.endLine == cpos.line) = true := by rfl) (hs : starEach [e] X.env = (false, eval e X.env) :: starEach [] X.env := by rfl) (hplain : (backTo cpos (starEach [] X.env)).any (·.1) = false := by rfl) :
    XE X (.Call (.Attribute o "extend" apos) [e] [] cpos) (tBM X.K "list" (rExtT X.K) to (tCons te tNil)) (wExt wo (wCons we wNil)) :=
  ⟨pe_bm PySem.F.plainAttrs_list PySem.F.slot_list_extend PySem.F.type_list_extend mt_extT ho.pe he.pa hbase hfew hline hs hplain, fun Hf H σ ρ Q Q' E hw c => by
    refine ho.so Hf H σ ρ _ _ E hw fun x Hf1 H1 d ρ1 s1 r1 q1 => ?_
    split at q1
    · rename_i i
      obtain ⟨hsome, q1⟩ := q1
      obtain ⟨⟨b, xs⟩, hb⟩ := Option.isSome_iff_exists.mp hsome
      have r1' : σ[i]? = some (some x) := r1
      obtain ⟨a, us, rfl, g1, g2, g3, g4⟩ := ownL_at s1.er r1' hb
      refine ⟨.inl ⟨rfl, us, .inl (.inl g3)⟩, ?_⟩
      refine he.so Hf1 H1 σ ρ1 _ _ s1.er q1 fun vs Hf2 H2 ys ρ2 s2 r2 q2 => ?_
      split at q2
      · rename_i b2 xs2 ds hb2
        obtain ⟨a2, us2, e2, f1, f2, f3, f4⟩ := ownL_at s2.er g1 hb2
        cases e2
        obtain ⟨y, rfl, hy⟩ := avs1 r2
        have hy : Dp X.K Hf2 y (.tuple ds) := hy
        cases hy with
        | tup hs2 ha2 =>
          refine ⟨a, _, us2, _, rfl, rfl, f3, tupS s2.er.ex hs2, by rw [DpAll.length f4, DpAll.length ha2]; exact q2.1, ?_⟩
          have s3 := st2_own s2.er f1 f2 (DpAll.app f4 ha2)
          exact c .non Hf2 _ (.dat .none) _ ((s1.trans s2).trans s3) ⟨.non, fun z => nomatch z⟩ q2.2
      · exact q2.elim
    · exact q1.elim⟩
/-- out[i] = value -/
def wPut (w wo wi : WE) : WS := fun D ρ => w ρ fun x ρ1 => wo ρ1 fun o ρ2 => wi ρ2 fun k ρ3 => match x, o, k with
  | .dat d, .own i, .dat (.int n) => match ownL ρ3[i]? with
    | some (b, xs) => match ixN xs.length n with
      | some j => D.nx (ρ3.set i (some (mkO b (xs.set j d))))
      | none => False
    | none => False
  | _, _, _ => False
theorem xs_put {o i e : Expr} {to ti te : TE} {wo wi we : WE} {p : Pos} (he : XE X e te we) (ho : XE X o to wo) (hi : XE X i ti wi)
    (ha : ∀ v, assign (.Subscript o i p) X.env v = (do
      let ov ← holding [v] (eval o X.env)
      let iv ← holding [v, ov] (eval i X.env)
      standAt p
      holding [v, ov, iv] (setItem ov iv v)
      release [v, ov, iv] []) := by intro _; rfl)
    (hs : swapsWithSole [.Subscript o i p] e pos.line X.env = pure false := by rfl) (hw : swappedStores [.Subscript o i p] e X.env = pure none := by rfl)
    (h1 : (assignEach [.Subscript o i p] X.env).map (·.2) = [assign (.Subscript o i p) X.env] := by rfl) :
    XS X (.Assign [.Subscript o i p] e pos) (tAsg te (gSub to ti rSetL)) (wPut we wo wi) :=
  ⟨ps_asg he.pe (pg_sub ho.pe hi.pe set_list ha) hs hw h1, fun N D' D Hf H σ ρ c s hw => by
    refine he.so Hf H σ ρ _ _ s.er hw fun x Hf1 H1 dx ρ1 s1 r1 q1 => ?_
    refine ho.so Hf1 H1 σ ρ1 _ _ s1.er q1 fun y Hf2 H2 dy ρ2 s2 r2 q2 => ?_
    refine hi.so Hf2 H2 σ ρ2 _ _ s2.er q2 fun z Hf3 H3 dz ρ3 s3 r3 q3 => ?_
    have r1' := rr_step s.er s1 r1 (s2.trans s3)
    split at q3
    · rename_i d i n
      split at q3
      · rename_i b xs hb
        split at q3
        · rename_i j hj
          have r2' : σ[i]? = some (some y) := r2
          obtain ⟨a, us, rfl, g1, g2, g3, g4⟩ := ownL_at s3.er r2' hb
          cases r3.1
          refine ⟨a, us, n, j, rfl, rfl, g3, by rw [DpAll.length g4]; exact hj, ?_⟩
          have s4 := st2_own s3.er g1 g2 (DpAll.set r1'.1 j g4)
          exact c.nx Hf3 _ σ _ (s.step ((s1.trans (s2.trans s3)).trans s4)) q3
        · exact q3.elim
      · exact q3.elim
    · exact q3.elim⟩
/-- name op= e, ints -/
def wAugI (i : Nat) (g : Int → Int → Int) (w : WE) : WS := fun D ρ => match ρ[i]? with
  | some (some (.dat (.int a))) => w ρ fun y ρ1 => match y with
    | .dat (.int b) => notArg ρ1[i]? ∧ D.nx (ρ1.set i (some (.dat (.int (g a b)))))
    | _ => False
  | _ => False
theorem xs_augI {i : Nat} {x : Str} {e : Expr} {te : TE} {w : WE} {op : Operator} {g : Int → Int → Int} {pos' : Pos} (hN : X.N.Nodup) (hi : X.N[i]? = some x) (hx : Loc X.env.scope x) (he : XE X e te w) (ho : PIp X op (ipI g)) (hf : X.fn x = true ∨ X.env.scope.names.lookup x = some .local := by first | exact .inl rfl | exact .inr rfl | assumption) :
    XS X (.AugAssign (.Name x pos') op e pos) (tAug i te (ipI g)) (wAugI i g w) :=
  ⟨ps_aug hN hi hx he.pe ho hf, fun N D' D Hf H σ ρ c s hw => by
    unfold wAugI at hw
    split at hw
    · rename_i a ha
      obtain ⟨v, h1, h2⟩ := s.er.sl i _ ha
      cases h2
      refine ⟨_, h1, ?_⟩
      refine he.so Hf H σ ρ _ _ s.er hw fun y Hf1 H1 d ρ1 s1 r1 q1 => ?_
      split at q1
      · rename_i b
        cases r1.1
        exact ⟨a, b, rfl, rfl, set_so (d := .dat (.int (g a b))) c s s1 ⟨.int _, fun z => nomatch z⟩ q1.1 (fun _ z => nomatch z) (fun _ z => nomatch z) q1.2⟩
      · exact q1.elim
    · exact hw.elim⟩
end
end DL
end
section
set_option Elab.async false
set_option linter.all false
set_option maxRecDepth 100000
set_option maxHeartbeats 1000000
namespace DL
open PySem L2

/-! ### a def -/
def startD (N : List Str) (ds : List DV) : Den := ds.map some ++ List.replicate (N.length - ds.length) none
def out1 (ρ : Den) (k : Nat) (d : DV) : DV := match d with
  | .arg xs => match ρ[k]? with
    | some (some (.arg ys)) => .arg ys
    | _ => .arg xs
  | d => d
def outsGo (ρ : Den) (k : Nat) : List DV → List DV
  | [] => []
  | d :: r => out1 ρ k d :: outsGo ρ (k + 1) r
abbrev outsOf (ds : List DV) (ρ : Den) : List DV := outsGo ρ 0 ds
theorem outsGo_get {ρ : Den} : ∀ (ds : List DV) (k i : Nat), (outsGo ρ k ds)[i]? = (ds[i]?).map (out1 ρ (k + i))
  | [], k, i => by simp [outsGo]
  | d :: r, k, 0 => by simp [outsGo]
  | d :: r, k, i + 1 => by
    show (out1 ρ k d :: outsGo ρ (k + 1) r)[i + 1]? = _
    rw [List.getElem?_cons_succ, outsGo_get r (k + 1) i, List.getElem?_cons_succ, show k + 1 + i = k + (i + 1) by omega]
theorem outsGo_len {ρ : Den} : ∀ (ds : List DV) (k : Nat), (outsGo ρ k ds).length = ds.length
  | [], _ => rfl
  | d :: r, k => congrArg (· + 1) (outsGo_len r (k + 1))
theorem outsGo_shp {ρ : Den} : ∀ (ds : List DV) (k : Nat), Shp ds (outsGo ρ k ds)
  | [], _ => .nil
  | d :: r, k => .cons (by
      cases d with
      | arg xs =>
        show ∃ ys, out1 ρ k (.arg xs) = .arg ys
        cases h : ρ[k]? with
        | none => exact ⟨xs, by simp [out1, h]⟩
        | some o =>
          cases o with
          | none => exact ⟨xs, by simp [out1, h]⟩
          | some e =>
            cases e with
            | arg ys => exact ⟨ys, by simp [out1, h]⟩
            | _ => exact ⟨xs, by simp [out1, h]⟩
      | _ => rfl) (outsGo_shp r (k + 1))
structure DefOk (X : Cx) (body : List Stmt) (N : List Str) (S : DSpec) : Prop where
  ex : ∃ t w, XSs X body t w ∧ ∀ ds K', S ds K' → w { nx := fun ρ => K' (.dat .none) (outsOf ds ρ), rt := fun r ρ => K' r (outsOf ds ρ) } (startD N ds)
theorem fn_data {P : Program} {w : World} {K : PySem.W.Frag} {mg : Str → Option Value} {base : Heap} {x qual : Str} {st : Stmt} {f : Addr} {fd : FuncData} {N ps : List Str} {k : Nat} {S : DSpec} (F : Fun K x qual st f fd) (Sc : FnScope N ps (defScope st)) (hl : ∀ ds K', S ds K' → ds.length = ps.length)
    (hb : ∀ (cdv : Value) (A : Around) (outer : List Env) (s : Shared) (H : Hp), Room k (A.deeper (PyProof.Rows.envOfC qual (defScope st) s.heap.objs.size f cdv)) → DefOk (cxOf CX0 P w K mg base N qual (defScope st) f cdv A outer s H E0).nox (defBody st) N S) :
    FnOk P w K mg base CX0 (k + 1) f fd ps (spD K S) := by
  refine F.ok Sc (fun vs H Q E h => ?_) (fun cdv A outer s H vs Q E hr h => ?_)
  · obtain ⟨Hf, ds, K', e, _, hS, _⟩ := h
    have := e.len
    rw [List.length_map, List.length_map] at this
    exact this.trans (hl ds K' hS)
  · obtain ⟨Hf, ds, K', e, hok, hS, post⟩ := h
    obtain ⟨t, w', hx, hw⟩ := (hb cdv A outer s H hr).ex
    have hvl : vs.length = ds.length := by have := e.len; rw [List.length_map, List.length_map] at this; exact this
    have hx' : XSs (cxOf CX0 P w K mg base N qual (defScope st) f cdv A outer s H E).nox (defBody st) t w' := hx
    have argc : ∀ {i : Nat} {d : DV}, ds[i]? = some d → argOk d = true := fun {i d} h => List.all_eq_true.mp hok d (List.mem_of_getElem? h)
    have stD : ∀ {i : Nat} {d : DV}, (startD N ds)[i]? = some (some d) → ds[i]? = some d ∧ i < ds.length := fun {i d} h => by
      unfold startD at h
      by_cases hi : i < ds.length
      · rw [List.getElem?_append_left (by simpa using hi)] at h
        exact ⟨getMap h, hi⟩
      · rw [List.getElem?_append_right (by simpa using hi), List.getElem?_replicate] at h
        split at h <;> cases h
    have stV : ∀ {i : Nat}, i < vs.length → (L2.start N vs)[i]? = (vs.map some)[i]? := fun {i} hi => by
      unfold L2.start
      rw [List.getElem?_append_left (by simpa using hi)]
    have slv : ∀ {i : Nat} {d : DV}, ds[i]? = some d → ∃ v, vs[i]? = some v ∧ VR K Hf H v d := fun {i d} h => by
      obtain ⟨v, h1, h2⟩ := e.sl i d (mapGet h)
      exact ⟨v, getMap h1, h2⟩
    let R : Nat → Option Addr := fun i => match ds[i]?, vs[i]? with
      | some (.arg _), some (.ref a) => some a
      | _, _ => none
    have Rat : ∀ {i : Nat} {a : Addr}, R i = some a ↔ (∃ xs, ds[i]? = some (.arg xs)) ∧ vs[i]? = some (.ref a) := fun {i a} => by
      constructor
      · intro h
        have h' : (match ds[i]?, vs[i]? with
          | some (.arg _), some (.ref a) => some a
          | _, _ => none) = some a := h
        split at h'
        · rename_i xs b e1 e2
          cases h'
          exact ⟨⟨xs, e1⟩, e2⟩
        · cases h'
      · rintro ⟨⟨xs, h1⟩, h2⟩
        show (match ds[i]?, vs[i]? with
          | some (.arg _), some (.ref a) => some a
          | _, _ => none) = some a
        rw [h1, h2]
    let N0 : Ent := { Hf := Hf, H := H, O := Ow (vs.map some) (ds.map some), R := R, G := Hf }
    have sr : SR K N0 Hf H (L2.start N vs) (startD N ds) := by
      refine ⟨.refl, ⟨?_, e.ex, fun i d h => ?_, fun i j d d' a h1 h2 o1 o2 s1 s2 => ?_⟩, fun i d a h o s => ?_, fun i a h => ?_, fun i xs h => ?_, Same.refl _⟩
      · unfold L2.start startD
        simp [hvl]
      · obtain ⟨g1, g2⟩ := stD h
        obtain ⟨v, f1, f2⟩ := slv g1
        exact ⟨v, by rw [stV (by rw [hvl]; exact g2)]; exact mapGet f1, f2⟩
      · obtain ⟨g1, g2⟩ := stD h1
        obtain ⟨f1, f2⟩ := stD h2
        rw [stV (by rw [hvl]; exact g2)] at s1
        rw [stV (by rw [hvl]; exact f2)] at s2
        exact e.dj i j d d' a (mapGet g1) (mapGet f1) o1 o2 s1 s2
      · obtain ⟨g1, g2⟩ := stD h
        have := argc g1
        cases d with
        | arg xs => exact .inl ⟨xs, rfl⟩
        | lst y => cases this
        | dic y => cases this
        | dat y => cases o
        | fn y => cases o
        | own y => cases o
      · obtain ⟨⟨xs, h1⟩, h2⟩ := Rat.mp h
        have hi : i < vs.length := len_of_get h2
        refine ⟨by rw [stV hi]; exact mapGet h2, xs, ?_⟩
        unfold startD
        rw [List.getElem?_append_left (by rw [List.length_map, ← hvl]; exact hi)]
        exact mapGet h1
      · obtain ⟨g1, g2⟩ := stD h
        obtain ⟨v, f1, f2⟩ := slv g1
        obtain ⟨a, rfl, _, _⟩ := f2
        exact ⟨a, Rat.mpr ⟨⟨xs, g1⟩, f1⟩, i, _, mapGet g1, rfl, mapGet f1⟩
    have fin : ∀ {Hf' H' : Hp} {σ' : St} {ρ' : Den} {v : V} {r : DV}, SR K N0 Hf' H' σ' ρ' → VR K Hf' H' v r → (r.isOwn = true → ∀ a, v = .ref a → H a = none) → K' r (outsOf ds ρ') → Q v H' := fun {Hf' H' σ' ρ' v r} s' vr fr q => by
      have oat : ∀ {i : Nat} {o : DV}, (outsOf ds ρ')[i]? = some o → ∃ d, ds[i]? = some d ∧ ((o = d ∧ ∀ xs, d ≠ .arg xs) ∨ ∃ xs ys a, d = .arg xs ∧ o = .arg ys ∧ vs[i]? = some (.ref a) ∧ σ'[i]? = some (some (.ref a)) ∧ ρ'[i]? = some (some (.arg ys))) := fun {i o} h => by
        rw [show outsOf ds ρ' = outsGo ρ' 0 ds from rfl, outsGo_get] at h
        cases hd : ds[i]? with
        | none => rw [hd] at h; cases h
        | some d =>
          rw [hd] at h
          have h' : out1 ρ' (0 + i) d = o := by simpa using h
          rw [Nat.zero_add] at h'
          refine ⟨d, rfl, ?_⟩
          cases d with
          | arg xs =>
            obtain ⟨v0, f1, f2⟩ := slv hd
            obtain ⟨a, rfl, _, _⟩ := f2
            obtain ⟨g1, ys, g2⟩ := s'.rt i a (Rat.mpr ⟨⟨xs, hd⟩, f1⟩)
            refine .inr ⟨xs, ys, a, rfl, ?_, f1, g1, g2⟩
            rw [← h']
            unfold out1
            rw [g2]
          | dat y => exact .inl ⟨h'.symm, fun _ z => nomatch z⟩
          | fn y => exact .inl ⟨h'.symm, fun _ z => nomatch z⟩
          | lst y => exact .inl ⟨h'.symm, fun _ z => nomatch z⟩
          | dic y => exact .inl ⟨h'.symm, fun _ z => nomatch z⟩
          | own y => exact .inl ⟨h'.symm, fun _ z => nomatch z⟩
      refine post v Hf' H' r (outsOf ds ρ') s'.st ⟨by rw [List.length_map, List.length_map, show outsOf ds ρ' = outsGo ρ' 0 ds from rfl, outsGo_len, hvl], s'.er.ex, fun i o h => ?_, fun i j o o' a h1 h2 o1 o2 s1 s2 => ?_⟩ (outsGo_shp ds 0) vr fr q
      · obtain ⟨d, hd, g⟩ := oat (getMap h)
        obtain ⟨v0, f1, f2⟩ := slv hd
        refine ⟨v0, mapGet f1, ?_⟩
        rcases g with ⟨rfl, na⟩ | ⟨xs, ys, a, rfl, rfl, g1, g2, g3⟩
        · have ok := argc hd
          cases o with
          | dat y => exact dp_mono s'.st.fx _ _ f2
          | fn y => exact f2
          | arg y => exact absurd rfl (na y)
          | _ => cases ok
        · rw [f1] at g1; cases g1
          obtain ⟨u, k1, k2⟩ := s'.er.sl i _ g3
          rw [g2] at k1; cases k1
          exact k2
      · obtain ⟨d, hd, g⟩ := oat (getMap h1)
        obtain ⟨d', hd', g'⟩ := oat (getMap h2)
        have od : d.isOwn = true := by
          rcases g with ⟨rfl, _⟩ | ⟨xs, ys, a, rfl, _⟩
          · exact o1
          · rfl
        have od' : d'.isOwn = true := by
          rcases g' with ⟨rfl, _⟩ | ⟨xs, ys, a, rfl, _⟩
          · exact o2
          · rfl
        exact e.dj i j d d' a (mapGet hd) (mapGet hd') od od' s1 s2
    refine ⟨t, hx'.ps, hx'.so N0 { nx := fun ρ => K' (.dat .none) (outsOf ds ρ), rt := fun r ρ => K' r (outsOf ds ρ) } _ Hf H _ _ ⟨fun Hf' H' σ' ρ' s' q => fin (v := .non) (r := .dat .none) s' .non (fun z => nomatch z) q, fun _ _ _ _ _ z => z.elim, fun _ _ _ _ _ z => z.elim, fun Hf' H' σ' ρ' v r s' vr fr q => fin s' vr fr q⟩ sr (hw ds K' hS)⟩

/-! ### the end: a law of one list of ints -/
def lawSpec (n : Nat) : DSpec := fun ds K' => ∃ ns : List Int, ds = [.dat (.list (ns.map .int))] ∧ ns.length ≤ n ∧ ∀ outs, K' (.dat (.bool true)) outs
theorem dpAll_ints {K : PySem.W.Frag} {H : Hp} : ∀ ns : List Int, DpAll K H (ns.map V.int) (ns.map PyData.int)
  | [] => .nil
  | n :: ns => .cons (.int n) (dpAll_ints ns)
theorem law_end {K : PySem.W.Frag} {H : Hp} {a : Addr} {ns : List Int} {n : Nat} {E : XK} (hl : ns.length ≤ n) (hS : SqL K H a (ns.map V.int)) : spD K (lawSpec n) [.ref a] H (fun v _ => v = .bl true) E := by
  refine ⟨H, [.dat (.list (ns.map .int))], fun r _ => r = .dat (.bool true), ⟨rfl, Same.refl _, fun i d h => ?_, fun i j d e b h1 h2 o1 => ?_⟩, rfl, ⟨ns, rfl, hl, fun _ => rfl⟩, fun v Hf' H' r outs _ _ _ vr _ q => ?_⟩
  · have h' := getMap h
    cases i with
    | zero =>
      simp at h'
      subst h'
      exact ⟨.ref a, rfl, .lst hS (dpAll_ints ns)⟩
    | succ i => simp at h'
  · have h' := getMap h1
    cases i with
    | zero => simp at h'; subst h'; cases o1
    | succ i => simp at h'
  · subst q
    cases vr
    rfl

/-! ### isinstance -/
section
variable {X : Cx}
def tyD : PyData → Option String
  | .none => some "NoneType"
  | .bool _ => some "bool"
  | .int _ => some "int"
  | .str _ => some "str"
  | .list _ => some "list"
  | .tuple _ => some "tuple"
  | _ => none
end
end DL
end
section
set_option Elab.async false
set_option linter.all false
set_option maxRecDepth 100000
set_option maxHeartbeats 1000000

/-! ### the machine: t[::-1] -/
namespace DLM
open PySem PySem.W PyProof.Rows PySem.Calls L2
section
variable {prog : Program} {w : World} {A : Around} {E : Value → Shared → Prop} {s : Shared}
theorem rev_places (n : Nat) : Builtin.Slice.slicePlaces ((n : Int) - 1) (-1) (-1) = n := by
  unfold Builtin.Slice.slicePlaces
  rw [if_neg (by decide)]
  by_cases h : (-1 : Int) < (n : Int) - 1
  · rw [if_pos (by omega)]
    have e : ((n : Int) - 1 - -1 - 1) / (- -1) + 1 = (n : Int) := by
      rw [show (- -1 : Int) = 1 by decide, Int.ediv_one]; omega
    rw [e]; omega
  · rw [if_neg (by omega)]; omega
theorem rev_adjust (n : Nat) : Builtin.Slice.sliceAdjust none none (-1) (n : Int) = ((n : Int) - 1, -1) := by
  unfold Builtin.Slice.sliceAdjust
  simp
theorem rev_pick (xs : Array Value) : ((List.range xs.size).filterMap fun (k : Nat) => xs[(((xs.size : Int) - 1) + (k : Int) * (-1)).toNat]?) = xs.toList.reverse := by
  have e : ((List.range xs.size).filterMap fun (k : Nat) => xs[(((xs.size : Int) - 1) + (k : Int) * (-1)).toNat]?) = ((List.range xs.size).map fun k => xs.size - 1 - k).filterMap (xs[·]?) := by
    rw [List.filterMap_map]
    have cg : ∀ (l : List Nat) (f g : Nat → Option Value), (∀ k ∈ l, f k = g k) → l.filterMap f = l.filterMap g := by
      intro l f g h
      induction l with
      | nil => rfl
      | cons k l ih =>
        rw [List.filterMap_cons, List.filterMap_cons, h k List.mem_cons_self, ih fun j m => h j (List.mem_cons_of_mem _ m)]
    refine cg _ _ _ fun k hk => ?_
    have := List.mem_range.mp hk
    have e1 : (((xs.size : Int) - 1) + (k : Int) * (-1)).toNat = xs.size - 1 - k := by omega
    show xs[(((xs.size : Int) - 1) + (k : Int) * (-1)).toNat]? = xs[xs.size - 1 - k]?
    rw [e1]
  rw [e, krv_range, List.filterMap_reverse, krv_all]
theorem getItem_tuple_rev {t sl : Addr} {items : Array Value} {vk : Value} {Q : Value → Shared → Prop} (ht : IsTup s.heap t items) (hs : s.heap.IsSliceOf sl .none .none vk) (pk : IsPart vk (some (-1)))
    (h : Q (.ref s.heap.objs.size) { s with heap := s.heap.push { cls := .type "tuple", data := .seq items.toList.reverse.toArray } })
    (hsz : items.size ≤ sizeLine) : wpAny (model prog w) A (getItem (.ref t) (.ref sl)) Q E s := by
  have htake : sizeOk (.seq items.toList.reverse.toArray) := by
    show items.toList.reverse.toArray.size ≤ sizeLine
    rw [List.size_toArray, List.length_reverse, Array.length_toList]
    exact hsz
  obtain ⟨os, hos, hcs, hds⟩ := id hs
  have hTs : s.TypeIs (.ref sl) "slice" := ⟨os, hos, hcs⟩
  unfold getItem
  try with_reducible refine wpAny_holding ?_
  first | refine wpAny_bind (wpAny_pure ?_) | skip
  refine wpAny_bind (wpAny_sequenceKey ht.typeIs (by decide) ?_)
  refine wpAny_bind (wpAny_callSpecial?_slot (name := Str.ofString "__getitem__") ht.typeIs PyProof.Rows.slot_tuple_getitem
    (wpAny_call_entry PyProof.Rows.slot_tuple_getitem ht.typeIs PyProof.Rows.entry_tuple_getitem ?_ (PyProof.Rows.args_tuple_getitem _ _)))
  show wpAny _ _ (Builtin.Tuple.tupleItemsOf (.ref t) >>= _) _ _ s
  refine wpAny_bind (tupleItemsOf_ ht ?_)
  refine wpAny_bind (wpAny_typeOf hTs ?_)
  rw [if_pos (by decide)]
  refine wpAny_bind ?_
  unfold Builtin.Slice.sliceApplied Builtin.Slice.sliceFields
  refine wpAny_bind (wpAny_bind (wpAny_field hos hds (x := .none) rfl (wpAny_bind (wpAny_field hos hds (x := .none) rfl (wpAny_bind (wpAny_field hos hds (x := vk) rfl (wpAny_pure ?_)))))))
  refine wpAny_bind (HT.slicePart_ pk ?_)
  show wpAny _ _ (if ((-1 : Int) == 0) = true then _ else _) _ _ s
  rw [if_neg (by decide)]
  refine wpAny_bind (slicePart_none (wpAny_bind (slicePart_none (wpAny_bind (wpAny_pure ?_)))))
  show wpAny _ _ (match Builtin.Slice.sliceAdjust none none (-1) (items.size : Int) with | (lo, hi) => pure (lo, (-1 : Int), Builtin.Slice.slicePlaces lo hi (-1))) _ _ s
  rw [rev_adjust]
  show wpAny _ _ (pure ((items.size : Int) - 1, (-1 : Int), Builtin.Slice.slicePlaces ((items.size : Int) - 1) (-1) (-1))) _ _ s
  rw [rev_places]
  refine wpAny_pure ?_
  have hno : ¬ ((((items.size : Int) - 1) == 0 && (-1 : Int) == 1 && items.size == items.size) = true) := by simp
  show wpAny _ _ (if (((items.size : Int) - 1) == 0 && (-1 : Int) == 1 && items.size == items.size) = true then _ else _) _ _ s
  rw [if_neg hno, rev_pick]
  first
    | exact wpAny_bind (m := Builtin.Tuple.tupleExact _) (wpAny_newObj_type (wpAny_pure ⟨_, rfl, wpAny_pure h⟩) htake)
    | exact wpAny_bind (m := Builtin.Tuple.tupleExact _) (wpAny_newObj_type (wpAny_bind (wpAny_pure (wpAny_pure ⟨_, rfl, wpAny_pure h⟩))) htake)
    | exact wpAny_bind (wpAny_bind (m := Builtin.Tuple.tupleExact _) (wpAny_newObj_type (wpAny_pure (wpAny_pure ⟨_, rfl, wpAny_pure h⟩)) htake))
    | exact wpAny_bind (wpAny_bind (m := Builtin.Tuple.tupleExact _) (wpAny_newObj_type (wpAny_pure ⟨_, rfl, wpAny_pure h⟩) htake))
end
end DLM
namespace DL
open PySem L2
section
variable {X : Cx} {pos : Pos}
/-! ### operators, whatever the kind -/
abbrev oLt : WO := oInt (fun _ _ => True) fun i j => .bool (decide (i < j))
abbrev oLe : WO := oInt (fun _ _ => True) fun i j => .bool (decide (i ≤ j))
abbrev oGt : WO := oInt (fun _ _ => True) fun i j => .bool (decide (j < i))
abbrev oGe : WO := oInt (fun _ _ => True) fun i j => .bool (decide (j ≤ i))
abbrev oAdd : WO := oInt (fun _ _ => True) fun i j => .int (i + j)
abbrev oSub : WO := oInt (fun _ _ => True) fun i j => .int (i - j)
abbrev oMul : WO := oInt CMul fun i j => .int (i * j)
abbrev oFdiv : WO := oInt CDiv fun i j => .int (i / j)
abbrev oMod : WO := oInt (fun _ j => 0 < j) fun i j => .int (i % j)
/-- l + m, lists -/
def oCatL : WO := fun x y ρ Q => match datOf ρ x, datOf ρ y with
  | some (.list xs), some (.list ys) => xs.length + ys.length ≤ sizeLine ∧ Q (.lst (xs ++ ys)) ρ
  | _, _ => False
/-! ### calls -/
structure Cal (P : Program) (w : World) (K : PySem.W.Frag) (mg : Str → Option Value) (base : Heap) (k : Nat) (x : Str) (S : DSpec) : Prop where
  ex : ∃ f fd ps, FnOk P w K mg base CX0 k f fd ps (spD K S) ∧ mg x = some (.ref f) ∧ PySem.W.keepIn K (.ref f) = true ∧ Binds K fd ps []
theorem xe_callc {k j : Nat} {S : DSpec} {x : Str} {p : Pos} {e : Expr} {es : List Expr} {t : TA} {wa : WA} (c : Cal X.prog X.w X.K X.mg X.base k x S) (hr : Room j X.A) (hk : k ≤ j) (hg : Gl X x) (ha : XA X (e :: es) t wa)
    (hdb : (x == ("__debug__" : Str)) = false := by decide) (he : starEach (e :: es) X.env = (false, eval e X.env) :: starEach es X.env := by rfl)
    (hpl : (backTo pos (starEach es X.env)).any (·.1) = false := by rfl) : XE X (.Call (.Name x p) (e :: es) [] pos) (tCall (spD X.K S) [] E0 t) (wUser S wa) := by
  obtain ⟨f, fd, ps, F, hm, hkp, hb⟩ := c.ex
  exact xe_call F (hr.mono hk) hg hm hkp hb ha hdb he hpl
/-- name = [..] -/
theorem xs_setLc {i : Nat} {y : Str} {py : Pos} {elt tg iter : Expr} {ifs : List Expr} {scope : Scope} {own : List (Str × Nat)} {spos : Pos} {wi : TI} {g : TG} {tt : TT} {te : TE} {w : WI} {f : PyData → Den → Option Den} {S : List Nat} {wt : WT} {we : WE}
    (hc : X.calm = true) (hN : X.N.Nodup) (hy : X.N[i]? = some y) (hyl : X.env.scope.names.lookup y = some .local)
    (hsw : swapsWith (.ListComp elt [⟨tg, iter, ifs, 0⟩] scope pos) (some (.Name y py)) spos.line X.env = pure true) (hi : XI X tg iter wi w) (ok : BlkOk X.N X.env.scope scope own)
    (hg : ∀ (s : Shared) (H : Hp) (C : Addr) (cl : List (Str × Addr)) (fp : List Addr), XG (X.blk s H scope (compEnvC scope cl C X.env) fp) tg g f S) (ht : ∀ (s : Shared) (H : Hp) (C : Addr) (cl : List (Str × Addr)) (fp : List Addr), XTs (X.blk s H scope (compEnvC scope cl C X.env) fp) ifs tt wt)
    (he : ∀ (s : Shared) (H : Hp) (C : Addr) (cl : List (Str × Addr)) (fp : List Addr), XE (X.blk s H scope (compEnvC scope cl C X.env) fp) elt te we) (hS : ∀ i ∈ S, i ∈ own.map (·.2) := by decide) (hs : ∀ x, foldedSetIterable iter X.env x = pure x := by intro _; rfl) :
    XS X (.Assign [.Name y py] (.ListComp elt [⟨tg, iter, ifs, 0⟩] scope pos) spos) (tAsg (tLc wi g tt te (own.map (·.2))) (gName i)) (wSet i (wLc w f wt we (own.map (·.2)))) :=
  ⟨ps_setLc hc hN hy hyl hsw hi.pi ok (fun s H C cl fp => (hg s H C cl fp).pg) (fun s H C cl fp => (ht s H C cl fp).pt) (fun s H C cl fp => (he s H C cl fp).pe) hs, fun N D' D Hf H σ ρ c s hw => by
    refine lc_so hi (hg X.s_0 X.H_0 0 [] []).so hS (ht X.s_0 X.H_0 0 [] []).so (he X.s_0 X.H_0 0 [] []).so s.er hw fun v Hf1 H1 d ρ1 s1 r1 q1 => ?_
    obtain ⟨hn, q1⟩ := q1
    cases d with
    | own j => exact q1.elim
    | arg y => exact q1.elim
    | dat y => exact set_so c s s1 r1 hn (fun _ z => nomatch z) (fun _ z => nomatch z) q1
    | fn u => exact set_so c s s1 r1 hn (fun _ z => nomatch z) (fun _ z => nomatch z) q1
    | lst y => exact set_so c s s1 r1 hn (fun _ z => nomatch z) (fun _ z => nomatch z) q1
    | dic y => exact set_so c s s1 r1 hn (fun _ z => nomatch z) (fun _ z => nomatch z) q1⟩

/-! ### isinstance(e, T) -/
def tIsi (K : PySem.W.Frag) (T : String) (te : TE) : TE := tCB (rIsi K) (tCons te (tCons (tC (.ty T)) tNil))
def wIsi (T : String) (w : WE) : WE := fun ρ Q => w ρ fun x ρ1 => match (datOf ρ1 x).bind tyD with
  | some S => match kitB S T with
    | some b => Q (.dat (.bool b)) ρ1
    | none => False
  | none => False
theorem tyX_of {K : PySem.W.Frag} {H : Hp} {v : V} {d : PyData} {S : String} (hH : ∀ a o u, H a ≠ some (.frz o u) ∨ True) (h : Dp K H v d) (e : tyD d = some S) : TyX K H v (.type S) := by
  cases h with
  | non => cases e; exact .base .non
  | bl b => cases e; exact .base (.bl b)
  | int i => cases e; exact .base (.int i)
  | str x => cases e; exact .base (.str x)
  | lst hs ha =>
    cases e
    rcases hs with (h | ⟨o, h⟩) | ⟨o, its, n, h1, h2, _⟩
    · exact .base (.lst h)
    · exact .base (.frz h)
    · exact .kList h1 h2
  | tup hs ha => cases e; exact .base (.tup hs)
  | dcT _ _ _ _ => cases e
  | dcK _ _ _ _ => cases e

/-! ### t[::-1], xs[::-1] -/
def tRevA (K : PySem.W.Frag) (te : TE) : TE := fun σ H Q => te σ H fun x H1 => ∃ a xs, x = .ref a ∧ ((SqL K H1 a xs ∧ ∀ p, H1 p = none → Q (.ref p) (upd H1 p (.lst xs.reverse))) ∨ (SqT K H1 a xs ∧ ∀ p, H1 p = none → Q (.ref p) (upd H1 p (.tup xs.reverse))))
theorem pe_revA {e : Expr} {te : TE} {k : Nat} {p1 p2 p3 : Pos} (he : PE X e te) : PE X (.Subscript e (.Slice none none (some (.UnaryOp .USub (.Constant (.int 1) k p1) p2)) p3) pos) (tRevA X.K te) := by
  refine ⟨fun pins s σ H Q I h => ?_⟩
  refine PyProof.Rows.Subscript_ (thn (he.run pins s σ H _ I h) fun v s1 ⟨x, H1, I1, r1, q1⟩ => ?_)
  obtain ⟨a, xs, ex, q⟩ := q1
  subst ex
  cases r1
  have hst : PO X (some (.UnaryOp .USub (.Constant (.int 1) k p1) p2)) (tPart (tUn (rU fun i => .int (-i)) (tC (.int 1)))) := po_some (pe_un un_neg pe_int)
  refine wpAny_Slice (thn (po_none.run pins s1 σ H1 (fun o H2 => o = none ∧ H2 = H1) I1 ⟨rfl, rfl⟩) fun vl s2 ⟨l, H2, I2, pl, el, e2⟩ => ?_)
  subst el e2
  refine thn (po_none.run pins s2 σ H2 (fun o H3 => o = none ∧ H3 = H2) I2 ⟨rfl, rfl⟩) fun vu s3 ⟨u, H3, I3, pu, eu, e3⟩ => ?_
  subst eu e3
  refine thn (hst.run pins s3 σ H3 (fun o H4 => o = some (-1) ∧ H4 = H3) I3 ⟨1, rfl, -1, rfl, rfl, rfl⟩) fun vs s4 ⟨o, H4, I4, ps, eo, e4⟩ => ?_
  subst eo e4
  have I5 : Inv X pins σ H4 { s4 with heap := s4.heap.push { cls := .type "slice", data := .fields #[vl, vu, vs] } } := I4.kept (t' := s4.toks) fun b ob q => Heap.get?_push_of_some _ q
  show wpAny (model X.prog X.w) X.A (PyProof.Rows.subscriptTail e (.Slice none none (some (.UnaryOp .USub (.Constant (.int 1) k p1) p2)) p3) (.ref a) (.ref s4.heap.objs.size)) (EP X pins σ Q) X.xe { s4 with heap := s4.heap.push { cls := .type "slice", data := .fields #[vl, vu, vs] } }
  rcases q with ⟨hx, q⟩ | ⟨hx, q⟩
  · obtain ⟨its, r, ht, hz⟩ := I5.list hx
    have hlen := r.length
    refine PyProof.Rows.tail_any (ops := [.ref a, .ref s4.heap.objs.size]) ht.isList.typeIs (PySem.slot_list_getitem.lookup) ?_ (by with_unfolding_all rfl)
    refine wpAny_getItem_list_slice ht.isList (Heap.IsSliceOf.new _ vl vu vs) pl pu ps (by decide) ?_ (by rw [List.size_toArray]; omega)
    rw [PySem.W.krv_pick]
    refine ⟨.ref _, _, I5.laid (t' := s4.toks) (o := .lst xs.reverse) (fun b ob q => Heap.get?_push_of_some _ q) (Nat.le_refl _) ?_, rfl, q _ (I5.hok.fresh (Nat.le_refl _))⟩
    exact ⟨by rw [List.length_reverse]; exact hz, _, 0, r.reverse, Heap.get?_push_size _ rfl⟩
  · obtain ⟨its, r, ht, hz⟩ := I5.tuple hx
    have hlen := r.length
    cases pl
    cases pu
    refine PyProof.Rows.tail_any (ops := [.ref a, .ref s4.heap.objs.size]) ht.typeIs PyProof.Rows.slot_tuple_getitem.lookup ?_ (by with_unfolding_all rfl)
    refine DLM.getItem_tuple_rev ht (Heap.IsSliceOf.new _ .none .none vs) ps ?_ (by rw [List.size_toArray]; omega)
    refine ⟨.ref _, _, I5.laid (t' := s4.toks) (o := .tup xs.reverse) (fun b ob q => Heap.get?_push_of_some _ q) (Nat.le_refl _) ?_, rfl, q _ (I5.hok.fresh (Nat.le_refl _))⟩
    exact ⟨by rw [List.length_reverse]; exact hz, _, r.reverse, ⟨_, Heap.get?_push_size _ rfl, rfl, 0, rfl⟩⟩
def wRev (w : WE) : WE := fun ρ Q => w ρ fun x ρ1 => match seqOf ρ1 x with
  | some (true, ds) => Q (.dat (.tuple ds.reverse)) ρ1
  | some (false, ds) => Q (.lst ds.reverse) ρ1
  | none => False
theorem xe_rev {e : Expr} {te : TE} {w : WE} {k : Nat} {p1 p2 p3 : Pos} (he : XE X e te w) : XE X (.Subscript e (.Slice none none (some (.UnaryOp .USub (.Constant (.int 1) k p1) p2)) p3) pos) (tRevA X.K te) (wRev w) :=
  ⟨pe_revA he.pe, fun Hf H σ ρ Q Q' E hw c => he.so Hf H σ ρ _ _ E hw fun x Hf1 H1 d ρ1 s1 r1 q1 => by
    split at q1
    · rename_i ds hq
      obtain ⟨a, vs, rfl, h1, h2⟩ := seq_of s1.er r1.vs hq
      exact ⟨a, vs, rfl, .inr ⟨h1, fun p hp => (c.step s1).tup s1.er (DpAll.rev h2) hp q1⟩⟩
    · rename_i ds hq
      obtain ⟨a, vs, rfl, h1, h2⟩ := seq_of s1.er r1.vs hq
      exact ⟨a, vs, rfl, .inl ⟨h1, fun p hp => (c.step s1).lst s1.er (DpAll.rev h2) hp q1⟩⟩
    · exact q1.elim⟩
end
end DL
end
section
set_option Elab.async false
set_option linter.all false
set_option maxRecDepth 100000
set_option maxHeartbeats 1000000
namespace DL
open PySem L2
section
variable {X : Cx} {pos : Pos}
/-! ### great numbers -/
abbrev oMulW : WO := oInt CMulW fun i j => .int (i * j)
abbrev oFdivW : WO := oInt CDivW fun i j => .int (i / j)
abbrev oPow : WO := oInt CPow fun i j => .int (i ^ j.toNat)
theorem xo_mulW : XO X (binaryOp .Mult) (rI CMulW fun i j => .int (i * j)) oMulW := xo_I op_mulW
theorem xo_fdivW : XO X (binaryOp .FloorDiv) (rI CDivW fun i j => .int (i / j)) oFdivW := xo_I op_fdivW
theorem xo_pow : XO X (binaryOp .Pow) (rI CPow fun i j => .int (i ^ j.toNat)) oPow := xo_I op_pow
/-! ### list + list -/
def lstOf (ρ : Den) : DV → Option (List PyData)
  | .lst xs => some xs
  | .arg xs => some xs
  | .own i => (ownL ρ[i]?).map (·.2)
  | _ => none
theorem lst_at {K : PySem.W.Frag} {σ : St} {Hf H : Hp} {ρ : Den} {v : V} {d : DV} {xs : List PyData} (E : ER K Hf H σ ρ) (h : VS K Hf H σ v d) (e : lstOf ρ d = some xs) : ∃ a us, v = .ref a ∧ H a = some (.lst us) ∧ DpAll K Hf us xs := by
  cases d with
  | lst ys => cases e; obtain ⟨a, e1, _, us, e2, e3⟩ := h; exact ⟨a, us, e1, e2, e3⟩
  | arg ys => cases e; obtain ⟨a, e1, _, us, e2, e3⟩ := h; exact ⟨a, us, e1, e2, e3⟩
  | own i =>
    obtain ⟨⟨b, zs⟩, h1, h2⟩ := Option.map_eq_some_iff.mp (show (ownL ρ[i]?).map (·.2) = some xs from e)
    simp only at h2
    subst h2
    obtain ⟨a, us, e1, _, _, e2, e3⟩ := ownL_at E (show σ[i]? = some (some v) from h) h1
    exact ⟨a, us, e1, e2, e3⟩
  | _ => cases e
/-- xs + ys: a new list -/
def oCatLs : WO := fun x y ρ Q => match lstOf ρ x, lstOf ρ y with
  | some xs, some ys => xs.length + ys.length ≤ sizeLine ∧ Q (.lst (xs ++ ys)) ρ
  | _, _ => False
theorem xo_catLs : XO X (binaryOp .Add) rCat oCatLs :=
  ⟨op_cat, fun Hf H σ ρ Q Q' x y dx dy E hx hy ho c => by
    unfold oCatLs at ho
    split at ho
    · rename_i xs ys h1 h2
      obtain ⟨a, us, rfl, g1, g2⟩ := lst_at E hx h1
      obtain ⟨b, ws, rfl, f1, f2⟩ := lst_at E hy h2
      exact ⟨a, b, us, ws, rfl, rfl, g1, f1, by rw [DpAll.length g2, DpAll.length f2]; exact ho.1, fun p hp => c.lst E (DpAll.app g2 f2) hp ho.2⟩
    · exact ho.elim⟩
/-! ### isinstance -/
theorem tyX_vs {K : PySem.W.Frag} {σ : St} {Hf H : Hp} {ρ : Den} {v : V} {d : DV} {S : String} {y : PyData} (E : ER K Hf H σ ρ) (h : VS K Hf H σ v d) (e : datOf ρ d = some y) (e2 : tyD y = some S) : TyX K H v (.type S) := by
  have own : ∀ {i : Nat} {z : DV}, ρ[i]? = some (some z) → z.isOwn = true → σ[i]? = some (some v) → ∃ a, v = .ref a ∧ OwnR K Hf H a z := fun {i z} h1 h2 h3 => by
    obtain ⟨a, g1, _, g3⟩ := E.own h1 h2
    rw [h3] at g1; cases g1
    exact ⟨a, rfl, g3⟩
  cases d with
  | dat x => cases e; exact tyX_of (fun _ _ _ => .inr trivial) (dp_mono E.ex _ _ h) e2
  | lst xs => cases e; cases e2; obtain ⟨a, rfl, _, us, g, _⟩ := h; exact .base (.lst g)
  | own i =>
    have e' : ownDat ρ[i]? = some y := e
    obtain ⟨xs, rfl, q⟩ := ownDat_some e'
    cases e2
    rcases q with q | q
    · obtain ⟨a, rfl, us, g, _⟩ := own q rfl h
      exact .base (.lst g)
    · obtain ⟨a, rfl, us, g, _⟩ := own q rfl h
      exact .base (.lst g)
  | fn u => cases e
  | arg xs => cases e
  | dic xs => cases e
theorem xe_isi {T : String} {x t : Str} {p tp : Pos} {e : Expr} {te : TE} {w : WE} (hm : X.mg x = none) (hmT : X.mg t = none) (he : XE X e te w) (hx : Gl X x) (ht : Gl X t) (hv : bootBuiltins x = some (.builtin "isinstance")) (hvT : bootBuiltins t = some (.type T)) (hn : x ≠ "__name__" := by decide)
    (hdb : (x == ("__debug__" : Str)) = false := by decide) (hst : starEach [e, .Name t tp] X.env = (false, eval e X.env) :: starEach [.Name t tp] X.env := by rfl) (hpl : (backTo pos (starEach [.Name t tp] X.env)).any (·.1) = false := by rfl)
    (hnt : t ≠ "__name__" := by decide) (hdt : (t == ("__debug__" : Str)) = false := by decide) (hs2 : starEach [.Name t tp] X.env = [(false, eval (.Name t tp) X.env)] := by rfl) :
    XE X (.Call (.Name x p) [e, .Name t tp] [] pos) (tIsi X.K T te) (wIsi T w) :=
  ⟨by
    have hT : PE X (.Name t tp) (tC (.ty T)) := pe_bltn ht hmT hvT rfl hnt hdt
    exact pe_callB call_isi hx hm hv (pa_cons he.pe (pa_cons hT pa_nil hs2) hst) hn hdb hst hpl, fun Hf H σ ρ Q Q' E hw c => by
    refine he.so Hf H σ ρ _ _ E hw fun v Hf1 H1 d ρ1 s1 r1 q1 => ?_
    split at q1
    · rename_i S hS
      split at q1
      · rename_i b hb
        obtain ⟨y, h1, h2⟩ := Option.bind_eq_some_iff.mp hS
        refine ⟨v, .ty T, .type S, .type T, b, rfl, .ty T, tyX_vs s1.er r1.vs h1 h2, kit_ty hb, (c.step s1).dat s1.er (.bl b) q1⟩
      · exact q1.elim
    · exact q1.elim⟩
end
end DL
end
section
set_option Elab.async false
set_option linter.all false
set_option maxRecDepth 100000
set_option maxHeartbeats 1000000
namespace DL
open PySem L2
section
variable {X : Cx} {pos : Pos}
/-! ### comprehensions, what they are made of told as functions of the block -/
abbrev BF (α : Type) := Shared → Hp → Addr → List (Str × Addr) → List Addr → α
theorem xe_lcD {elt tg iter : Expr} {ifs : List Expr} {scope : Scope} {own : List (Str × Nat)} {wi : TI} {g : BF TG} {tt : BF TT} {te : BF TE} {w : WI} {f : PyData → Den → Option Den} {S : List Nat} {wt : WT} {we : WE}
    (hc : X.calm = true) (hN : X.N.Nodup) (hi : XI X tg iter wi w) (ok : BlkOk X.N X.env.scope scope own)
    (hg : ∀ (s : Shared) (H : Hp) (C : Addr) (cl : List (Str × Addr)) (fp : List Addr), XG (X.blk s H scope (compEnvC scope cl C X.env) fp) tg (g s H C cl fp) f S) (ht : ∀ (s : Shared) (H : Hp) (C : Addr) (cl : List (Str × Addr)) (fp : List Addr), XTs (X.blk s H scope (compEnvC scope cl C X.env) fp) ifs (tt s H C cl fp) wt)
    (he : ∀ (s : Shared) (H : Hp) (C : Addr) (cl : List (Str × Addr)) (fp : List Addr), XE (X.blk s H scope (compEnvC scope cl C X.env) fp) elt (te s H C cl fp) we) (hS : ∀ i ∈ S, i ∈ own.map (·.2) := by decide) (hs : ∀ x, foldedSetIterable iter X.env x = pure x := by intro _; rfl)
    (eg : ∀ s H C cl fp, g s H C cl fp = g X.s_0 X.H_0 0 [] [] := by intros; rfl) (et : ∀ s H C cl fp, tt s H C cl fp = tt X.s_0 X.H_0 0 [] [] := by intros; rfl) (ee : ∀ s H C cl fp, te s H C cl fp = te X.s_0 X.H_0 0 [] [] := by intros; rfl) :
    XE X (.ListComp elt [⟨tg, iter, ifs, 0⟩] scope pos) (tLc wi (g X.s_0 X.H_0 0 [] []) (tt X.s_0 X.H_0 0 [] []) (te X.s_0 X.H_0 0 [] []) (own.map (·.2))) (wLc w f wt we (own.map (·.2))) :=
  xe_lc hc hN hi ok (fun s H C cl fp => eg s H C cl fp ▸ hg s H C cl fp) (fun s H C cl fp => et s H C cl fp ▸ ht s H C cl fp) (fun s H C cl fp => ee s H C cl fp ▸ he s H C cl fp) hS hs
theorem xs_setLcD {i : Nat} {y : Str} {py : Pos} {elt tg iter : Expr} {ifs : List Expr} {scope : Scope} {own : List (Str × Nat)} {spos : Pos} {wi : TI} {g : BF TG} {tt : BF TT} {te : BF TE} {w : WI} {f : PyData → Den → Option Den} {S : List Nat} {wt : WT} {we : WE}
    (hc : X.calm = true) (hN : X.N.Nodup) (hy : X.N[i]? = some y) (hyl : X.env.scope.names.lookup y = some .local)
    (hsw : swapsWith (.ListComp elt [⟨tg, iter, ifs, 0⟩] scope pos) (some (.Name y py)) spos.line X.env = pure true) (hi : XI X tg iter wi w) (ok : BlkOk X.N X.env.scope scope own)
    (hg : ∀ (s : Shared) (H : Hp) (C : Addr) (cl : List (Str × Addr)) (fp : List Addr), XG (X.blk s H scope (compEnvC scope cl C X.env) fp) tg (g s H C cl fp) f S) (ht : ∀ (s : Shared) (H : Hp) (C : Addr) (cl : List (Str × Addr)) (fp : List Addr), XTs (X.blk s H scope (compEnvC scope cl C X.env) fp) ifs (tt s H C cl fp) wt)
    (he : ∀ (s : Shared) (H : Hp) (C : Addr) (cl : List (Str × Addr)) (fp : List Addr), XE (X.blk s H scope (compEnvC scope cl C X.env) fp) elt (te s H C cl fp) we) (hS : ∀ i ∈ S, i ∈ own.map (·.2) := by decide) (hs : ∀ x, foldedSetIterable iter X.env x = pure x := by intro _; rfl)
    (eg : ∀ s H C cl fp, g s H C cl fp = g X.s_0 X.H_0 0 [] [] := by intros; rfl) (et : ∀ s H C cl fp, tt s H C cl fp = tt X.s_0 X.H_0 0 [] [] := by intros; rfl) (ee : ∀ s H C cl fp, te s H C cl fp = te X.s_0 X.H_0 0 [] [] := by intros; rfl) :
    XS X (.Assign [.Name y py] (.ListComp elt [⟨tg, iter, ifs, 0⟩] scope pos) spos) (tAsg (tLc wi (g X.s_0 X.H_0 0 [] []) (tt X.s_0 X.H_0 0 [] []) (te X.s_0 X.H_0 0 [] []) (own.map (·.2))) (gName i)) (wSet i (wLc w f wt we (own.map (·.2)))) :=
  xs_setLc hc hN hy hyl hsw hi ok (fun s H C cl fp => eg s H C cl fp ▸ hg s H C cl fp) (fun s H C cl fp => et s H C cl fp ▸ ht s H C cl fp) (fun s H C cl fp => ee s H C cl fp ▸ he s H C cl fp) hS hs
/-! ### defs of the top -/
theorem Cal.mono {P : Program} {w : World} {K : PySem.W.Frag} {mg : Str → Option Value} {base : Heap} {k j : Nat} {x : Str} {S : DSpec} (c : Cal P w K mg base k x S) (h : k ≤ j) : Cal P w K mg base j x S := by
  obtain ⟨f, fd, ps, F, r⟩ := c.ex
  exact ⟨f, fd, ps, F.mono h, r⟩
/-- a def of the top: its object, its name -/
structure Dfn (K : PySem.W.Frag) (mg : Str → Option Value) (x : Str) (st : Stmt) (ps : List Str) (f : Addr) (fd : FuncData) : Prop where
  F : Fun K x x st f fd
  g : mg x = some (.ref f)
  b : Binds K fd ps []
theorem Dfn.cal {P : Program} {w : World} {K : PySem.W.Frag} {mg : Str → Option Value} {base : Heap} {k : Nat} {x : Str} {S : DSpec} {st : Stmt} {ps : List Str} {f : Addr} {fd : FuncData} (D : Dfn K mg x st ps f fd) (o : FnOk P w K mg base CX0 k f fd ps (spD K S)) : Cal P w K mg base k x S :=
  ⟨f, fd, ps, o, D.g, D.F.kp, D.b⟩
def only (f : Addr) (sp : DSpec) : Addr → Option DSpec := fun g => if g = f then some sp else none
theorem only_self {f : Addr} {sp : DSpec} : only f sp f = some sp := by simp [only]
theorem Dfn.held {P : Program} {w : World} {K : PySem.W.Frag} {mg : Str → Option Value} {base : Heap} {k : Nat} {x : Str} {S : DSpec} {st : Stmt} {ps : List Str} {f : Addr} {fd : FuncData} (D : Dfn K mg x st ps f fd) (o : FnOk P w K mg base CX0 k f fd ps (spD K S)) : ∀ g sp, only f S g = some sp → Held P w K mg base k g (spD K sp) := by
  intro g sp h
  unfold only at h
  split at h
  · cases h
    rename_i e
    subst e
    exact ⟨fd, ps, o, D.F.kp, D.b⟩
  · cases h
theorem held_mono {P : Program} {w : World} {K : PySem.W.Frag} {mg : Str → Option Value} {base : Heap} {k j : Nat} {S : Addr → Option DSpec} (h : ∀ g sp, S g = some sp → Held P w K mg base k g (spD K sp)) (hj : k ≤ j) : ∀ g sp, S g = some sp → Held P w K mg base j g (spD K sp) := by
  intro g sp e
  obtain ⟨fd, ps, o, r⟩ := (h g sp e).ex
  exact ⟨fd, ps, o.mono hj, r⟩
end
end DL
end
section
set_option Elab.async false
set_option linter.all false
set_option maxRecDepth 100000
set_option maxHeartbeats 1000000
/-! plain data: ints, tuples, lists -/
namespace DL
open PySem L2
inductive Pd : Nat → PyData → Prop
  | int (n : Nat) (i : Int) : Pd n (.int i)
  | non (n : Nat) : Pd n .none
  | tup (n : Nat) (xs : List PyData) : (∀ x ∈ xs, Pd n x) → Pd (n + 1) (.tuple xs)
  | lst (n : Nat) (xs : List PyData) : (∀ x ∈ xs, Pd n x) → Pd (n + 1) (.list xs)
theorem canAll : ∀ {xs : List PyData}, (∀ x ∈ xs, x.canLay0 = true) → PyData.canLayAll0 xs = true
  | [], _ => rfl
  | x :: xs, h => by
    show (x.canLay0 && PyData.canLayAll0 xs) = true
    rw [h x List.mem_cons_self, canAll fun y m => h y (List.mem_cons_of_mem _ m)]
    rfl
theorem depAll {n : Nat} : ∀ {xs : List PyData}, (∀ x ∈ xs, x.depth ≤ n) → PyData.depthAll xs ≤ n
  | [], _ => Nat.zero_le _
  | x :: xs, h => by
    rw [PyData.depthAll.eq_2]
    have h1 := h x List.mem_cons_self
    have h2 := depAll (xs := xs) fun y m => h y (List.mem_cons_of_mem _ m)
    omega
theorem Pd.can {n : Nat} {d : PyData} (h : Pd n d) : d.canLay0 = true ∧ d.depth ≤ n := by
  induction h with
  | int n i => exact ⟨PyData.canLay0.eq_3 i, by rw [PyData.depth.eq_6]; omega⟩
  | non n => exact ⟨PyData.canLay0.eq_1, by rw [PyData.depth.eq_4]; omega⟩
  | tup n xs _ ih =>
    refine ⟨?_, ?_⟩
    · rw [PyData.canLay0.eq_6]; exact canAll fun x m => (ih x m).1
    · rw [PyData.depth.eq_2]; have := depAll (n := n) fun x m => (ih x m).2; omega
  | lst n xs _ ih =>
    refine ⟨?_, ?_⟩
    · rw [PyData.canLay0.eq_5]; exact canAll fun x m => (ih x m).1
    · rw [PyData.depth.eq_1]; have := depAll (n := n) fun x m => (ih x m).2; omega
theorem Pd.shaped {n : Nat} {d : PyData} (h : Pd n d) (hn : n ≤ 64 := by decide) : SeqAt.shaped d = true := by
  obtain ⟨h1, h2⟩ := h.can
  show (d.canLay0 && decide (d.depth ≤ 64)) = true
  rw [h1, decide_eq_true (Nat.le_trans h2 hn)]
  rfl
theorem eqvAll_iff : ∀ {xs ys : List PyData}, (∀ x ∈ xs, ∀ y ∈ ys, x.eqv y = true ↔ x = y) → (PyData.eqvAll xs ys = true ↔ xs = ys)
  | [], [], _ => by rw [PyData.eqvAll.eq_1]; simp
  | [], y :: ys, _ => by rw [PyData.eqvAll.eq_3]; simp
  | x :: xs, [], _ => by rw [PyData.eqvAll.eq_4]; simp
  | x :: xs, y :: ys, h => by
    rw [PyData.eqvAll.eq_2, Bool.and_eq_true, h x List.mem_cons_self y List.mem_cons_self, eqvAll_iff fun a m b m' => h a (List.mem_cons_of_mem _ m) b (List.mem_cons_of_mem _ m')]
    simp
theorem Pd.eqv {n m : Nat} {d e : PyData} (h : Pd n d) (k : Pd m e) : d.eqv e = true ↔ d = e := by
  induction h generalizing m e with
  | int n i =>
    cases k with
    | int _ j => rw [PyData.eqv.eq_5]; simp
    | non => simp [PyData.eqv]
    | tup => simp [PyData.eqv]
    | lst => simp [PyData.eqv]
  | non n =>
    cases k with
    | int _ j => simp [PyData.eqv]
    | non => simp [PyData.eqv]
    | tup => simp [PyData.eqv]
    | lst => simp [PyData.eqv]
  | tup n xs _ ih =>
    cases k with
    | int _ j => simp [PyData.eqv]
    | non => simp [PyData.eqv]
    | tup m ys h2 => rw [PyData.eqv.eq_8, eqvAll_iff fun x mx y my => ih x mx (h2 y my)]; simp
    | lst => simp [PyData.eqv]
  | lst n xs _ ih =>
    cases k with
    | int _ j => simp [PyData.eqv]
    | non => simp [PyData.eqv]
    | tup => simp [PyData.eqv]
    | lst m ys h2 => rw [PyData.eqv.eq_7, eqvAll_iff fun x mx y my => ih x mx (h2 y my)]; simp
/-! ### slabs as data -/
open SM
def eU (s : Slab Unit) : PyData := .tuple [.int s.1, .int s.2.1]
def eS {β : Type} (enc : β → PyData) (s : Slab β) : PyData := .tuple [.int s.1, .int s.2.1, enc s.2.2]
def eRow (r : List (Slab Unit)) : PyData := .tuple (r.map eU)
def eSl {β : Type} (enc : β → PyData) (L : List (Slab β)) : PyData := .tuple (L.map (eS enc))
abbrev eLay : Lay → PyData := eSl eRow
abbrev eSol : Sol → PyData := eSl eLay
theorem eU_inj {s t : Slab Unit} (h : eU s = eU t) : s = t := by
  obtain ⟨a, b, ⟨⟩⟩ := s
  obtain ⟨c, d, ⟨⟩⟩ := t
  simp [eU] at h
  rw [h.1, h.2]
theorem eS_inj {β : Type} {enc : β → PyData} (hi : ∀ x y, enc x = enc y → x = y) {s t : Slab β} (h : eS enc s = eS enc t) : s = t := by
  obtain ⟨a, b, x⟩ := s
  obtain ⟨c, d, y⟩ := t
  simp [eS] at h
  rw [h.1, h.2.1, hi _ _ h.2.2]
theorem map_inj {α γ : Type} {f : α → γ} (hi : ∀ x y, f x = f y → x = y) : ∀ {l m : List α}, l.map f = m.map f → l = m
  | [], [], _ => rfl
  | [], _ :: _, h => by simp at h
  | _ :: _, [], h => by simp at h
  | x :: l, y :: m, h => by
    rw [List.map_cons, List.map_cons] at h
    have h1 := List.cons.inj h
    rw [hi _ _ h1.1, map_inj hi h1.2]
theorem eRow_inj {r q : Row} (h : eRow r = eRow q) : r = q := map_inj (fun _ _ => eU_inj) (by simpa [eRow] using h)
theorem eSl_inj {β : Type} {enc : β → PyData} (hi : ∀ x y, enc x = enc y → x = y) {L M : List (Slab β)} (h : eSl enc L = eSl enc M) : L = M := map_inj (fun _ _ => eS_inj hi) (by simpa [eSl] using h)
theorem eLay_inj (r q : Lay) (h : eLay r = eLay q) : r = q := eSl_inj (fun _ _ => eRow_inj) h
theorem eSol_inj (r q : Sol) (h : eSol r = eSol q) : r = q := eSl_inj eLay_inj h
theorem pd_tup {n : Nat} {xs : List PyData} (h : ∀ x ∈ xs, Pd n x) : Pd (n + 1) (.tuple xs) := .tup n xs h
theorem pd_eU (n : Nat) (s : Slab Unit) : Pd (n + 1) (eU s) := pd_tup (by intro x m; simp at m; rcases m with rfl | rfl <;> exact .int _ _)
theorem pd_eRow (n : Nat) (r : Row) : Pd (n + 2) (eRow r) := pd_tup (by intro x m; obtain ⟨s, _, rfl⟩ := List.mem_map.mp m; exact pd_eU n s)
theorem pd_eS {β : Type} {enc : β → PyData} {n : Nat} {s : Slab β} (h : Pd n (enc s.2.2)) : Pd (n + 1) (eS enc s) := pd_tup (by intro x m; simp at m; rcases m with rfl | rfl | rfl; exact .int _ _; exact .int _ _; exact h)
theorem pd_eSl {β : Type} {enc : β → PyData} {n : Nat} (h : ∀ x, Pd n (enc x)) (L : List (Slab β)) : Pd (n + 2) (eSl enc L) := pd_tup (by intro x m; obtain ⟨s, _, rfl⟩ := List.mem_map.mp m; exact pd_eS (h _))
theorem pd_eLay (n : Nat) (l : Lay) : Pd (n + 4) (eLay l) := pd_eSl (pd_eRow n) l
theorem pd_eSol (n : Nat) (l : Sol) : Pd (n + 6) (eSol l) := pd_eSl (pd_eLay n) l
end DL
end
section
set_option Elab.async false
set_option linter.all false
set_option maxRecDepth 100000
set_option maxHeartbeats 1000000
/-! steps of what is asked, by data -/
namespace DL
open PySem L2
section
variable {ρ : Den} {Q : DV → Den → Prop} {QT : Bool → Den → Prop} {QA : List DV → Den → Prop} {D : DE}
/-! statements -/
theorem ev_seq {a b : WS} (h : a { D with nx := b D } ρ) : wSeq a b D ρ := h
theorem ev_next (h : D.nx ρ) : wNext D ρ := h
theorem ev_break (h : D.bk ρ) : wBreak D ρ := h
theorem ev_cont (h : D.ct ρ) : wCont D ρ := h
def kExpr (D : DE) : DV → Den → Prop := fun _ ρ1 => D.nx ρ1
theorem ev_expr {w : WE} (h : w ρ (kExpr D)) : wExpr w D ρ := h
theorem ev_kExpr {d : DV} (h : D.nx ρ) : kExpr D d ρ := h
def kRet (D : DE) : DV → Den → Prop := fun d ρ1 => match d with
  | .own i => match ρ1[i]? with
    | some (some (.lst xs)) => D.rt (.lst xs) ρ1
    | some (some (.dic xs)) => D.rt (.dic xs) ρ1
    | _ => False
  | d => D.rt d ρ1
theorem ev_ret {w : WE} (h : w ρ (kRet D)) : wRet w D ρ := h
theorem ev_retN (h : D.rt (.dat .none) ρ) : wRetN D ρ := h
theorem ev_kRet_dat {x : PyData} (h : D.rt (.dat x) ρ) : kRet D (.dat x) ρ := h
theorem ev_kRet_lst {x : List PyData} (h : D.rt (.lst x) ρ) : kRet D (.lst x) ρ := h
theorem ev_kRet_own {i : Nat} {xs : List PyData} (e : ρ[i]? = some (some (.lst xs))) (h : D.rt (.lst xs) ρ) : kRet D (.own i) ρ := by
  unfold kRet; dsimp only; rw [e]; exact h
def kIfS (a b : WS) (D : DE) : Bool → Den → Prop := fun k ρ1 => if k = true then a D ρ1 else b D ρ1
theorem ev_ifS {t : WT} {a b : WS} (h : t ρ (kIfS a b D)) : wIfS t a b D ρ := h
theorem ev_kIfS {a b : WS} {k : Bool} (h1 : k = true → a D ρ) (h2 : k = false → b D ρ) : kIfS a b D k ρ := by
  unfold kIfS
  cases k with
  | true => rw [if_pos rfl]; exact h1 rfl
  | false => rw [if_neg (by decide)]; exact h2 rfl
theorem ev_kIfS_t {a b : WS} (h1 : a D ρ) : kIfS a b D true ρ := h1
theorem ev_kIfS_f {a b : WS} (h1 : b D ρ) : kIfS a b D false ρ := h1
def kSet (i : Nat) (D : DE) : DV → Den → Prop := fun d ρ1 => notArg ρ1[i]? ∧ match d with
  | .own _ => False
  | .arg _ => False
  | d => D.nx (ρ1.set i (some d))
theorem ev_set {i : Nat} {w : WE} (h : w ρ (kSet i D)) : wSet i w D ρ := h
theorem ev_kSet_dat {i : Nat} {x : PyData} (n : notArgB ρ[i]? = true) (h : D.nx (ρ.set i (some (.dat x)))) : kSet i D (.dat x) ρ := ⟨notArgB_of n, h⟩
theorem ev_kSet_lst {i : Nat} {x : List PyData} (n : notArgB ρ[i]? = true) (h : D.nx (ρ.set i (some (.lst x)))) : kSet i D (.lst x) ρ := ⟨notArgB_of n, h⟩
theorem ev_kSet_fn {i : Nat} {x : V} (n : notArgB ρ[i]? = true) (h : D.nx (ρ.set i (some (.fn x)))) : kSet i D (.fn x) ρ := ⟨notArgB_of n, h⟩
def kPar (i j : Nat) (D : DE) : List DV → Den → Prop := fun xs ρ1 => match xs with
  | [d, e] => datFn d = true ∧ datFn e = true ∧ notArg ρ1[i]? ∧ notArg ρ1[j]? ∧ D.nx ((ρ1.set i (some d)).set j (some e))
  | _ => False
theorem ev_par {i j : Nat} {wa : WA} (h : wa ρ (kPar i j D)) : wPar i j wa D ρ := h
theorem ev_kPar {i j : Nat} {d e : DV} (o1 : datFn d = true) (o2 : datFn e = true) (n1 : notArgB ρ[i]? = true) (n2 : notArgB ρ[j]? = true) (h : D.nx ((ρ.set i (some d)).set j (some e))) : kPar i j D [d, e] ρ := ⟨o1, o2, notArgB_of n1, notArgB_of n2, h⟩
def kAsg (f : PyData → Den → Option Den) (D : DE) : DV → Den → Prop := fun d ρ1 => match d with
  | .dat x => match f x ρ1 with
    | some ρ2 => D.nx ρ2
    | none => False
  | _ => False
theorem ev_asg {w : WE} {f : PyData → Den → Option Den} (h : w ρ (kAsg f D)) : wAsg w f D ρ := h
theorem ev_kAsg {f : PyData → Den → Option Den} {x : PyData} {ρ2 : Den} (e : f x ρ = some ρ2) (h : D.nx ρ2) : kAsg f D (.dat x) ρ := by
  unfold kAsg; dsimp only; rw [e]; exact h
def kPut3 (D : DE) (x o : DV) : DV → Den → Prop := fun k ρ3 => match x, o, k with
  | .dat d, .own i, .dat (.int n) => match ownL ρ3[i]? with
    | some (b, xs) => match ixN xs.length n with
      | some j => D.nx (ρ3.set i (some (mkO b (xs.set j d))))
      | none => False
    | none => False
  | _, _, _ => False
def kPut2 (wi : WE) (D : DE) (x : DV) : DV → Den → Prop := fun o ρ2 => wi ρ2 (kPut3 D x o)
def kPut1 (wo wi : WE) (D : DE) : DV → Den → Prop := fun x ρ1 => wo ρ1 (kPut2 wi D x)
theorem ev_put {w wo wi : WE} (h : w ρ (kPut1 wo wi D)) : wPut w wo wi D ρ := h
theorem ev_kPut1 {wo wi : WE} {x : DV} (h : wo ρ (kPut2 wi D x)) : kPut1 wo wi D x ρ := h
theorem ev_kPut2 {wi : WE} {x o : DV} (h : wi ρ (kPut3 D x o)) : kPut2 wi D x o ρ := h
theorem ev_kPut3 {d : PyData} {i j : Nat} {n : Int} {b : Bool} {xs : List PyData} (e : ownL ρ[i]? = some (b, xs)) (e2 : ixN xs.length n = some j) (h : D.nx (ρ.set i (some (mkO b (xs.set j d))))) : kPut3 D (.dat d) (.own i) (.dat (.int n)) ρ := by
  unfold kPut3; dsimp only; rw [e]; dsimp only; rw [e2]; exact h
def kAug (i : Nat) (g : Int → Int → Int) (a : Int) (D : DE) : DV → Den → Prop := fun y ρ1 => match y with
  | .dat (.int b) => notArg ρ1[i]? ∧ D.nx (ρ1.set i (some (.dat (.int (g a b)))))
  | _ => False
theorem ev_aug {i : Nat} {g : Int → Int → Int} {w : WE} {a : Int} (e : ρ[i]? = some (some (.dat (.int a)))) (h : w ρ (kAug i g a D)) : wAugI i g w D ρ := by
  unfold wAugI; rw [e]; exact h
theorem ev_kAug {i : Nat} {g : Int → Int → Int} {a b : Int} (n : notArgB ρ[i]? = true) (h : D.nx (ρ.set i (some (.dat (.int (g a b)))))) : kAug i g a D (.dat (.int b)) ρ := ⟨notArgB_of n, h⟩
/-! while: an invariant by n -/
def kWh (b : WS) (W : Nat → Den → Prop) (m : Nat) (D : DE) : Bool → Den → Prop := fun k ρ1 => if k = true then b { D with nx := fun ρ' => ∃ m', m' < m ∧ W m' ρ', ct := fun ρ' => ∃ m', m' < m ∧ W m' ρ', bk := D.nx } ρ1 else D.nx ρ1
theorem ev_while {t : WT} {b : WS} (W : Nat → Den → Prop) (h0 : ∃ m, W m ρ) (h : ∀ m ρ, W m ρ → t ρ (kWh b W m D)) : wWhile t b D ρ := ⟨W, h0, h⟩
theorem ev_kWh {b : WS} {W : Nat → Den → Prop} {m : Nat} {k : Bool} (h1 : k = true → b { D with nx := fun ρ' => ∃ m', m' < m ∧ W m' ρ', ct := fun ρ' => ∃ m', m' < m ∧ W m' ρ', bk := D.nx } ρ) (h2 : k = false → D.nx ρ) : kWh b W m D k ρ := by
  unfold kWh
  cases k with
  | true => rw [if_pos rfl]; exact h1 rfl
  | false => rw [if_neg (by decide)]; exact h2 rfl
/-! for -/
def kFor (f : PyData → Den → Option Den) (wb : WS) (D : DE) : List PyData → Den → Prop := fun items ρ1 => forGo f wb D items ρ1
theorem ev_for {wi : WI} {f : PyData → Den → Option Den} {wb : WS} (h : wi ρ (kFor f wb D)) : wFor wi f wb D ρ := h
theorem ev_kFor {f : PyData → Den → Option Den} {wb : WS} {items : List PyData} (h : forGo f wb D items ρ) : kFor f wb D items ρ := h
/-- an invariant by what is left -/
theorem forGo_ind {f : PyData → Den → Option Den} {wb : WS} {I : List PyData → Den → Prop} (hn : ∀ ρ, I [] ρ → D.nx ρ)
    (hs : ∀ x xs ρ, I (x :: xs) ρ → ∃ ρ1, f x ρ = some ρ1 ∧ ∀ G : Den → Prop, (∀ ρ, I xs ρ → G ρ) → wb { D with nx := G, ct := G, bk := D.nx } ρ1) : ∀ (items : List PyData) (ρ : Den), I items ρ → forGo f wb D items ρ
  | [], ρ, h => hn ρ h
  | x :: xs, ρ, h => by
    obtain ⟨ρ1, e, k⟩ := hs x xs ρ h
    show match f x ρ with
      | some ρ1 => wb { D with nx := forGo f wb D xs, ct := forGo f wb D xs, bk := D.nx } ρ1
      | none => False
    rw [e]
    exact k _ (forGo_ind hn hs xs)
theorem ev_forNil {f : PyData → Den → Option Den} {wb : WS} (h : D.nx ρ) : forGo f wb D [] ρ := h
theorem ev_forCons {f : PyData → Den → Option Den} {wb : WS} {x : PyData} {xs : List PyData} {ρ1 : Den} (e : f x ρ = some ρ1) (h : wb { D with nx := forGo f wb D xs, ct := forGo f wb D xs, bk := D.nx } ρ1) : forGo f wb D (x :: xs) ρ := by
  show match f x ρ with
      | some ρ1 => wb { D with nx := forGo f wb D xs, ct := forGo f wb D xs, bk := D.nx } ρ1
      | none => False
  rw [e]; exact h
/-! what is walked -/
def kSeqI (Q : List PyData → Den → Prop) : DV → Den → Prop := fun x ρ1 => match x with
  | .dat (.list xs) => Q xs ρ1
  | .dat (.tuple xs) => Q xs ρ1
  | .lst xs => Q xs ρ1
  | _ => False
theorem ev_seqI {w : WE} {Q : List PyData → Den → Prop} (h : w ρ (kSeqI Q)) : wSeqI w ρ Q := h
theorem ev_kSeqI_l {xs : List PyData} {Q : List PyData → Den → Prop} (h : Q xs ρ) : kSeqI Q (.dat (.list xs)) ρ := h
theorem ev_kSeqI_t {xs : List PyData} {Q : List PyData → Den → Prop} (h : Q xs ρ) : kSeqI Q (.dat (.tuple xs)) ρ := h
theorem ev_kSeqI_n {xs : List PyData} {Q : List PyData → Den → Prop} (h : Q xs ρ) : kSeqI Q (.lst xs) ρ := h
def kRng1 (Q : List PyData → Den → Prop) : List DV → Den → Prop := fun xs ρ1 => match xs with
  | [.dat (.int j)] => -(2 ^ 62) ≤ j ∧ j < 2 ^ 62 ∧ Q (rangeD 0 j.toNat) ρ1
  | _ => False
theorem ev_rng1 {wa : WA} {Q : List PyData → Den → Prop} (h : wa ρ (kRng1 Q)) : wRng1 wa ρ Q := h
theorem ev_kRng1 {j : Int} {Q : List PyData → Den → Prop} (h1 : -(2 ^ 62) ≤ j) (h2 : j < 2 ^ 62) (h : Q (rangeD 0 j.toNat) ρ) : kRng1 Q [.dat (.int j)] ρ := ⟨h1, h2, h⟩
def kRng2 (Q : List PyData → Den → Prop) : List DV → Den → Prop := fun xs ρ1 => match xs with
  | [.dat (.int i), .dat (.int j)] => (-(2 ^ 62) ≤ i ∧ i < 2 ^ 62 ∧ -(2 ^ 62) ≤ j ∧ j < 2 ^ 62) ∧ Q (rangeD i (j - i).toNat) ρ1
  | _ => False
theorem ev_rng2 {wa : WA} {Q : List PyData → Den → Prop} (h : wa ρ (kRng2 Q)) : wRng2 wa ρ Q := h
theorem ev_kRng2 {i j : Int} {Q : List PyData → Den → Prop} (h1 : -(2 ^ 62) ≤ i ∧ i < 2 ^ 62 ∧ -(2 ^ 62) ≤ j ∧ j < 2 ^ 62) (h : Q (rangeD i (j - i).toNat) ρ) : kRng2 Q [.dat (.int i), .dat (.int j)] ρ := ⟨h1, h⟩
def kRng3 (Q : List PyData → Den → Prop) : List DV → Den → Prop := fun xs ρ1 => match xs with
  | [.dat (.int i), .dat (.int j), .dat (.int c)] => ∃ n, RgC i j c n ∧ Q (rangeC i c n) ρ1
  | _ => False
theorem ev_rng3 {wa : WA} {Q : List PyData → Den → Prop} (h : wa ρ (kRng3 Q)) : wRng3 wa ρ Q := h
theorem ev_kRng3 {i j c : Int} {n : Nat} {Q : List PyData → Den → Prop} (h1 : RgC i j c n) (h : Q (rangeC i c n) ρ) : kRng3 Q [.dat (.int i), .dat (.int j), .dat (.int c)] ρ := ⟨n, h1, h⟩
/-! expressions -/
theorem ev_c {d : PyData} (h : Q (.dat d) ρ) : wC d ρ Q := h
theorem ev_fn {v : V} (h : Q (.fn v) ρ) : wFn v ρ Q := h
theorem ev_name {i : Nat} {d : DV} (e : ρ[i]? = some (some d)) (o : d.isOwn = false) (h : Q d ρ) : wName i ρ Q := by
  unfold wName; rw [e]; dsimp only; rw [if_neg (by rw [o]; decide)]; exact h
theorem ev_nameO {i : Nat} {d : DV} (e : ρ[i]? = some (some d)) (o : d.isOwn = true) (h : Q (.own i) ρ) : wName i ρ Q := by
  unfold wName; rw [e]; dsimp only; rw [if_pos o]; exact h
theorem ev_nameF_dat {i : Nat} {x : PyData} (e : ρ[i]? = some (some (.dat x))) (h : Q (.dat x) ρ) : wNameF i ρ Q := by
  unfold wNameF; rw [e]; exact h
theorem ev_nameF_fn {i : Nat} {x : V} (e : ρ[i]? = some (some (.fn x))) (h : Q (.fn x) ρ) : wNameF i ρ Q := by
  unfold wNameF; rw [e]; exact h
theorem ev_nameF_arg {i : Nat} {x : List PyData} (e : ρ[i]? = some (some (.arg x))) (h : Q (.own i) ρ) : wNameF i ρ Q := by
  unfold wNameF; rw [e]; exact h
theorem ev_nameF_lst {i : Nat} {x : List PyData} (e : ρ[i]? = some (some (.lst x))) (h : Q (.dat (.list x)) (ρ.set i (some (.dat (.list x))))) : wNameF i ρ Q := by
  unfold wNameF; rw [e]; exact h
def kBin2 (o : WO) (x : DV) (Q : DV → Den → Prop) : DV → Den → Prop := fun y ρ2 => o x y ρ2 Q
def kBin1 (o : WO) (wb : WE) (Q : DV → Den → Prop) : DV → Den → Prop := fun x ρ1 => wb ρ1 (kBin2 o x Q)
theorem ev_bin {o : WO} {wa wb : WE} (h : wa ρ (kBin1 o wb Q)) : wBin o wa wb ρ Q := h
theorem ev_kBin1 {o : WO} {wb : WE} {x : DV} (h : wb ρ (kBin2 o x Q)) : kBin1 o wb Q x ρ := h
theorem ev_intT {g : Int → Int → PyData} {i j : Int} (h : Q (.dat (g i j)) ρ) : kBin2 (oInt (fun _ _ => True) g) (.dat (.int i)) Q (.dat (.int j)) ρ := ⟨trivial, h⟩
theorem ev_int {C : Int → Int → Prop} {g : Int → Int → PyData} {i j : Int} (c : C i j) (h : Q (.dat (g i j)) ρ) : kBin2 (oInt C g) (.dat (.int i)) Q (.dat (.int j)) ρ := ⟨c, h⟩
theorem ev_ix {x : DV} {b : Bool} {ds : List PyData} {i : Int} {d : PyData} (e : seqOf ρ x = some (b, ds)) (e2 : atI ds i = some d) (h : Q (.dat d) ρ) : kBin2 oIx x Q (.dat (.int i)) ρ := by
  show (match seqOf ρ x, DV.dat (.int i) with
    | some (_, ds), .dat (.int i) => match atI ds i with
      | some d => Q (.dat d) ρ
      | none => False
    | _, _ => False)
  rw [e]; dsimp only; rw [e2]; exact h
theorem ev_eq {neg : Bool} {x y : DV} {d e : PyData} (e1 : datOf ρ x = some d) (e2 : datOf ρ y = some e) (s1 : SeqAt.shaped d = true) (s2 : SeqAt.shaped e = true) (h : Q (.dat (.bool (if neg then !PyData.eqv d e else PyData.eqv d e))) ρ) : kBin2 (oEq neg) x Q y ρ := by
  show (match datOf ρ x, datOf ρ y with
    | some d, some e => SeqAt.shaped d = true ∧ SeqAt.shaped e = true ∧ Q (.dat (.bool (if neg then !PyData.eqv d e else PyData.eqv d e))) ρ
    | _, _ => False)
  rw [e1, e2]; exact ⟨s1, s2, h⟩
theorem ev_eqI {i j : Int} (h : Q (.dat (.bool (decide (i = j)))) ρ) : kBin2 (oEq false) (.dat (.int i)) Q (.dat (.int j)) ρ := by
  refine ev_eq (d := .int i) (e := .int j) rfl rfl (by rfl) (by rfl) ?_
  rw [PyData.eqv.eq_5]; exact h
theorem ev_neI {i j : Int} (h : Q (.dat (.bool (decide (i ≠ j)))) ρ) : kBin2 (oEq true) (.dat (.int i)) Q (.dat (.int j)) ρ := by
  refine ev_eq (d := .int i) (e := .int j) rfl rfl (by rfl) (by rfl) ?_
  rw [PyData.eqv.eq_5]
  have e : (if true = true then !(i == j) else i == j) = decide (i ≠ j) := by rw [if_pos rfl]; by_cases h : i = j <;> simp [h]
  rw [e]; exact h
theorem ev_isN {neg : Bool} {d : PyData} (h : Q (.dat (.bool (if neg then !isNone d else isNone d))) ρ) : kBin2 (oIsN neg) (.dat d) Q (.dat .none) ρ := h
theorem ev_cat {ds es : List PyData} (l : ds.length + es.length ≤ sizeLine) (h : Q (.dat (.tuple (ds ++ es))) ρ) : kBin2 oCat (.dat (.tuple ds)) Q (.dat (.tuple es)) ρ := ⟨l, h⟩
theorem ev_catLs {x y : DV} {xs ys : List PyData} (e1 : lstOf ρ x = some xs) (e2 : lstOf ρ y = some ys) (l : xs.length + ys.length ≤ sizeLine) (h : Q (.lst (xs ++ ys)) ρ) : kBin2 oCatLs x Q y ρ := by
  show (match lstOf ρ x, lstOf ρ y with
    | some xs, some ys => xs.length + ys.length ≤ sizeLine ∧ Q (.lst (xs ++ ys)) ρ
    | _, _ => False)
  rw [e1, e2]; exact ⟨l, h⟩
def kNeg (Q : DV → Den → Prop) : DV → Den → Prop := fun x ρ1 => match x with
  | .dat (.int i) => Q (.dat (.int (-i))) ρ1
  | _ => False
theorem ev_neg {w : WE} (h : w ρ (kNeg Q)) : wNeg w ρ Q := h
theorem ev_kNeg {i : Int} (h : Q (.dat (.int (-i))) ρ) : kNeg Q (.dat (.int i)) ρ := h
def kNot (QT : Bool → Den → Prop) : Bool → Den → Prop := fun b ρ1 => QT (!b) ρ1
theorem ev_not {w : WT} (h : w ρ (kNot QT)) : wNot w ρ QT := h
theorem ev_kNot {b : Bool} (h : QT (!b) ρ) : kNot QT b ρ := h
def kTest (QT : Bool → Den → Prop) : DV → Den → Prop := fun x ρ1 => match x with
  | .dat (.bool b) => QT b ρ1
  | _ => False
theorem ev_test {w : WE} (h : w ρ (kTest QT)) : wTest w ρ QT := h
theorem ev_kTest {b : Bool} (h : QT b ρ) : kTest QT (.dat (.bool b)) ρ := h
def kTru (QT : Bool → Den → Prop) : DV → Den → Prop := fun x ρ1 => match (datOf ρ1 x).bind truD with
  | some b => QT b ρ1
  | none => False
theorem ev_tru {w : WE} (h : w ρ (kTru QT)) : wTru w ρ QT := h
theorem ev_kTru {x : DV} {b : Bool} (e : (datOf ρ x).bind truD = some b) (h : QT b ρ) : kTru QT x ρ := by
  unfold kTru; rw [e]; exact h
def kAnd (u : WT) (QT : Bool → Den → Prop) : Bool → Den → Prop := fun b ρ1 => if b = true then u ρ1 QT else QT false ρ1
def kOr (u : WT) (QT : Bool → Den → Prop) : Bool → Den → Prop := fun b ρ1 => if b = true then QT true ρ1 else u ρ1 QT
theorem ev_and {w u : WT} (h : w ρ (kAnd u QT)) : wAnd w u ρ QT := h
theorem ev_or {w u : WT} (h : w ρ (kOr u QT)) : wOr w u ρ QT := h
theorem ev_kAnd {u : WT} {b : Bool} (h1 : b = true → u ρ QT) (h2 : b = false → QT false ρ) : kAnd u QT b ρ := by
  unfold kAnd
  cases b with
  | true => rw [if_pos rfl]; exact h1 rfl
  | false => rw [if_neg (by decide)]; exact h2 rfl
theorem ev_kOr {u : WT} {b : Bool} (h1 : b = true → QT true ρ) (h2 : b = false → u ρ QT) : kOr u QT b ρ := by
  unfold kOr
  cases b with
  | true => rw [if_pos rfl]; exact h1 rfl
  | false => rw [if_neg (by decide)]; exact h2 rfl
theorem ev_kAnd_t {u : WT} (h1 : u ρ QT) : kAnd u QT true ρ := h1
theorem ev_kAnd_f {u : WT} (h1 : QT false ρ) : kAnd u QT false ρ := h1
theorem ev_kOr_t {u : WT} (h1 : QT true ρ) : kOr u QT true ρ := h1
theorem ev_kOr_f {u : WT} (h1 : u ρ QT) : kOr u QT false ρ := h1
def kIf (a b : WE) (Q : DV → Den → Prop) : Bool → Den → Prop := fun k ρ1 => if k = true then a ρ1 Q else b ρ1 Q
theorem ev_if {t : WT} {a b : WE} (h : t ρ (kIf a b Q)) : wIf t a b ρ Q := h
theorem ev_kIf {a b : WE} {k : Bool} (h1 : k = true → a ρ Q) (h2 : k = false → b ρ Q) : kIf a b Q k ρ := by
  unfold kIf
  cases k with
  | true => rw [if_pos rfl]; exact h1 rfl
  | false => rw [if_neg (by decide)]; exact h2 rfl
theorem ev_kIf_t {a b : WE} (h1 : a ρ Q) : kIf a b Q true ρ := h1
theorem ev_kIf_f {a b : WE} (h1 : b ρ Q) : kIf a b Q false ρ := h1
def kAndV (u : WE) (Q : DV → Den → Prop) : DV → Den → Prop := fun x ρ1 => match x with
  | .dat (.bool c) => if c = true then u ρ1 Q else Q (.dat (.bool false)) ρ1
  | _ => False
def kOrV (u : WE) (Q : DV → Den → Prop) : DV → Den → Prop := fun x ρ1 => match x with
  | .dat (.bool c) => if c = true then Q (.dat (.bool true)) ρ1 else u ρ1 Q
  | _ => False
theorem ev_andV {w u : WE} (h : w ρ (kAndV u Q)) : wAndV w u ρ Q := h
theorem ev_orV {w u : WE} (h : w ρ (kOrV u Q)) : wOrV w u ρ Q := h
theorem ev_kAndV {u : WE} {b : Bool} (h1 : b = true → u ρ Q) (h2 : b = false → Q (.dat (.bool false)) ρ) : kAndV u Q (.dat (.bool b)) ρ := by
  show (if b = true then u ρ Q else Q (.dat (.bool false)) ρ)
  cases b with
  | true => rw [if_pos rfl]; exact h1 rfl
  | false => rw [if_neg (by decide)]; exact h2 rfl
theorem ev_kOrV {u : WE} {b : Bool} (h1 : b = true → Q (.dat (.bool true)) ρ) (h2 : b = false → u ρ Q) : kOrV u Q (.dat (.bool b)) ρ := by
  show (if b = true then Q (.dat (.bool true)) ρ else u ρ Q)
  cases b with
  | true => rw [if_pos rfl]; exact h1 rfl
  | false => rw [if_neg (by decide)]; exact h2 rfl
theorem ev_kAndV_t {u : WE} (h1 : u ρ Q) : kAndV u Q (.dat (.bool true)) ρ := h1
theorem ev_kAndV_f {u : WE} (h1 : Q (.dat (.bool false)) ρ) : kAndV u Q (.dat (.bool false)) ρ := h1
theorem ev_kOrV_t {u : WE} (h1 : Q (.dat (.bool true)) ρ) : kOrV u Q (.dat (.bool true)) ρ := h1
theorem ev_kOrV_f {u : WE} (h1 : u ρ Q) : kOrV u Q (.dat (.bool false)) ρ := h1
def kNotV (Q : DV → Den → Prop) : DV → Den → Prop := fun x ρ1 => match x with
  | .dat (.bool c) => Q (.dat (.bool (!c))) ρ1
  | _ => False
theorem ev_notV {w : WE} (h : w ρ (kNotV Q)) : wNotV w ρ Q := h
theorem ev_kNotV {b : Bool} (h : Q (.dat (.bool (!b))) ρ) : kNotV Q (.dat (.bool b)) ρ := h
def kIsi (T : String) (Q : DV → Den → Prop) : DV → Den → Prop := fun x ρ1 => match (datOf ρ1 x).bind tyD with
  | some S => match kitB S T with
    | some b => Q (.dat (.bool b)) ρ1
    | none => False
  | none => False
theorem ev_isi {T : String} {w : WE} (h : w ρ (kIsi T Q)) : wIsi T w ρ Q := h
theorem ev_kIsi {T S : String} {x : DV} {b : Bool} (e : (datOf ρ x).bind tyD = some S) (e2 : kitB S T = some b) (h : Q (.dat (.bool b)) ρ) : kIsi T Q x ρ := by
  unfold kIsi; rw [e]; dsimp only; rw [e2]; exact h
/-! arguments -/
theorem ev_nil (h : QA [] ρ) : wNil ρ QA := h
def kCons2 (x : DV) (QA : List DV → Den → Prop) : List DV → Den → Prop := fun xs ρ2 => QA (x :: xs) ρ2
theorem ev_kCons2 {x : DV} {xs : List DV} (h : QA (x :: xs) ρ) : kCons2 x QA xs ρ := h
def kCons1 (wa : WA) (QA : List DV → Den → Prop) : DV → Den → Prop := fun x ρ1 => match x with
  | .dat d => wa ρ1 fun xs ρ2 => QA (.dat d :: xs) ρ2
  | .fn v => wa ρ1 fun xs ρ2 => QA (.fn v :: xs) ρ2
  | .own i => wa ρ1 fun xs ρ2 => QA (.own i :: xs) ρ2
  | .lst l => wa ρ1 fun xs ρ2 => QA (.dat (.list l) :: xs) ρ2
  | _ => False
theorem ev_cons {w : WE} {wa : WA} (h : w ρ (kCons1 wa QA)) : wCons w wa ρ QA := h
theorem ev_kCons1_dat {wa : WA} {d : PyData} (h : wa ρ (kCons2 (.dat d) QA)) : kCons1 wa QA (.dat d) ρ := h
theorem ev_kCons1_fn {wa : WA} {d : V} (h : wa ρ (kCons2 (.fn d) QA)) : kCons1 wa QA (.fn d) ρ := h
theorem ev_kCons1_own {wa : WA} {d : Nat} (h : wa ρ (kCons2 (.own d) QA)) : kCons1 wa QA (.own d) ρ := h
theorem ev_kCons1_lst {wa : WA} {d : List PyData} (h : wa ρ (kCons2 (.dat (.list d)) QA)) : kCons1 wa QA (.lst d) ρ := h
def kStar2 (ds : List PyData) (QA : List DV → Den → Prop) : List DV → Den → Prop := fun xs ρ2 => QA (ds.map .dat ++ xs) ρ2
def kStar1 (wa : WA) (QA : List DV → Den → Prop) : DV → Den → Prop := fun x ρ1 => match seqOf ρ1 x with
  | some (_, ds) => wa ρ1 fun xs ρ2 => QA (ds.map .dat ++ xs) ρ2
  | none => False
theorem ev_star {w : WE} {wa : WA} (h : w ρ (kStar1 wa QA)) : wStar w wa ρ QA := h
theorem ev_kStar1 {wa : WA} {x : DV} {b : Bool} {ds : List PyData} (e : seqOf ρ x = some (b, ds)) (h : wa ρ (kStar2 ds QA)) : kStar1 wa QA x ρ := by
  unfold kStar1; rw [e]; exact h
theorem ev_kStar2 {ds : List PyData} {xs : List DV} (h : QA (ds.map .dat ++ xs) ρ) : kStar2 ds QA xs ρ := h
def kTup (Q : DV → Den → Prop) : List DV → Den → Prop := fun xs ρ1 => match dats xs with
  | some ds => ds.length ≤ sizeLine ∧ Q (.dat (.tuple ds)) ρ1
  | none => False
def kLst (Q : DV → Den → Prop) : List DV → Den → Prop := fun xs ρ1 => match dats xs with
  | some ds => ds.length ≤ sizeLine ∧ Q (.lst ds) ρ1
  | none => False
theorem ev_tup {wa : WA} (h : wa ρ (kTup Q)) : wTup wa ρ Q := h
theorem ev_lst {wa : WA} (h : wa ρ (kLst Q)) : wLst wa ρ Q := h
theorem ev_kTup {xs : List DV} {ds : List PyData} (e : dats xs = some ds) (l : ds.length ≤ sizeLine) (h : Q (.dat (.tuple ds)) ρ) : kTup Q xs ρ := by
  unfold kTup; rw [e]; exact ⟨l, h⟩
theorem ev_kLst {xs : List DV} {ds : List PyData} (e : dats xs = some ds) (l : ds.length ≤ sizeLine) (h : Q (.lst ds) ρ) : kLst Q xs ρ := by
  unfold kLst; rw [e]; exact ⟨l, h⟩
theorem dats_app : ∀ (ds : List PyData) (xs : List DV), dats (ds.map .dat ++ xs) = (dats xs).map (ds ++ ·)
  | [], xs => by simp
  | d :: ds, xs => by
    show (dats (ds.map .dat ++ xs)).map (d :: ·) = _
    rw [dats_app ds xs]
    cases dats xs <;> rfl
/-! cuts -/
abbrev QP := Option Int → Den → Prop
theorem ev_noPart {Q : QP} (h : Q none ρ) : wNoPart ρ Q := h
def kPart (Q : QP) : DV → Den → Prop := fun x ρ1 => match x with
  | .dat (.int i) => Q (some i) ρ1
  | _ => False
theorem ev_part {w : WE} {Q : QP} (h : w ρ (kPart Q)) : wPart w ρ Q := h
theorem ev_kPart {i : Int} {Q : QP} (h : Q (some i) ρ) : kPart Q (.dat (.int i)) ρ := h
def kSl3 (x : DV) (lo : Option Int) (Q : DV → Den → Prop) : QP := fun hi ρ3 => match seqOf ρ3 x with
  | some (true, ds) => Q (.dat (.tuple (cutD ds lo hi))) ρ3
  | some (false, ds) => Q (.lst (cutD ds lo hi)) ρ3
  | none => False
def kSl2 (wh : WP) (x : DV) (Q : DV → Den → Prop) : QP := fun lo ρ2 => wh ρ2 (kSl3 x lo Q)
def kSl1 (wl wh : WP) (Q : DV → Den → Prop) : DV → Den → Prop := fun x ρ1 => wl ρ1 (kSl2 wh x Q)
theorem ev_sl {w : WE} {wl wh : WP} (h : w ρ (kSl1 wl wh Q)) : wSl w wl wh ρ Q := h
theorem ev_kSl1 {wl wh : WP} {x : DV} (h : wl ρ (kSl2 wh x Q)) : kSl1 wl wh Q x ρ := h
theorem ev_kSl2 {wh : WP} {x : DV} {lo : Option Int} (h : wh ρ (kSl3 x lo Q)) : kSl2 wh x Q lo ρ := h
theorem ev_kSl3_t {x : DV} {lo hi : Option Int} {ds : List PyData} (e : seqOf ρ x = some (true, ds)) (h : Q (.dat (.tuple (cutD ds lo hi))) ρ) : kSl3 x lo Q hi ρ := by
  unfold kSl3; rw [e]; exact h
theorem ev_kSl3_l {x : DV} {lo hi : Option Int} {ds : List PyData} (e : seqOf ρ x = some (false, ds)) (h : Q (.lst (cutD ds lo hi)) ρ) : kSl3 x lo Q hi ρ := by
  unfold kSl3; rw [e]; exact h
def kRev (Q : DV → Den → Prop) : DV → Den → Prop := fun x ρ1 => match seqOf ρ1 x with
  | some (true, ds) => Q (.dat (.tuple ds.reverse)) ρ1
  | some (false, ds) => Q (.lst ds.reverse) ρ1
  | none => False
theorem ev_rev {w : WE} (h : w ρ (kRev Q)) : wRev w ρ Q := h
theorem ev_kRev_t {x : DV} {ds : List PyData} (e : seqOf ρ x = some (true, ds)) (h : Q (.dat (.tuple ds.reverse)) ρ) : kRev Q x ρ := by
  unfold kRev; rw [e]; exact h
theorem ev_kRev_l {x : DV} {ds : List PyData} (e : seqOf ρ x = some (false, ds)) (h : Q (.lst ds.reverse) ρ) : kRev Q x ρ := by
  unfold kRev; rw [e]; exact h
/-! calls -/
def kCall (o : WC) (Q : DV → Den → Prop) : List DV → Den → Prop := fun xs ρ1 => o xs ρ1 Q
theorem ev_call {o : WC} {wa : WA} (h : wa ρ (kCall o Q)) : wCall o wa ρ Q := h
theorem ev_len {x : DV} {b : Bool} {ds : List PyData} (e : seqOf ρ x = some (b, ds)) (h : Q (.dat (.int (ds.length : Nat))) ρ) : kCall oLen Q [x] ρ := by
  unfold kCall oLen; dsimp only; rw [e]; exact h
theorem ev_max2 {i j : Int} (h : Q (.dat (.int (max i j))) ρ) : kCall oMax2 Q [.dat (.int i), .dat (.int j)] ρ := h
theorem ev_min2 {i j : Int} (h : Q (.dat (.int (min i j))) ρ) : kCall oMin2 Q [.dat (.int i), .dat (.int j)] ρ := h
theorem ev_tuple {x : DV} {b : Bool} {ds : List PyData} (e : seqOf ρ x = some (b, ds)) (h : Q (.dat (.tuple ds)) ρ) : kCall oTuple Q [x] ρ := by
  unfold kCall oTuple; dsimp only; rw [e]; exact h
theorem ev_list {x : DV} {b : Bool} {ds : List PyData} (e : seqOf ρ x = some (b, ds)) (h : Q (.lst ds) ρ) : kCall oList Q [x] ρ := by
  unfold kCall oList; dsimp only; rw [e]; exact h
theorem ev_int1 {i : Int} (h : Q (.dat (.int i)) ρ) : kCall oInt1 Q [.dat (.int i)] ρ := h
theorem ev_sorted {x : DV} {b : Bool} {ds : List PyData} (e : seqOf ρ x = some (b, ds)) (h1 : PySem.W.AllAlike ds) (h2 : PySem.W.Sortable ds) (h3 : ∀ d ∈ ds, d.depth ≤ 60) (h : Q (.lst (sortD ds)) ρ) : kCall oSorted Q [x] ρ := by
  unfold kCall oSorted; dsimp only; rw [e]; exact ⟨h1, h2, h3, h⟩
def kUser (S : DSpec) (Q : DV → Den → Prop) : List DV → Den → Prop := fun xs ρ1 => (owns xs).Nodup ∧ match toArgs ρ1 xs with
  | some ds => S ds fun r outs => Q r (putBack xs outs ρ1)
  | none => False
theorem ev_user {S : DSpec} {wa : WA} (h : wa ρ (kUser S Q)) : wUser S wa ρ Q := h
theorem ev_kUser {S : DSpec} {xs ds : List DV} (n : (owns xs).Nodup) (e : toArgs ρ xs = some ds) (h : S ds fun r outs => Q r (putBack xs outs ρ)) : kUser S Q xs ρ := by
  unfold kUser; rw [e]; exact ⟨n, h⟩
theorem ev_loc {i : Nat} {S : Addr → Option DSpec} {wa : WA} {f : Addr} {sp : DSpec} (e : ρ[i]? = some (some (.fn (.ref f)))) (e2 : S f = some sp) (h : wa ρ (kUser sp Q)) : wLoc i S wa ρ Q := by
  unfold wLoc; rw [e]; dsimp only; rw [e2]; exact h
/-! append, extend -/
def kApp2 (i : Nat) (Q : DV → Den → Prop) : List DV → Den → Prop := fun ys ρ2 => match ownL ρ2[i]?, ys with
  | some (b, xs), [.dat d] => xs.length < sizeLine ∧ Q (.dat .none) (ρ2.set i (some (mkO b (xs ++ [d]))))
  | _, _ => False
def kApp1 (wa : WA) (Q : DV → Den → Prop) : DV → Den → Prop := fun x ρ1 => match x with
  | .own i => (ownL ρ1[i]?).isSome = true ∧ wa ρ1 (kApp2 i Q)
  | _ => False
theorem ev_app {wo : WE} {wa : WA} (h : wo ρ (kApp1 wa Q)) : wApp wo wa ρ Q := h
theorem ev_kApp1 {wa : WA} {i : Nat} (e : (ownL ρ[i]?).isSome = true) (h : wa ρ (kApp2 i Q)) : kApp1 wa Q (.own i) ρ := ⟨e, h⟩
theorem ev_kApp2 {i : Nat} {b : Bool} {xs : List PyData} {d : PyData} (e : ownL ρ[i]? = some (b, xs)) (l : xs.length < sizeLine) (h : Q (.dat .none) (ρ.set i (some (mkO b (xs ++ [d]))))) : kApp2 i Q [.dat d] ρ := by
  unfold kApp2; rw [e]; exact ⟨l, h⟩
def kExt2 (i : Nat) (Q : DV → Den → Prop) : List DV → Den → Prop := fun ys ρ2 => match ownL ρ2[i]?, ys with
  | some (b, xs), [.dat (.tuple ds)] => xs.length + ds.length ≤ sizeLine ∧ Q (.dat .none) (ρ2.set i (some (mkO b (xs ++ ds))))
  | _, _ => False
def kExt1 (wa : WA) (Q : DV → Den → Prop) : DV → Den → Prop := fun x ρ1 => match x with
  | .own i => (ownL ρ1[i]?).isSome = true ∧ wa ρ1 (kExt2 i Q)
  | _ => False
theorem ev_ext {wo : WE} {wa : WA} (h : wo ρ (kExt1 wa Q)) : wExt wo wa ρ Q := h
theorem ev_kExt1 {wa : WA} {i : Nat} (e : (ownL ρ[i]?).isSome = true) (h : wa ρ (kExt2 i Q)) : kExt1 wa Q (.own i) ρ := ⟨e, h⟩
theorem ev_kExt2 {i : Nat} {b : Bool} {xs ds : List PyData} (e : ownL ρ[i]? = some (b, xs)) (l : xs.length + ds.length ≤ sizeLine) (h : Q (.dat .none) (ρ.set i (some (mkO b (xs ++ ds))))) : kExt2 i Q [.dat (.tuple ds)] ρ := by
  unfold kExt2; rw [e]; exact ⟨l, h⟩
/-! comprehensions -/
def kLc (f : PyData → Den → Option Den) (wt : WT) (we : WE) (vs : List Nat) (Q : DV → Den → Prop) : List PyData → Den → Prop := fun items ρ1 => lcGo f wt we vs Q items [] ρ1
theorem ev_lc {wi : WI} {f : PyData → Den → Option Den} {wt : WT} {we : WE} {vs : List Nat} (h : wi ρ (kLc f wt we vs Q)) : wLc wi f wt we vs ρ Q := h
def kLc2 (f : PyData → Den → Option Den) (wt : WT) (we : WE) (vs : List Nat) (Q : DV → Den → Prop) (xs acc : List PyData) (ρ : Den) : DV → Den → Prop := fun y ρ4 => match y with
  | .dat d => acc.length < sizeLine ∧ lcGo f wt we vs Q xs (acc ++ [d]) (restD ρ ρ4 vs)
  | .lst l => acc.length < sizeLine ∧ lcGo f wt we vs Q xs (acc ++ [.list l]) (restD ρ ρ4 vs)
  | _ => False
theorem ev_lcNil {f : PyData → Den → Option Den} {wt : WT} {we : WE} {vs : List Nat} {acc : List PyData} (h : Q (.lst acc) ρ) : lcGo f wt we vs Q [] acc ρ := h
/-- a turn without a test -/
theorem ev_lcCons {f : PyData → Den → Option Den} {we : WE} {vs : List Nat} {x : PyData} {xs acc : List PyData} {ρ2 : Den} (ok : vsOk ρ vs = true) (e : f x (wipeD ρ vs) = some ρ2) (h : we ρ2 (kLc2 f wYes we vs Q xs acc ρ)) : lcGo f wYes we vs Q (x :: xs) acc ρ := by
  refine ⟨ok, ?_⟩
  rw [e]
  exact h
theorem ev_kLc2 {f : PyData → Den → Option Den} {wt : WT} {we : WE} {vs : List Nat} {xs acc : List PyData} {ρ0 : Den} {d : PyData} (l : acc.length < sizeLine) (h : lcGo f wt we vs Q xs (acc ++ [d]) (restD ρ0 ρ vs)) : kLc2 f wt we vs Q xs acc ρ0 (.dat d) ρ := ⟨l, h⟩
/-- a comprehension without a test, by what it has made and what is left -/
theorem lcGo_ind {f : PyData → Den → Option Den} {we : WE} {vs : List Nat} {I : List PyData → List PyData → Den → Prop} (hn : ∀ acc ρ, I acc [] ρ → Q (.lst acc) ρ)
    (hs : ∀ acc x xs ρ, I acc (x :: xs) ρ → vsOk ρ vs = true ∧ ∃ ρ2, f x (wipeD ρ vs) = some ρ2 ∧ ∀ G : DV → Den → Prop, (∀ d ρ4, acc.length < sizeLine → I (acc ++ [d]) xs (restD ρ ρ4 vs) → G (.dat d) ρ4) → we ρ2 G) : ∀ (items acc : List PyData) (ρ : Den), I acc items ρ → lcGo f wYes we vs Q items acc ρ
  | [], acc, ρ, h => hn acc ρ h
  | x :: xs, acc, ρ, h => by
    obtain ⟨ok, ρ2, e, k⟩ := hs acc x xs ρ h
    exact ev_lcCons ok e (k _ fun d ρ4 l i => ⟨l, lcGo_ind hn hs xs _ _ i⟩)
end
end DL
namespace DL
theorem ev_nx {ρ : Den} {n b c : Den → Prop} {r : DV → Den → Prop} (h : n ρ) : (DE.mk n r b c).nx ρ := h
theorem ev_bk {ρ : Den} {n b c : Den → Prop} {r : DV → Den → Prop} (h : b ρ) : (DE.mk n r b c).bk ρ := h
theorem ev_ct {ρ : Den} {n b c : Den → Prop} {r : DV → Den → Prop} (h : c ρ) : (DE.mk n r b c).ct ρ := h
theorem ev_rt {ρ : Den} {n b c : Den → Prop} {d : DV} {r : DV → Den → Prop} (h : r d ρ) : (DE.mk n r b c).rt d ρ := h
end DL
end
section
set_option Elab.async false
set_option linter.all false
set_option maxRecDepth 100000
set_option maxHeartbeats 1000000
namespace DL
open PySem L2
theorem owns_nil_at : ∀ {xs : List DV}, owns xs = [] → ∀ (k i : Nat), xs[i]? ≠ some (.own k)
  | [], _, k, i => by simp
  | x :: xs, h, k, i => by
    have h2 : owns xs = [] ∧ ∀ j, x ≠ .own j := by
      cases x with
      | own j => cases h
      | _ => exact ⟨h, fun _ z => nomatch z⟩
    cases i with
    | zero => intro z; simp at z; exact h2.2 k z
    | succ i => have := owns_nil_at h2.1 k i; simpa using this
theorem pb1_none (d : Option DV) : pb1 d none = d := by
  cases d with
  | none => rfl
  | some y => cases y <;> rfl
theorem putBack_nil {xs outs : List DV} {ρ : Den} (h : owns xs = []) : putBack xs outs ρ = ρ := by
  apply List.ext_getElem?
  intro j
  rw [show putBack xs outs ρ = pbGo 0 xs outs ρ from rfl, pbGo_get]
  rw [findOut_none fun i => owns_nil_at h _ i]
  cases ρ[j]? with
  | none => rfl
  | some d => rw [Option.map_some, pb1_none]
theorem ev_kUser0 {ρ : Den} {Q : DV → Den → Prop} {S : DSpec} {xs ds : List DV} (n : owns xs = []) (e : toArgs ρ xs = some ds) (h : S ds fun r _ => Q r ρ) : kUser S Q xs ρ := by
  refine ev_kUser (by rw [n]; exact .nil) e ?_
  have e2 : (fun r outs => Q r (putBack xs outs ρ)) = fun r _ => Q r ρ := by funext r outs; rw [putBack_nil n]
  rw [e2]; exact h
end DL
end
section
set_option Elab.async false
set_option linter.all false
set_option maxRecDepth 100000
set_option maxHeartbeats 1000000
/-! dicts whose keys are tuples of ints and texts: one's own while they are filled, locked for good when they are handed on -/
namespace DL
open PySem L2
/-! ### pairs -/
section
variable {κ : Type} [DecidableEq κ]
def getG (kvs : List (κ × PyData)) (k : κ) : Option PyData := (kvs.find? fun p => decide (p.1 = k)).map (·.2)
def putG (kvs : List (κ × PyData)) (k : κ) (d : PyData) : List (κ × PyData) :=
  if (kvs.any fun p => decide (p.1 = k)) = true then kvs.map (fun p => if p.1 = k then (p.1, d) else p) else kvs ++ [(k, d)]
abbrev PairsR (K : PySem.W.Frag) (Hf : Hp) : List (κ × V) → List (κ × PyData) → Prop := Paired fun p q => p.1 = q.1 ∧ Dp K Hf p.2 q.2
variable {K : PySem.W.Frag} {Hf Hf' : Hp} {ws : List (κ × V)} {kvs : List (κ × PyData)}
theorem PairsR.mono (e : Same Hf Hf') (h : PairsR K Hf ws kvs) : PairsR K Hf' ws kvs := Paired.mapP h fun _ _ z => ⟨z.1, dp_mono e _ _ z.2⟩
theorem PairsR.any (k : κ) (h : PairsR K Hf ws kvs) : (ws.any fun p => decide (p.1 = k)) = (kvs.any fun p => decide (p.1 = k)) := by
  induction h with
  | nil => rfl
  | cons r _ ih => rw [List.any_cons, List.any_cons, ih, r.1]
theorem PairsR.get (k : κ) (h : PairsR K Hf ws kvs) : (valV ws k = none ∧ getG kvs k = none) ∨ ∃ v d, valV ws k = some v ∧ getG kvs k = some d ∧ Dp K Hf v d := by
  induction h with
  | nil => exact .inl ⟨rfl, rfl⟩
  | @cons p q ps qs r _ ih =>
    by_cases e : q.1 = k
    · refine .inr ⟨p.2, q.2, ?_, ?_, r.2⟩
      · simp [valV, List.find?_cons, r.1, e]
      · simp [getG, List.find?_cons, e]
    · have e1 : valV (p :: ps) k = valV ps k := by simp [valV, List.find?_cons, r.1, e]
      have e2 : getG (q :: qs) k = getG qs k := by simp [getG, List.find?_cons, e]
      rw [e1, e2]; exact ih
theorem PairsR.repl (k : κ) {v : V} {d : PyData} (hd : Dp K Hf v d) (h : PairsR K Hf ws kvs) : PairsR K Hf (ws.map fun p => if p.1 = k then (p.1, v) else p) (kvs.map fun p => if p.1 = k then (p.1, d) else p) := by
  induction h with
  | nil => exact .nil
  | @cons p q ps qs r _ ih =>
    rw [List.map_cons, List.map_cons]
    refine .cons ?_ ih
    rw [r.1]
    by_cases e : q.1 = k
    · rw [if_pos e, if_pos e]; exact ⟨rfl, hd⟩
    · rw [if_neg e, if_neg e]; exact r
theorem PairsR.put (k : κ) {v : V} {d : PyData} (hd : Dp K Hf v d) (h : PairsR K Hf ws kvs) : PairsR K Hf (putK ws k v) (putG kvs k d) := by
  unfold putK putG
  rw [h.any k]
  split
  · exact h.repl k hd
  · exact Paired.snoc h ⟨rfl, hd⟩
theorem PairsR.len (h : PairsR K Hf ws kvs) : ws.length = kvs.length := Paired.length h
theorem PairsR.vals (h : PairsR K Hf ws kvs) : DpAll K Hf (ws.map (·.2)) (kvs.map (·.2)) := by
  induction h with
  | nil => exact .nil
  | cons r _ ih => exact .cons r.2 ih
theorem PairsR.keys {α : Type} (f : κ → α) (h : PairsR K Hf ws kvs) : kvs.map (fun p => f p.1) = ws.map (fun p => f p.1) := by
  induction h with
  | nil => rfl
  | cons r _ ih => rw [List.map_cons, List.map_cons, ih, r.1]
end
/-- a dict as data -/
def dicD (kvs : List (List Key × PyData)) : PyData := .dict (kvs.map fun p => (keyT p.1, p.2))
theorem dp_dic {K : PySem.W.Frag} {H : Hp} {a : Addr} {o : Obj} {ws : List (List Key × V)} {kvs : List (List Key × PyData)} (h : H a = some (.frz o (.dT ws))) (r : PairsR K H ws kvs) : Dp K H (.ref a) (dicD kvs) := by
  refine .dcT (ds := kvs.map (·.2)) h ?_ ?_ r.vals
  · rw [List.map_map]
    exact r.keys keyT
  · rw [List.map_map]; rfl
theorem kD_inj : ∀ {a b : Key}, kD a = kD b → a = b
  | .inl _, .inl _, h => by cases h; rfl
  | .inr _, .inr _, h => by cases h; rfl
  | .inl _, .inr _, h => by cases h
  | .inr _, .inl _, h => by cases h
theorem keyT_inj : ∀ {a b : List Key}, keyT a = keyT b → a = b := by
  intro a b h
  have h : a.map kD = b.map kD := by simpa using h
  induction a generalizing b with
  | nil => cases b with
    | nil => rfl
    | cons _ _ => simp at h
  | cons x r ih => cases b with
    | nil => simp at h
    | cons y q =>
      rw [List.map_cons, List.map_cons] at h
      obtain ⟨h1, h2⟩ := List.cons.inj h
      rw [kD_inj h1, ih (by rw [show keyT r = .tuple (r.map kD) from rfl, h2]) h2]
/-- from a locked dict's data back -/
theorem dic_dp {K : PySem.W.Frag} {H : Hp} {v : V} {kvs : List (List Key × PyData)} (h : Dp K H v (dicD kvs)) : ∃ a o ws, v = .ref a ∧ H a = some (.frz o (.dT ws)) ∧ PairsR K H ws kvs := by
  have go : ∀ {ws : List (List Key × V)} {kvs : List (List Key × PyData)}, kvs.map (fun p => keyT p.1) = ws.map (fun p => keyT p.1) → DpAll K H (ws.map (·.2)) (kvs.map (·.2)) → PairsR K H ws kvs := by
    intro ws
    induction ws with
    | nil =>
      intro kvs e _
      cases kvs with
      | nil => exact .nil
      | cons _ _ => simp at e
    | cons p ps ih =>
      intro kvs e ha
      cases kvs with
      | nil => simp at e
      | cons q qs =>
        rw [List.map_cons, List.map_cons] at e ha
        cases ha with
        | cons h1 h2 =>
          obtain ⟨e1, e2⟩ := List.cons.inj e
          exact .cons ⟨(keyT_inj e1).symm, h1⟩ (ih e2 h2)
  unfold dicD at h
  generalize hq : (kvs.map fun p => (keyT p.1, p.2)) = ps at h
  cases h with
  | dcT hH hk hr ha =>
    subst hr hq
    rw [List.map_map] at hk ha
    exact ⟨_, _, _, rfl, hH, go hk ha⟩
  | dcK hH hk hr ha =>
    exfalso
    cases kvs with
    | nil => cases hq
    | cons p ps => cases hq
section
variable {K : PySem.W.Frag} {σ : St} {Hf H H0 Hf1 H1 : Hp} {ρ ρ1 : Den} {v : V}
/-- an object of one's own is locked for good, and is data from now on -/
theorem st2_lock {i : Nat} {a : Addr} {d : DV} {F : HO} {x : PyData} (E : ER K Hf H σ ρ) (hi : ρ[i]? = some (some d)) (ho : d.isOwn = true) (hna : ∀ xs, d ≠ .arg xs) (ha : σ[i]? = some (some (.ref a))) (hd : Dp K (upd Hf a F) (.ref a) x) :
    St2 K σ Hf H ρ (upd Hf a F) (upd H a F) (ρ.set i (some (.dat x))) := by
  obtain ⟨h1, h2⟩ := E.ow ⟨i, d, hi, ho, ha⟩
  have hil : i < ρ.length := (List.getElem?_eq_some_iff.mp hi).1
  have e1 : Same Hf (upd Hf a F) := same_new h2
  have back : ∀ {j : Nat} {e : DV}, (ρ.set i (some (.dat x)))[j]? = some (some e) → e.isOwn = true → i ≠ j ∧ ρ[j]? = some (some e) := fun {j e} q oe => by
    rcases set_get q with ⟨rfl, e1⟩ | ⟨n, q⟩
    · cases e1; cases oe
    · exact ⟨n, q⟩
  have apart : ∀ {j : Nat} {e : DV} {b : Addr}, i ≠ j → ρ[j]? = some (some e) → e.isOwn = true → σ[j]? = some (some (.ref b)) → b ≠ a := fun {j e b} n q oe s z => by
    subst z
    exact n (E.dj i j d e b hi q ho oe ha s)
  refine ⟨⟨e1, fun b o q n => ?_, fun b q => ?_, fun b o q n => ?_⟩, ⟨by rw [List.length_set]; exact E.len, fun b o q => ?_, fun j e q => ?_, fun j k e f b q1 q2 o1 o2 s1 s2 => ?_⟩, fun b ⟨j, e, q, oe, s⟩ => ?_, fun j => ?_⟩
  · rw [upd_ne (show b ≠ a from fun z => n (by rw [z]; exact ⟨i, d, hi, ho, ha⟩))]; exact q
  · by_cases z : b = a
    · rw [z, upd_same] at q; cases q
    · rw [upd_ne z] at q; exact q
  · by_cases z : b = a
    · exact .inr (.inl (z ▸ ⟨i, d, hi, ho, ha⟩))
    · rw [upd_ne z, n] at q; cases q
  · by_cases z : b = a
    · rw [z, upd_same] at q; cases q; rw [z, upd_same]
    · rw [upd_ne z] at q ⊢; exact E.ex b o q
  · rcases set_get q with ⟨rfl, e2⟩ | ⟨n, q⟩
    · cases e2
      exact ⟨.ref a, ha, hd⟩
    · obtain ⟨u, g1, g2⟩ := E.sl j e q
      refine ⟨u, g1, vr_keep g2 e1 fun b eb oe => ?_⟩
      subst eb
      have nb := apart n q oe g1
      exact ⟨fun z => by rw [upd_ne nb]; exact z, fun o z => by rw [upd_ne nb]; exact z⟩
  · exact E.dj j k e f b (back q1 o1).2 (back q2 o2).2 o1 o2 s1 s2
  · exact ⟨j, e, (back q oe).2, oe, s⟩
  · constructor
    · rintro ⟨xs, h⟩
      exact ⟨xs, (back h rfl).2⟩
    · rintro ⟨xs, h⟩
      have n : i ≠ j := fun z => by
        subst z
        rw [hi] at h
        cases h
        exact hna xs rfl
      exact ⟨xs, by rw [List.getElem?_set_ne n]; exact h⟩
/-- a value that has come is locked for good -/
theorem st2_lockV {F : HO} {a : Addr} (E : ER K Hf H σ ρ) (s : St2 K σ Hf H ρ Hf1 H1 ρ1) (hn : H a = none) (h1 : Hf1 a = none) : St2 K σ Hf H ρ (upd Hf1 a F) (upd H1 a F) ρ1 := by
  have nO : ¬ Ow σ ρ a := fun z => (E.ow z).1 hn
  have e1 : Same Hf1 (upd Hf1 a F) := same_new h1
  refine ⟨⟨s.st.fx.trans e1, fun b o q n => ?_, fun b q => ?_, fun b o q n => ?_⟩, ⟨s.er.len, fun b o q => ?_, fun i d q => ?_, s.er.dj⟩, s.lo, s.ar⟩
  · rw [upd_ne (show b ≠ a from fun z => by rw [z, hn] at q; cases q)]; exact s.st.fr b o q n
  · by_cases z : b = a
    · rw [z]; exact hn
    · rw [upd_ne z] at q; exact s.st.al b q
  · by_cases z : b = a
    · exact .inl (z ▸ hn)
    · rw [upd_ne z] at q; exact s.st.nf b o q n
  · by_cases z : b = a
    · rw [z, upd_same] at q; cases q; rw [z, upd_same]
    · rw [upd_ne z] at q ⊢; exact s.er.ex b o q
  · obtain ⟨u, g1, g2⟩ := s.er.sl i d q
    refine ⟨u, g1, vr_keep g2 e1 fun b eb oe => ?_⟩
    subst eb
    have nb : b ≠ a := fun z => nO (s.lo a ⟨i, d, q, oe, z ▸ g1⟩)
    exact ⟨fun z => by rw [upd_ne nb]; exact z, fun o z => by rw [upd_ne nb]; exact z⟩
end
/-! ### to lock a value that has come -/
def tFrz (t : TE) : TE := fun σ H Q => t σ H fun v H1 => (∃ d u, v = .ref d ∧ H1 d = some u ∧ Mut (some u) ∧ ∀ od, Q v (upd H1 d (.frz od u))) ∨ Q v H1
section
variable {X : Cx} {pos : Pos}
theorem pe_frz {e : Expr} {t : TE} (h : PE X e t) : PE X e (tFrz t) := by
  refine ⟨fun pins s σ H Q I hw => ?_⟩
  refine thn (h.run pins s σ _ _ I hw) fun v s1 ⟨x, H1, I2, r, q⟩ => ?_
  rcases q with ⟨d, u, e2, hd, mu, q⟩ | q
  · obtain ⟨od, I3⟩ := I2.lock hd mu
    exact ⟨x, _, I3, r, q od⟩
  · exact ⟨x, H1, I2, r, q⟩
def ownDic : Option (Option DV) → Option (List (List Key × PyData))
  | some (some (.dic kvs)) => some kvs
  | _ => none
theorem ownDic_some {q : Option (Option DV)} {kvs : List (List Key × PyData)} (h : ownDic q = some kvs) : q = some (some (.dic kvs)) := by
  unfold ownDic at h
  split at h
  · cases h; rfl
  · cases h
/-- .. of which a dict is locked for good -/
def wFrz (w : WE) : WE := fun ρ Q => w ρ fun x ρ1 => match x with
  | .dic kvs => Q (.dat (dicD kvs)) ρ1
  | .own i => match ownDic ρ1[i]? with
    | some kvs => Q (.dat (dicD kvs)) (ρ1.set i (some (.dat (dicD kvs))))
    | none => Q (.own i) ρ1
  | x => Q x ρ1
theorem xe_frz {e : Expr} {t : TE} {w : WE} (h : XE X e t w) : XE X e (tFrz t) (wFrz w) :=
  ⟨pe_frz h.pe, fun Hf H σ ρ Q Q' E hw c => by
    refine h.so Hf H σ ρ _ _ E hw fun x Hf1 H1 d ρ1 s1 r1 q1 => ?_
    cases d with
    | dic kvs =>
      obtain ⟨⟨a, rfl, g1, ws, g2, g3⟩, g4⟩ := r1
      have hn := g4 rfl a rfl
      refine .inl ⟨a, _, rfl, g2, trivial, fun od => ?_⟩
      have s2 := st2_lockV (F := .frz od (.dT ws)) E s1 hn g1
      exact c (.ref a) _ _ (.dat (dicD kvs)) ρ1 s2 ⟨dp_dic upd_same (PairsR.mono (same_new g1) g3), fun z => nomatch z⟩ q1
    | own i =>
      have r1' : σ[i]? = some (some x) := r1
      have q1' : match ownDic ρ1[i]? with
        | some kvs => Q (.dat (dicD kvs)) (ρ1.set i (some (.dat (dicD kvs))))
        | none => Q (.own i) ρ1 := q1
      split at q1'
      · rename_i kvs hk
        have hk := ownDic_some hk
        obtain ⟨a, g1, g2, ws, g3, g4⟩ := s1.er.own (d := .dic kvs) hk rfl
        rw [r1'] at g1; cases g1
        refine .inl ⟨a, _, rfl, g3, trivial, fun od => ?_⟩
        have dp : Dp X.K (upd Hf1 a (.frz od (.dT ws))) (.ref a) (dicD kvs) := dp_dic upd_same (PairsR.mono (same_new g2) g4)
        have s2 := st2_lock (F := .frz od (.dT ws)) s1.er hk rfl (fun _ z => nomatch z) r1' dp
        exact c (.ref a) _ _ (.dat (dicD kvs)) _ (s1.trans s2) ⟨dp, fun z => nomatch z⟩ q1'
      · exact .inr (c x Hf1 H1 (.own i) ρ1 s1 r1 q1')
    | dat y => exact .inr (c x Hf1 H1 _ ρ1 s1 r1 q1)
    | fn u => exact .inr (c x Hf1 H1 _ ρ1 s1 r1 q1)
    | lst y => exact .inr (c x Hf1 H1 _ ρ1 s1 r1 q1)
    | arg y => exact .inr (c x Hf1 H1 _ ρ1 s1 r1 q1)⟩
/-! ### {} -/
def wDNew : WE := fun ρ Q => Q (.dic []) ρ
theorem xe_dnew : XE X (.Dict [] [] pos) tDNewT wDNew :=
  ⟨pe_dnewT, fun Hf H σ ρ Q Q' E hw c p hp => c (.ref p) Hf _ (.dic []) ρ (st2_newO E hp) ⟨⟨p, rfl, E.hf_none hp, [], upd_same, .nil⟩, fun _ a e => by cases e; exact hp⟩ hw⟩
/-! ### keys -/
def keysOf : List PyData → Option (List Key)
  | [] => some []
  | .int i :: r => (keysOf r).map (.inl i :: ·)
  | .str x :: r => (keysOf r).map (.inr x :: ·)
  | _ :: _ => none
def keyOfD : PyData → Option (List Key)
  | .tuple ds => keysOf ds
  | _ => none
theorem keys_dp {K : PySem.W.Frag} {H : Hp} : ∀ {vs : List V} {ds : List PyData} {k : List Key}, DpAll K H vs ds → keysOf ds = some k → vs = k.map kV
  | _, _, _, .nil, e => by cases e; rfl
  | _, _, _, .cons (.int i) t, e => by
    obtain ⟨r, h1, rfl⟩ := Option.map_eq_some_iff.mp (show (keysOf _).map (.inl i :: ·) = _ from e)
    rw [keys_dp t h1]; rfl
  | _, _, _, .cons (.str x) t, e => by
    obtain ⟨r, h1, rfl⟩ := Option.map_eq_some_iff.mp (show (keysOf _).map (.inr x :: ·) = _ from e)
    rw [keys_dp t h1]; rfl
  | _, _, _, .cons .non t, e => by cases e
  | _, _, _, .cons (.bl _) t, e => by cases e
  | _, _, _, .cons (.lst _ _) t, e => by cases e
  | _, _, _, .cons (.tup _ _) t, e => by cases e
  | _, _, _, .cons (.dcT _ _ _ _) t, e => by cases e
  | _, _, _, .cons (.dcK _ _ _ _) t, e => by cases e
theorem key_dp {K : PySem.W.Frag} {H : Hp} {v : V} {d : PyData} {k : List Key} (h : Dp K H v d) (e : keyOfD d = some k) : ∃ b, v = .ref b ∧ H b = some (.tup (k.map kV)) := by
  cases h with
  | tup hs ha => exact ⟨_, rfl, by rw [hs, keys_dp ha e]⟩
  | _ => cases e
theorem keysOf_map : ∀ k : List Key, keysOf (k.map kD) = some k
  | [] => rfl
  | .inl i :: r => by show (keysOf (r.map kD)).map (.inl i :: ·) = _; rw [keysOf_map r]; rfl
  | .inr i :: r => by show (keysOf (r.map kD)).map (.inr i :: ·) = _; rw [keysOf_map r]; rfl
/-! ### d[k] = v -/
def wDPut (wv wo wk : WE) : WS := fun D ρ => wv ρ fun x ρ1 => wo ρ1 fun o ρ2 => wk ρ2 fun y ρ3 => match x, o, y with
  | .dat d, .own i, .dat t => match ownDic ρ3[i]?, keyOfD t with
    | some kvs, some k => kvs.length < sizeLine ∧ D.nx (ρ3.set i (some (.dic (putG kvs k d))))
    | _, _ => False
  | _, _, _ => False
end
end DL
end
section
set_option Elab.async false
set_option linter.all false
set_option maxRecDepth 100000
set_option maxHeartbeats 1000000
namespace DL
open PySem L2
section
variable {X : Cx} {pos : Pos}
theorem dic_at {K : PySem.W.Frag} {σ : St} {Hf H : Hp} {ρ : Den} {i : Nat} {v : V} {kvs : List (List Key × PyData)} (E : ER K Hf H σ ρ) (hv : σ[i]? = some (some v)) (h : ownDic ρ[i]? = some kvs) :
    ∃ a ws, v = .ref a ∧ ρ[i]? = some (some (.dic kvs)) ∧ Hf a = none ∧ H a = some (.dT ws) ∧ PairsR K Hf ws kvs := by
  have q := ownDic_some h
  obtain ⟨a, h1, h2, ws, h3, h4⟩ := E.own (d := .dic kvs) q rfl
  rw [hv] at h1; cases h1
  exact ⟨a, ws, rfl, q, h2, h3, h4⟩
/-! ### d[k] = v -/
theorem xs_dput {o i value : Expr} {td ty tv : TE} {wo wk wv : WE} {pos' : Pos} (hu : X.A.units + 64 < cLine) (hv : XE X value tv wv) (ho : XE X o td wo) (hi : XE X i ty wk) (hs : swapsWith value (some (.Subscript o i pos')) pos.line X.env = pure false := by rfl) :
    XS X (.Assign [.Subscript o i pos'] value pos) (sDPut td ty tv) (wDPut wv wo wk) :=
  ⟨ps_dput (by omega) ho.pe hi.pe hv.pe hs, fun N D' D Hf H σ ρ c s hw => by
    refine hv.so Hf H σ ρ _ _ s.er hw fun x Hf1 H1 dx ρ1 s1 r1 q1 => ?_
    refine ho.so Hf1 H1 σ ρ1 _ _ s1.er q1 fun y Hf2 H2 dy ρ2 s2 r2 q2 => ?_
    refine hi.so Hf2 H2 σ ρ2 _ _ s2.er q2 fun z Hf3 H3 dz ρ3 s3 r3 q3 => ?_
    split at q3
    · rename_i d j t
      split at q3
      · rename_i kvs k hk ht
        have r1' : Dp X.K Hf3 x d := dp_mono (s2.st.fx.trans s3.st.fx) _ _ r1.1
        have r2' : σ[j]? = some (some y) := r2
        obtain ⟨a, ws, rfl, g1, g2, g3, g4⟩ := dic_at s3.er r2' hk
        obtain ⟨b, rfl, hb⟩ := key_dp r3.1 ht
        refine ⟨a, _, rfl, DPut.t g3 (s3.er.ex _ _ hb) (by rw [PairsR.len g4]; exact q3.1), ?_⟩
        have s4 : St2 X.K σ Hf3 H3 ρ3 Hf3 (upd H3 a (.dT (putK ws k x))) (ρ3.set j (some (.dic (putG kvs k d)))) :=
          st2_mut s3.er g1 rfl r2' rfl ⟨(fun z => by obtain ⟨_, z⟩ := z; cases z), (fun z => by obtain ⟨_, z⟩ := z; cases z)⟩ ⟨_, upd_same, PairsR.put k r1' g4⟩
        exact c.nx Hf3 _ σ _ (s.step ((s1.trans (s2.trans s3)).trans s4)) q3.2
      · exact q3.elim
    · exact q3.elim⟩
/-! ### reading: one's own, or locked -/
def unDic : PyData → Option (List (List Key × PyData))
  | .dict kvs => kvs.foldr (fun p r => (keyOfD p.1).bind fun k => r.map ((k, p.2) :: ·)) (some [])
  | _ => none
theorem unDic_dicD (kvs : List (List Key × PyData)) : unDic (dicD kvs) = some kvs := by
  show (kvs.map fun p => (keyT p.1, p.2)).foldr _ (some []) = some kvs
  induction kvs with
  | nil => rfl
  | cons p ps ih =>
    rw [List.map_cons, List.foldr_cons, ih]
    show (keysOf (p.1.map kD)).bind _ = _
    rw [keysOf_map]; rfl
theorem keyOfD_some {d : PyData} {k : List Key} (h : keyOfD d = some k) : d = keyT k := by
  have go : ∀ {ds : List PyData} {k : List Key}, keysOf ds = some k → ds = k.map kD := by
    intro ds
    induction ds with
    | nil => intro k e; cases e; rfl
    | cons x r ih =>
      intro k e
      cases x with
      | int i =>
        obtain ⟨q, h1, rfl⟩ := Option.map_eq_some_iff.mp (show (keysOf r).map (.inl i :: ·) = _ from e)
        rw [ih h1]; rfl
      | str i =>
        obtain ⟨q, h1, rfl⟩ := Option.map_eq_some_iff.mp (show (keysOf r).map (.inr i :: ·) = _ from e)
        rw [ih h1]; rfl
      | _ => cases e
  cases d with
  | tuple ds => rw [go (show keysOf ds = some k from h)]
  | _ => cases h
theorem unDic_some : ∀ {d : PyData} {kvs : List (List Key × PyData)}, unDic d = some kvs → d = dicD kvs := by
  intro d
  cases d with
  | dict ps =>
    intro kvs h
    have h : ps.foldr (fun p r => (keyOfD p.1).bind fun k => r.map ((k, p.2) :: ·)) (some []) = some kvs := h
    unfold dicD
    congr 1
    induction ps generalizing kvs with
    | nil => cases h; rfl
    | cons p ps ih =>
      rw [List.foldr_cons] at h
      obtain ⟨k, h1, h2⟩ := Option.bind_eq_some_iff.mp h
      obtain ⟨r, h3, rfl⟩ := Option.map_eq_some_iff.mp h2
      rw [List.map_cons, ← ih h3 h3, ← keyOfD_some h1]
  | _ => intro kvs h; cases h
/-- the pairs of a dict, one's own or data -/
def dicOf (ρ : Den) : DV → Option (List (List Key × PyData))
  | .dat d => unDic d
  | .dic kvs => some kvs
  | .own i => ownDic ρ[i]?
  | _ => none
theorem dic_of {K : PySem.W.Frag} {σ : St} {Hf H : Hp} {ρ : Den} {v : V} {d : DV} {kvs : List (List Key × PyData)} (E : ER K Hf H σ ρ) (h : VS K Hf H σ v d) (e : dicOf ρ d = some kvs) :
    ∃ a ws, v = .ref a ∧ Rd H a (.dT ws) ∧ PairsR K Hf ws kvs := by
  cases d with
  | dat x =>
    have h : Dp K Hf v x := h
    have e2 := unDic_some e
    subst e2
    obtain ⟨a, o, ws, rfl, h1, h2⟩ := dic_dp h
    exact ⟨a, ws, rfl, .inr ⟨o, E.ex _ _ h1⟩, h2⟩
  | dic xs =>
    cases e
    obtain ⟨a, rfl, _, ws, h1, h2⟩ := h
    exact ⟨a, ws, rfl, .inl h1, h2⟩
  | own i =>
    obtain ⟨a, ws, rfl, _, _, g3, g4⟩ := dic_at E h e
    exact ⟨a, ws, rfl, .inl g3, g4⟩
  | fn u => cases e
  | lst u => cases e
  | arg u => cases e
/-! ### k in d, k not in d -/
def oIn (neg : Bool) : WO := fun x y ρ Q => match x, dicOf ρ y with
  | .dat t, some kvs => match keyOfD t with
    | some k => Q (.dat (.bool (if neg then !(getG kvs k).isSome else (getG kvs k).isSome))) ρ
    | none => False
  | _, _ => False
theorem in_so {Hf H : Hp} {σ : St} {ρ : Den} {neg : Bool} {Q : DV → Den → Prop} {x y : V} {dx dy : DV} (E : ER X.K Hf H σ ρ) (hx : VS X.K Hf H σ x dx) (hy : VS X.K Hf H σ y dy) (ho : oIn neg dx dy ρ Q) :
    ∃ a o b, y = .ref a ∧ x = .ref b ∧ DGet H a x o ∧ Q (.dat (.bool (if neg then !o.isSome else o.isSome))) ρ := by
  unfold oIn at ho
  split at ho
  · rename_i t kvs hk
    split at ho
    · rename_i k ht
      obtain ⟨b, rfl, hb⟩ := key_dp (show Dp X.K Hf x t from hx) ht
      obtain ⟨a, ws, rfl, g1, g2⟩ := dic_of E hy hk
      refine ⟨a, valV ws k, b, rfl, rfl, .inr ⟨ws, k, b, g1, rfl, E.ex _ _ hb, rfl⟩, ?_⟩
      rcases g2.get k with ⟨e1, e2⟩ | ⟨v, d, e1, e2, _⟩
      · rw [e1]; rw [e2] at ho; exact ho
      · rw [e1]; rw [e2] at ho; exact ho
    · exact ho.elim
  · exact ho.elim
theorem xe_in {a b : Expr} {ta tb : TE} {wa wb : WE} (hu : X.A.units + 64 < cLine) (ha : XE X a ta wa) (hb : XE X b tb wb) (hm : behindInMarks .In b = false := by first | exact nobehind _ (by decide) (by decide) | rfl) : XE X (.Compare a [.In] [b] pos) (tDIn ta tb) (wBin (oIn false) wa wb) :=
  ⟨pe_cmp (pc_din (by omega) ha.pe hb.pe) hm, fun Hf H σ ρ Q Q' E hw c => by
    refine ha.so Hf H σ ρ _ _ E hw fun x Hf1 H1 dx ρ1 s1 r1 q1 => ?_
    refine hb.so Hf1 H1 σ ρ1 _ _ s1.er q1 fun y Hf2 H2 dy ρ2 s2 r2 q2 => ?_
    obtain ⟨a, o, b, rfl, e2, g, q⟩ := in_so s2.er (rr_step E s1 r1 s2).vs r2.vs q2
    exact ⟨a, o, rfl, g, (c.step (s1.trans s2)).dat s2.er (.bl _) q⟩⟩
theorem xe_notin {a b : Expr} {ta tb : TE} {wa wb : WE} (hu : X.A.units + 64 < cLine) (ha : XE X a ta wa) (hb : XE X b tb wb) (hm : behindInMarks .NotIn b = false := by first | exact nobehind _ (by decide) (by decide) | rfl) : XE X (.Compare a [.NotIn] [b] pos) (tDNotIn ta tb) (wBin (oIn true) wa wb) :=
  ⟨pe_cmp (pc_dnotin (by omega) ha.pe hb.pe) hm, fun Hf H σ ρ Q Q' E hw c => by
    refine ha.so Hf H σ ρ _ _ E hw fun x Hf1 H1 dx ρ1 s1 r1 q1 => ?_
    refine hb.so Hf1 H1 σ ρ1 _ _ s1.er q1 fun y Hf2 H2 dy ρ2 s2 r2 q2 => ?_
    obtain ⟨a, o, b, rfl, e2, g, q⟩ := in_so s2.er (rr_step E s1 r1 s2).vs r2.vs q2
    exact ⟨a, o, rfl, g, (c.step (s1.trans s2)).dat s2.er (.bl _) q⟩⟩
theorem xt_in {a b : Expr} {ta tb : TE} {wa wb : WE} (hu : X.A.units + 64 < cLine) (ha : XE X a ta wa) (hb : XE X b tb wb) (hm : behindInMarks .In b = false := by first | exact nobehind _ (by decide) (by decide) | rfl) : XT X (.Compare a [.In] [b] pos) (tB (tDIn ta tb)) (wTest (wBin (oIn false) wa wb)) :=
  ⟨pt_cmp (pc_din (by omega) ha.pe hb.pe) hm, fun Hf H σ ρ Q Q' E hw c => test_so (xe_in (pos := pos) hu ha hb hm) E hw c⟩
theorem xt_notin {a b : Expr} {ta tb : TE} {wa wb : WE} (hu : X.A.units + 64 < cLine) (ha : XE X a ta wa) (hb : XE X b tb wb) (hm : behindInMarks .NotIn b = false := by first | exact nobehind _ (by decide) (by decide) | rfl) : XT X (.Compare a [.NotIn] [b] pos) (tB (tDNotIn ta tb)) (wTest (wBin (oIn true) wa wb)) :=
  ⟨pt_cmp (pc_dnotin (by omega) ha.pe hb.pe) hm, fun Hf H σ ρ Q Q' E hw c => test_so (xe_notin (pos := pos) hu ha hb hm) E hw c⟩
/-! ### d[k] -/
def oGet : WO := fun x y ρ Q => match dicOf ρ x, y with
  | some kvs, .dat t => match (keyOfD t).bind (getG kvs) with
    | some d => Q (.dat d) ρ
    | none => False
  | _, _ => False
theorem xe_dget {a b : Expr} {ta tb : TE} {wa wb : WE} (hu : X.A.units + 64 < cLine) (ha : XE X a ta wa) (hb : XE X b tb wb) (hs : NoSl b) : XE X (.Subscript a b pos) (tDGet ta tb) (wBin oGet wa wb) :=
  ⟨pe_dget (by omega) ha.pe hb.pe hs, fun Hf H σ ρ Q Q' E hw c => by
    refine ha.so Hf H σ ρ _ _ E hw fun x Hf1 H1 dx ρ1 s1 r1 q1 => ?_
    refine hb.so Hf1 H1 σ ρ1 _ _ s1.er q1 fun y Hf2 H2 dy ρ2 s2 r2 q2 => ?_
    have r1' := rr_step E s1 r1 s2
    unfold oGet at q2
    split at q2
    · rename_i kvs t hk
      split at q2
      · rename_i d hd
        obtain ⟨k, ht, hg⟩ := Option.bind_eq_some_iff.mp hd
        obtain ⟨b, rfl, hb⟩ := key_dp r2.1 ht
        obtain ⟨a, ws, rfl, g1, g2⟩ := dic_of s2.er r1'.vs hk
        rcases g2.get k with ⟨e1, e2⟩ | ⟨v, d', e1, e2, g3⟩
        · rw [hg] at e2; cases e2
        · rw [hg] at e2; cases e2
          exact ⟨a, v, rfl, .inr ⟨ws, k, b, g1, rfl, s2.er.ex _ _ hb, e1.symm⟩, (c.step (s1.trans s2)).dat s2.er g3 q2⟩
      · exact q2.elim
    · exact q2.elim⟩
/-! ### len(d) -/
def rLenD : List V → Hp → VK → Prop := fun xs H Q => ∃ (p : Addr) (kvs : List (List Key × V)), xs = [.ref p] ∧ Rd H p (.dT kvs) ∧ Q (.int ((kvs.length : Nat) : Int)) H
theorem call_lenD : CallR X (.builtin "len") rLenD := by
  intro pins s σ H xs us Q I r h
  obtain ⟨p, kvs, rfl, hp, q⟩ := h
  obtain ⟨u, rfl, rx⟩ := vals1 r
  obtain rfl : u = .ref p := rx
  obtain ⟨z, hd, ys, rel, dd⟩ := dt_rd I.hok hp
  have hl : kvs.length = ys.length := Paired.length rel
  refine call_len_dictH hd dd (by rw [← hl]; rw [sizeLine_eq] at z; omega) ?_
  rw [← hl]
  exact ⟨.int (kvs.length : Nat), H, (I.tok _).tok _, ⟨_, rfl⟩, q⟩
def oLenD : WC := fun xs ρ Q => match xs with
  | [x] => match dicOf ρ x with
    | some kvs => Q (.dat (.int kvs.length)) ρ
    | none => False
  | _ => False
theorem xc_lenD : XC X (.builtin "len") rLenD oLenD :=
  ⟨call_lenD, fun Hf H σ ρ Q Q' vs ds E ha ho c => by
    unfold oLenD at ho
    split at ho
    · rename_i x
      obtain ⟨v, rfl, hv⟩ := avs1 ha
      split at ho
      · rename_i kvs hk
        obtain ⟨a, ws, rfl, g1, g2⟩ := dic_of E hv.vs hk
        refine ⟨a, ws, rfl, g1, c.dat E (.int _) ?_⟩
        rw [g2.len]; exact ho
      · exact ho.elim
    · exact ho.elim⟩
/-! ### for k in d, d locked -/
def wKeysI (w : WE) : WI := fun ρ Q => w ρ fun x ρ1 => match x with
  | .dat d => match unDic d with
    | some kvs => Q (kvs.map fun p => keyT p.1) ρ1
    | none => False
  | _ => False
theorem dpAll_key {K : PySem.W.Frag} {H : Hp} : ∀ k : List Key, DpAll K H (k.map kV) (k.map kD)
  | [] => .nil
  | .inl i :: r => .cons (.int i) (dpAll_key r)
  | .inr x :: r => .cons (.str x) (dpAll_key r)
theorem itOk_keys {K : PySem.W.Frag} {Hf : Hp} {d : Addr} {o : Obj} {ws : List (List Key × V)} {kvs : List (List Key × PyData)} (h : Hf d = some (.frz o (.dT ws))) (r : PairsR K Hf ws kvs) : ItOk K Hf (Itkt d o ws) (kvs.map fun p => keyT p.1) := by
  have hl : ws.length = kvs.length := r.len
  refine ⟨fun i Hf2 H2 e1 e2 n => ?_, fun i Hf2 H2 e1 e2 n => ?_, fun i Hf2 H2 x H3 dd e1 e2 n y => ?_⟩
  · rw [List.length_map] at n
    exact walk_keysT.stops H2 (e2 _ _ (e1 _ _ h)) |> fun z => ⟨e2 _ _ (e1 _ _ h), by omega⟩
  · rw [List.length_map] at n
    exact walk_keysT.goes i H2 (by omega) (e2 _ _ (e1 _ _ h))
  · obtain ⟨rfl, k, v, q, g1, rfl, g2⟩ := walk_keysT.yields i H2 x H3 (by
      have := (List.getElem?_eq_some_iff.mp n).1
      rw [List.length_map] at this
      omega) (e2 _ _ (e1 _ _ h)) y
    obtain ⟨Hf3, gr, g3⟩ := Grow.tup e2 g2
    refine ⟨Hf3, gr, ?_⟩
    have : dd = keyT k := by
      have ek := r.keys keyT
      have : (kvs.map fun p => keyT p.1)[i]? = some (keyT k) := by rw [ek, List.getElem?_map, g1]; rfl
      rw [n] at this
      exact Option.some.inj this
    subst this
    exact .tup g3 (dpAll_key k)
theorem xi_keys {tg e : Expr} {td : TE} {w : WE} (h : XE X e td w) : XI X tg e (iKeys td) (wKeysI w) :=
  ⟨pi_keys h.pe, fun Hf H σ ρ Q R E hw c => h.so Hf H σ ρ _ _ E hw fun x Hf1 H1 d ρ1 s1 r1 q1 => by
    split at q1
    · rename_i dd
      split at q1
      · rename_i kvs hk
        have e := unDic_some hk
        subst e
        obtain ⟨a, o, ws, rfl, g1, g2⟩ := dic_dp r1.1
        exact ⟨a, o, rfl, .inr ⟨ws, s1.er.ex _ _ g1, c _ Hf1 H1 ρ1 _ s1 (itOk_keys g1 g2) q1⟩⟩
      · exact q1.elim
    · exact q1.elim⟩
end
end DL
end
section
set_option Elab.async false
set_option linter.all false
set_option maxRecDepth 100000
set_option maxHeartbeats 1000000
/-! ### the machine: == of dicts whose keys stand in the heap -/
namespace DLM
open PySem PySem.W PyProof.Rows PySem.Calls L2
section
variable {prog : Program} {w : World} {κ : Type} [DecidableEq κ] {kd : HeapKind prog w κ} {A : Around} {E : Value → Shared → Prop} {s : Shared}
/-- what the pairs of one dict find in the other one's -/
inductive Finds (prog : Program) (w : World) (A : Around) (s : Shared) (ys : List (κ × Addr × Value)) : List (κ × Addr × Value) → Bool → Prop
  | nil : Finds prog w A s ys [] true
  | no {k : κ} {c : Addr} {v : Value} {r : List (κ × Addr × Value)} : atKey ys k = none → Finds prog w A s ys ((k, c, v) :: r) false
  | yes {k : κ} {c c' : Addr} {v y : Value} {r : List (κ × Addr × Value)} {e b : Bool} : atKey ys k = some (c', y) → (∀ (E : Value → Shared → Prop) (Q : Bool → Shared → Prop), Q e s → wpAny (model prog w) A (eqBool v y) Q E s) → Finds prog w A s ys r b → Finds prog w A s ys ((k, c, v) :: r) (e && b)
theorem samePairsH {nm : String} {d e : Addr} {xs ys : List (κ × Addr × Value)} {r : Bool} {Q : Bool → Shared → Prop} (hd : (d == sysModules) = false) (he : (e == sysModules) = false) (hm : s.heap.DictOfH kd d xs) (hn : s.heap.DictOfH kd e ys) (hu : kd.room A)
    (hf : xs.length = ys.length → Finds prog w A s ys xs r) (h : Q (decide (xs.length = ys.length) && r) s) : wpAny (model prog w) A (Builtin.Dict.samePairs nm d e) Q E s := by
  obtain ⟨o1, t1, p1, g1, _, d1, l1, k1, n1⟩ := hm
  obtain ⟨o2, t2, p2, g2, _, d2, l2, k2, n2⟩ := hn
  have z1 : t1.size = xs.length := size_of_entries l1
  have z2 : t2.size = ys.length := size_of_entries l2
  unfold Builtin.Dict.samePairs Builtin.Dict.showsAll
  rw [if_neg (by rw [hd]; decide : ¬ (d == sysModules) = true), if_neg (by rw [he]; decide : ¬ (e == sysModules) = true)]
  refine wpAny_bind (wpAny_pure (wpAny_bind (wpAny_pure (wpAny_bind (wpAny_dictEntries g1 d1 ?_)))))
  dsimp only
  refine wpAny_bind (wpAny_dictEntries g2 d2 ?_)
  by_cases z : xs.length = ys.length
  case neg =>
    rw [decide_eq_false z] at h
    rw [if_pos (by simp only [z1, z2, bne_iff_ne, ne_eq]; exact z)]
    exact wpAny_bind (wpAny_rule (wpAny_pure h))
  case pos =>
    rw [decide_eq_true z, Bool.true_and] at h
    have hf0 := hf z
    rw [if_neg (by simp only [z1, z2, bne_iff_ne, ne_eq]; exact fun q => q z)]
    refine wpAny_bind (wpAny_dictEpoch g1 d1 (wpAny_bind ?_))
    rw [Std.Legacy.Range.forIn_eq_forIn_range']
    simp only [Std.Legacy.Range.size, Nat.sub_zero, Nat.add_sub_cancel, Nat.div_one]
    refine wpAny_forIn_list _ (fun l q u => u = s ∧ q = (none, ()) ∧ ∃ i, l = List.range' i (t1.size - i) ∧ i ≤ t1.size ∧ Finds prog w A s ys (xs.drop i) r) _ ?_ ?_ _ _ ⟨rfl, rfl, 0, by simp, Nat.zero_le _, hf0⟩
    · rintro x l q u ⟨rfl, rfl, i, hl, hi, hq⟩
      have lt : i < t1.size := Nat.lt_of_le_of_ne hi fun y => by rw [y, Nat.sub_self] at hl; cases hl
      obtain ⟨rfl, hl2⟩ : x = i ∧ l = List.range' (i + 1) (t1.size - (i + 1)) := by
        rw [show t1.size - i = (t1.size - (i + 1)) + 1 by omega, List.range'_succ] at hl
        exact ⟨(List.cons.inj hl).1, (List.cons.inj hl).2⟩
      have lx : x < xs.length := by omega
      refine wpAny_bind (wpAny_dictEntries g1 d1 ?_)
      obtain ⟨⟨k, c, v⟩, hx⟩ : ∃ p, xs[x]? = some p := ⟨_, List.getElem?_eq_getElem lx⟩
      have hen : t1[x]? = some (entryOfKey kd (k, c, v)) := by rw [entry_at l1 x, hx]; rfl
      rw [hen]
      have hdr : xs.drop x = (k, c, v) :: xs.drop (x + 1) := by
        rw [List.getElem?_eq_getElem lx] at hx
        rw [← Option.some.inj hx]; exact List.drop_eq_getElem_cons lx
      rw [hdr] at hq
      have kk := k1 _ (List.mem_of_getElem? hx)
      show wpAny _ _ (holding [.ref c, v] _ >>= _) _ _ _
      refine wpAny_bind (wpAny_holding (wpAny_bind (wpAny_dictFind_heap (k := k) hu kk g2 d2 l2 k2 n2 (fun hno => ?_) fun j p hj => ?_)))
      · have e0 := atKey_none_of_get hno
        cases hq with
        | no _ =>
          refine wpAny_pure (show wpAny _ _ (if (!false) = true then _ else _) _ _ _ from ?_)
          rw [if_pos (show (!false) = true from rfl)]
          exact wpAny_pure (wpAny_pure h)
        | yes hy _ _ => rw [e0] at hy; cases hy
      · obtain ⟨c', y⟩ := p
        have e0 := atKey_of_get n2 hj
        cases hq with
        | no hno => rw [e0] at hno; cases hno
        | yes hy hv hr =>
          rw [e0] at hy; cases hy
          refine wpAny_bind (wpAny_dictEntries g2 d2 ?_)
          rw [entry_at l2 j, hj]
          rename_i e1 b1
          cases e1 with
          | false =>
            refine wpAny_holding (hv _ _ (show wpAny _ _ (if (!false) = true then _ else _) _ _ _ from ?_))
            rw [if_pos (show (!false) = true from rfl)]
            exact wpAny_pure (wpAny_pure h)
          | true =>
            refine wpAny_holding (hv _ _ (show wpAny _ _ (if (!true) = true then _ else _) _ _ _ from ?_))
            rw [if_neg (show ¬ (!true) = true by decide)]
            refine wpAny_bind (wpAny_dictEpoch g1 d1 ?_)
            rw [if_neg (by simp : ¬ (p1 != p1) = true)]
            exact wpAny_pure ⟨rfl, rfl, x + 1, hl2, lt, by simpa using hr⟩
    · rintro q u ⟨rfl, rfl, i, hl, hi, hq⟩
      have hin : i = t1.size := by
        rcases Nat.lt_or_ge i t1.size with y | y
        · rw [show t1.size - i = (t1.size - (i + 1)) + 1 by omega, List.range'_succ] at hl; cases hl
        · omega
      refine wpAny_pure ?_
      rw [hin, z1, List.drop_length] at hq
      cases hq
      exact h
theorem eqH {neg : Bool} {d e : Addr} {xs ys : List (κ × Addr × Value)} {r : Bool} {Q : Value → Shared → Prop} (hd : (d == sysModules) = false) (he : (e == sysModules) = false) (hm : s.heap.DictOfH kd d xs) (hn : s.heap.DictOfH kd e ys) (hu : A.units < cLine) (hr : kd.room A.in1)
    (hf : xs.length = ys.length → Finds prog w A.in1 s ys xs r) (h : Q (.bool (if neg then !(decide (xs.length = ys.length) && r) else (decide (xs.length = ys.length) && r))) s) : wpAny (model prog w) A (compareOp (if neg then .NotEq else .Eq) (.ref d) (.ref e)) Q E s := by
  cases neg with
  | false =>
    refine wpAny_richCompare_same_room (op := .Eq) hm.typeIs hn.typeIs PySem.F.slot_dict_eq (wpAny_call_entry PySem.F.slot_dict_eq hm.typeIs PySem.F.entry_dict_eq (show wpAny _ _ (Builtin.Dict.dictSlotArgs "__eq__" ⟨[.ref d, .ref e], []⟩ >>= _) _ _ s from wpAny_bind ?_) (PySem.F.args_dict_eq_2 _ _)) hu
    unfold Builtin.Dict.dictSlotArgs
    refine wpAny_bind (wpAny_notOrdered_dict hm.typeIs (show wpAny _ _ (pure (Value.ref d, Value.ref e)) _ _ s from wpAny_pure (wpAny_bind (wpAny_isInstance (T := "dict") hn.typeIs PySem.F.sub_dict_dict ?_))))
    simp only [Bool.not_true, Bool.false_eq_true, if_false]
    exact wpAny_bind (wpAny_pure (wpAny_bind (wpAny_pure (wpAny_bind (samePairsH hd he hm hn hr hf (wpAny_pure ⟨_, rfl, (fun x => by cases x), by simpa using h⟩))))))
  | true =>
    refine wpAny_richCompare_same_room (op := .NotEq) hm.typeIs hn.typeIs PySem.F.slot_dict_ne (wpAny_call_entry PySem.F.slot_dict_ne hm.typeIs PySem.F.entry_dict_ne (show wpAny _ _ (Builtin.Dict.dictSlotArgs "__ne__" ⟨[.ref d, .ref e], []⟩ >>= _) _ _ s from wpAny_bind ?_) (PySem.F.args_dict_ne_2 _ _)) hu
    unfold Builtin.Dict.dictSlotArgs
    refine wpAny_bind (wpAny_notOrdered_dict hm.typeIs (show wpAny _ _ (pure (Value.ref d, Value.ref e)) _ _ s from wpAny_pure (wpAny_bind (wpAny_isInstance (T := "dict") hn.typeIs PySem.F.sub_dict_dict ?_))))
    simp only [Bool.not_true, Bool.false_eq_true, if_false]
    exact wpAny_bind (wpAny_pure (wpAny_bind (wpAny_pure (wpAny_bind (samePairsH hd he hm hn hr hf (wpAny_pure ⟨_, rfl, (fun x => by cases x), by simpa using h⟩))))))
end
end DLM

namespace DL
open PySem L2
/-- == of pairs as Python has it: as many, each key of the one in the other one, with an equal value -/
def eqPairs (xs ys : List (List Key × PyData)) : Bool := decide (xs.length = ys.length) && xs.all fun p => match getG ys p.1 with
  | some d => PyData.eqv p.2 d
  | none => false
def shapedAll (xs : List (List Key × PyData)) : Prop := ∀ p ∈ xs, SeqAt.shaped p.2 = true
section
variable {X : Cx} {pos : Pos}
theorem atKey_get {H : Hp} {K : PySem.W.Frag} {Hf : Hp} {ws : List (List Key × V)} {xs : List (List Key × Addr × Value)} {kvs : List (List Key × PyData)} (h : KT H ws xs) (r : PairsR K Hf ws kvs) (k : List Key) :
    (atKey xs k = none ∧ getG kvs k = none) ∨ ∃ c u v d, atKey xs k = some (c, u) ∧ RelV v u ∧ getG kvs k = some d ∧ Dp K Hf v d := by
  have rel := KT.val h k
  rcases r.get k with ⟨e1, e2⟩ | ⟨v, d, e1, e2, hd⟩
  · rw [e1] at rel
    refine .inl ⟨?_, e2⟩
    cases z : atKey xs k with
    | none => rfl
    | some p => rw [z] at rel; exact rel.elim
  · rw [e1] at rel
    cases z : atKey xs k with
    | none => rw [z] at rel; exact rel.elim
    | some p => rw [z] at rel; exact .inr ⟨p.1, p.2, v, d, rfl, rel, e2, hd⟩
theorem finds_of {pins : List (Addr × Obj)} {σ : St} {H Hf Hg : Hp} {s : Shared} {A : Around} (I : Inv X pins σ H s) (hu : A.units + 64 < cLine) (e1 : Same Hf H) (e2 : Same Hg H) {ys : List (List Key × Addr × Value)} {ws2 : List (List Key × V)} {kvs2 : List (List Key × PyData)} (h2 : KT H ws2 ys) (r2 : PairsR X.K Hg ws2 kvs2) (s2 : shapedAll kvs2) :
    ∀ {xs : List (List Key × Addr × Value)} {ws : List (List Key × V)} {kvs : List (List Key × PyData)}, KT H ws xs → PairsR X.K Hf ws kvs → shapedAll kvs → DLM.Finds X.prog X.w A s ys xs (kvs.all fun p => match getG kvs2 p.1 with
      | some d => PyData.eqv p.2 d
      | none => false)
  | _, _, _, .nil, .nil, _ => .nil
  | (k, c, v) :: xs, p :: ws, q :: kvs, .cons a t, .cons b u, hs => by
    rw [List.all_cons]
    have ek : q.1 = k := b.1.symm.trans a.1
    have rest := finds_of I hu e1 e2 h2 r2 s2 t u fun z m => hs z (List.mem_cons_of_mem _ m)
    rcases atKey_get h2 r2 k with ⟨g1, g2⟩ | ⟨c', u', v', d', g1, g2, g3, g4⟩
    · rw [ek, g2, Bool.false_and]
      exact .no g1
    · rw [ek, g3]
      have sh1 := hs q List.mem_cons_self
      have sh2 : SeqAt.shaped d' = true := by
        unfold getG at g3
        obtain ⟨z, hz, rfl⟩ := Option.map_eq_some_iff.mp g3
        exact s2 z (List.mem_of_find?_eq_some hz)
      obtain ⟨as, r1⟩ := L2.Dp.reads I _ _ _ ((dp_mono e1 _ _ b.2).old (noD_can _ (SeqAt.canLay_of_shaped sh1))) a.2.2
      obtain ⟨bs, r2'⟩ := L2.Dp.reads I _ _ _ ((dp_mono e2 _ _ g4).old (noD_can _ (SeqAt.canLay_of_shaped sh2))) g2
      exact .yes g1 (fun E Q hq => SeqAt.eqBoolOverData X.prog X.w A E s v u' q.2 d' as bs Q r1 r2' (SeqAt.canLay_of_shaped sh1) (SeqAt.canLay_of_shaped sh2) (by have h1 := (Bool.and_eq_true_iff.mp (show (q.2.canLay0 && decide (q.2.depth ≤ 64)) = true from sh1)).2; have := of_decide_eq_true h1; omega) hq) rest
/-- == and != of dicts -/
def oEqDic (neg : Bool) : WO := fun x y ρ Q => match dicOf ρ x, dicOf ρ y with
  | some ks, some ls => shapedAll ks ∧ shapedAll ls ∧ Q (.dat (.bool (if neg then !eqPairs ks ls else eqPairs ks ls))) ρ
  | _, _ => False
def rEqDic (K : PySem.W.Frag) (neg : Bool) : R2 := fun x y H Q => ∃ a b ws vs ks ls Hf, x = .ref a ∧ y = .ref b ∧ Rd H a (.dT ws) ∧ Rd H b (.dT vs) ∧ Same Hf H ∧ PairsR K Hf ws ks ∧ PairsR K Hf vs ls ∧ shapedAll ks ∧ shapedAll ls ∧ Q (.bl (if neg then !eqPairs ks ls else eqPairs ks ls)) H
theorem op_eqDic {neg : Bool} (hu : X.A.units + 128 < cLine) : OpR X (compareOp (if neg then .NotEq else .Eq)) (rEqDic X.K neg) := by
  intro pins s σ H x y v u Q I rx ry h
  obtain ⟨a, b, ws, vs, ks, ls, Hf, rfl, rfl, ha, hb, e, ra, rb, sa, sb, q⟩ := h
  obtain rfl : v = Value.ref a := rx
  obtain rfl : u = Value.ref b := ry
  obtain ⟨_, ya, xa, ka, da⟩ := dt_rd I.hok ha
  obtain ⟨_, yb, xb, kb, db⟩ := dt_rd I.hok hb
  have l1 : xa.length = ks.length := (Paired.length ka).symm.trans ra.len
  have l2 : xb.length = ls.length := (Paired.length kb).symm.trans rb.len
  have in1 : X.A.in1.units ≤ X.A.units + 1 := by show X.A.units + _ ≤ _; omega
  refine DLM.eqH (neg := neg) ya yb da db (by omega) (show X.A.in1.units < cLine by omega) (fun _ => finds_of I (by omega) e e kb rb sb ka ra sa) ?_
  rw [l1, l2]
  exact ⟨.bl _, H, I, rfl, q⟩
theorem xo_eqDic {neg : Bool} (hu : X.A.units + 128 < cLine) : XO X (compareOp (if neg then .NotEq else .Eq)) (rEqDic X.K neg) (oEqDic neg) :=
  ⟨op_eqDic hu, fun Hf H σ ρ Q Q' x y dx dy E hx hy ho c => by
    unfold oEqDic at ho
    split at ho
    · rename_i ks ls h1 h2
      obtain ⟨a, ws, rfl, g1, g2⟩ := dic_of E hx h1
      obtain ⟨b, vs, rfl, f1, f2⟩ := dic_of E hy h2
      exact ⟨a, b, ws, vs, ks, ls, Hf, rfl, rfl, g1, f1, E.ex, g2, f2, ho.1, ho.2.1, c.dat E (.bl _) ho.2.2⟩
    · exact ho.elim⟩
end
end DL
end
section
set_option Elab.async false
set_option linter.all false
set_option maxRecDepth 100000
set_option maxHeartbeats 1000000
/-! sum, min, max, any, all of lists; zip -/
namespace DL
open PySem L2
def intsOf : List PyData → Option (List Int)
  | [] => some []
  | .int i :: r => (intsOf r).map (i :: ·)
  | _ :: _ => none
def bolsOf : List PyData → Option (List Bool)
  | [] => some []
  | .bool i :: r => (bolsOf r).map (i :: ·)
  | _ :: _ => none
theorem intsOf_map : ∀ ns : List Int, intsOf (ns.map .int) = some ns
  | [] => rfl
  | n :: r => by show (intsOf (r.map .int)).map (n :: ·) = _; rw [intsOf_map r]; rfl
theorem bolsOf_map : ∀ ns : List Bool, bolsOf (ns.map .bool) = some ns
  | [] => rfl
  | n :: r => by show (bolsOf (r.map .bool)).map (n :: ·) = _; rw [bolsOf_map r]; rfl
theorem ints_dp {K : PySem.W.Frag} {H : Hp} : ∀ {vs : List V} {ds : List PyData} {ns : List Int}, DpAll K H vs ds → intsOf ds = some ns → vs = ns.map V.int
  | _, _, _, .nil, e => by cases e; rfl
  | _, _, _, .cons (.int i) t, e => by
    obtain ⟨r, h1, rfl⟩ := Option.map_eq_some_iff.mp (show (intsOf _).map (i :: ·) = _ from e)
    rw [ints_dp t h1]; rfl
  | _, _, _, .cons (.str x) t, e => by cases e
  | _, _, _, .cons .non t, e => by cases e
  | _, _, _, .cons (.bl _) t, e => by cases e
  | _, _, _, .cons (.lst _ _) t, e => by cases e
  | _, _, _, .cons (.tup _ _) t, e => by cases e
  | _, _, _, .cons (.dcT _ _ _ _) t, e => by cases e
  | _, _, _, .cons (.dcK _ _ _ _) t, e => by cases e
theorem bols_dp {K : PySem.W.Frag} {H : Hp} : ∀ {vs : List V} {ds : List PyData} {ns : List Bool}, DpAll K H vs ds → bolsOf ds = some ns → vs = ns.map V.bl
  | _, _, _, .nil, e => by cases e; rfl
  | _, _, _, .cons (.bl i) t, e => by
    obtain ⟨r, h1, rfl⟩ := Option.map_eq_some_iff.mp (show (bolsOf _).map (i :: ·) = _ from e)
    rw [bols_dp t h1]; rfl
  | _, _, _, .cons (.str x) t, e => by cases e
  | _, _, _, .cons .non t, e => by cases e
  | _, _, _, .cons (.int _) t, e => by cases e
  | _, _, _, .cons (.lst _ _) t, e => by cases e
  | _, _, _, .cons (.tup _ _) t, e => by cases e
  | _, _, _, .cons (.dcT _ _ _ _) t, e => by cases e
  | _, _, _, .cons (.dcK _ _ _ _) t, e => by cases e
section
variable {X : Cx} {pos : Pos}
/-- the list that a built-in is given -/
def lst1 (ρ : Den) : List DV → Option (List PyData)
  | [x] => match seqOf ρ x with
    | some (false, ds) => some ds
    | _ => none
  | _ => none
theorem lst1_at {K : PySem.W.Frag} {Hf H : Hp} {σ : St} {ρ : Den} {vs : List V} {xs : List DV} {ds : List PyData} (E : ER K Hf H σ ρ) (ha : AVs K Hf σ vs xs) (e : lst1 ρ xs = some ds) : ∃ a us, vs = [.ref a] ∧ SqL K H a us ∧ DpAll K Hf us ds := by
  unfold lst1 at e
  split at e
  · rename_i x
    obtain ⟨v, rfl, hv⟩ := avs1 ha
    split at e
    · rename_i ds' hq
      cases e
      obtain ⟨a, us, rfl, h1, h2⟩ := seq_of E hv.vs hq
      exact ⟨a, us, rfl, h1, h2⟩
    · cases e
  · cases e
def oSum : WC := fun xs ρ Q => match (lst1 ρ xs).bind intsOf with
  | some ns => Q (.dat (.int ns.sum)) ρ
  | none => False
theorem xc_sum (hc : X.calm = true) : XC X (.builtin "sum") (rSum X.K) oSum :=
  ⟨cr_sum hc, fun Hf H σ ρ Q Q' vs ds E ha ho c => by
    unfold oSum at ho
    split at ho
    · rename_i ns hn
      obtain ⟨l, h1, h2⟩ := Option.bind_eq_some_iff.mp hn
      obtain ⟨a, us, rfl, g1, g2⟩ := lst1_at E ha h1
      rw [ints_dp g2 h2] at g1
      exact ⟨a, ns, rfl, g1, c.dat E (.int _) ho⟩
    · exact ho.elim⟩
/-- the greatest, the least of a list -/
def oMaxL : WC := fun xs ρ Q => match (lst1 ρ xs).bind intsOf with
  | some ns => ns ≠ [] ∧ ∀ m, m ∈ ns → (∀ y, y ∈ ns → y ≤ m) → Q (.dat (.int m)) ρ
  | none => False
def oMinL : WC := fun xs ρ Q => match (lst1 ρ xs).bind intsOf with
  | some ns => ns ≠ [] ∧ ∀ m, m ∈ ns → (∀ y, y ∈ ns → m ≤ y) → Q (.dat (.int m)) ρ
  | none => False
theorem xc_maxL (hc : X.calm = true) : XC X (.builtin "max") (rMax X.K) oMaxL :=
  ⟨cr_max hc, fun Hf H σ ρ Q Q' vs ds E ha ho c => by
    unfold oMaxL at ho
    split at ho
    · rename_i ns hn
      obtain ⟨l, h1, h2⟩ := Option.bind_eq_some_iff.mp hn
      obtain ⟨a, us, rfl, g1, g2⟩ := lst1_at E ha h1
      rw [ints_dp g2 h2] at g1
      exact ⟨a, ns, rfl, g1, List.length_pos_iff.mpr ho.1, fun m k1 k2 => c.dat E (.int _) (ho.2 m k1 k2)⟩
    · exact ho.elim⟩
theorem xc_minL (hc : X.calm = true) : XC X (.builtin "min") (rMin X.K) oMinL :=
  ⟨cr_min hc, fun Hf H σ ρ Q Q' vs ds E ha ho c => by
    unfold oMinL at ho
    split at ho
    · rename_i ns hn
      obtain ⟨l, h1, h2⟩ := Option.bind_eq_some_iff.mp hn
      obtain ⟨a, us, rfl, g1, g2⟩ := lst1_at E ha h1
      rw [ints_dp g2 h2] at g1
      exact ⟨a, ns, rfl, g1, List.length_pos_iff.mpr ho.1, fun m k1 k2 => c.dat E (.int _) (ho.2 m k1 k2)⟩
    · exact ho.elim⟩
def oAny : WC := fun xs ρ Q => match (lst1 ρ xs).bind bolsOf with
  | some bs => Q (.dat (.bool (bs.any id))) ρ
  | none => False
def oAll : WC := fun xs ρ Q => match (lst1 ρ xs).bind bolsOf with
  | some bs => Q (.dat (.bool (bs.all id))) ρ
  | none => False
theorem xc_any (hc : X.calm = true) : XC X (.builtin "any") (rAny X.K) oAny :=
  ⟨cr_any hc, fun Hf H σ ρ Q Q' vs ds E ha ho c => by
    unfold oAny at ho
    split at ho
    · rename_i ns hn
      obtain ⟨l, h1, h2⟩ := Option.bind_eq_some_iff.mp hn
      obtain ⟨a, us, rfl, g1, g2⟩ := lst1_at E ha h1
      rw [bols_dp g2 h2] at g1
      exact ⟨a, ns, rfl, g1, c.dat E (.bl _) ho⟩
    · exact ho.elim⟩
theorem xc_all (hc : X.calm = true) : XC X (.builtin "all") (rAll X.K) oAll :=
  ⟨cr_all hc, fun Hf H σ ρ Q Q' vs ds E ha ho c => by
    unfold oAll at ho
    split at ho
    · rename_i ns hn
      obtain ⟨l, h1, h2⟩ := Option.bind_eq_some_iff.mp hn
      obtain ⟨a, us, rfl, g1, g2⟩ := lst1_at E ha h1
      rw [bols_dp g2 h2] at g1
      exact ⟨a, ns, rfl, g1, c.dat E (.bl _) ho⟩
    · exact ho.elim⟩
theorem ev_sum {ρ : Den} {Q : DV → Den → Prop} {xs : List DV} {ns : List Int} (e : (lst1 ρ xs).bind intsOf = some ns) (h : Q (.dat (.int ns.sum)) ρ) : kCall oSum Q xs ρ := by
  unfold kCall oSum; rw [e]; exact h
theorem ev_maxL {ρ : Den} {Q : DV → Den → Prop} {xs : List DV} {ns : List Int} (e : (lst1 ρ xs).bind intsOf = some ns) (hn : ns ≠ []) (h : ∀ m, m ∈ ns → (∀ y, y ∈ ns → y ≤ m) → Q (.dat (.int m)) ρ) : kCall oMaxL Q xs ρ := by
  unfold kCall oMaxL; rw [e]; exact ⟨hn, h⟩
theorem ev_minL {ρ : Den} {Q : DV → Den → Prop} {xs : List DV} {ns : List Int} (e : (lst1 ρ xs).bind intsOf = some ns) (hn : ns ≠ []) (h : ∀ m, m ∈ ns → (∀ y, y ∈ ns → m ≤ y) → Q (.dat (.int m)) ρ) : kCall oMinL Q xs ρ := by
  unfold kCall oMinL; rw [e]; exact ⟨hn, h⟩
theorem ev_any {ρ : Den} {Q : DV → Den → Prop} {xs : List DV} {ns : List Bool} (e : (lst1 ρ xs).bind bolsOf = some ns) (h : Q (.dat (.bool (ns.any id))) ρ) : kCall oAny Q xs ρ := by
  unfold kCall oAny; rw [e]; exact h
theorem ev_all {ρ : Den} {Q : DV → Den → Prop} {xs : List DV} {ns : List Bool} (e : (lst1 ρ xs).bind bolsOf = some ns) (h : Q (.dat (.bool (ns.all id))) ρ) : kCall oAll Q xs ρ := by
  unfold kCall oAll; rw [e]; exact h
/-! dicts, step by step -/
def kDPut3 (D : DE) (x o : DV) : DV → Den → Prop := fun y ρ3 => match x, o, y with
  | .dat d, .own i, .dat t => match ownDic ρ3[i]?, keyOfD t with
    | some kvs, some k => kvs.length < sizeLine ∧ D.nx (ρ3.set i (some (.dic (putG kvs k d))))
    | _, _ => False
  | _, _, _ => False
def kDPut2 (wk : WE) (D : DE) (x : DV) : DV → Den → Prop := fun o ρ2 => wk ρ2 (kDPut3 D x o)
def kDPut1 (wo wk : WE) (D : DE) : DV → Den → Prop := fun x ρ1 => wo ρ1 (kDPut2 wk D x)
theorem ev_dput {wv wo wk : WE} {D : DE} {ρ : Den} (h : wv ρ (kDPut1 wo wk D)) : wDPut wv wo wk D ρ := h
theorem ev_kDPut1 {wo wk : WE} {D : DE} {ρ : Den} {x : DV} (h : wo ρ (kDPut2 wk D x)) : kDPut1 wo wk D x ρ := h
theorem ev_kDPut2 {wk : WE} {D : DE} {ρ : Den} {x o : DV} (h : wk ρ (kDPut3 D x o)) : kDPut2 wk D x o ρ := h
theorem ev_kDPut3 {D : DE} {ρ : Den} {d t : PyData} {i : Nat} {kvs : List (List Key × PyData)} {k : List Key} (e : ownDic ρ[i]? = some kvs) (e2 : keyOfD t = some k) (l : kvs.length < sizeLine) (h : D.nx (ρ.set i (some (.dic (putG kvs k d))))) : kDPut3 D (.dat d) (.own i) (.dat t) ρ := by
  unfold kDPut3; dsimp only; rw [e, e2]; exact ⟨l, h⟩
def kFrz (Q : DV → Den → Prop) : DV → Den → Prop := fun x ρ1 => match x with
  | .dic kvs => Q (.dat (dicD kvs)) ρ1
  | .own i => match ownDic ρ1[i]? with
    | some kvs => Q (.dat (dicD kvs)) (ρ1.set i (some (.dat (dicD kvs))))
    | none => Q (.own i) ρ1
  | x => Q x ρ1
theorem ev_frz {w : WE} {ρ : Den} {Q : DV → Den → Prop} (h : w ρ (kFrz Q)) : wFrz w ρ Q := h
theorem ev_kFrz_dat {d : PyData} {ρ : Den} {Q : DV → Den → Prop} (h : Q (.dat d) ρ) : kFrz Q (.dat d) ρ := h
theorem ev_kFrz_dic {kvs : List (List Key × PyData)} {ρ : Den} {Q : DV → Den → Prop} (h : Q (.dat (dicD kvs)) ρ) : kFrz Q (.dic kvs) ρ := h
theorem ev_kFrz_own {i : Nat} {kvs : List (List Key × PyData)} {ρ : Den} {Q : DV → Den → Prop} (e : ownDic ρ[i]? = some kvs) (h : Q (.dat (dicD kvs)) (ρ.set i (some (.dat (dicD kvs))))) : kFrz Q (.own i) ρ := by
  unfold kFrz; dsimp only; rw [e]; exact h
theorem ev_dnew {ρ : Den} {Q : DV → Den → Prop} (h : Q (.dic []) ρ) : wDNew ρ Q := h
theorem ev_kSet_dic {i : Nat} {D : DE} {ρ : Den} {kvs : List (List Key × PyData)} (n : notArgB ρ[i]? = true) (h : D.nx (ρ.set i (some (.dic kvs)))) : kSet i D (.dic kvs) ρ := ⟨notArgB_of n, h⟩
theorem ev_kRet_ownD {D : DE} {ρ : Den} {i : Nat} {kvs : List (List Key × PyData)} (e : ρ[i]? = some (some (.dic kvs))) (h : D.rt (.dic kvs) ρ) : kRet D (.own i) ρ := by
  unfold kRet; dsimp only; rw [e]; exact h
theorem ev_in {neg : Bool} {t : PyData} {y : DV} {ρ : Den} {Q : DV → Den → Prop} {kvs : List (List Key × PyData)} {k : List Key} (e : dicOf ρ y = some kvs) (e2 : keyOfD t = some k) (h : Q (.dat (.bool (if neg then !(getG kvs k).isSome else (getG kvs k).isSome))) ρ) : kBin2 (oIn neg) (.dat t) Q y ρ := by
  unfold kBin2 oIn; rw [e]; dsimp only; rw [e2]; exact h
theorem ev_dget {x : DV} {t d : PyData} {ρ : Den} {Q : DV → Den → Prop} {kvs : List (List Key × PyData)} {k : List Key} (e : dicOf ρ x = some kvs) (e2 : keyOfD t = some k) (e3 : getG kvs k = some d) (h : Q (.dat d) ρ) : kBin2 oGet x Q (.dat t) ρ := by
  unfold kBin2 oGet; rw [e]; dsimp only; rw [e2]; show (match getG kvs k with | some d => _ | none => _); rw [e3]; exact h
theorem ev_eqDic {neg : Bool} {x y : DV} {ρ : Den} {Q : DV → Den → Prop} {ks ls : List (List Key × PyData)} (e : dicOf ρ x = some ks) (e2 : dicOf ρ y = some ls) (s1 : shapedAll ks) (s2 : shapedAll ls) (h : Q (.dat (.bool (if neg then !eqPairs ks ls else eqPairs ks ls))) ρ) : kBin2 (oEqDic neg) x Q y ρ := by
  unfold kBin2 oEqDic; rw [e, e2]; exact ⟨s1, s2, h⟩
theorem ev_lenD {x : DV} {ρ : Den} {Q : DV → Den → Prop} {kvs : List (List Key × PyData)} (e : dicOf ρ x = some kvs) (h : Q (.dat (.int (kvs.length : Nat))) ρ) : kCall oLenD Q [x] ρ := by
  unfold kCall oLenD; dsimp only; rw [e]; exact h
def kKeysI (Q : List PyData → Den → Prop) : DV → Den → Prop := fun x ρ1 => match x with
  | .dat d => match unDic d with
    | some kvs => Q (kvs.map fun p => keyT p.1) ρ1
    | none => False
  | _ => False
theorem ev_keysI {w : WE} {ρ : Den} {Q : List PyData → Den → Prop} (h : w ρ (kKeysI Q)) : wKeysI w ρ Q := h
theorem ev_kKeysI {kvs : List (List Key × PyData)} {ρ : Den} {Q : List PyData → Den → Prop} (h : Q (kvs.map fun p => keyT p.1) ρ) : kKeysI Q (.dat (dicD kvs)) ρ := by
  unfold kKeysI; dsimp only; rw [unDic_dicD]; exact h
end
end DL
end
section
set_option Elab.async false
set_option linter.all false
set_option maxRecDepth 100000
set_option maxHeartbeats 1000000
/-! zip, enumerate; comprehensions of two clauses -/
namespace DL
open PySem L2
section
variable {K : PySem.W.Frag} {Hf : Hp}
/-- a new pair that is yielded -/
theorem yld_pair {Hf2 H2 : Hp} {T : Addr} {x y : V} {dx dy : PyData} (e : Same Hf2 H2) (hT : H2 T = none) (hx : Dp K Hf2 x dx) (hy : Dp K Hf2 y dy) : ∃ Hf3, Grow Hf2 H2 Hf3 (upd H2 T (.tup [x, y])) ∧ Dp K Hf3 (.ref T) (.tuple [dx, dy]) := by
  have g := Grow.new (o := .tup [x, y]) e hT
  exact ⟨_, g, .tup upd_same (.cons (dp_mono g.fx _ _ hx) (.cons (dp_mono g.fx _ _ hy) .nil))⟩
theorem itOk_zipL {a b : Addr} {us vs : List V} {ds es : List PyData} (h1 : SqL K Hf a us) (h2 : SqL K Hf b vs) (d1 : DpAll K Hf us ds) (d2 : DpAll K Hf vs es) : ItOk K Hf (Itz K a b) (zipD ds es) := by
  have l1 := DpAll.length d1
  have l2 := DpAll.length d2
  refine ⟨fun i Hf2 H2 e1 e2 n => ?_, fun i Hf2 H2 e1 e2 n => ?_, fun i Hf2 H2 x H3 d e1 e2 n y => ?_⟩
  · rw [zipD_len] at n
    exact ⟨us, vs, (e1.trans e2).seq h1, (e1.trans e2).seq h2, by omega⟩
  · rw [zipD_len] at n
    exact ⟨us, vs, us[i]'(by omega), vs[i]'(by omega), (e1.trans e2).seq h1, (e1.trans e2).seq h2, List.getElem?_eq_getElem _, List.getElem?_eq_getElem _⟩
  · obtain ⟨T, u, v, rfl, hT, rfl, g1, g2⟩ := y
    obtain ⟨dx, dy, f1, f2, rfl⟩ := zipD_get n
    obtain ⟨u', k1, k2⟩ := DpAll.get d1 f1
    obtain ⟨v', m1, m2⟩ := DpAll.get d2 f2
    have := g1 us ((e1.trans e2).seq h1)
    rw [k1] at this; cases this
    have := g2 vs ((e1.trans e2).seq h2)
    rw [m1] at this; cases this
    exact yld_pair e2 hT (dp_mono e1 _ _ k2) (dp_mono e1 _ _ m2)
theorem itOk_zipT {a b : Addr} {us vs : List V} {ds es : List PyData} (h1 : SqT K Hf a us) (h2 : SqT K Hf b vs) (d1 : DpAll K Hf us ds) (d2 : DpAll K Hf vs es) : ItOk K Hf (RZ.ItzT K a b) (zipD ds es) := by
  have l1 := DpAll.length d1
  have l2 := DpAll.length d2
  refine ⟨fun i Hf2 H2 e1 e2 n => ?_, fun i Hf2 H2 e1 e2 n => ?_, fun i Hf2 H2 x H3 d e1 e2 n y => ?_⟩
  · rw [zipD_len] at n
    exact ⟨us, vs, sqT_mono (e1.trans e2) h1, sqT_mono (e1.trans e2) h2, by omega⟩
  · rw [zipD_len] at n
    exact ⟨us, vs, us[i]'(by omega), vs[i]'(by omega), sqT_mono (e1.trans e2) h1, sqT_mono (e1.trans e2) h2, List.getElem?_eq_getElem _, List.getElem?_eq_getElem _⟩
  · obtain ⟨T, u, v, rfl, hT, rfl, g1, g2⟩ := y
    obtain ⟨dx, dy, f1, f2, rfl⟩ := zipD_get n
    obtain ⟨u', k1, k2⟩ := DpAll.get d1 f1
    obtain ⟨v', m1, m2⟩ := DpAll.get d2 f2
    have := g1 us (sqT_mono (e1.trans e2) h1)
    rw [k1] at this; cases this
    have := g2 vs (sqT_mono (e1.trans e2) h2)
    rw [m1] at this; cases this
    exact yld_pair e2 hT (dp_mono e1 _ _ k2) (dp_mono e1 _ _ m2)
end
section
variable {X : Cx} {pos : Pos}
def wZip (wa : WA) : WI := fun ρ Q => wa ρ fun xs ρ1 => match xs with
  | [.dat (.list ds), .dat (.list es)] => Q (zipD ds es) ρ1
  | [.dat (.tuple ds), .dat (.tuple es)] => Q (zipD ds es) ρ1
  | _ => False
theorem xi_zip {e e2 : Expr} {ta : TA} {wa : WA} {p tpos : Pos} {elts : List Expr} {kk : Nat} (hg : Gl X "zip") (hm : X.mg "zip" = none) (ha : XA X [e, e2] ta wa) (hs : starEach [e, e2] X.env = (false, eval e X.env) :: starEach [e2] X.env := by rfl) (hpl : (backTo pos (starEach [e2] X.env)).any (·.1) = false := by rfl) :
    XI X (.Tuple elts kk tpos) (.Call (.Name "zip" p) [e, e2] [] pos) (RZ.iZipA X.K ta) (wZip wa) :=
  ⟨RZ.pi_zipA hg hm ha.pa hs hpl, fun Hf H σ ρ Q R E hw c => ha.so Hf H σ ρ _ _ E hw fun vs Hf1 H1 ds ρ1 s1 r1 q1 => by
    split at q1
    · obtain ⟨v, u, rfl, h1, h2⟩ := avs2 r1
      cases h1 with
      | lst a1 a2 =>
        cases h2 with
        | lst b1 b2 => exact ⟨_, _, _, _, rfl, .inl ⟨s1.er.ex.seq a1, s1.er.ex.seq b1, c _ Hf1 H1 ρ1 _ s1 (itOk_zipL a1 b1 a2 b2) q1⟩⟩
    · obtain ⟨v, u, rfl, h1, h2⟩ := avs2 r1
      cases h1 with
      | tup a1 a2 =>
        cases h2 with
        | tup b1 b2 => exact ⟨_, _, _, _, rfl, .inr ⟨tupS s1.er.ex a1, tupS s1.er.ex b1, c _ Hf1 H1 ρ1 _ s1 (itOk_zipT (.inl (.inl a1)) (.inl (.inl b1)) a2 b2) q1⟩⟩
    · exact q1.elim⟩
def kZip (Q : List PyData → Den → Prop) : List DV → Den → Prop := fun xs ρ1 => match xs with
  | [.dat (.list ds), .dat (.list es)] => Q (zipD ds es) ρ1
  | [.dat (.tuple ds), .dat (.tuple es)] => Q (zipD ds es) ρ1
  | _ => False
theorem ev_zip {wa : WA} {ρ : Den} {Q : List PyData → Den → Prop} (h : wa ρ (kZip Q)) : wZip wa ρ Q := h
theorem ev_kZip_l {ds es : List PyData} {ρ : Den} {Q : List PyData → Den → Prop} (h : Q (zipD ds es) ρ) : kZip Q [.dat (.list ds), .dat (.list es)] ρ := h
theorem ev_kZip_t {ds es : List PyData} {ρ : Den} {Q : List PyData → Den → Prop} (h : Q (zipD ds es) ρ) : kZip Q [.dat (.tuple ds), .dat (.tuple es)] ρ := h
end
end DL
end
section
set_option Elab.async false
set_option linter.all false
set_option maxRecDepth 100000
set_option maxHeartbeats 2000000
/-! enumerate of tuples and lists -/
namespace DLM
open PySem PySem.W PyProof.Rows PySem.Calls L2
theorem meets_enum1 {v : Value} {o : Obj} {Hh : Heap → Prop} (B : Begins v o Hh) :
    Meets (Builtin.«enumerate.__new__» ⟨[.type "enumerate", v], []⟩) (fun _ R s => Hh s.heap ∧ R (.ok (.ret (.ref (s.heap.push o).objs.size))) { s with heap := (s.heap.push o).push { cls := .type "enumerate", data := .fields #[.none, .bool false, .ref s.heap.objs.size, rawInt 0, .none, .none] } }) := by
  refine .of_wp fun prog w A R ⟨hp, g, d, tk, os⟩ ⟨hh, hR⟩ => ?_
  have sub := sub_enumerate
  have it : ∀ {A' : Around} {E Q : Value → Shared → Prop}, Q (.ref hp.objs.size) ⟨hp.push o, g, d, tk, os⟩ → wpAny (model prog w) A' (pyIter v) Q E ⟨hp, g, d, tk, os⟩ := fun q => B.iter prog w _ _ ⟨hp, g, d, tk, os⟩ _ hh q
  wp_walk
  refine wpAny_stack_any fun st => wpAny_pure ?_
  split
  · rename_i c _ _ _ _ _
    cases (c == Value.type "enumerate") <;> (wp_walk using it; exact ⟨_, rfl, hR⟩)
  · wp_walk using it
    exact ⟨_, rfl, hR⟩
section
variable {prog : Program} {w : World} {A : Around} {E : Value → Shared → Prop} {s : Shared}
theorem enum_new {v : Value} {o : Obj} {Hh : Heap → Prop} {Q : Value → Shared → Prop} (B : Begins v o Hh) (h1 : Hh s.heap)
    (h : ∀ h', IsEnum h' (s.heap.objs.size + 1) s.heap.objs.size 0 .none → h'.get? s.heap.objs.size = some o → (∀ b ob, s.heap.get? b = some ob → h'.get? b = some ob) → Q (.ref (s.heap.objs.size + 1)) { s with heap := h' }) : wpAny (model prog w) A (call (.type "enumerate") [v]) Q E s := by
  refine callType_new F.called_enumerate (by decide) (F.typeCall_enumerate_1 _) (F.newCall_enumerate_1 _) (fun ob => F.args_object_init_2 ob _) F.entry_enumerate_new (meets_enum1 B) ⟨h1, ?_⟩
  have z : (s.heap.push o).objs.size = s.heap.objs.size + 1 := Heap.size_push ..
  have he : IsEnum ((s.heap.push o).push { cls := .type "enumerate", data := .fields #[.none, .bool false, .ref s.heap.objs.size, rawInt 0, .none, .none] }) (s.heap.objs.size + 1) s.heap.objs.size 0 .none := by
    rw [← z]; exact Heap.get?_push_size (s.heap.push o) rfl
  show _ ∧ _
  rw [z]
  exact ⟨⟨_, he, rfl⟩, h _ he (Heap.get?_push_of_some _ (Heap.get?_push_size _ B.free)) fun b ob x => Heap.get?_push_of_some _ (Heap.get?_push_of_some _ x)⟩
end
end DLM
namespace DL
open PySem PySem.Spec PyProof.Rows L2
/-- the tuple at a, item by item, with its places -/
def IteT (K : PySem.W.Frag) (a : Addr) : It :=
  ⟨fun i H => ∃ (xs : List V) (x : V), SqT K H a xs ∧ xs[i]? = some x, fun i H v H' => ∃ T x, v = .ref T ∧ H T = none ∧ H' = upd H T (.tup [.int (i : Nat), x]) ∧ ∀ xs, SqT K H a xs → xs[i]? = some x, fun i H => ∃ xs : List V, SqT K H a xs ∧ xs.length = i⟩
theorem turn_enumT {P : Program} {w : World} {K : PySem.W.Frag} {elts : List Expr} {kk : Nat} {tpos : Pos} (a e it : Addr) (hne : e ≠ it) (hea : e ≠ a) (hia : a ≠ it) :
    Turn P w K (.Tuple elts kk tpos) (IteT K a) [e, it] e (fun i h => (∃ old, IsEnum h e it ((i : Nat) : Int) old) ∧ h.IsTupleIter it a i) where
  mem := by simp
  obj := fun i h ⟨⟨old, he⟩, ⟨o, ho, hc, hd⟩⟩ b hb => by
    rcases (by simpa using hb : b = e ∨ b = it) with rfl | rfl
    · exact ⟨_, he, fun v q => nomatch q⟩
    · exact ⟨o, ho, fun v q => by rw [hd] at q; cases q⟩
  keep := fun i h h' ⟨⟨old, he⟩, hi⟩ k => ⟨⟨old, k e (by simp) _ he⟩, hi.at fun o q => k it (by simp) o q⟩
  item := by
    rintro X rfl rfl rfl hc i pins s σ H E I hf ⟨⟨old, he⟩, hit⟩ ⟨xs, x, hq, hx⟩
    obtain ⟨its, rv, p, hz⟩ := I.tuple hq
    obtain ⟨u, hu, ru⟩ := rv.get hx
    have hel : e < s.heap.objs.size := Heap.lt_size he
    have hil : it < s.heap.objs.size := let ⟨_, q, _⟩ := hit; Heap.lt_size q
    have D := Draws.tuple (prog := X.prog) (w := X.w) (A := X.A.in1) (I.ok.hd hc) it a hia its.toArray
    have hlt : i < its.toArray.size := by
      rw [List.size_toArray]
      exact (List.getElem?_eq_some_iff.mp hu).1
    refine wpAny_pyNext_enum_itemC D he ⟨hit, p⟩ hlt hne (by simp; exact ⟨hne, hea⟩) fun y h' tk hy ho hst hT hsz hk => ?_
    have ey : y = u := by
      have hy : its.toArray[i]? = some y := hy
      rw [List.getElem?_toArray, hu] at hy
      exact (Option.some.inj hy).symm
    subst ey
    refine ⟨_, rfl, wpAny_letOwnedTupleGo_enum (s := { s with heap := h', toks := tk + 1 }) ho fun h'' he' sb => ?_⟩
    have hT2 : h''.get? s.heap.objs.size = some { cls := .type "tuple", data := .seq #[.int i tk, y] } := (sb.2 _ (Nat.ne_of_gt hel)).trans hT
    have hn : H s.heap.objs.size = none := I.hok.fresh (Nat.le_refl _)
    have I1 : Inv X pins σ (upd H s.heap.objs.size (.tup [.int (i : Nat), x])) { s with heap := h'', toks := tk + 1 } :=
      I.turnedNew (ch := [e, it]) (fun b ob hb q => (sb.2 b (fun z => hb (by simp [z]))).trans (hk b ob (fun z => hb (by simp [z])) (fun z => hb (by simp [z])) q)) hf (Nat.le_refl _) ⟨by show 2 ≤ sizeLine; decide, [.int i tk, y], .cons ⟨_, rfl⟩ (.cons ru .nil), ⟨_, hT2, rfl, _, rfl⟩⟩
    refine ⟨.ref s.heap.objs.size, _, I1, rfl, ⟨_, x, rfl, hn, rfl, fun ys hy => by rw [I.tuple_inj hy hq]; exact hx⟩, ⟨⟨y, ?_⟩, hst.1.at fun o q => (sb.2 it (Ne.symm hne)).trans q⟩, fun b hb => ?_⟩
    · rw [show ((i + 1 : Nat) : Int) = (i : Int) + 1 by omega]; exact he'
    · have hb' : b < s.heap.objs.size := by rcases (by simpa using hb : b = e ∨ b = it) with rfl | rfl <;> assumption
      rw [upd_ne (Nat.ne_of_lt hb')]
      exact (hf b hb).1
  done := by
    rintro X rfl rfl rfl hc i pins s σ H E I hf ⟨⟨old, he⟩, hit⟩ ⟨xs, hq, hx⟩
    obtain ⟨its, rv, p, hz⟩ := I.tuple hq
    obtain ⟨f0, f1, f2, f3, f4, f5⟩ := hf it (by simp)
    have D := Draws.tuple (prog := X.prog) (w := X.w) (A := X.A.in1) (I.ok.hd hc) it a hia its.toArray
    have hl := rv.length
    have at_end : s.heap.IsTupleIter it a its.toArray.size := by
      rw [List.size_toArray, ← hl, hx]; exact hit
    exact wpAny_pyNext_enum_endD D he ⟨at_end, p⟩ fun h' eb => ⟨rfl, I.turned (t' := s.toks) (fun b o hb q => eb b o hb q) f0 f1 f3 f4 f5⟩
  self := fun A i s Q E ⟨⟨_, he⟩, _⟩ h => wpAny_pyIter_enum he h
end DL
end
section
set_option Elab.async false
set_option linter.all false
set_option maxRecDepth 100000
set_option maxHeartbeats 2000000
namespace DL
open PySem PySem.Spec PyProof.Rows L2
def iEnumA (K : PySem.W.Frag) (ta : TA) : TI := fun σ H R => ta σ H fun vs H1 => ∃ a xs, vs = [.ref a] ∧ ((SqL K H1 a xs ∧ R (Ite K a) H1) ∨ (SqT K H1 a xs ∧ R (IteT K a) H1))
theorem pi_enumA {X : Cx} {e : Expr} {ta : TA} {p pos tpos : Pos} {elts : List Expr} {kk : Nat} (hg : Gl X "enumerate") (hm : X.mg "enumerate" = none) (ha : PA X [e] ta) (hs : starEach [e] X.env = [(false, eval e X.env)]) :
    PI X (.Tuple elts kk tpos) (.Call (.Name "enumerate" p) [e] [] pos) (iEnumA X.K ta) := by
  refine ⟨fun pins s σ H R I h => Call_ (ld_blt I hg hm boot_enumerate (PyProof.Rows.callWith_type1 (thn (ha.run pos pins s σ H _ I h) fun us s1 ⟨vs, H1, I1, r1, a, xs, ex, q⟩ => ?_) hs rfl))⟩
  subst ex
  obtain ⟨u, rfl, ru⟩ := vals1 r1
  obtain rfl : u = Value.ref a := ru
  have fresh : ∀ b ∈ [s1.heap.objs.size + 1, s1.heap.objs.size], FpOk X pins H1 b := fun b hb => by
    have hle : s1.heap.objs.size ≤ b := by rcases (by simpa using hb : b = s1.heap.objs.size + 1 ∨ b = s1.heap.objs.size) with rfl | rfl <;> omega
    exact I1.fpOk hle (I1.hok.fresh hle)
  rcases q with ⟨hq, q⟩ | ⟨hq, q⟩
  · obtain ⟨its, rv, p', hz⟩ := I1.list hq
    refine call_enumerate_list p'.isList fun h' he hit hsz hk => wpAny_pyIter_enum he ?_
    exact ⟨_, _, _, _, H1, rfl, I1.kept (t' := s1.toks) hk, turn_enum a (s1.heap.objs.size + 1) s1.heap.objs.size, ⟨⟨.none, he⟩, hit, Nat.succ_ne_self _⟩, fresh, q⟩
  · obtain ⟨its, rv, p', hz⟩ := I1.tuple hq
    have la : a < s1.heap.objs.size := let ⟨o, g, _⟩ := (p' : s1.heap.IsTuple a its.toArray); Heap.lt_size g
    refine DLM.enum_new (begins_tuple a its.toArray) p' fun h' he ho hk => wpAny_pyIter_enum he ?_
    exact ⟨_, _, _, _, H1, rfl, I1.kept (t' := s1.toks) hk, turn_enumT a (s1.heap.objs.size + 1) s1.heap.objs.size (Nat.succ_ne_self _) (Nat.ne_of_gt (Nat.lt_succ_of_lt la)) (Nat.ne_of_lt la), ⟨⟨.none, he⟩, ⟨_, ho, rfl, rfl⟩⟩, fresh, q⟩
end DL
namespace DL
open PySem L2
section
variable {K : PySem.W.Frag} {Hf : Hp}
theorem itOk_enumL {a : Addr} {us : List V} {ds : List PyData} (h1 : SqL K Hf a us) (d1 : DpAll K Hf us ds) : ItOk K Hf (Ite K a) (enumD 0 ds) := by
  have l1 := DpAll.length d1
  refine ⟨fun i Hf2 H2 e1 e2 n => ?_, fun i Hf2 H2 e1 e2 n => ?_, fun i Hf2 H2 x H3 d e1 e2 n y => ?_⟩
  · rw [enumD_len] at n
    exact ⟨us, (e1.trans e2).seq h1, by omega⟩
  · rw [enumD_len] at n
    exact ⟨us, us[i]'(by omega), (e1.trans e2).seq h1, List.getElem?_eq_getElem _⟩
  · obtain ⟨T, u, rfl, hT, rfl, g1⟩ := y
    obtain ⟨dx, f1, rfl⟩ := enumD_get n
    obtain ⟨u', k1, k2⟩ := DpAll.get d1 f1
    have := g1 us ((e1.trans e2).seq h1)
    rw [k1] at this; cases this
    rw [Nat.zero_add]
    exact yld_pair e2 hT (.int _) (dp_mono e1 _ _ k2)
theorem itOk_enumT {a : Addr} {us : List V} {ds : List PyData} (h1 : SqT K Hf a us) (d1 : DpAll K Hf us ds) : ItOk K Hf (IteT K a) (enumD 0 ds) := by
  have l1 := DpAll.length d1
  refine ⟨fun i Hf2 H2 e1 e2 n => ?_, fun i Hf2 H2 e1 e2 n => ?_, fun i Hf2 H2 x H3 d e1 e2 n y => ?_⟩
  · rw [enumD_len] at n
    exact ⟨us, sqT_mono (e1.trans e2) h1, by omega⟩
  · rw [enumD_len] at n
    exact ⟨us, us[i]'(by omega), sqT_mono (e1.trans e2) h1, List.getElem?_eq_getElem _⟩
  · obtain ⟨T, u, rfl, hT, rfl, g1⟩ := y
    obtain ⟨dx, f1, rfl⟩ := enumD_get n
    obtain ⟨u', k1, k2⟩ := DpAll.get d1 f1
    have := g1 us (sqT_mono (e1.trans e2) h1)
    rw [k1] at this; cases this
    rw [Nat.zero_add]
    exact yld_pair e2 hT (.int _) (dp_mono e1 _ _ k2)
end
section
variable {X : Cx} {pos : Pos}
def wEnum (wa : WA) : WI := fun ρ Q => wa ρ fun xs ρ1 => match xs with
  | [.dat (.list ds)] => Q (enumD 0 ds) ρ1
  | [.dat (.tuple ds)] => Q (enumD 0 ds) ρ1
  | _ => False
theorem xi_enum {e : Expr} {ta : TA} {wa : WA} {p tpos : Pos} {elts : List Expr} {kk : Nat} (hg : Gl X "enumerate") (hm : X.mg "enumerate" = none) (ha : XA X [e] ta wa) (hs : starEach [e] X.env = [(false, eval e X.env)] := by rfl) :
    XI X (.Tuple elts kk tpos) (.Call (.Name "enumerate" p) [e] [] pos) (iEnumA X.K ta) (wEnum wa) :=
  ⟨pi_enumA hg hm ha.pa hs, fun Hf H σ ρ Q R E hw c => ha.so Hf H σ ρ _ _ E hw fun vs Hf1 H1 ds ρ1 s1 r1 q1 => by
    split at q1
    · obtain ⟨v, rfl, h1⟩ := avs1 r1
      cases h1 with
      | lst a1 a2 => exact ⟨_, _, rfl, .inl ⟨s1.er.ex.seq a1, c _ Hf1 H1 ρ1 _ s1 (itOk_enumL a1 a2) q1⟩⟩
    · obtain ⟨v, rfl, h1⟩ := avs1 r1
      cases h1 with
      | tup a1 a2 => exact ⟨_, _, rfl, .inr ⟨tupS s1.er.ex a1, c _ Hf1 H1 ρ1 _ s1 (itOk_enumT (.inl (.inl a1)) a2) q1⟩⟩
    · exact q1.elim⟩
def kEnum (Q : List PyData → Den → Prop) : List DV → Den → Prop := fun xs ρ1 => match xs with
  | [.dat (.list ds)] => Q (enumD 0 ds) ρ1
  | [.dat (.tuple ds)] => Q (enumD 0 ds) ρ1
  | _ => False
theorem ev_enum {wa : WA} {ρ : Den} {Q : List PyData → Den → Prop} (h : wa ρ (kEnum Q)) : wEnum wa ρ Q := h
theorem ev_kEnum_l {ds : List PyData} {ρ : Den} {Q : List PyData → Den → Prop} (h : Q (enumD 0 ds) ρ) : kEnum Q [.dat (.list ds)] ρ := h
theorem ev_kEnum_t {ds : List PyData} {ρ : Den} {Q : List PyData → Den → Prop} (h : Q (enumD 0 ds) ρ) : kEnum Q [.dat (.tuple ds)] ρ := h
end
end DL
end
section
set_option Elab.async false
set_option linter.all false
set_option maxRecDepth 100000
set_option maxHeartbeats 2000000
/-! {k: v}, k a tuple -/
namespace DL
open PySem L2
section
variable {K : PySem.W.Frag} {σ : St} {Hf H Hf1 H1 : Hp} {ρ ρ1 : Den}
/-- a new object that nobody holds changes -/
theorem st2_mutV {p : Addr} {o : HO} (E : ER K Hf H σ ρ) (s : St2 K σ Hf H ρ Hf1 H1 ρ1) (hn : H p = none) (h1 : Hf1 p = none) : St2 K σ Hf H ρ Hf1 (upd H1 p o) ρ1 := by
  have nO : ¬ Ow σ ρ p := fun z => (E.ow z).1 hn
  refine ⟨⟨s.st.fx, fun b x q n => ?_, fun b q => ?_, s.st.nf⟩, ⟨s.er.len, fun b x q => ?_, fun i d q => ?_, s.er.dj⟩, s.lo, s.ar⟩
  · rw [upd_ne (show b ≠ p from fun z => by rw [z, hn] at q; cases q)]; exact s.st.fr b x q n
  · by_cases z : b = p
    · rw [z]; exact hn
    · rw [upd_ne z] at q; exact s.st.al b q
  · have z : b ≠ p := fun z => by rw [z, h1] at q; cases q
    rw [upd_ne z]; exact s.er.ex b x q
  · obtain ⟨u, g1, g2⟩ := s.er.sl i d q
    refine ⟨u, g1, vr_keep g2 (Same.refl _) fun b eb oe => ⟨fun z => z, fun x z => ?_⟩⟩
    subst eb
    have nb : b ≠ p := fun z => nO (s.lo p ⟨i, d, q, oe, z ▸ g1⟩)
    rw [upd_ne nb]; exact z
theorem newO_stays {p : Addr} {o : HO} (E : ER K Hf H σ ρ) (hn : H p = none) (hm : ∀ ys, o ≠ .tup ys) (s : St2 K σ Hf (upd H p o) ρ Hf1 H1 ρ1) : H1 p = some o ∧ Hf1 p = none := by
  have nO : ¬ Ow σ ρ p := fun z => (E.ow z).1 hn
  refine ⟨s.st.fr p o upd_same nO, ?_⟩
  cases z : Hf1 p with
  | none => rfl
  | some u =>
    rcases s.st.nf p u z (E.hf_none hn) with y | y | ⟨ys, y⟩
    · rw [upd_same] at y; cases y
    · exact absurd y nO
    · rw [upd_same] at y; exact absurd (Option.some.inj y) (hm ys)
end
def tDisp1 (tk tv : TE) : TE := fun σ H Q => ∀ p, H p = none → tPairs [(tk, tv)] σ (upd H p (.dT [])) fun ps H2 => H2 p = some (.dT []) ∧ ∃ (k : List Key) (b : Addr) (y : V), ps = [(.ref b, y)] ∧ H2 b = some (.tup (k.map kV)) ∧ Q (.ref p) (upd H2 p (.dT [(k, y)]))
section
variable {X : Cx} {pos : Pos}
theorem pe_disp1 {k v : Expr} {tk tv : TE} (hu : X.A.units + 64 < cLine) (hk : PE X k tk) (hv : PE X v tv) (hs : (evalEachOpt [some k] X.env).zip ((evalEach [v] X.env).map fun v => do let x ← v; standAt pos; pure x) = (pairTrees [some k] [v] X.env pos).map fun p => (some p.1, p.2) := by rfl) (hl : (pairTrees [some k] [v] X.env pos).length = 1 := by rfl) : PE X (.Dict [some k] [v] pos) (tDisp1 tk tv) := by
  refine ⟨fun pins s σ H Q I q => ?_⟩
  have hn := I.hok.fresh (Nat.le_refl s.heap.objs.size)
  have I1 := I.laid (a := s.heap.objs.size) (o := .dT []) (h' := s.heap.push { cls := .type "dict", data := .dict #[] }) (t' := s.toks) (fun _ _ z => Heap.get?_push_of_some _ z) (Nat.le_refl _) (dt_empty s.heap I.big)
  have run := (pps_cons (pos := pos) hk hv (pps_nil (X := X) (pos := pos))).run pins _ σ _ _ I1 (q _ hn)
  rw [arm_eval_Dict, hs, dictDisplay_pairs _ (by intro z; rw [z] at hl; cases hl) (by omega)]
  refine wpAny_bind (wpAny_standAt (wpAny_bind (wpAny_subDictH (knd := tupleKind (mixKind X.prog X.w)) (Q := fun d s' => wpAny (model X.prog X.w) X.A (pure (Value.ref d)) (EP X pins σ Q) X.xe s') (show X.A.units < cLine by omega) (by omega) (thn run fun ws s2 ⟨ps, H2, I2, rel, e, k, b, y, ep, eb, q2⟩ => ?_))))
  subst ep
  obtain ⟨⟨u, w⟩, rfl, ru, rw'⟩ : ∃ r, ws = [r] ∧ RelV (.ref b) r.1 ∧ RelV y r.2 := by
    cases rel with
    | cons r t => cases t; exact ⟨_, rfl, r⟩
  obtain rfl : u = Value.ref b := ru
  obtain ⟨z, hd, xs, r0, dd⟩ := dt_of I2.hok e
  cases r0
  refine ⟨[(k, b, w)], ⟨rfl, rfl, key_of I2.hok eb, trivial⟩, dd, fun h' tk' dd' hs' => wpAny_pure ⟨.ref s.heap.objs.size, _, ?_, rfl, q2⟩⟩
  obtain ⟨q, es, ep, hq, h2, h3, h4, _, h5⟩ := dd'
  refine d_write I2 (by rw [e]; exact True.intro) hs' ⟨q, hq⟩ ⟨by show 1 ≤ sizeLine; decide, hd, _, Paired.cons ⟨rfl, ?_, rw'⟩ .nil, q, es, ep, hq, h2, h3, h4, h5⟩
  rw [upd_ne (ne_of eb e (fun z => nomatch z))]
  exact eb
def wDisp1 (wk wv : WE) : WE := fun ρ Q => wk ρ fun x ρ1 => wv ρ1 fun y ρ2 => match x, y with
  | .dat t, .dat d => match keyOfD t with
    | some k => Q (.dic [(k, d)]) ρ2
    | none => False
  | _, _ => False
theorem xe_disp1 {k v : Expr} {tk tv : TE} {wk wv : WE} (hu : X.A.units + 64 < cLine) (hk : XE X k tk wk) (hv : XE X v tv wv) (hs : (evalEachOpt [some k] X.env).zip ((evalEach [v] X.env).map fun v => do let x ← v; standAt pos; pure x) = (pairTrees [some k] [v] X.env pos).map fun p => (some p.1, p.2) := by rfl) (hl : (pairTrees [some k] [v] X.env pos).length = 1 := by rfl) : XE X (.Dict [some k] [v] pos) (tDisp1 tk tv) (wDisp1 wk wv) :=
  ⟨pe_disp1 hu hk.pe hv.pe hs hl, fun Hf H σ ρ Q Q' E hw c p hp => by
    have s0 := st2_newO (o := .dT []) E hp
    refine hk.so Hf _ σ ρ _ _ s0.er hw fun x Hf1 H1 dx ρ1 s1 r1 q1 => ?_
    refine hv.so Hf1 H1 σ ρ1 _ _ s1.er q1 fun y Hf2 H2 dy ρ2 s2 r2 q2 => ?_
    split at q2
    · rename_i t d
      split at q2
      · rename_i key ht
        have s12 := s1.trans s2
        obtain ⟨e1, e2⟩ := newO_stays E hp (fun _ z => by cases z) s12
        obtain ⟨b, rfl, hb⟩ := key_dp r1.1 ht
        refine ⟨e1, key, b, y, rfl, s2.er.ex _ _ (s2.st.fx _ _ hb), ?_⟩
        have s3 := st2_mutV (o := .dT [(key, y)]) E (s0.trans s12) hp e2
        exact c (.ref p) Hf2 _ (.dic [(key, d)]) ρ2 s3 ⟨⟨p, rfl, e2, [(key, y)], upd_same, .cons ⟨rfl, r2.1⟩ .nil⟩, fun _ a e => by cases e; exact hp⟩ q2
      · exact q2.elim
    · exact q2.elim⟩
def kDisp2 (x : DV) (Q : DV → Den → Prop) : DV → Den → Prop := fun y ρ2 => match x, y with
  | .dat t, .dat d => match keyOfD t with
    | some k => Q (.dic [(k, d)]) ρ2
    | none => False
  | _, _ => False
def kDisp1 (wv : WE) (Q : DV → Den → Prop) : DV → Den → Prop := fun x ρ1 => wv ρ1 (kDisp2 x Q)
theorem ev_disp1 {wk wv : WE} {ρ : Den} {Q : DV → Den → Prop} (h : wk ρ (kDisp1 wv Q)) : wDisp1 wk wv ρ Q := h
theorem ev_kDisp1 {wv : WE} {x : DV} {ρ : Den} {Q : DV → Den → Prop} (h : wv ρ (kDisp2 x Q)) : kDisp1 wv Q x ρ := h
theorem ev_kDisp2 {t d : PyData} {k : List Key} {ρ : Den} {Q : DV → Den → Prop} (e : keyOfD t = some k) (h : Q (.dic [(k, d)]) ρ) : kDisp2 (.dat t) Q (.dat d) ρ := by
  unfold kDisp2; dsimp only; rw [e]; exact h
end
end DL
end
section
set_option Elab.async false
set_option linter.all false
set_option maxRecDepth 100000
set_option maxHeartbeats 2000000
/-! sorted(d), d a dict whose keys are tuples -/
namespace DLM
open PySem PySem.W PyProof.Rows PySem.Calls L2
section
variable {prog : Program} {w : World} {A : Around} {E : Value → Shared → Prop} {s : Shared}
theorem sortedK {T : String} {r d : Addr} {n : Nat} {P : Nat → Value → Prop} {OK : Heap → Prop} {β : Type} {bs : List β} {enc : β → PyData} {R : Value → β → Prop} {Q : Value → Shared → Prop} (K : KdlSrc prog w T r d n P OK) (hh : A.handled = none) (hok : OK s.heap) (hn : n ≤ sizeLine)
    (hacc : ∀ vs : List Value, vs.length = n → (∀ j v, vs[j]? = some v → P j v) → EachIs R vs bs ∧ EachIs (fun v b => ∃ as, Reads s.heap v (enc b) as) vs bs) (hal : AllAlike (bs.map enc)) (hk : Sortable (bs.map enc)) (hu : ∀ b, b ∈ bs → A.units + 2 + (enc b).depth < cLine)
    (h : ∀ (h1 h2 : Heap) (tk : Nat) (out : List Value), (∀ b o, s.heap.get? b = some o → h1.get? b = some o) → (∀ b o, h1.get? b = some o → h2.get? b = some o) → (∃ e, h2.get? h1.objs.size = some (seqObj "list" out.toArray e)) → out.length = bs.length → EachIs R out (bs.mergeSort (dataLe false enc)) → Q (.ref h1.objs.size) { s with heap := h2, toks := tk }) :
    wpAny (model prog w) A (call (.builtin "sorted") [.ref r]) Q E s := by
  refine call_function_entry_kw kind_sorted plain_sorted entry_sorted (args_sorted1 _) ?_
  unfold Builtin.«sorted»
  refine wpAny_bind (m := checkCount "sorted" 1 1 _) (wpAny_pure (wpAny_bind (kdu_collect (A := A.in1) K hh hok hn fun h1 tk acc kp it => ?_)))
  have hl : acc.toList.length = n := by rw [Array.length_toList]; exact it.1
  obtain ⟨eR, eD⟩ := hacc acc.toList hl fun j v e => it.2 j v (by rw [← Array.getElem?_toList]; exact e)
  have lz : acc.toList.length ≤ sizeLine := by omega
  refine wpAny_bind (wpAny_newList ?_ lz)
  have at2 : (h1.push (seqObj "list" acc.toList.toArray 0)).get? h1.objs.size = some (seqObj "list" acc.toList.toArray 0) := Heap.get?_push_size _ rfl
  have old2 : ∀ b o, h1.get? b = some o → (sortingHeap (h1.push (seqObj "list" acc.toList.toArray 0)) h1.objs.size acc.toList).get? b = some o := fun b o e => sortingHeap_old (Nat.ne_of_lt (Heap.lt_size e)) (Heap.get?_push_of_some _ e)
  have er' : EachIs (fun v b => ∃ as, Reads (sortingHeap (h1.push (seqObj "list" acc.toList.toArray 0)) h1.objs.size acc.toList) v (enc b) as) acc.toList bs := eD.mono fun _ _ ⟨as, q⟩ => ⟨as, PyProof.Rows.Reads.keeps (fun b o e => old2 b o (kp b o e)) q⟩
  have S := SortsAt.data (prog := prog) (w := w) (A := A.in1.in1) (s := { s with heap := sortingHeap (h1.push (seqObj "list" acc.toList.toArray 0)) h1.objs.size acc.toList, toks := tk }) (each_map (R := fun v d => ∃ as, Reads (sortingHeap (h1.push (seqObj "list" acc.toList.toArray 0)) h1.objs.size acc.toList) v d as) enc er') hal hk (bound_map hu)
  refine wpAny_bind (wpAny_holding (wpAny_call_entry_kw slot_list_sort ⟨_, at2, rfl⟩ entry_list_sort (wpAny_mono (list_sort_vals (P := fun f s' => f = .done (.ret .none) ∧ Q (.ref h1.objs.size) s') (s := { s with heap := h1.push (seqObj "list" acc.toList.toArray 0), toks := tk }) at2 S lz ⟨rfl, ?_⟩) (fun f s' hf => ?_) fun _ _ e => e) (args_list_sort _)))
  · refine h h1 _ tk _ kp (fun b o e => ?_) (sortedHeap_at at2) ?_ (sortVals_data false eR er' hal)
    · rw [sortedHeap_old (Nat.ne_of_lt (Heap.lt_size e)) (by rw [size_push']; exact Nat.lt_succ_of_lt (Heap.lt_size e))]
      exact Heap.get?_push_of_some _ e
    · rw [sortVals_length false rfl]; exact eR.length
  · obtain ⟨rfl, hq⟩ := hf
    exact ⟨_, rfl, wpAny_pure ⟨_, rfl, hq⟩⟩
end
end DLM
namespace DL
open PySem L2
section
variable {X : Cx} {pos : Pos}
def KeyAt (H : Hp) (v : V) (k : List Key) : Prop := ∃ c, v = .ref c ∧ H c = some (.tup (k.map kV))
def rSortK (K : PySem.W.Frag) : List V → Hp → VK → Prop := fun vs H Q => ∃ (a : Addr) (ws : List (List Key × V)), vs = [V.ref a] ∧ Rd H a (.dT ws) ∧ PySem.W.AllAlike (ws.map fun p => keyT p.1) ∧ PySem.W.Sortable (ws.map fun p => keyT p.1) ∧
  ∀ (ys : List V) (ks : List (List Key)) p, Paired (KeyAt H) ys ks → ks.map keyT = sortD (ws.map fun p => keyT p.1) → H p = none → Q (.ref p) (upd H p (.lst ys))
theorem paired_of {α β : Type} {F : α → β → Prop} : ∀ {l : List α} {m : List β}, l.length = m.length → (∀ (i : Nat) a b, l[i]? = some a → m[i]? = some b → F a b) → Paired F l m
  | [], [], _, _ => .nil
  | a :: l, b :: m, hl, h => .cons (h 0 a b rfl rfl) (paired_of (by simpa using hl) fun i x y e1 e2 => h (i + 1) x y (by simpa using e1) (by simpa using e2))
  | [], _ :: _, hl, _ => by simp at hl
  | _ :: _, [], hl, _ => by simp at hl
theorem each_of' {α β : Type} {F : α → β → Prop} : ∀ {l : List α} {m : List β}, Paired F l m → PySem.W.EachIs F l m
  | _, _, .nil => .nil
  | _, _, .cons h t => .cons h (each_of' t)
theorem of_each' {H : Hp} : ∀ {us : List Value} {ks : List (List Key)}, PySem.W.EachIs (fun u k => ∃ c, u = Value.ref c ∧ H c = some (.tup (k.map kV))) us ks → ∃ ys, Vals ys us ∧ Paired (KeyAt H) ys ks
  | _, _, .nil => ⟨[], .nil, .nil⟩
  | _, _, .cons ⟨c, e, h⟩ t => by
    obtain ⟨ys, h1, h2⟩ := of_each' t
    exact ⟨.ref c :: ys, .cons e h1, .cons ⟨c, rfl, h⟩ h2⟩
theorem key_depth (k : List Key) : (keyT k).depth ≤ 60 := by
  have all : ∀ k : List Key, PyData.depthAll (k.map kD) ≤ 1 := by
    intro k
    induction k with
    | nil => simp [PyData.depthAll]
    | cons x r ih =>
      rw [List.map_cons, PyData.depthAll.eq_2]
      have : (kD x).depth ≤ 1 := by cases x <;> simp [kD, PyData.depth]
      omega
  have := all k
  rw [PyData.depth.eq_2]; omega
theorem key_noD (k : List Key) : noD (keyT k) = true := by
  have all : ∀ k : List Key, noDAll (k.map kD) = true := by
    intro k
    induction k with
    | nil => rfl
    | cons x r ih =>
      show (noD (kD x) && noDAll (r.map kD)) = true
      rw [ih]; cases x <;> rfl
  exact all k
theorem key_reads {pins : List (Addr × Obj)} {σ : St} {H : Hp} {s : Shared} (I : Inv X pins σ H s) {c : Addr} {k : List Key} (h : H c = some (.tup (k.map kV))) : ∃ as, Reads s.heap (.ref c) (keyT k) as :=
  L2.Dp.reads I _ _ _ ((Dp.tup (K := X.K) h (dpAll_key k)).old (key_noD k)) rfl
theorem cr_sortK (hc : X.calm = true) (hu : X.A.units + 64 < cLine) : CallR X (.builtin "sorted") (rSortK X.K) := by
  intro pins s σ H vs us Q I r h
  obtain ⟨a, ws, rfl, hd, hal, hk, q⟩ := h
  obtain ⟨u, rfl, ru⟩ := vals1 r
  obtain rfl : u = Value.ref a := ru
  obtain ⟨z, hs, xs, pr, o, es, ep, ho, hx, hdt, he, hn⟩ := (show ObjOk X.prog X.w H s.heap a (.dT ws) from hd.ok I.hok)
  have l1 : es.size = xs.length := size_of_entries he
  have l2 : ws.length = xs.length := Paired.length pr
  have em : (ws.map (·.1)).map keyT = ws.map fun p => keyT p.1 := by rw [List.map_map]; rfl
  refine DLM.sortedK (bs := ws.map (·.1)) (enc := keyT) (R := fun u k => ∃ c, u = Value.ref c ∧ H c = some (.tup (k.map kV))) (kdl_raw hs hx hdt) (I.ok.hd hc) ho (by omega) (fun us hl hP => ?_) (by rw [em]; exact hal) (by rw [em]; exact hk) (fun k _ => by have := key_depth k; omega) fun h1 h2 tk out kp kp2 at2 lo eo => ?_
  · have pd : Paired (fun u k => ∃ c, u = Value.ref c ∧ H c = some (.tup (k.map kV))) us (ws.map (·.1)) := paired_of (by rw [List.length_map]; omega) fun i u k e1 e2 => by
      obtain ⟨en, g1, rfl⟩ := hP i u e1
      rw [entry_at he i] at g1
      obtain ⟨x, hx1, rfl⟩ := Option.map_eq_some_iff.mp g1
      rw [List.getElem?_map] at e2
      obtain ⟨p, hp1, rfl⟩ := Option.map_eq_some_iff.mp e2
      obtain ⟨x', hx2, rel⟩ := paired_at pr hp1
      rw [hx1] at hx2; cases hx2
      exact ⟨_, rfl, rel.2.1⟩
    refine ⟨each_of' pd, (each_of' pd).mono fun u k ⟨c, e, hh⟩ => ?_⟩
    subst e
    exact key_reads I hh
  · obtain ⟨ys, y1, y2⟩ := of_each' eo
    have I1 : Inv X pins σ H { s with heap := h1, toks := s.toks } := I.kept (t' := s.toks) kp
    obtain ⟨e, g⟩ := at2
    have hlen : ys.length ≤ sizeLine := by rw [y1.length, lo, List.length_map]; exact z
    refine ⟨.ref _, upd H h1.objs.size (.lst ys), I1.laid (t' := tk) kp2 (Nat.le_refl _) ⟨hlen, out, e, y1, g⟩, rfl, q ys _ _ y2 ?_ (I1.hok.fresh (Nat.le_refl _))⟩
    unfold sortD
    rw [← em]
    refine List.map_mergeSort ?_
    intro x _ y _
    rfl
theorem Grow.trans {Hf H Hf1 H1 Hf2 H2 : Hp} (g : Grow Hf H Hf1 H1) (k : Grow Hf1 H1 Hf2 H2) : Grow Hf H Hf2 H2 := by
  refine ⟨g.fx.trans k.fx, g.kp.trans k.kp, k.ex, fun b o h n => ?_⟩
  cases z : Hf1 b with
  | some u => exact g.nf b u z n
  | none =>
    rcases k.nf b o h z with y | ⟨ys, y⟩
    · cases x : H b with
      | none => exact .inl rfl
      | some u => rw [g.kp b u x] at y; cases y
    · cases x : H b with
      | none => exact .inl rfl
      | some u =>
        rw [g.kp b u x] at y; cases y
        exact .inr ⟨ys, rfl⟩
/-- tracked keys are taken in, all of them -/
theorem grow_keys {K : PySem.W.Frag} {H : Hp} : ∀ {ys : List V} {ks : List (List Key)} {Hf : Hp}, Same Hf H → Paired (KeyAt H) ys ks → ∃ Hf', Grow Hf H Hf' H ∧ DpAll K Hf' ys (ks.map keyT)
  | _, _, Hf, e, .nil => ⟨Hf, .refl e, .nil⟩
  | _, _, Hf, e, .cons ⟨c, ec, h⟩ t => by
    subst ec
    obtain ⟨Hf1, g1, h1⟩ := Grow.tup e h
    obtain ⟨Hf2, g2, h2⟩ := grow_keys g1.ex t
    exact ⟨Hf2, g1.trans g2, .cons (.tup (g2.fx _ _ h1) (dpAll_key _)) h2⟩
def oSortedD : WC := fun xs ρ Q => match xs with
  | [x] => match dicOf ρ x with
    | some kvs => PySem.W.AllAlike (kvs.map fun p => keyT p.1) ∧ PySem.W.Sortable (kvs.map fun p => keyT p.1) ∧ Q (.lst (sortD (kvs.map fun p => keyT p.1))) ρ
    | none => False
  | _ => False
theorem xc_sortedD (hc : X.calm = true) (hu : X.A.units + 64 < cLine) : XC X (.builtin "sorted") (rSortK X.K) oSortedD :=
  ⟨cr_sortK hc hu, fun Hf H σ ρ Q Q' vs ds E ha ho c => by
    unfold oSortedD at ho
    split at ho
    · rename_i x
      obtain ⟨v, rfl, hv⟩ := avs1 ha
      split at ho
      · rename_i kvs hk
        obtain ⟨a, ws, rfl, g1, g2⟩ := dic_of E hv.vs hk
        have ek : (kvs.map fun p => keyT p.1) = ws.map fun p => keyT p.1 := g2.keys keyT
        rw [ek] at ho
        refine ⟨a, ws, rfl, g1, ho.1, ho.2.1, fun ys ks p py es hp => ?_⟩
        obtain ⟨Hf', gr, hy⟩ := grow_keys (K := X.K) E.ex py
        have s1 := grow_st2 E gr
        rw [es] at hy
        exact (c.step s1).lst s1.er hy hp ho.2.2
      · exact ho.elim
    · exact ho.elim⟩
theorem ev_sortedD {x : DV} {ρ : Den} {Q : DV → Den → Prop} {kvs : List (List Key × PyData)} (e : dicOf ρ x = some kvs) (h1 : PySem.W.AllAlike (kvs.map fun p => keyT p.1)) (h2 : PySem.W.Sortable (kvs.map fun p => keyT p.1)) (h : Q (.lst (sortD (kvs.map fun p => keyT p.1))) ρ) : kCall oSortedD Q [x] ρ := by
  unfold kCall oSortedD; dsimp only; rw [e]; exact ⟨h1, h2, h⟩
end
end DL
theorem L2.Room.units2 {k : Nat} {A : PySem.Around} (r : L2.Room k A) : A.units + 128 < PySem.cLine := by have := r.un; omega
end
section
set_option Elab.async false
set_option linter.all false
set_option maxRecDepth 100000
set_option maxHeartbeats 2000000
/-! comprehensions of two clauses: the list that is made stands as one more slot behind all others -/
namespace DL
open PySem L2
section
variable {K : PySem.W.Frag} {σ σ2 : St} {Hf H Hf1 H1 : Hp} {ρ ρ1 ρ2 : Den} {D : Addr} {acc : List PyData} {us : List V}
theorem app_get {α : Type} {l : List α} {x : α} {i : Nat} {y : α} (h : (l ++ [x])[i]? = some y) : (i < l.length ∧ l[i]? = some y) ∨ (i = l.length ∧ y = x) := by
  by_cases hi : i < l.length
  · rw [List.getElem?_append_left hi] at h; exact .inl ⟨hi, h⟩
  · by_cases e : i = l.length
    · subst e
      simp at h
      exact .inr ⟨rfl, h.symm⟩
    · rw [List.getElem?_eq_none (by simp; omega)] at h; cases h
theorem app_left {α : Type} {l : List α} {x : α} {i : Nat} {y : α} (h : l[i]? = some y) : (l ++ [x])[i]? = some y := by
  rw [List.getElem?_append_left (List.getElem?_eq_some_iff.mp h).1]; exact h
theorem app_last {α : Type} {l : List α} {x : α} : (l ++ [x])[l.length]? = some x := by simp
theorem er_ext (E : ER K Hf H σ ρ) (hD : H D = some (.lst us)) (hf : Hf D = none) (ha : DpAll K Hf us acc) (nO : ¬ Ow σ ρ D) : ER K Hf H (σ ++ [some (.ref D)]) (ρ ++ [some (.lst acc)]) := by
  refine ⟨by simp [E.len], E.ex, fun i d h => ?_, fun i j d e a h1 h2 o1 o2 s1 s2 => ?_⟩
  · rcases app_get h with ⟨_, h⟩ | ⟨e, h⟩
    · obtain ⟨v, g1, g2⟩ := E.sl i d h
      exact ⟨v, app_left g1, g2⟩
    · cases h
      rw [e, ← E.len]
      exact ⟨.ref D, app_last, D, rfl, hf, us, hD, ha⟩
  · have at' : ∀ {i : Nat} {d : DV}, (ρ ++ [some (.lst acc)])[i]? = some (some d) → d.isOwn = true → (σ ++ [some (.ref D)])[i]? = some (some (.ref a)) → (Ow σ ρ a ∧ ρ[i]? = some (some d) ∧ σ[i]? = some (some (.ref a))) ∨ (i = ρ.length ∧ a = D) := fun {i d} h o s => by
      rcases app_get h with ⟨l, h⟩ | ⟨e, h⟩
      · rcases app_get s with ⟨_, s⟩ | ⟨e, s⟩
        · exact .inl ⟨⟨i, d, h, o, s⟩, h, s⟩
        · rw [E.len] at e; omega
      · rw [e, ← E.len, app_last] at s
        cases s
        exact .inr ⟨e, rfl⟩
    rcases at' h1 o1 s1 with ⟨w1, g1, g2⟩ | ⟨e1, e2⟩
    · rcases at' h2 o2 s2 with ⟨w2, f1, f2⟩ | ⟨f1, f2⟩
      · exact E.dj i j d e a g1 f1 o1 o2 g2 f2
      · subst f2; exact absurd w1 nO
    · rcases at' h2 o2 s2 with ⟨w2, f1, f2⟩ | ⟨f1, f2⟩
      · subst e2; exact absurd w2 nO
      · rw [e1, f1]
theorem ow_ext (hl : σ.length = ρ.length) (a : Addr) : Ow (σ ++ [some (.ref D)]) (ρ ++ [some (.lst acc)]) a ↔ Ow σ ρ a ∨ a = D := by
  constructor
  · rintro ⟨i, d, h1, h2, h3⟩
    rcases app_get h1 with ⟨l, h⟩ | ⟨e, h⟩
    · rcases app_get h3 with ⟨_, s⟩ | ⟨e, s⟩
      · exact .inl ⟨i, d, h, h2, s⟩
      · rw [hl] at e; omega
    · rw [e, ← hl, app_last] at h3
      cases h3
      exact .inr rfl
  · rintro (⟨i, d, h1, h2, h3⟩ | rfl)
    · exact ⟨i, d, app_left h1, h2, app_left h3⟩
    · exact ⟨ρ.length, .lst acc, app_last, rfl, by rw [← hl]; exact app_last⟩
theorem er_last (E : ER K Hf H (σ ++ [some (.ref D)]) (ρ ++ [some (.lst acc)])) : ∃ us, H D = some (.lst us) ∧ Hf D = none ∧ DpAll K Hf us acc := by
  have hl : σ.length = ρ.length := by have := E.len; simpa using this
  obtain ⟨a, h1, h2, us, h3, h4⟩ := E.own (i := ρ.length) (d := .lst acc) app_last rfl
  rw [← hl, app_last] at h1
  cases h1
  exact ⟨us, h3, h2, h4⟩
theorem er_drop (E : ER K Hf H (σ ++ [some (.ref D)]) (ρ ++ [some (.lst acc)])) : ER K Hf H σ ρ ∧ ¬ Ow σ ρ D := by
  have hl : σ.length = ρ.length := by have := E.len; simpa using this
  refine ⟨⟨hl, E.ex, fun i d h => ?_, fun i j d e a h1 h2 o1 o2 s1 s2 => E.dj i j d e a (app_left h1) (app_left h2) o1 o2 (app_left s1) (app_left s2)⟩, ?_⟩
  · obtain ⟨v, g1, g2⟩ := E.sl i d (app_left h)
    rw [List.getElem?_append_left (by rw [hl]; exact (List.getElem?_eq_some_iff.mp h).1)] at g1
    exact ⟨v, g1, g2⟩
  · rintro ⟨i, d, h1, h2, h3⟩
    have := E.dj i ρ.length d (.lst acc) D (app_left h1) app_last h2 rfl (app_left h3) (by rw [← hl]; exact app_last)
    have l := (List.getElem?_eq_some_iff.mp h1).1
    omega
/-- a step, with the list beside it -/
theorem st2_ext (E : ER K Hf H (σ ++ [some (.ref D)]) (ρ ++ [some (.lst acc)])) (s : St2 K σ Hf H ρ Hf1 H1 ρ1) : St2 K (σ ++ [some (.ref D)]) Hf H (ρ ++ [some (.lst acc)]) Hf1 H1 (ρ1 ++ [some (.lst acc)]) := by
  obtain ⟨E0, nO⟩ := er_drop E
  obtain ⟨us, hD, hf, ha⟩ := er_last E
  have hD1 : H1 D = some (.lst us) := s.st.fr D _ hD nO
  have hf1 : Hf1 D = none := by
    cases z : Hf1 D with
    | none => rfl
    | some o =>
      rcases s.st.nf D o z hf with y | y | ⟨ys, y⟩
      · rw [hD] at y; cases y
      · exact absurd y nO
      · rw [hD] at y; cases y
  have nO1 : ¬ Ow σ ρ1 D := fun z => nO (s.lo D z)
  refine ⟨⟨s.st.fx, fun b o q n => s.st.fr b o q fun z => n ((ow_ext E0.len b).mpr (.inl z)), s.st.al, fun b o q n => (s.st.nf b o q n).imp id (.imp (fun z => (ow_ext E0.len b).mpr (.inl z)) id)⟩, er_ext s.er hD1 hf1 (dpAll_mono s.st.fx _ _ ha) nO1, fun a z => ?_, fun i => ?_⟩
  · rcases (ow_ext s.er.len a).mp z with z | z
    · exact (ow_ext E0.len a).mpr (.inl (s.lo a z))
    · exact (ow_ext E0.len a).mpr (.inr z)
  · have ll : ρ1.length = ρ.length := by rw [← s.er.len, E0.len]
    constructor
    · rintro ⟨xs, h⟩
      rcases app_get h with ⟨_, h⟩ | ⟨_, h⟩
      · obtain ⟨ys, q⟩ := (s.ar i).mp ⟨xs, h⟩
        exact ⟨ys, app_left q⟩
      · cases h
    · rintro ⟨xs, h⟩
      rcases app_get h with ⟨_, h⟩ | ⟨_, h⟩
      · obtain ⟨ys, q⟩ := (s.ar i).mpr ⟨xs, h⟩
        exact ⟨ys, app_left q⟩
      · cases h
/-- one item more -/
theorem st2_push (E : ER K Hf H (σ ++ [some (.ref D)]) (ρ ++ [some (.lst acc)])) (hD : H D = some (.lst us)) (ha : DpAll K Hf us acc) {y : V} {d : PyData} (hy : Dp K Hf y d) : St2 K (σ ++ [some (.ref D)]) Hf H (ρ ++ [some (.lst acc)]) Hf (upd H D (.lst (us ++ [y]))) (ρ ++ [some (.lst (acc ++ [d]))]) := by
  have hl : σ.length = ρ.length := by have := E.len; simpa using this
  have s := st2_own (b := false) (i := ρ.length) (ys := acc ++ [d]) E (by rw [← hl]; exact app_last) app_last (DpAll.app ha (.cons hy .nil))
  rw [show (ρ ++ [some (DV.lst acc)]).set ρ.length (some (mkO false (acc ++ [d]))) = ρ ++ [some (.lst (acc ++ [d]))] by rw [List.set_append_right _ _ (Nat.le_refl _), Nat.sub_self]; rfl] at s
  exact s
/-- the list alone is new: seen without it -/
theorem st2_unext (E : ER K Hf H σ ρ) (hn : H D = none) (s : St2 K (σ ++ [some (.ref D)]) Hf (upd H D (.lst [])) (ρ ++ [some (.lst [])]) Hf1 H1 (ρ1 ++ [some (.lst acc)])) : St2 K σ Hf H ρ Hf1 H1 ρ1 := by
  obtain ⟨E1, nO1⟩ := er_drop s.er
  have nO : ¬ Ow σ ρ D := fun z => (E.ow z).1 hn
  refine ⟨⟨s.st.fx, fun b o q n => ?_, fun b q => ?_, fun b o q n => ?_⟩, E1, fun a z => ?_, fun i => ?_⟩
  · have nb : b ≠ D := fun z => by rw [z, hn] at q; cases q
    exact s.st.fr b o (by rw [upd_ne nb]; exact q) fun z => by
      rcases (ow_ext E.len b).mp z with z | z
      · exact n z
      · exact nb z
  · have := s.st.al b q
    by_cases z : b = D
    · rw [z]; exact hn
    · rw [upd_ne z] at this; exact this
  · by_cases z : b = D
    · exact .inl (z ▸ hn)
    · rcases s.st.nf b o q n with y | y | ⟨ys, y⟩
      · rw [upd_ne z] at y; exact .inl y
      · rcases (ow_ext E.len b).mp y with y | y
        · exact .inr (.inl y)
        · exact absurd y z
      · rw [upd_ne z] at y; exact .inr (.inr ⟨ys, y⟩)
  · rcases (ow_ext E.len a).mp (s.lo a ((ow_ext E1.len a).mpr (.inl z))) with y | y
    · exact y
    · subst y; exact absurd z nO1
  · constructor
    · rintro ⟨xs, h⟩
      obtain ⟨ys, q⟩ := (s.ar i).mp ⟨xs, app_left h⟩
      rcases app_get q with ⟨_, q⟩ | ⟨_, q⟩
      · exact ⟨ys, q⟩
      · cases q
    · rintro ⟨xs, h⟩
      obtain ⟨ys, q⟩ := (s.ar i).mpr ⟨xs, app_left h⟩
      rcases app_get q with ⟨_, q⟩ | ⟨_, q⟩
      · exact ⟨ys, q⟩
      · cases q
end
end DL
end
section
set_option Elab.async false
set_option linter.all false
set_option maxRecDepth 100000
set_option maxHeartbeats 2000000
/-! comprehensions of two clauses -/
namespace DL
open PySem L2
section
variable {K : PySem.W.Frag} {σ σ2 : St} {Hf H Hf1 H1 : Hp} {ρ ρ2 ρ3 : Den} {vs S : List Nat} {D : Addr} {acc : List PyData}
theorem wipe_app {x : Option V} (h : ∀ i ∈ vs, i < σ.length) : wipe (σ ++ [x]) vs = wipe σ vs ++ [x] := by
  apply List.ext_getElem?
  intro i
  rw [wipe_get]
  by_cases z : i ∈ vs
  · have l := h i z
    rw [if_pos z, List.getElem?_append_left l, List.getElem?_append_left (by rw [wipe_length]; exact l), wipe_get, if_pos z]
  · rw [if_neg z]
    by_cases l : i < σ.length
    · rw [List.getElem?_append_left l, List.getElem?_append_left (by rw [wipe_length]; exact l), wipe_get, if_neg z]
    · rw [List.getElem?_append_right (by omega), List.getElem?_append_right (by rw [wipe_length]; omega), wipe_length]
theorem wipeD_app {x : Option DV} (h : ∀ i ∈ vs, i < ρ.length) : wipeD (ρ ++ [x]) vs = wipeD ρ vs ++ [x] := by
  apply List.ext_getElem?
  intro i
  rw [wipeD_get]
  by_cases z : i ∈ vs
  · have l := h i z
    rw [if_pos z, List.getElem?_append_left l, List.getElem?_append_left (by rw [wipeD_len]; exact l), wipeD_get, if_pos z]
  · rw [if_neg z]
    by_cases l : i < ρ.length
    · rw [List.getElem?_append_left l, List.getElem?_append_left (by rw [wipeD_len]; exact l), wipeD_get, if_neg z]
    · rw [List.getElem?_append_right (by omega), List.getElem?_append_right (by rw [wipeD_len]; omega), wipeD_len]
theorem restD_app {x y : Option DV} (hl : ρ3.length = ρ.length) (h : ∀ i ∈ vs, i < ρ.length) : restD (ρ ++ [x]) (ρ3 ++ [y]) vs = restD ρ ρ3 vs ++ [y] := by
  apply List.ext_getElem?
  intro i
  rw [restD_get (by simp [hl])]
  by_cases z : i ∈ vs
  · have l := h i z
    rw [if_pos z, List.getElem?_append_left l, List.getElem?_append_left (by rw [restD_len, hl]; exact l), restD_get hl, if_pos z]
  · rw [if_neg z]
    by_cases l : i < ρ3.length
    · rw [List.getElem?_append_left l, List.getElem?_append_left (by rw [restD_len]; exact l), restD_get hl, if_neg z]
    · rw [List.getElem?_append_right (by omega), List.getElem?_append_right (by rw [restD_len]; omega), restD_len]
theorem vsOk_app {x : Option DV} (h : vsOk ρ vs = true) : vsOk (ρ ++ [x]) vs = true := by
  refine List.all_eq_true.mpr fun i hi => ?_
  have q := List.all_eq_true.mp h i hi
  rw [List.getElem?_append_left (vsOk_at h hi).1]
  exact q
theorem ch_app {σ' : St} {ρ' : Den} {x : Option V} {y : Option DV} (hl : σ.length = ρ.length) (c : Ch K Hf S σ ρ σ' ρ') : Ch K Hf S (σ ++ [x]) (ρ ++ [y]) (σ' ++ [x]) (ρ' ++ [y]) := by
  have l1 : ρ'.length = ρ.length := c.lenD
  have l2 : σ'.length = ρ.length := c.len.trans l1
  have far : ∀ i : Nat, ¬ i < ρ.length → (σ' ++ [x])[i]? = (σ ++ [x])[i]? ∧ (ρ' ++ [y])[i]? = (ρ ++ [y])[i]? := fun i l => by
    rw [List.getElem?_append_right (by omega), List.getElem?_append_right (by omega), List.getElem?_append_right (by omega), List.getElem?_append_right (by omega), l1, l2, hl]
    exact ⟨rfl, rfl⟩
  refine ⟨by simp [l1, l2], by simp [l1], fun i hi => ?_, fun i hi => ?_⟩
  · by_cases l : i < ρ.length
    · rw [List.getElem?_append_left (by omega), List.getElem?_append_left (by omega), List.getElem?_append_left (by omega), List.getElem?_append_left (by omega)]
      exact c.out i hi
    · exact far i l
  · by_cases l : i < ρ.length
    · rw [List.getElem?_append_left (by omega), List.getElem?_append_left (by omega), List.getElem?_append_left (by omega), List.getElem?_append_left (by omega)]
      exact c.inn i hi
    · exact .inl (far i l)
/-- a turn, with the list beside it -/
theorem st2_turnX (E : ER K Hf H (σ ++ [some (.ref D)]) (ρ ++ [some (.lst acc)])) (ok : vsOk ρ vs = true) (c : Ch K Hf S (wipe σ vs) (wipeD ρ vs) σ2 ρ2) (hS : ∀ i ∈ S, i ∈ vs) :
    ER K Hf H (σ2 ++ [some (.ref D)]) (ρ2 ++ [some (.lst acc)]) ∧
    ∀ {Hf1 H1 : Hp} {ρ3 : Den} {acc' : List PyData}, St2 K (σ2 ++ [some (.ref D)]) Hf H (ρ2 ++ [some (.lst acc)]) Hf1 H1 (ρ3 ++ [some (.lst acc')]) → St2 K (σ ++ [some (.ref D)]) Hf H (ρ ++ [some (.lst acc)]) Hf1 H1 (restD ρ ρ3 vs ++ [some (.lst acc')]) := by
  have hl : σ.length = ρ.length := by have := E.len; simpa using this
  have hv : ∀ i ∈ vs, i < ρ.length := fun i hi => (vsOk_at ok hi).1
  have c2 : Ch K Hf S (wipe (σ ++ [some (.ref D)]) vs) (wipeD (ρ ++ [some (.lst acc)]) vs) (σ2 ++ [some (.ref D)]) (ρ2 ++ [some (.lst acc)]) := by
    rw [wipe_app (by rw [hl]; exact hv), wipeD_app hv]
    exact ch_app (by rw [wipe_length, wipeD_len]; exact hl) c
  refine ⟨((er_wipe E).ch c2).1, fun {Hf1 H1 ρ3 acc'} s => ?_⟩
  have l3 : ρ3.length = ρ.length := by
    have a1 := s.er.len
    have a2 := c.len
    have a3 := c.lenD
    rw [wipeD_len] at a3
    simp at a1
    omega
  have t := st2_turn (ρw := ρ2) E (vsOk_app ok) c2 hS s
  rw [restD_app l3 hv] at t
  exact t
end
/-- the second clause's turns -/
def lc2In (f1 : PyData → Den → Option Den) (wt1 : WT) (we : WE) (vs1 : List Nat) (N : List PyData → Den → Prop) : List PyData → List PyData → Den → Prop
  | [], acc, ρ => N acc ρ
  | x :: xs, acc, ρ => vsOk ρ vs1 = true ∧ match f1 x (wipeD ρ vs1) with
    | some ρ2 => wt1 ρ2 fun b ρ3 => if b = true then we ρ3 fun y ρ4 => match y with
        | .dat d => acc.length < sizeLine ∧ lc2In f1 wt1 we vs1 N xs (acc ++ [d]) (restD ρ ρ4 vs1)
        | .lst l => acc.length < sizeLine ∧ lc2In f1 wt1 we vs1 N xs (acc ++ [.list l]) (restD ρ ρ4 vs1)
        | _ => False
      else lc2In f1 wt1 we vs1 N xs acc (restD ρ ρ3 vs1)
    | none => False
def lc2Go (f : PyData → Den → Option Den) (wt : WT) (wi1 : WI) (f1 : PyData → Den → Option Den) (wt1 : WT) (we : WE) (vs vs1 : List Nat) (Q : DV → Den → Prop) : List PyData → List PyData → Den → Prop
  | [], acc, ρ => Q (.lst acc) ρ
  | x :: xs, acc, ρ => vsOk ρ vs = true ∧ match f x (wipeD ρ vs) with
    | some ρ2 => wt ρ2 fun b ρ3 => if b = true then wi1 ρ3 fun items1 ρ4 => lc2In f1 wt1 we vs1 (fun acc' ρ9 => lc2Go f wt wi1 f1 wt1 we vs vs1 Q xs acc' (restD ρ ρ9 vs)) items1 acc ρ4
      else lc2Go f wt wi1 f1 wt1 we vs vs1 Q xs acc (restD ρ ρ3 vs)
    | none => False
def wLc2 (wi : WI) (f : PyData → Den → Option Den) (wt : WT) (wi1 : WI) (f1 : PyData → Den → Option Den) (wt1 : WT) (we : WE) (vs vs1 : List Nat) : WE := fun ρ Q => wi ρ fun items ρ1 => lc2Go f wt wi1 f1 wt1 we vs vs1 Q items [] ρ1
section
variable {X : Cx} {pos : Pos}
theorem lc2_so {tg iter : Expr} {wi wi1 : TI} {g g1 : TG} {tt tt1 : TT} {te : TE} {w w1 : WI} {f f1 : PyData → Den → Option Den} {S S1 vs vs1 : List Nat} {wt wt1 : WT} {we : WE} (hi : XI X tg iter wi w)
    (hg : ∀ Hf H σ ρ v d ρ' (Q : St → Hp → Prop), Same Hf H → Dp X.K Hf v d → f d ρ = some ρ' → σ.length = ρ.length → (∀ σ', Ch X.K Hf S σ ρ σ' ρ' → Q σ' H) → g v σ H Q) (hS : ∀ i ∈ S, i ∈ vs)
    (ht : ∀ Hf H σ ρ Q Q', ER X.K Hf H σ ρ → wt ρ Q → CnT X.K σ Hf H ρ Q Q' → tt σ H Q')
    (hi1 : ∀ Hf H σ ρ Q (R : It → Hp → Prop), ER X.K Hf H σ ρ → w1 ρ Q → (∀ J Hf' H' ρ' items, St2 X.K σ Hf H ρ Hf' H' ρ' → ItOk X.K Hf' J items → Q items ρ' → R J H') → wi1 σ H R)
    (hg1 : ∀ Hf H σ ρ v d ρ' (Q : St → Hp → Prop), Same Hf H → Dp X.K Hf v d → f1 d ρ = some ρ' → σ.length = ρ.length → (∀ σ', Ch X.K Hf S1 σ ρ σ' ρ' → Q σ' H) → g1 v σ H Q) (hS1 : ∀ i ∈ S1, i ∈ vs1)
    (ht1 : ∀ Hf H σ ρ Q Q', ER X.K Hf H σ ρ → wt1 ρ Q → CnT X.K σ Hf H ρ Q Q' → tt1 σ H Q')
    (he : ∀ Hf H σ ρ Q Q', ER X.K Hf H σ ρ → we ρ Q → CnE X.K σ Hf H ρ Q Q' → te σ H Q')
    {Hf H : Hp} {σ : St} {ρ : Den} {Q : DV → Den → Prop} {Q' : VK} (E : ER X.K Hf H σ ρ) (hw : wLc2 w f wt w1 f1 wt1 we vs vs1 ρ Q) (c : CnE X.K σ Hf H ρ Q Q') : tLc2 wi g tt wi1 g1 tt1 te vs vs1 σ H Q' := by
  refine hi.so Hf H σ ρ _ _ E hw fun J Hf1 H1 ρ1 items s1 ok q => fun D hD => ?_
  have hD0 : H D = none := s1.st.al D hD
  have sD := st2_newO (o := .lst []) s1.er hD
  have n1 : ¬ Ow σ ρ1 D := fun z => (s1.er.ow z).1 hD
  have E1 : ER X.K Hf1 (upd H1 D (.lst [])) (σ ++ [some (.ref D)]) (ρ1 ++ [some (.lst [])]) := er_ext sD.er upd_same (s1.er.hf_none hD) .nil n1
  refine ⟨fun i m H2 => ∃ Hf2 ρ2 acc, St2 X.K (σ ++ [some (.ref D)]) Hf1 (upd H1 D (.lst [])) (ρ1 ++ [some (.lst [])]) Hf2 H2 (ρ2 ++ [some (.lst acc)]) ∧ i + m = items.length ∧ lc2Go f wt w1 f1 wt1 we vs vs1 Q (items.drop i) acc ρ2,
    ⟨items.length, Hf1, ρ1, [], .refl E1, by omega, q⟩, ?_⟩
  rintro i m H2 ⟨Hf2, ρ2, acc, s2, em, q2⟩
  by_cases hlt : i < items.length
  · refine .inr ⟨ok.go i Hf2 H2 s2.st.fx s2.er.ex hlt, fun H' => ∃ Hf3 ρ3 acc, St2 X.K (σ ++ [some (.ref D)]) Hf1 (upd H1 D (.lst [])) (ρ1 ++ [some (.lst [])]) Hf3 H' (ρ3 ++ [some (.lst acc)]) ∧ lc2Go f wt w1 f1 wt1 we vs vs1 Q (items.drop (i + 1)) acc ρ3,
      fun H' ⟨Hf3, ρ3, acc, h1, h6⟩ => ⟨m - 1, by omega, Hf3, ρ3, acc, h1, by omega, h6⟩, fun x H3 hy => ?_⟩
    rw [List.drop_eq_getElem_cons hlt] at q2
    obtain ⟨vok, q2⟩ := q2
    split at q2
    · rename_i ρ3 h3
      rcases ok.yld i Hf2 H2 x H3 items[i] s2.st.fx s2.er.ex (List.getElem?_eq_getElem hlt) hy with ⟨Hf3, g3, hd⟩
      have s3 := grow_st2 s2.er g3
      have Ew : ER X.K Hf3 H3 (wipe σ vs) (wipeD ρ2 vs) := er_wipe (er_drop s3.er).1
      refine hg Hf3 H3 (wipe σ vs) (wipeD ρ2 vs) x _ ρ3 _ s3.er.ex hd h3 Ew.len fun σ4 c4 => ?_
      obtain ⟨E4, low4⟩ := Ew.ch c4
      obtain ⟨E4x, turn⟩ := st2_turnX s3.er vok c4 hS
      refine ⟨wipe_ch hS (er_drop s3.er).1.len c4, ?_⟩
      refine ht Hf3 H3 σ4 ρ3 _ _ E4 q2 fun b Hf5 H5 ρ5 s5 q5 => ?_
      have s5x := st2_ext E4x s5
      cases b with
      | false => exact ⟨Hf5, _, acc, (s2.trans s3).trans (turn s5x), q5⟩
      | true =>
        refine hi1 Hf5 H5 σ4 ρ5 _ _ s5.er q5 fun J1 Hf6 H6 ρ6 items1 s6 ok1 q6 => ?_
        have s6x := st2_ext s5x.er s6
        refine ⟨fun j k H7 => ∃ Hf7 ρ7 acc', St2 X.K (σ4 ++ [some (.ref D)]) Hf6 H6 (ρ6 ++ [some (.lst acc)]) Hf7 H7 (ρ7 ++ [some (.lst acc')]) ∧ j + k = items1.length ∧ lc2In f1 wt1 we vs1 (fun acc' ρ9 => lc2Go f wt w1 f1 wt1 we vs vs1 Q (items.drop (i + 1)) acc' (restD ρ2 ρ9 vs)) (items1.drop j) acc' ρ7,
          ⟨items1.length, Hf6, ρ6, acc, .refl s6x.er, by omega, q6⟩, ?_⟩
        rintro j k H7 ⟨Hf7, ρ7, acc', s7, em7, q7⟩
        by_cases hlt1 : j < items1.length
        · refine .inr ⟨ok1.go j Hf7 H7 s7.st.fx s7.er.ex hlt1, fun H' => ∃ Hf8 ρ8 acc', St2 X.K (σ4 ++ [some (.ref D)]) Hf6 H6 (ρ6 ++ [some (.lst acc)]) Hf8 H' (ρ8 ++ [some (.lst acc')]) ∧ lc2In f1 wt1 we vs1 (fun acc' ρ9 => lc2Go f wt w1 f1 wt1 we vs vs1 Q (items.drop (i + 1)) acc' (restD ρ2 ρ9 vs)) (items1.drop (j + 1)) acc' ρ8,
            fun H' ⟨Hf8, ρ8, acc', h1, h6⟩ => ⟨k - 1, by omega, Hf8, ρ8, acc', h1, by omega, h6⟩, fun x1 H8 hy1 => ?_⟩
          rw [List.drop_eq_getElem_cons hlt1] at q7
          obtain ⟨vok1, q7⟩ := q7
          split at q7
          · rename_i ρ8 h8
            rcases ok1.yld j Hf7 H7 x1 H8 items1[j] s7.st.fx s7.er.ex (List.getElem?_eq_getElem hlt1) hy1 with ⟨Hf8, g8, hd8⟩
            have s8 := grow_st2 s7.er g8
            have Ew8 : ER X.K Hf8 H8 (wipe σ4 vs1) (wipeD ρ7 vs1) := er_wipe (er_drop s8.er).1
            refine hg1 Hf8 H8 (wipe σ4 vs1) (wipeD ρ7 vs1) x1 _ ρ8 _ s8.er.ex hd8 h8 Ew8.len fun σ9 c9 => ?_
            obtain ⟨E9, _⟩ := Ew8.ch c9
            obtain ⟨E9x, turn1⟩ := st2_turnX s8.er vok1 c9 hS1
            refine ⟨wipe_ch hS1 (er_drop s8.er).1.len c9, ?_⟩
            refine ht1 Hf8 H8 σ9 ρ8 _ _ E9 q7 fun b1 HfA HA ρA sA qA => ?_
            have sAx := st2_ext E9x sA
            cases b1 with
            | false => exact ⟨HfA, _, acc', (s7.trans s8).trans (turn1 sAx), qA⟩
            | true =>
              refine he HfA HA σ9 ρA _ _ sA.er qA fun y HfB HB dB ρB sB rB qB => ?_
              have fin : ∀ {HfC : Hp} {dd : PyData}, St2 X.K σ9 HfA HA ρA HfC HB ρB → Dp X.K HfC y dd → acc'.length < sizeLine → lc2In f1 wt1 we vs1 (fun acc' ρ9 => lc2Go f wt w1 f1 wt1 we vs vs1 Q (items.drop (i + 1)) acc' (restD ρ2 ρ9 vs)) (items1.drop (j + 1)) (acc' ++ [dd]) (restD ρ7 ρB vs1) →
                  ∃ us, HB D = some (.lst us) ∧ us.length < sizeLine ∧ ∃ Hf8 ρ8 acc', St2 X.K (σ4 ++ [some (.ref D)]) Hf6 H6 (ρ6 ++ [some (.lst acc)]) Hf8 (upd HB D (.lst (us ++ [y]))) (ρ8 ++ [some (.lst acc')]) ∧ lc2In f1 wt1 we vs1 (fun acc' ρ9 => lc2Go f wt w1 f1 wt1 we vs vs1 Q (items.drop (i + 1)) acc' (restD ρ2 ρ9 vs)) (items1.drop (j + 1)) acc' ρ8 := fun {HfC dd} sC hdd hz hq => by
                have t := turn1 (sAx.trans (st2_ext sAx.er sC))
                obtain ⟨us, hD8, hf8, ha8⟩ := er_last t.er
                exact ⟨us, hD8, by rw [DpAll.length ha8]; exact hz, HfC, _, acc' ++ [dd], ((s7.trans s8).trans t).trans (st2_push t.er hD8 ha8 hdd), hq⟩
              cases dB with
              | dat dd => exact fin sB rB.1 qB.1 qB.2
              | lst l =>
                obtain ⟨HfC, sC, aC⟩ := st2_freeze sA.er sB rB
                exact fin sC aC qB.1 qB.2
              | _ => exact qB.elim
          · exact q7.elim
        · have e : j = items1.length := by omega
          subst e
          rw [List.drop_length] at q7
          exact .inl ⟨ok1.stop _ Hf7 H7 s7.st.fx s7.er.ex rfl, Hf7, _, acc', (s2.trans s3).trans (turn ((s5x.trans s6x).trans s7)), q7⟩
    · exact q2.elim
  · have e : i = items.length := by omega
    subst e
    rw [List.drop_length] at q2
    obtain ⟨us, hD2, hfD2, ha2⟩ := er_last s2.er
    exact .inl ⟨ok.stop _ Hf2 H2 s2.st.fx s2.er.ex rfl, c (.ref D) Hf2 H2 (.lst acc) ρ2 (s1.trans (st2_unext s1.er hD s2)) ⟨⟨D, rfl, hfD2, us, hD2, ha2⟩, fun _ a e => by cases e; exact hD0⟩ q2⟩
end
end DL
end
section
set_option Elab.async false
set_option linter.all false
set_option maxRecDepth 100000
set_option maxHeartbeats 2000000
namespace DL
open PySem L2
section
variable {X : Cx} {pos : Pos}
theorem xe_lc2D {elt tg iter tg1 iter1 : Expr} {ifs ifs1 : List Expr} {scope : Scope} {own : List (Str × Nat)} {vs1 : List Nat} {wi : TI} {wi1 : BF TI} {g g1 : BF TG} {tt tt1 : BF TT} {te : BF TE} {w w1 : WI} {f f1 : PyData → Den → Option Den} {S S1 : List Nat} {wt wt1 : WT} {we : WE}
    (hc : X.calm = true) (hN : X.N.Nodup) (hi : XI X tg iter wi w) (ok : BlkOk X.N X.env.scope scope own)
    (hg : ∀ (s : Shared) (H : Hp) (C : Addr) (cl : List (Str × Addr)) (fp : List Addr), XG (X.blk s H scope (compEnvC scope cl C X.env) fp) tg (g s H C cl fp) f S) (ht : ∀ (s : Shared) (H : Hp) (C : Addr) (cl : List (Str × Addr)) (fp : List Addr), XTs (X.blk s H scope (compEnvC scope cl C X.env) fp) ifs (tt s H C cl fp) wt)
    (hi1 : ∀ (s : Shared) (H : Hp) (C : Addr) (cl : List (Str × Addr)) (fp : List Addr), XI (X.blk s H scope (compEnvC scope cl C X.env) fp) tg1 iter1 (wi1 s H C cl fp) w1)
    (hg1 : ∀ (s : Shared) (H : Hp) (C : Addr) (cl : List (Str × Addr)) (fp : List Addr), XG (X.blk s H scope (compEnvC scope cl C X.env) fp) tg1 (g1 s H C cl fp) f1 S1) (ht1 : ∀ (s : Shared) (H : Hp) (C : Addr) (cl : List (Str × Addr)) (fp : List Addr), XTs (X.blk s H scope (compEnvC scope cl C X.env) fp) ifs1 (tt1 s H C cl fp) wt1)
    (he : ∀ (s : Shared) (H : Hp) (C : Addr) (cl : List (Str × Addr)) (fp : List Addr), XE (X.blk s H scope (compEnvC scope cl C X.env) fp) elt (te s H C cl fp) we) (hS : ∀ i ∈ S, i ∈ own.map (·.2) := by decide) (hS1 : ∀ i ∈ S1, i ∈ vs1 := by decide) (hv : ∀ i ∈ vs1, i ∈ own.map (·.2) := by decide)
    (hs : ∀ x, foldedSetIterable iter X.env x = pure x := by intro _; rfl) (hs1 : ∀ env x, foldedSetIterable iter1 env x = pure x := by intro _ _; rfl)
    (eg : ∀ s H C cl fp, g s H C cl fp = g X.s_0 X.H_0 0 [] [] := by intros; rfl) (et : ∀ s H C cl fp, tt s H C cl fp = tt X.s_0 X.H_0 0 [] [] := by intros; rfl) (ei : ∀ s H C cl fp, wi1 s H C cl fp = wi1 X.s_0 X.H_0 0 [] [] := by intros; rfl)
    (eg1 : ∀ s H C cl fp, g1 s H C cl fp = g1 X.s_0 X.H_0 0 [] [] := by intros; rfl) (et1 : ∀ s H C cl fp, tt1 s H C cl fp = tt1 X.s_0 X.H_0 0 [] [] := by intros; rfl) (ee : ∀ s H C cl fp, te s H C cl fp = te X.s_0 X.H_0 0 [] [] := by intros; rfl) :
    XE X (.ListComp elt [⟨tg, iter, ifs, 0⟩, ⟨tg1, iter1, ifs1, 0⟩] scope pos) (tLc2 wi (g X.s_0 X.H_0 0 [] []) (tt X.s_0 X.H_0 0 [] []) (wi1 X.s_0 X.H_0 0 [] []) (g1 X.s_0 X.H_0 0 [] []) (tt1 X.s_0 X.H_0 0 [] []) (te X.s_0 X.H_0 0 [] []) (own.map (·.2)) vs1) (wLc2 w f wt w1 f1 wt1 we (own.map (·.2)) vs1) :=
  ⟨pe_lc2 hc hN hi.pi ok hv (fun s H C cl fp => eg s H C cl fp ▸ (hg s H C cl fp).pg) (fun s H C cl fp => et s H C cl fp ▸ (ht s H C cl fp).pt) (fun s H C cl fp => ei s H C cl fp ▸ (hi1 s H C cl fp).pi) (fun s H C cl fp => eg1 s H C cl fp ▸ (hg1 s H C cl fp).pg) (fun s H C cl fp => et1 s H C cl fp ▸ (ht1 s H C cl fp).pt) (fun s H C cl fp => ee s H C cl fp ▸ (he s H C cl fp).pe) hs hs1,
    fun Hf H σ ρ Q Q' E hw c => lc2_so hi (hg X.s_0 X.H_0 0 [] []).so hS (ht X.s_0 X.H_0 0 [] []).so (hi1 X.s_0 X.H_0 0 [] []).so (hg1 X.s_0 X.H_0 0 [] []).so hS1 (ht1 X.s_0 X.H_0 0 [] []).so (he X.s_0 X.H_0 0 [] []).so E hw c⟩
theorem xs_setLc2D {i : Nat} {y : Str} {py : Pos} {elt tg iter tg1 iter1 : Expr} {ifs ifs1 : List Expr} {scope : Scope} {own : List (Str × Nat)} {vs1 : List Nat} {spos : Pos} {wi : TI} {wi1 : BF TI} {g g1 : BF TG} {tt tt1 : BF TT} {te : BF TE} {w w1 : WI} {f f1 : PyData → Den → Option Den} {S S1 : List Nat} {wt wt1 : WT} {we : WE}
    (hc : X.calm = true) (hN : X.N.Nodup) (hy : X.N[i]? = some y) (hyl : X.env.scope.names.lookup y = some .local)
    (hsw : swapsWith (.ListComp elt [⟨tg, iter, ifs, 0⟩, ⟨tg1, iter1, ifs1, 0⟩] scope pos) (some (.Name y py)) spos.line X.env = pure true) (hi : XI X tg iter wi w) (ok : BlkOk X.N X.env.scope scope own)
    (hg : ∀ (s : Shared) (H : Hp) (C : Addr) (cl : List (Str × Addr)) (fp : List Addr), XG (X.blk s H scope (compEnvC scope cl C X.env) fp) tg (g s H C cl fp) f S) (ht : ∀ (s : Shared) (H : Hp) (C : Addr) (cl : List (Str × Addr)) (fp : List Addr), XTs (X.blk s H scope (compEnvC scope cl C X.env) fp) ifs (tt s H C cl fp) wt)
    (hi1 : ∀ (s : Shared) (H : Hp) (C : Addr) (cl : List (Str × Addr)) (fp : List Addr), XI (X.blk s H scope (compEnvC scope cl C X.env) fp) tg1 iter1 (wi1 s H C cl fp) w1)
    (hg1 : ∀ (s : Shared) (H : Hp) (C : Addr) (cl : List (Str × Addr)) (fp : List Addr), XG (X.blk s H scope (compEnvC scope cl C X.env) fp) tg1 (g1 s H C cl fp) f1 S1) (ht1 : ∀ (s : Shared) (H : Hp) (C : Addr) (cl : List (Str × Addr)) (fp : List Addr), XTs (X.blk s H scope (compEnvC scope cl C X.env) fp) ifs1 (tt1 s H C cl fp) wt1)
    (he : ∀ (s : Shared) (H : Hp) (C : Addr) (cl : List (Str × Addr)) (fp : List Addr), XE (X.blk s H scope (compEnvC scope cl C X.env) fp) elt (te s H C cl fp) we) (hS : ∀ i ∈ S, i ∈ own.map (·.2) := by decide) (hS1 : ∀ i ∈ S1, i ∈ vs1 := by decide) (hv : ∀ i ∈ vs1, i ∈ own.map (·.2) := by decide)
    (hs : ∀ x, foldedSetIterable iter X.env x = pure x := by intro _; rfl) (hs1 : ∀ env x, foldedSetIterable iter1 env x = pure x := by intro _ _; rfl)
    (eg : ∀ s H C cl fp, g s H C cl fp = g X.s_0 X.H_0 0 [] [] := by intros; rfl) (et : ∀ s H C cl fp, tt s H C cl fp = tt X.s_0 X.H_0 0 [] [] := by intros; rfl) (ei : ∀ s H C cl fp, wi1 s H C cl fp = wi1 X.s_0 X.H_0 0 [] [] := by intros; rfl)
    (eg1 : ∀ s H C cl fp, g1 s H C cl fp = g1 X.s_0 X.H_0 0 [] [] := by intros; rfl) (et1 : ∀ s H C cl fp, tt1 s H C cl fp = tt1 X.s_0 X.H_0 0 [] [] := by intros; rfl) (ee : ∀ s H C cl fp, te s H C cl fp = te X.s_0 X.H_0 0 [] [] := by intros; rfl) :
    XS X (.Assign [.Name y py] (.ListComp elt [⟨tg, iter, ifs, 0⟩, ⟨tg1, iter1, ifs1, 0⟩] scope pos) spos) (tAsg (tLc2 wi (g X.s_0 X.H_0 0 [] []) (tt X.s_0 X.H_0 0 [] []) (wi1 X.s_0 X.H_0 0 [] []) (g1 X.s_0 X.H_0 0 [] []) (tt1 X.s_0 X.H_0 0 [] []) (te X.s_0 X.H_0 0 [] []) (own.map (·.2)) vs1) (gName i)) (wSet i (wLc2 w f wt w1 f1 wt1 we (own.map (·.2)) vs1)) :=
  ⟨ps_setLc2 hc hN hy hyl hsw hi.pi ok hv (fun s H C cl fp => eg s H C cl fp ▸ (hg s H C cl fp).pg) (fun s H C cl fp => et s H C cl fp ▸ (ht s H C cl fp).pt) (fun s H C cl fp => ei s H C cl fp ▸ (hi1 s H C cl fp).pi) (fun s H C cl fp => eg1 s H C cl fp ▸ (hg1 s H C cl fp).pg) (fun s H C cl fp => et1 s H C cl fp ▸ (ht1 s H C cl fp).pt) (fun s H C cl fp => ee s H C cl fp ▸ (he s H C cl fp).pe) hs hs1, fun N D' D Hf H σ ρ c s hw => by
    refine lc2_so hi (hg X.s_0 X.H_0 0 [] []).so hS (ht X.s_0 X.H_0 0 [] []).so (hi1 X.s_0 X.H_0 0 [] []).so (hg1 X.s_0 X.H_0 0 [] []).so hS1 (ht1 X.s_0 X.H_0 0 [] []).so (he X.s_0 X.H_0 0 [] []).so s.er hw fun v Hf1 H1 d ρ1 s1 r1 q1 => ?_
    obtain ⟨hn, q1⟩ := q1
    cases d with
    | own j => exact q1.elim
    | arg y => exact q1.elim
    | dat y => exact set_so c s s1 r1 hn (fun _ z => nomatch z) (fun _ z => nomatch z) q1
    | fn u => exact set_so c s s1 r1 hn (fun _ z => nomatch z) (fun _ z => nomatch z) q1
    | lst y => exact set_so c s s1 r1 hn (fun _ z => nomatch z) (fun _ z => nomatch z) q1
    | dic y => exact set_so c s s1 r1 hn (fun _ z => nomatch z) (fun _ z => nomatch z) q1⟩
end
section
variable {ρ : Den} {Q : DV → Den → Prop}
def kLc2o (f : PyData → Den → Option Den) (wt : WT) (wi1 : WI) (f1 : PyData → Den → Option Den) (wt1 : WT) (we : WE) (vs vs1 : List Nat) (Q : DV → Den → Prop) : List PyData → Den → Prop := fun items ρ1 => lc2Go f wt wi1 f1 wt1 we vs vs1 Q items [] ρ1
theorem ev_lc2 {wi : WI} {f : PyData → Den → Option Den} {wt : WT} {wi1 : WI} {f1 : PyData → Den → Option Den} {wt1 : WT} {we : WE} {vs vs1 : List Nat} (h : wi ρ (kLc2o f wt wi1 f1 wt1 we vs vs1 Q)) : wLc2 wi f wt wi1 f1 wt1 we vs vs1 ρ Q := h
def kLc2i (f1 : PyData → Den → Option Den) (wt1 : WT) (we : WE) (vs1 : List Nat) (N : List PyData → Den → Prop) (acc : List PyData) : List PyData → Den → Prop := fun items1 ρ4 => lc2In f1 wt1 we vs1 N items1 acc ρ4
def kLc2e (f1 : PyData → Den → Option Den) (wt1 : WT) (we : WE) (vs1 : List Nat) (N : List PyData → Den → Prop) (xs acc : List PyData) (ρ : Den) : DV → Den → Prop := fun y ρ4 => match y with
  | .dat d => acc.length < sizeLine ∧ lc2In f1 wt1 we vs1 N xs (acc ++ [d]) (restD ρ ρ4 vs1)
  | .lst l => acc.length < sizeLine ∧ lc2In f1 wt1 we vs1 N xs (acc ++ [.list l]) (restD ρ ρ4 vs1)
  | _ => False
/-- the second clause without a test, by what is made and what is left -/
theorem lc2In_ind {f1 : PyData → Den → Option Den} {we : WE} {vs1 : List Nat} {N : List PyData → Den → Prop} {I : List PyData → List PyData → Den → Prop} (hn : ∀ acc ρ, I acc [] ρ → N acc ρ)
    (hs : ∀ acc x xs ρ, I acc (x :: xs) ρ → vsOk ρ vs1 = true ∧ ∃ ρ2, f1 x (wipeD ρ vs1) = some ρ2 ∧ ∀ G : DV → Den → Prop, (∀ d ρ4, acc.length < sizeLine → I (acc ++ [d]) xs (restD ρ ρ4 vs1) → G (.dat d) ρ4) → we ρ2 G) : ∀ (items acc : List PyData) (ρ : Den), I acc items ρ → lc2In f1 wYes we vs1 N items acc ρ
  | [], acc, ρ, h => hn acc ρ h
  | x :: xs, acc, ρ, h => by
    obtain ⟨ok, ρ2, e, k⟩ := hs acc x xs ρ h
    refine ⟨ok, ?_⟩
    rw [e]
    exact k (kLc2e f1 wYes we vs1 N xs acc ρ) fun d ρ4 l i => ⟨l, lc2In_ind hn hs xs _ _ i⟩
/-- the first clause without a test -/
theorem lc2Go_ind {f : PyData → Den → Option Den} {wi1 : WI} {f1 : PyData → Den → Option Den} {wt1 : WT} {we : WE} {vs vs1 : List Nat} {I : List PyData → List PyData → Den → Prop} (hn : ∀ acc ρ, I acc [] ρ → Q (.lst acc) ρ)
    (hs : ∀ acc x xs ρ, I acc (x :: xs) ρ → vsOk ρ vs = true ∧ ∃ ρ2, f x (wipeD ρ vs) = some ρ2 ∧ ∀ N : List PyData → Den → Prop, (∀ acc' ρ9, I acc' xs (restD ρ ρ9 vs) → N acc' ρ9) → wi1 ρ2 (kLc2i f1 wt1 we vs1 N acc)) : ∀ (items acc : List PyData) (ρ : Den), I acc items ρ → lc2Go f wYes wi1 f1 wt1 we vs vs1 Q items acc ρ
  | [], acc, ρ, h => hn acc ρ h
  | x :: xs, acc, ρ, h => by
    obtain ⟨ok, ρ2, e, k⟩ := hs acc x xs ρ h
    refine ⟨ok, ?_⟩
    rw [e]
    exact k (fun acc' ρ9 => lc2Go f wYes wi1 f1 wt1 we vs vs1 Q xs acc' (restD ρ ρ9 vs)) fun acc' ρ9 i => lc2Go_ind hn hs xs _ _ i
end
end DL
end
section
set_option autoImplicit true
set_option linter.all false
/-! growing: each cell of a solid widened to a box of cells -/
namespace SM
abbrev Pt := Int × Int × Int
section
variable {β γ : Type} {E E' : Int → Prop} {G G' : β → Prop} {L : List (Slab β)}
theorem at_mem (h : Form E G L) {s : Slab β} (m : s ∈ L) {z : Int} (h1 : s.1 ≤ z) (h2 : z < s.2.1) : at' L z = some s.2.2 := by
  induction L with
  | nil => cases m
  | cons t r ih =>
    unfold at'
    rcases List.mem_cons.mp m with rfl | m
    · rw [if_pos ⟨h1, h2⟩]
    · have a := Form.above h s m
      have b := h.1.lt
      rw [if_neg (by omega)]
      exact ih h.2.2 m
theorem lift_iff (h : Form E G L) {C : β → γ → Bool} {z : Int} {p : γ} : lift C (at' L z) p = true ↔ ∃ s ∈ L, s.1 ≤ z ∧ z < s.2.1 ∧ C s.2.2 p = true := by
  constructor
  · intro e
    cases q : at' L z with
    | none => rw [q] at e; cases e
    | some v =>
      rw [q] at e
      obtain ⟨s, m, h1, h2, rfl⟩ := at_some q
      exact ⟨s, m, h1, h2, e⟩
  · rintro ⟨s, m, h1, h2, e⟩
    rw [at_mem h m h1 h2]
    exact e
theorem Form.mono (hE : ∀ x, E x → E' x) (hG : ∀ x, G x → G' x) : ∀ {L : List (Slab β)}, Form E G L → Form E' G' L
  | [], _ => trivial
  | s :: r, h => ⟨⟨h.1.lt, hE _ h.1.e1, hE _ h.1.e2, hG _ h.1.g⟩, h.2.1, Form.mono hE hG h.2.2⟩
/-- a stretch made wider, number by number -/
theorem wide_iff {a b l h z : Int} (hab : a < b) (hl : l ≤ h) : (a + l ≤ z ∧ z < b + h) ↔ ∃ z', (l ≤ z - z' ∧ z - z' ≤ h) ∧ a ≤ z' ∧ z' < b := by
  constructor
  · rintro ⟨h1, h2⟩
    by_cases c : z - h < a
    · exact ⟨a, ⟨by omega, by omega⟩, by omega, hab⟩
    · exact ⟨z - h, ⟨by omega, by omega⟩, by omega, by omega⟩
  · rintro ⟨z', ⟨h1, h2⟩, h3, h4⟩
    exact ⟨by omega, by omega⟩
end
section
variable {E E' : Int → Prop}
theorem FRow.mono (hE : ∀ x, E x → E' x) {r : Row} (h : FRow E r) : FRow E' r := ⟨h.1.mono hE (fun _ z => z), h.2⟩
theorem FLay.mono (hE : ∀ x, E x → E' x) {l : Lay} (h : FLay E l) : FLay E' l := ⟨h.1.mono hE (fun _ z => z.mono hE), h.2⟩
theorem FSol.mono (hE : ∀ x, E x → E' x) {s : Sol} (h : FSol E s) : FSol E' s := Form.mono hE (fun _ z => z.mono hE) h
def anyE : Int → Prop := fun _ => True
theorem cR_iff {r : Row} {x : Int} : cR r x = true ↔ ∃ s ∈ r, s.1 ≤ x ∧ x < s.2.1 := by
  unfold cR
  induction r with
  | nil => simp [at', lift]
  | cons s r ih =>
    unfold at'
    by_cases h : s.1 ≤ x ∧ x < s.2.1
    · rw [if_pos h]
      exact ⟨fun _ => ⟨s, List.mem_cons_self, h⟩, fun _ => rfl⟩
    · rw [if_neg h, ih]
      constructor
      · rintro ⟨t, m, g⟩; exact ⟨t, List.mem_cons_of_mem _ m, g⟩
      · rintro ⟨t, m, g⟩
        rcases List.mem_cons.mp m with rfl | m
        · exact absurd g h
        · exact ⟨t, m, g⟩
theorem cL_iff {l : Lay} (h : Form E (FRow E) l) {p : Int × Int} : cL l p = true ↔ ∃ s ∈ l, s.1 ≤ p.1 ∧ p.1 < s.2.1 ∧ cR s.2.2 p.2 = true := lift_iff h
theorem cS_iff {s : Sol} (h : FSol E s) {p : Int × Int × Int} : cS s p = true ↔ ∃ t ∈ s, t.1 ≤ p.1 ∧ p.1 < t.2.1 ∧ cL t.2.2 p.2 = true := lift_iff h
theorem bool_iff {a b : Bool} (h : a = true ↔ b = true) : a = b := by cases a <;> cases b <;> simp_all
/-- the row, the layer, the solid of these cells -/
noncomputable def theR (P : Int → Prop) : Row := open Classical in if h : ∃ R : Row, Form anyE AnyU R ∧ ∀ x, cR R x = true ↔ P x then h.choose else []
noncomputable def theL (P : Int × Int → Prop) : Lay := open Classical in if h : ∃ R : Lay, Form anyE (FRow anyE) R ∧ ∀ x, cL R x = true ↔ P x then h.choose else []
noncomputable def theS (P : Int × Int × Int → Prop) : Sol := open Classical in if h : ∃ R : Sol, FSol anyE R ∧ ∀ x, cS R x = true ↔ P x then h.choose else []
theorem theR_eq {P : Int → Prop} {R : Row} (h : Form E AnyU R) (hc : ∀ x, cR R x = true ↔ P x) : theR P = R := by
  have ex : ∃ R : Row, Form anyE AnyU R ∧ ∀ x, cR R x = true ↔ P x := ⟨R, h.mono (fun _ _ => trivial) (fun _ z => z), hc⟩
  unfold theR
  rw [dif_pos ex]
  exact row_ext ex.choose_spec.1 (h.mono (fun _ _ => trivial) (fun _ z => z)) fun x => bool_iff ((ex.choose_spec.2 x).trans (hc x).symm)
theorem theL_eq {P : Int × Int → Prop} {R : Lay} (h : Form E (FRow E) R) (hc : ∀ x, cL R x = true ↔ P x) : theL P = R := by
  have h' : Form anyE (FRow anyE) R := h.mono (fun _ _ => trivial) (fun _ z => z.mono fun _ _ => trivial)
  have ex : ∃ R : Lay, Form anyE (FRow anyE) R ∧ ∀ x, cL R x = true ↔ P x := ⟨R, h', hc⟩
  unfold theL
  rw [dif_pos ex]
  exact lay_ext ex.choose_spec.1 h' fun x => bool_iff ((ex.choose_spec.2 x).trans (hc x).symm)
theorem theS_eq {P : Int × Int × Int → Prop} {R : Sol} (h : FSol E R) (hc : ∀ x, cS R x = true ↔ P x) : theS P = R := by
  have h' : FSol anyE R := h.mono (fun _ _ => trivial)
  have ex : ∃ R : Sol, FSol anyE R ∧ ∀ x, cS R x = true ↔ P x := ⟨R, h', hc⟩
  unfold theS
  rw [dif_pos ex]
  exact sol_ext ex.choose_spec.1 h' fun x => bool_iff ((ex.choose_spec.2 x).trans (hc x).symm)
/-- what of a row, a layer, a solid is widened; lo, hi as points x, y, z -/
def gR (lo hi : Pt) (r : Row) (x : Int) : Prop := ∃ x', (lo.1 ≤ x - x' ∧ x - x' ≤ hi.1) ∧ cR r x' = true
def gL (lo hi : Pt) (l : Lay) (p : Int × Int) : Prop := ∃ q : Int × Int, (lo.2.1 ≤ p.1 - q.1 ∧ p.1 - q.1 ≤ hi.2.1) ∧ (lo.1 ≤ p.2 - q.2 ∧ p.2 - q.2 ≤ hi.1) ∧ cL l q = true
def gS (lo hi : Pt) (s : Sol) (p : Int × Int × Int) : Prop := ∃ q : Int × Int × Int, (lo.2.2 ≤ p.1 - q.1 ∧ p.1 - q.1 ≤ hi.2.2) ∧ (lo.2.1 ≤ p.2.1 - q.2.1 ∧ p.2.1 - q.2.1 ≤ hi.2.1) ∧ (lo.1 ≤ p.2.2 - q.2.2 ∧ p.2.2 - q.2.2 ≤ hi.1) ∧ cS s q = true
noncomputable def growR (lo hi : Pt) (r : Row) : Row := theR (gR lo hi r)
noncomputable def growL (lo hi : Pt) (l : Lay) : Lay := theL (gL lo hi l)
noncomputable def growS (lo hi : Pt) (s : Sol) : Sol := theS (gS lo hi s)
def leP (lo hi : Pt) : Prop := lo.1 ≤ hi.1 ∧ lo.2.1 ≤ hi.2.1 ∧ lo.2.2 ≤ hi.2.2
def wideR (lo hi : Pt) (r : Row) : Row := r.map fun s => (s.1 + lo.1, s.2.1 + hi.1, ())
noncomputable def wideL (lo hi : Pt) (l : Lay) : Lay := l.map fun s => (s.1 + lo.2.1, s.2.1 + hi.2.1, growR lo hi s.2.2)
noncomputable def wideS (lo hi : Pt) (s : Sol) : Sol := s.map fun t => (t.1 + lo.2.2, t.2.1 + hi.2.2, growL lo hi t.2.2)
variable {lo hi : Pt}
theorem row_grown (h : leP lo hi) {r : Row} (hr : Form E AnyU r) {R : Row} (hR : ∀ z, at' R z = at' (wideR lo hi r) z) (x : Int) : cR R x = true ↔ gR lo hi r x := by
  have e : cR R x = cR (wideR lo hi r) x := by unfold cR; rw [hR]
  rw [e, cR_iff]
  unfold gR
  constructor
  · rintro ⟨s, m, h1⟩
    obtain ⟨t, mt, rfl⟩ := List.mem_map.mp m
    obtain ⟨x', a, b, c⟩ := (wide_iff (Form.mem hr t mt).lt h.1).mp h1
    exact ⟨x', a, cR_iff.mpr ⟨t, mt, b, c⟩⟩
  · rintro ⟨x', a, b⟩
    obtain ⟨t, mt, b, c⟩ := cR_iff.mp b
    exact ⟨_, List.mem_map_of_mem mt, (wide_iff (Form.mem hr t mt).lt h.1).mpr ⟨x', a, b, c⟩⟩
/-- the cells of all the widened slabs of a layer -/
theorem lay_grown (h : leP lo hi) {l : Lay} (hl : Form E (FRow E) l) (hg : ∀ s ∈ l, ∀ x, cR (growR lo hi s.2.2) x = true ↔ gR lo hi s.2.2 x) {R : Lay}
    (hR : ∀ z p, lift cR (at' R z) p = (wideL lo hi l).any fun s => decide (s.1 ≤ z ∧ z < s.2.1) && cR s.2.2 p) (p : Int × Int) : cL R p = true ↔ gL lo hi l p := by
  show lift cR (at' R p.1) p.2 = true ↔ _
  rw [hR, List.any_eq_true]
  unfold gL
  constructor
  · rintro ⟨s, m, h1⟩
    obtain ⟨t, mt, rfl⟩ := List.mem_map.mp m
    simp only [Bool.and_eq_true, decide_eq_true_eq] at h1
    obtain ⟨y', a, b, c⟩ := (wide_iff (Form.mem hl t mt).lt h.2.1).mp h1.1
    obtain ⟨x', a2, b2⟩ := (hg t mt _).mp h1.2
    exact ⟨(y', x'), a, a2, (cL_iff hl).mpr ⟨t, mt, b, c, b2⟩⟩
  · rintro ⟨q, a, a2, b⟩
    obtain ⟨t, mt, b, c, d⟩ := (cL_iff hl).mp b
    refine ⟨_, List.mem_map_of_mem mt, ?_⟩
    simp only [Bool.and_eq_true, decide_eq_true_eq]
    exact ⟨(wide_iff (Form.mem hl t mt).lt h.2.1).mpr ⟨q.1, a, b, c⟩, (hg t mt _).mpr ⟨q.2, a2, d⟩⟩
theorem sol_grown (h : leP lo hi) {l : Sol} (hl : FSol E l) (hg : ∀ s ∈ l, ∀ x, cL (growL lo hi s.2.2) x = true ↔ gL lo hi s.2.2 x) {R : Sol}
    (hR : ∀ z p, lift cL (at' R z) p = (wideS lo hi l).any fun s => decide (s.1 ≤ z ∧ z < s.2.1) && cL s.2.2 p) (p : Int × Int × Int) : cS R p = true ↔ gS lo hi l p := by
  show lift cL (at' R p.1) p.2 = true ↔ _
  rw [hR, List.any_eq_true]
  unfold gS
  constructor
  · rintro ⟨s, m, h1⟩
    obtain ⟨t, mt, rfl⟩ := List.mem_map.mp m
    simp only [Bool.and_eq_true, decide_eq_true_eq] at h1
    obtain ⟨y', a, b, c⟩ := (wide_iff (Form.mem hl t mt).lt h.2.2).mp h1.1
    obtain ⟨q, a2, a3, b2⟩ := (hg t mt _).mp h1.2
    exact ⟨(y', q), a, a2, a3, (cS_iff hl).mpr ⟨t, mt, b, c, b2⟩⟩
  · rintro ⟨q, a, a2, a3, b⟩
    obtain ⟨t, mt, b, c, d⟩ := (cS_iff hl).mp b
    refine ⟨_, List.mem_map_of_mem mt, ?_⟩
    simp only [Bool.and_eq_true, decide_eq_true_eq]
    exact ⟨(wide_iff (Form.mem hl t mt).lt h.2.2).mpr ⟨q.1, a, b, c⟩, (hg t mt _).mpr ⟨q.2, a2, a3, d⟩⟩
end
end SM
end
section
set_option autoImplicit true
set_option linter.all false
/-! moving, boxes, sweeping -/
namespace SM
section
variable {β β' γ : Type} {E E' : Int → Prop} {G : β → Prop} {G' : β' → Prop}
def shift (d : Int) (f : β → β') (L : List (Slab β)) : List (Slab β') := L.map fun s => (s.1 + d, s.2.1 + d, f s.2.2)
theorem at_shift {d : Int} {f : β → β'} : ∀ {L : List (Slab β)} {z : Int}, at' (shift d f L) z = (at' L (z - d)).map f
  | [], z => rfl
  | s :: r, z => by
    show at' ((s.1 + d, s.2.1 + d, f s.2.2) :: shift d f r) z = _
    simp only [at']
    by_cases h : s.1 + d ≤ z ∧ z < s.2.1 + d
    · rw [if_pos h, if_pos (by omega)]; rfl
    · rw [if_neg h, if_neg (by omega)]
      exact at_shift
theorem form_shift {d : Int} {f : β → β'} (hE : ∀ x, E x → E' (x + d)) (hG : ∀ x, G x → G' (f x)) (inj : ∀ x y, G x → G y → f x = f y → x = y) : ∀ {L : List (Slab β)}, Form E G L → Form E' G' (shift d f L)
  | [], _ => trivial
  | s :: r, h => by
    refine ⟨⟨by have := h.1.lt; dsimp only; omega, hE _ h.1.e1, hE _ h.1.e2, hG _ h.1.g⟩, fun t e => ?_, form_shift hE hG inj h.2.2⟩
    cases r with
    | nil => cases e
    | cons u r =>
      cases e
      have k := h.2.1 u rfl
      exact ⟨by have := k.1; dsimp only; omega, fun e z => k.2 (by dsimp only at e; omega) (inj _ _ h.1.g h.2.2.1.g z)⟩
theorem shift_inj {d : Int} {f : β → β'} (inj : ∀ x y, G x → G y → f x = f y → x = y) : ∀ {L M : List (Slab β)}, (∀ s ∈ L, G s.2.2) → (∀ s ∈ M, G s.2.2) → shift d f L = shift d f M → L = M
  | [], [], _, _, _ => rfl
  | [], _ :: _, _, _, h => by cases h
  | _ :: _, [], _, _, h => by cases h
  | s :: L, t :: M, h1, h2, h => by
    obtain ⟨e1, e2⟩ := List.cons.inj (show (s.1 + d, s.2.1 + d, f s.2.2) :: shift d f L = (t.1 + d, t.2.1 + d, f t.2.2) :: shift d f M from h)
    have a := congrArg (·.1) e1
    have b := congrArg (·.2.1) e1
    have c := congrArg (·.2.2) e1
    have e : s = t := by
      obtain ⟨s1, s2, s3⟩ := s
      obtain ⟨t1, t2, t3⟩ := t
      have c := inj _ _ (h1 _ List.mem_cons_self) (h2 _ List.mem_cons_self) c
      dsimp only at a b c
      have : s1 = t1 := by omega
      have : s2 = t2 := by omega
      simp [*]
    rw [e, shift_inj inj (fun s m => h1 s (List.mem_cons_of_mem _ m)) (fun s m => h2 s (List.mem_cons_of_mem _ m)) e2]
theorem shift_len {d : Int} {f : β → β'} {L : List (Slab β)} : (shift d f L).length = L.length := List.length_map ..
end
section
variable {E E' : Int → Prop}
def moveR (d : Pt) (r : Row) : Row := shift d.1 (fun u => u) r
def moveL (d : Pt) (l : Lay) : Lay := shift d.2.1 (moveR d) l
def moveS (d : Pt) (s : Sol) : Sol := shift d.2.2 (moveL d) s
theorem moveR_form {d : Pt} (h1 : ∀ x, E x → E' (x + d.1)) {r : Row} (h : FRow E r) : FRow E' (moveR d r) :=
  ⟨form_shift h1 (fun _ z => z) (fun _ _ _ _ e => e) h.1, fun e => h.2 (List.map_eq_nil_iff.mp e)⟩
theorem moveR_inj {d : Pt} {a b : Row} (h : moveR d a = moveR d b) : a = b := shift_inj (G := AnyU) (fun _ _ _ _ e => e) (fun _ _ => trivial) (fun _ _ => trivial) h
theorem moveL_form {d : Pt} (h1 : ∀ x, E x → E' (x + d.1)) (h2 : ∀ x, E x → E' (x + d.2.1)) {l : Lay} (h : FLay E l) : FLay E' (moveL d l) :=
  ⟨form_shift h2 (fun _ z => moveR_form h1 z) (fun _ _ _ _ e => moveR_inj e) h.1, fun e => h.2 (List.map_eq_nil_iff.mp e)⟩
theorem moveL_inj {d : Pt} {a b : Lay} (h : moveL d a = moveL d b) : a = b := shift_inj (G := fun _ => True) (fun _ _ _ _ e => moveR_inj e) (fun _ _ => trivial) (fun _ _ => trivial) h
theorem moveS_form {d : Pt} (h1 : ∀ x, E x → E' (x + d.1)) (h2 : ∀ x, E x → E' (x + d.2.1)) (h3 : ∀ x, E x → E' (x + d.2.2)) {s : Sol} (h : FSol E s) : FSol E' (moveS d s) :=
  form_shift h3 (fun _ z => moveL_form h1 h2 z) (fun _ _ _ _ e => moveL_inj e) h
theorem moveR_cells {d : Pt} {r : Row} {x : Int} : cR (moveR d r) x = cR r (x - d.1) := by
  unfold cR moveR
  rw [at_shift]
  cases at' r (x - d.1) <;> rfl
theorem moveL_cells {d : Pt} {l : Lay} {p : Int × Int} : cL (moveL d l) p = cL l (p.1 - d.2.1, p.2 - d.1) := by
  unfold cL moveL
  rw [at_shift]
  dsimp only
  cases at' l (p.1 - d.2.1) with
  | none => rfl
  | some r => exact moveR_cells
theorem moveS_cells {d : Pt} {s : Sol} {p : Int × Int × Int} : cS (moveS d s) p = cS s (p.1 - d.2.2, p.2.1 - d.2.1, p.2.2 - d.1) := by
  unfold cS moveS
  rw [at_shift]
  dsimp only
  cases at' s (p.1 - d.2.2) with
  | none => rfl
  | some r => exact moveL_cells
/-! boxes -/
def boxY (z : Slab Lay) (y : Slab Row) (x : Slab Unit) : Pt × Pt := ((x.1, y.1, z.1), (x.2.1, y.2.1, z.2.1))
def boxesY (z : Slab Lay) (y : Slab Row) : List (Pt × Pt) := y.2.2.map (boxY z y)
def boxesZ (z : Slab Lay) : List (Pt × Pt) := z.2.2.flatMap (boxesY z)
def boxesOf (P : Sol) : List (Pt × Pt) := P.flatMap boxesZ
def ofBox (b : Pt × Pt) (p : Int × Int × Int) : Prop := (b.1.2.2 ≤ p.1 ∧ p.1 < b.2.2.2) ∧ (b.1.2.1 ≤ p.2.1 ∧ p.2.1 < b.2.2.1) ∧ (b.1.1 ≤ p.2.2 ∧ p.2.2 < b.2.1)
theorem mem_boxes {P : Sol} {b : Pt × Pt} : b ∈ boxesOf P ↔ ∃ z ∈ P, ∃ y ∈ z.2.2, ∃ x ∈ y.2.2, b = boxY z y x := by
  unfold boxesOf
  rw [List.mem_flatMap]
  constructor
  · rintro ⟨z, mz, h⟩
    obtain ⟨y, my, h⟩ := List.mem_flatMap.mp h
    obtain ⟨x, mx, rfl⟩ := List.mem_map.mp h
    exact ⟨z, mz, y, my, x, mx, rfl⟩
  · rintro ⟨z, mz, y, my, x, mx, rfl⟩
    exact ⟨z, mz, List.mem_flatMap.mpr ⟨y, my, List.mem_map.mpr ⟨x, mx, rfl⟩⟩⟩
theorem boxes_cells {P : Sol} (h : FSol E P) {p : Int × Int × Int} : cS P p = true ↔ ∃ b ∈ boxesOf P, ofBox b p := by
  rw [cS_iff h]
  constructor
  · rintro ⟨z, mz, a1, a2, e⟩
    have hz := (Form.mem h z mz).g
    obtain ⟨y, my, b1, b2, e⟩ := (cL_iff hz.1).mp e
    obtain ⟨x, mx, c1, c2⟩ := cR_iff.mp e
    exact ⟨boxY z y x, mem_boxes.mpr ⟨z, mz, y, my, x, mx, rfl⟩, ⟨a1, a2⟩, ⟨b1, b2⟩, c1, c2⟩
  · rintro ⟨b, mb, ⟨a1, a2⟩, ⟨b1, b2⟩, c1, c2⟩
    obtain ⟨z, mz, y, my, x, mx, rfl⟩ := mem_boxes.mp mb
    have hz := (Form.mem h z mz).g
    exact ⟨z, mz, a1, a2, (cL_iff hz.1).mpr ⟨y, my, b1, b2, cR_iff.mpr ⟨x, mx, c1, c2⟩⟩⟩
theorem boxes_ok {P : Sol} (h : FSol E P) {b : Pt × Pt} (m : b ∈ boxesOf P) : (E b.1.1 ∧ E b.1.2.1 ∧ E b.1.2.2) ∧ (E b.2.1 ∧ E b.2.2.1 ∧ E b.2.2.2) ∧ b.1.1 < b.2.1 ∧ b.1.2.1 < b.2.2.1 ∧ b.1.2.2 < b.2.2.2 := by
  obtain ⟨z, mz, y, my, x, mx, rfl⟩ := mem_boxes.mp m
  have oz := Form.mem h z mz
  have oy := Form.mem oz.g.1 y my
  have ox := Form.mem oy.g.1 x mx
  exact ⟨⟨ox.e1, oy.e1, oz.e1⟩, ⟨ox.e2, oy.e2, oz.e2⟩, ox.lt, oy.lt, oz.lt⟩
theorem flat_len {α δ : Type} {f : α → List δ} {k : Nat} : ∀ {l : List α}, (∀ x ∈ l, (f x).length ≤ k) → (l.flatMap f).length ≤ l.length * k
  | [], _ => by simp
  | x :: l, h => by
    rw [List.flatMap_cons, List.length_append, List.length_cons, Nat.succ_mul]
    have := h x List.mem_cons_self
    have := flat_len (f := f) fun y m => h y (List.mem_cons_of_mem _ m)
    omega
theorem boxes_len {M : Nat} (few : Few E M) {P : Sol} (h : FSol E P) : (boxesOf P).length ≤ M * (M * M) := by
  have l1 : P.length ≤ M := Form.few few h
  refine Nat.le_trans (flat_len (k := M * M) fun z mz => ?_) (Nat.mul_le_mul l1 (Nat.le_refl _))
  have oz := (Form.mem h z mz).g
  refine Nat.le_trans (flat_len (k := M) fun y my => ?_) (Nat.mul_le_mul (Form.few few oz.1) (Nat.le_refl _))
  unfold boxesY
  rw [List.length_map]
  exact Form.few few (Form.mem oz.1 y my).g.1
def lessOne (p : Pt) : Pt := (p.1 - 1, p.2.1 - 1, p.2.2 - 1)
def subC (p q : Int × Int × Int) : Int × Int × Int := (p.1 - q.1, p.2.1 - q.2.1, p.2.2 - q.2.2)
/-- the one solid placed at each cell of the other -/
def sweepP (a b : Sol) (p : Int × Int × Int) : Prop := ∃ q, cS a q = true ∧ cS b (subC p q) = true
theorem sweep_comm {a b : Sol} {p : Int × Int × Int} : sweepP a b p ↔ sweepP b a p := by
  have half : ∀ {a b : Sol}, sweepP a b p → sweepP b a p := fun {a b} ⟨q, h1, h2⟩ => by
    refine ⟨subC p q, h2, ?_⟩
    have : subC p (subC p q) = q := by
      unfold subC
      obtain ⟨q1, q2, q3⟩ := q
      simp only [Prod.mk.injEq]
      exact ⟨by omega, by omega, by omega⟩
    rw [this]; exact h1
  exact ⟨half, half⟩
theorem sweep_boxes {many few : Sol} (h : FSol E few) {p : Int × Int × Int} : (∃ b ∈ boxesOf few, gS b.1 (lessOne b.2) many p) ↔ sweepP many few p := by
  constructor
  · rintro ⟨b, mb, q, ⟨a1, a2⟩, ⟨b1, b2⟩, ⟨c1, c2⟩, e⟩
    refine ⟨q, e, (boxes_cells h).mpr ⟨b, mb, ⟨a1, ?_⟩, ⟨b1, ?_⟩, c1, ?_⟩⟩
    · show p.1 - q.1 < _
      have : p.1 - q.1 ≤ b.2.2.2 - 1 := a2
      omega
    · show p.2.1 - q.2.1 < _
      have : p.2.1 - q.2.1 ≤ b.2.2.1 - 1 := b2
      omega
    · show p.2.2 - q.2.2 < _
      have : p.2.2 - q.2.2 ≤ b.2.1 - 1 := c2
      omega
  · rintro ⟨q, e, e2⟩
    obtain ⟨b, mb, ⟨a1, a2⟩, ⟨b1, b2⟩, c1, c2⟩ := (boxes_cells h).mp e2
    have a2 : p.1 - q.1 < b.2.2.2 := a2
    have b2 : p.2.1 - q.2.1 < b.2.2.1 := b2
    have c2 : p.2.2 - q.2.2 < b.2.1 := c2
    refine ⟨b, mb, q, ⟨a1, ?_⟩, ⟨b1, ?_⟩, ⟨c1, ?_⟩, e⟩
    · show _ ≤ b.2.2.2 - 1; omega
    · show _ ≤ b.2.2.1 - 1; omega
    · show _ ≤ b.2.1 - 1; omega
end
end SM
end
section
set_option Elab.async false
set_option linter.all false
set_option maxRecDepth 100000
set_option maxHeartbeats 1000000
namespace K41
open PySem L2 DL
abbrev N_added : List Str := ["point", "other"]
def W_added : WS := (wRet (wTup (wCons (wBin oAdd (wBin oIx (wName 0) (wC (.int 0))) (wBin oIx (wName 1) (wC (.int 0)))) (wCons (wBin oAdd (wBin oIx (wName 0) (wC (.int 1))) (wBin oIx (wName 1) (wC (.int 1)))) (wCons (wBin oAdd (wBin oIx (wName 0) (wC (.int 2))) (wBin oIx (wName 1) (wC (.int 2)))) wNil)))))
abbrev N_sorted_corners : List Str := ["one", "other", "pairs", "axis", "low", "_", "high"]
def W_sorted_corners : WS := (wSeq (wSet 2 (wLc (wRng1 (wCons (wC (.int 3)) wNil)) (fName 3) wYes (wTup (wCons (wCall oMin2 (wCons (wBin oIx (wName 0) (wName 3)) (wCons (wBin oIx (wName 1) (wName 3)) wNil))) (wCons (wCall oMax2 (wCons (wBin oIx (wName 0) (wName 3)) (wCons (wBin oIx (wName 1) (wName 3)) wNil))) wNil))) [3])) (wRet (wTup (wCons (wCall oTuple (wCons (wLc (wSeqI (wNameF 2)) (fTup 2 (fCons (fName 4) (fCons (fName 5) fNil))) wYes (wName 4) [4, 5]) wNil)) (wCons (wCall oTuple (wCons (wLc (wSeqI (wNameF 2)) (fTup 2 (fCons (fName 5) (fCons (fName 6) fNil))) wYes (wName 6) [5, 6]) wNil)) wNil)))))
abbrev N_with_number : List Str := ["point", "axis", "number"]
def W_with_number : WS := (wRet (wTup (wStar (wSl (wName 0) wNoPart (wPart (wName 1))) (wCons (wName 2) (wStar (wSl (wName 0) (wPart (wBin oAdd (wName 1) (wC (.int 1)))) wNoPart) wNil)))))
abbrev N_first_ending_beyond : List Str := ["stretches", "number", "low", "high", "middle"]
def W_first_ending_beyond : WS := (wSeq (wPar 2 3 (wCons (wC (.int 0)) (wCons (wCall oLen (wCons (wName 0) wNil)) wNil))) (wSeq (wWhile (wTest (wBin oLt (wName 2) (wName 3))) (wSeq (wSet 4 (wBin oFdiv (wBin oAdd (wName 2) (wName 3)) (wC (.int 2)))) (wIfS (wTest (wBin oGt (wBin oIx (wBin oIx (wName 0) (wName 4)) (wC (.int 1))) (wName 1))) (wSet 3 (wName 4)) (wSet 2 (wBin oAdd (wName 4) (wC (.int 1))))))) (wRet (wName 2))))
abbrev N_first_beginning_from : List Str := ["stretches", "number", "low", "high", "middle"]
def W_first_beginning_from : WS := (wSeq (wPar 2 3 (wCons (wC (.int 0)) (wCons (wCall oLen (wCons (wName 0) wNil)) wNil))) (wSeq (wWhile (wTest (wBin oLt (wName 2) (wName 3))) (wSeq (wSet 4 (wBin oFdiv (wBin oAdd (wName 2) (wName 3)) (wC (.int 2)))) (wIfS (wTest (wBin oGe (wBin oIx (wBin oIx (wName 0) (wName 4)) (wC (.int 0))) (wName 1))) (wSet 3 (wName 4)) (wSet 2 (wBin oAdd (wName 4) (wC (.int 1))))))) (wRet (wName 2))))
abbrev N_merged : List Str := ["stretches", "out", "low", "high", "begin", "end"]
def W_merged : WS := (wSeq (wSet 1 (wLst wNil)) (wSeq (wAsg (wBin oIx (wName 0) (wC (.int 0))) (fTup 2 (fCons (fName 2) (fCons (fName 3) fNil)))) (wSeq (wFor (wSeqI (wSl (wName 0) (wPart (wC (.int 1))) wNoPart)) (fTup 2 (fCons (fName 4) (fCons (fName 5) fNil))) (wIfS (wTest (wBin oGt (wName 4) (wName 3))) (wSeq (wExpr (wApp (wName 1) (wCons (wTup (wCons (wName 2) (wCons (wName 3) wNil))) wNil))) (wPar 2 3 (wCons (wName 4) (wCons (wName 5) wNil)))) (wIfS (wTest (wBin oGt (wName 5) (wName 3))) (wSet 3 (wName 5)) wNext))) (wSeq (wExpr (wApp (wName 1) (wCons (wTup (wCons (wName 2) (wCons (wName 3) wNil))) wNil))) (wRet (wCall oTuple (wCons (wName 1) wNil)))))))
abbrev N_joined_rows : List Str := ["a", "b"]
def W_joined_rows (sp_merged : DSpec) : WS := (wSeq (wIfS (wTest (wBin (oEq false) (wName 0) (wName 1))) (wRet (wName 0)) wNext) (wSeq (wIfS (wTest (wBin oLt (wBin oIx (wBin oIx (wName 0) (wNeg (wC (.int 1)))) (wC (.int 1))) (wBin oIx (wBin oIx (wName 1) (wC (.int 0))) (wC (.int 0))))) (wRet (wBin oCat (wName 0) (wName 1))) wNext) (wSeq (wIfS (wTest (wBin oLt (wBin oIx (wBin oIx (wName 1) (wNeg (wC (.int 1)))) (wC (.int 1))) (wBin oIx (wBin oIx (wName 0) (wC (.int 0))) (wC (.int 0))))) (wRet (wBin oCat (wName 1) (wName 0))) wNext) (wRet (wUser sp_merged (wCons (wCall oSorted (wCons (wTup (wStar (wName 0) (wStar (wName 1) wNil))) wNil)) wNil))))))
abbrev N_put : List Str := ["out", "low", "high", "inside"]
def W_put : WS := (wSeq (wIfS (wNot (wTru (wName 3))) wRetN wNext) (wIfS (wAnd (wTru (wName 0)) (wAnd (wTest (wBin (oEq false) (wBin oIx (wBin oIx (wName 0) (wNeg (wC (.int 1)))) (wC (.int 1))) (wName 1))) (wTest (wBin (oEq false) (wBin oIx (wBin oIx (wName 0) (wNeg (wC (.int 1)))) (wC (.int 2))) (wName 3))))) (wPut (wTup (wCons (wBin oIx (wBin oIx (wName 0) (wNeg (wC (.int 1)))) (wC (.int 0))) (wCons (wName 2) (wCons (wName 3) wNil)))) (wName 0) (wNeg (wC (.int 1)))) (wExpr (wApp (wName 0) (wCons (wTup (wCons (wName 1) (wCons (wName 2) (wCons (wName 3) wNil)))) wNil)))))
abbrev N_put_all : List Str := ["out", "slabs", "begin", "low", "high", "inside"]
def W_put_all (sp_put : DSpec) : WS := (wSeq (wFor (wSeqI (wSl (wName 1) wNoPart (wPart (wC (.int 1))))) (fTup 3 (fCons (fName 3) (fCons (fName 4) (fCons (fName 5) fNil)))) (wExpr (wUser sp_put (wCons (wName 0) (wCons (wCall oMax2 (wCons (wName 3) (wCons (wName 2) wNil))) (wCons (wNameF 4) (wCons (wNameF 5) wNil))))))) (wExpr (wExt (wName 0) (wCons (wSl (wName 1) (wPart (wC (.int 1))) wNoPart) wNil))))
abbrev N_lay_over : List Str := ["out", "a", "b", "rule", "keeps", "i", "j", "at", "from_a", "to_a", "inside_a", "from_b", "to_b", "inside_b"]
def W_lay_over (sp_put sp_put_all : DSpec) (S : Addr → Option DSpec) : WS := (wSeq (wAsg (wTup (wCons (wC (.int 0)) (wCons (wC (.int 0)) wNil))) (fTup 2 (fCons (fName 5) (fCons (fName 6) fNil)))) (wSeq (wSet 7 (wCall oMin2 (wCons (wBin oIx (wBin oIx (wName 1) (wC (.int 0))) (wC (.int 0))) (wCons (wBin oIx (wBin oIx (wName 2) (wC (.int 0))) (wC (.int 0))) wNil)))) (wSeq (wWhile (wAnd (wTest (wBin oLt (wName 5) (wCall oLen (wCons (wName 1) wNil)))) (wTest (wBin oLt (wName 6) (wCall oLen (wCons (wName 2) wNil))))) (wSeq (wAsg (wBin oIx (wName 1) (wName 5)) (fTup 3 (fCons (fName 8) (fCons (fName 9) (fCons (fName 10) fNil))))) (wSeq (wAsg (wBin oIx (wName 2) (wName 6)) (fTup 3 (fCons (fName 11) (fCons (fName 12) (fCons (fName 13) fNil))))) (wSeq (wPar 8 11 (wCons (wCall oMax2 (wCons (wName 8) (wCons (wName 7) wNil))) (wCons (wCall oMax2 (wCons (wName 11) (wCons (wName 7) wNil))) wNil))) (wSeq (wIfS (wTest (wBin oLt (wName 8) (wName 11))) (wSeq (wSet 7 (wCall oMin2 (wCons (wName 9) (wCons (wName 11) wNil)))) (wIfS (wTru (wBin oIx (wName 4) (wC (.int 0)))) (wExpr (wUser sp_put (wCons (wName 0) (wCons (wNameF 8) (wCons (wNameF 7) (wCons (wNameF 10) wNil)))))) wNext)) (wIfS (wTest (wBin oLt (wName 11) (wName 8))) (wSeq (wSet 7 (wCall oMin2 (wCons (wName 12) (wCons (wName 8) wNil)))) (wIfS (wTru (wBin oIx (wName 4) (wC (.int 1)))) (wExpr (wUser sp_put (wCons (wName 0) (wCons (wNameF 11) (wCons (wNameF 7) (wCons (wNameF 13) wNil)))))) wNext)) (wSeq (wSet 7 (wCall oMin2 (wCons (wName 9) (wCons (wName 12) wNil)))) (wExpr (wUser sp_put (wCons (wName 0) (wCons (wNameF 8) (wCons (wNameF 7) (wCons (wLoc 3 S (wCons (wName 10) (wCons (wName 13) wNil))) wNil))))))))) (wSeq (wIfS (wTest (wBin oLe (wName 9) (wName 7))) (wAugI 5 (fun i j => i + j) (wC (.int 1))) wNext) (wIfS (wTest (wBin oLe (wName 12) (wName 7))) (wAugI 6 (fun i j => i + j) (wC (.int 1))) wNext))))))) (wSeq (wIfS (wTru (wBin oIx (wName 4) (wC (.int 0)))) (wExpr (wUser sp_put_all (wCons (wName 0) (wCons (wSl (wName 1) (wPart (wName 5)) wNoPart) (wCons (wNameF 7) wNil))))) wNext) (wIfS (wTru (wBin oIx (wName 4) (wC (.int 1)))) (wExpr (wUser sp_put_all (wCons (wName 0) (wCons (wSl (wName 2) (wPart (wName 6)) wNoPart) (wCons (wNameF 7) wNil))))) wNext)))))
abbrev N_combined : List Str := ["a", "b", "rule", "keeps", "low", "high", "from_a", "from_b", "to_a", "to_b", "out"]
def W_combined (sp_first_ending_beyond sp_first_beginning_from sp_put_all sp_lay_over : DSpec) : WS := (wSeq (wIfS (wNot (wTru (wName 0))) (wRet (wIf (wTru (wBin oIx (wName 3) (wC (.int 1)))) (wName 1) (wTup wNil))) wNext) (wSeq (wIfS (wNot (wTru (wName 1))) (wRet (wIf (wTru (wBin oIx (wName 3) (wC (.int 0)))) (wName 0) (wTup wNil))) wNext) (wSeq (wPar 4 5 (wCons (wCall oMax2 (wCons (wBin oIx (wBin oIx (wName 0) (wC (.int 0))) (wC (.int 0))) (wCons (wBin oIx (wBin oIx (wName 1) (wC (.int 0))) (wC (.int 0))) wNil))) (wCons (wCall oMin2 (wCons (wBin oIx (wBin oIx (wName 0) (wNeg (wC (.int 1)))) (wC (.int 1))) (wCons (wBin oIx (wBin oIx (wName 1) (wNeg (wC (.int 1)))) (wC (.int 1))) wNil))) wNil))) (wSeq (wPar 6 7 (wCons (wUser sp_first_ending_beyond (wCons (wNameF 0) (wCons (wNameF 4) wNil))) (wCons (wUser sp_first_ending_beyond (wCons (wNameF 1) (wCons (wNameF 4) wNil))) wNil))) (wSeq (wSet 8 (wCall oMax2 (wCons (wName 6) (wCons (wUser sp_first_beginning_from (wCons (wNameF 0) (wCons (wNameF 5) wNil))) wNil)))) (wSeq (wSet 9 (wCall oMax2 (wCons (wName 7) (wCons (wUser sp_first_beginning_from (wCons (wNameF 1) (wCons (wNameF 5) wNil))) wNil)))) (wSeq (wSet 10 (wIf (wTru (wBin oIx (wName 3) (wC (.int 0)))) (wCall oList (wCons (wSl (wName 0) wNoPart (wPart (wName 6))) wNil)) (wLst wNil))) (wSeq (wIfS (wTru (wBin oIx (wName 3) (wC (.int 1)))) (wExpr (wExt (wName 10) (wCons (wSl (wName 1) wNoPart (wPart (wName 7))) wNil))) wNext) (wSeq (wIfS (wAnd (wTest (wBin oLt (wName 6) (wName 8))) (wTest (wBin oLt (wName 7) (wName 9)))) (wExpr (wUser sp_lay_over (wCons (wName 10) (wCons (wSl (wName 0) (wPart (wName 6)) (wPart (wName 8))) (wCons (wSl (wName 1) (wPart (wName 7)) (wPart (wName 9))) (wCons (wNameF 2) (wCons (wNameF 3) wNil))))))) (wIfS (wAnd (wTru (wBin oIx (wName 3) (wC (.int 0)))) (wTest (wBin oLt (wName 6) (wName 8)))) (wExpr (wUser sp_put_all (wCons (wName 10) (wCons (wSl (wName 0) (wPart (wName 6)) (wPart (wName 8))) (wCons (wBin oIx (wBin oIx (wName 0) (wName 6)) (wC (.int 0))) wNil))))) (wIfS (wAnd (wTru (wBin oIx (wName 3) (wC (.int 1)))) (wTest (wBin oLt (wName 7) (wName 9)))) (wExpr (wUser sp_put_all (wCons (wName 10) (wCons (wSl (wName 1) (wPart (wName 7)) (wPart (wName 9))) (wCons (wBin oIx (wBin oIx (wName 1) (wName 7)) (wC (.int 0))) wNil))))) wNext))) (wSeq (wIfS (wAnd (wTru (wBin oIx (wName 3) (wC (.int 0)))) (wTest (wBin oLt (wName 8) (wCall oLen (wCons (wName 0) wNil))))) (wExpr (wUser sp_put_all (wCons (wName 10) (wCons (wSl (wName 0) (wPart (wName 8)) wNoPart) (wCons (wBin oIx (wBin oIx (wName 0) (wName 8)) (wC (.int 0))) wNil))))) wNext) (wSeq (wIfS (wAnd (wTru (wBin oIx (wName 3) (wC (.int 1)))) (wTest (wBin oLt (wName 9) (wCall oLen (wCons (wName 1) wNil))))) (wExpr (wUser sp_put_all (wCons (wName 10) (wCons (wSl (wName 1) (wPart (wName 9)) wNoPart) (wCons (wBin oIx (wBin oIx (wName 1) (wName 9)) (wC (.int 0))) wNil))))) wNext) (wRet (wCall oTuple (wCons (wName 10) wNil))))))))))))))
abbrev N_joined_layers : List Str := ["a", "b"]
def W_joined_layers (sp_combined : DSpec) (a_joined_rows : Addr) : WS := (wRet (wUser sp_combined (wCons (wNameF 0) (wCons (wNameF 1) (wCons (wFn (.ref a_joined_rows)) (wCons (wTup (wCons (wC (.bool true)) (wCons (wC (.bool true)) wNil))) wNil))))))
abbrev N_stacked : List Str := ["slabs", "rule", "half"]
def W_stacked (sp_combined sp_stacked : DSpec) : WS := (wSeq (wIfS (wTest (wBin oLt (wCall oLen (wCons (wName 0) wNil)) (wC (.int 2)))) (wRet (wCall oTuple (wCons (wName 0) wNil))) wNext) (wSeq (wSet 2 (wBin oFdiv (wCall oLen (wCons (wName 0) wNil)) (wC (.int 2)))) (wRet (wUser sp_combined (wCons (wUser sp_stacked (wCons (wSl (wName 0) wNoPart (wPart (wName 2))) (wCons (wNameF 1) wNil))) (wCons (wUser sp_stacked (wCons (wSl (wName 0) (wPart (wName 2)) wNoPart) (wCons (wNameF 1) wNil))) (wCons (wNameF 1) (wCons (wTup (wCons (wC (.bool true)) (wCons (wC (.bool true)) wNil))) wNil))))))))
abbrev N_grown_layer : List Str := ["layer", "low", "high", "rows", "begin", "end", "row", "wider", "x0", "x1"]
def W_grown_layer (sp_merged sp_stacked : DSpec) (a_joined_rows : Addr) : WS := (wSeq (wSet 3 (wLst wNil)) (wSeq (wFor (wSeqI (wNameF 0)) (fTup 3 (fCons (fName 4) (fCons (fName 5) (fCons (fName 6) fNil)))) (wSeq (wSet 7 (wUser sp_merged (wCons (wLc (wSeqI (wNameF 6)) (fTup 2 (fCons (fName 8) (fCons (fName 9) fNil))) wYes (wTup (wCons (wBin oAdd (wName 8) (wBin oIx (wName 1) (wC (.int 0)))) (wCons (wBin oAdd (wName 9) (wBin oIx (wName 2) (wC (.int 0)))) wNil))) [8, 9]) wNil))) (wExpr (wApp (wName 3) (wCons (wTup (wCons (wBin oAdd (wName 4) (wBin oIx (wName 1) (wC (.int 1)))) (wCons (wBin oAdd (wName 5) (wBin oIx (wName 2) (wC (.int 1)))) (wCons (wName 7) wNil)))) wNil))))) (wRet (wUser sp_stacked (wCons (wNameF 3) (wCons (wFn (.ref a_joined_rows)) wNil))))))
abbrev N_grown : List Str := ["solid", "low", "high", "layers", "begin", "end", "layer"]
def W_grown (sp_stacked sp_grown_layer : DSpec) (a_joined_layers : Addr) : WS := (wSeq (wSet 3 (wLc (wSeqI (wNameF 0)) (fTup 3 (fCons (fName 4) (fCons (fName 5) (fCons (fName 6) fNil)))) wYes (wTup (wCons (wBin oAdd (wName 4) (wBin oIx (wName 1) (wC (.int 2)))) (wCons (wBin oAdd (wName 5) (wBin oIx (wName 2) (wC (.int 2)))) (wCons (wUser sp_grown_layer (wCons (wNameF 6) (wCons (wNameF 1) (wCons (wNameF 2) wNil)))) wNil)))) [4, 5, 6])) (wRet (wUser sp_stacked (wCons (wNameF 3) (wCons (wFn (.ref a_joined_layers)) wNil)))))
abbrev N_count_of : List Str := ["solid", "_", "layer", "row"]
def W_count_of : WS := (wRet (wCall oSum (wCons (wLc2 (wSeqI (wNameF 0)) (fTup 3 (fCons (fName 1) (fCons (fName 1) (fCons (fName 2) fNil)))) wYes (wSeqI (wNameF 2)) (fTup 3 (fCons (fName 1) (fCons (fName 1) (fCons (fName 3) fNil)))) wYes (wCall oLen (wCons (wName 3) wNil)) [1, 2, 3] [1, 3]) wNil)))
abbrev N_box : List Str := ["corner", "other", "row"]
def W_box : WS := (wSeq (wIfS (wOr (wTest (wBin oGe (wBin oIx (wName 0) (wC (.int 0))) (wBin oIx (wName 1) (wC (.int 0))))) (wOr (wTest (wBin oGe (wBin oIx (wName 0) (wC (.int 1))) (wBin oIx (wName 1) (wC (.int 1))))) (wTest (wBin oGe (wBin oIx (wName 0) (wC (.int 2))) (wBin oIx (wName 1) (wC (.int 2))))))) (wRet (wTup wNil)) wNext) (wSeq (wSet 2 (wTup (wCons (wTup (wCons (wBin oIx (wName 0) (wC (.int 0))) (wCons (wBin oIx (wName 1) (wC (.int 0))) wNil))) wNil))) (wRet (wTup (wCons (wTup (wCons (wBin oIx (wName 0) (wC (.int 2))) (wCons (wBin oIx (wName 1) (wC (.int 2))) (wCons (wTup (wCons (wTup (wCons (wBin oIx (wName 0) (wC (.int 1))) (wCons (wBin oIx (wName 1) (wC (.int 1))) (wCons (wName 2) wNil)))) wNil)) wNil)))) wNil)))))
abbrev N_union : List Str := ["a", "b"]
def W_union (sp_combined : DSpec) (a_joined_layers : Addr) : WS := (wRet (wUser sp_combined (wCons (wNameF 0) (wCons (wNameF 1) (wCons (wFn (.ref a_joined_layers)) (wCons (wTup (wCons (wC (.bool true)) (wCons (wC (.bool true)) wNil))) wNil))))))
abbrev N_union_of : List Str := ["solids", "rows", "k"]
def W_union_of (sp_union : DSpec) : WS := (wSeq (wSet 1 (wCall oList (wCons (wName 0) wNil))) (wSeq (wWhile (wTest (wBin oGt (wCall oLen (wCons (wName 1) wNil)) (wC (.int 1)))) (wSet 1 (wLc (wRng3 (wCons (wC (.int 0)) (wCons (wCall oLen (wCons (wName 1) wNil)) (wCons (wC (.int 2)) wNil)))) (fName 2) wYes (wIf (wTest (wBin oLt (wBin oAdd (wName 2) (wC (.int 1))) (wCall oLen (wCons (wName 1) wNil)))) (wUser sp_union (wCons (wBin oIx (wName 1) (wName 2)) (wCons (wBin oIx (wName 1) (wBin oAdd (wName 2) (wC (.int 1)))) wNil))) (wBin oIx (wName 1) (wName 2))) [2]))) (wRet (wIf (wTru (wName 1)) (wBin oIx (wName 1) (wC (.int 0))) (wTup wNil)))))
abbrev N_boxes_of : List Str := ["solid", "out", "z0", "z1", "layer", "y0", "y1", "row", "x0", "x1"]
def W_boxes_of : WS := (wSeq (wSet 1 (wLst wNil)) (wSeq (wFor (wSeqI (wNameF 0)) (fTup 3 (fCons (fName 2) (fCons (fName 3) (fCons (fName 4) fNil)))) (wFor (wSeqI (wNameF 4)) (fTup 3 (fCons (fName 5) (fCons (fName 6) (fCons (fName 7) fNil)))) (wFor (wSeqI (wNameF 7)) (fTup 2 (fCons (fName 8) (fCons (fName 9) fNil))) (wExpr (wApp (wName 1) (wCons (wTup (wCons (wTup (wCons (wName 8) (wCons (wName 5) (wCons (wName 2) wNil)))) (wCons (wTup (wCons (wName 9) (wCons (wName 6) (wCons (wName 3) wNil)))) wNil))) wNil)))))) (wRet (wName 1))))
abbrev N_moved_layer : List Str := ["layer", "by", "y0", "y1", "row", "x0", "x1"]
def W_moved_layer : WS := (wRet (wCall oTuple (wCons (wLc (wSeqI (wNameF 0)) (fTup 3 (fCons (fName 2) (fCons (fName 3) (fCons (fName 4) fNil)))) wYes (wTup (wCons (wBin oAdd (wName 2) (wBin oIx (wName 1) (wC (.int 1)))) (wCons (wBin oAdd (wName 3) (wBin oIx (wName 1) (wC (.int 1)))) (wCons (wCall oTuple (wCons (wLc (wSeqI (wNameF 4)) (fTup 2 (fCons (fName 5) (fCons (fName 6) fNil))) wYes (wTup (wCons (wBin oAdd (wName 5) (wBin oIx (wName 1) (wC (.int 0)))) (wCons (wBin oAdd (wName 6) (wBin oIx (wName 1) (wC (.int 0)))) wNil))) [5, 6]) wNil)) wNil)))) [2, 3, 4]) wNil)))
abbrev N_moved : List Str := ["solid", "by", "z0", "z1", "layer"]
def W_moved (sp_moved_layer : DSpec) : WS := (wRet (wCall oTuple (wCons (wLc (wSeqI (wNameF 0)) (fTup 3 (fCons (fName 2) (fCons (fName 3) (fCons (fName 4) fNil)))) wYes (wTup (wCons (wBin oAdd (wName 2) (wBin oIx (wName 1) (wC (.int 2)))) (wCons (wBin oAdd (wName 3) (wBin oIx (wName 1) (wC (.int 2)))) (wCons (wUser sp_moved_layer (wCons (wNameF 4) (wCons (wNameF 1) wNil))) wNil)))) [2, 3, 4]) wNil)))
abbrev N_swept : List Str := ["lot", "tool", "many", "few", "low", "high"]
def W_swept (sp_grown sp_count_of sp_union_of sp_boxes_of : DSpec) : WS := (wSeq (wAsg (wIf (wTest (wBin oLe (wUser sp_count_of (wCons (wNameF 1) wNil)) (wUser sp_count_of (wCons (wNameF 0) wNil)))) (wTup (wCons (wName 0) (wCons (wName 1) wNil))) (wTup (wCons (wName 1) (wCons (wName 0) wNil)))) (fTup 2 (fCons (fName 2) (fCons (fName 3) fNil)))) (wRet (wUser sp_union_of (wCons (wLc (wSeqI (wUser sp_boxes_of (wCons (wNameF 3) wNil))) (fTup 2 (fCons (fName 4) (fCons (fName 5) fNil))) wYes (wUser sp_grown (wCons (wNameF 2) (wCons (wNameF 4) (wCons (wTup (wCons (wBin oSub (wBin oIx (wName 5) (wC (.int 0))) (wC (.int 1))) (wCons (wBin oSub (wBin oIx (wName 5) (wC (.int 1))) (wC (.int 1))) (wCons (wBin oSub (wBin oIx (wName 5) (wC (.int 2))) (wC (.int 1))) wNil)))) wNil)))) [4, 5]) wNil))))
abbrev N_cube_at : List Str := ["standing"]
def W_cube_at (sp_added sp_box : DSpec) : WS := (wRet (wUser sp_box (wCons (wNameF 0) (wCons (wUser sp_added (wCons (wNameF 0) (wCons (wTup (wCons (wC (.int 1)) (wCons (wC (.int 1)) (wCons (wC (.int 1)) wNil)))) wNil))) wNil))))
abbrev N_line_lot : List Str := ["start", "axis", "to", "low", "high"]
def W_line_lot (sp_added sp_sorted_corners sp_with_number sp_box : DSpec) : WS := (wSeq (wAsg (wUser sp_sorted_corners (wCons (wNameF 0) (wCons (wUser sp_with_number (wCons (wNameF 0) (wCons (wNameF 1) (wCons (wNameF 2) wNil)))) wNil))) (fTup 2 (fCons (fName 3) (fCons (fName 4) fNil)))) (wRet (wUser sp_box (wCons (wNameF 3) (wCons (wUser sp_added (wCons (wNameF 4) (wCons (wTup (wCons (wC (.int 1)) (wCons (wC (.int 1)) (wCons (wC (.int 1)) wNil)))) wNil))) wNil)))))
abbrev N_travel_lot : List Str := ["machine"]
def W_travel_lot (sp_added sp_box : DSpec) : WS := (wRet (wUser sp_box (wCons (wBin oIx (wName 0) (wC (.int 0))) (wCons (wUser sp_added (wCons (wBin oIx (wName 0) (wC (.int 1))) (wCons (wTup (wCons (wC (.int 1)) (wCons (wC (.int 1)) (wCons (wC (.int 1)) wNil)))) wNil))) wNil))))
abbrev N__law_cell_at : List Str := ["script", "k"]
def W__law_cell_at : WS := (wSeq (wIfS (wTest (wBin oLt (wName 1) (wCall oLen (wCons (wName 0) wNil)))) (wRet (wBin oIx (wName 0) (wName 1))) wNext) (wRet (wC (.int 0))))
abbrev N__law_draw : List Str := ["cell", "k", "bound", "primes"]
def W__law_draw : WS := (wSeq (wSet 3 (wTup (wCons (wC (.int 1000003)) (wCons (wC (.int 1000033)) (wCons (wC (.int 1000037)) (wCons (wC (.int 1000039)) (wCons (wC (.int 1000081)) (wCons (wC (.int 1000099)) (wCons (wC (.int 1000117)) (wCons (wC (.int 1000121)) (wCons (wC (.int 1000133)) (wCons (wC (.int 1000151)) (wCons (wC (.int 1000159)) (wCons (wC (.int 1000171)) (wCons (wC (.int 1000183)) (wCons (wC (.int 1000187)) (wCons (wC (.int 1000193)) (wCons (wC (.int 1000199)) wNil)))))))))))))))))) (wRet (wBin oMod (wBin oMod (wCall oInt1 (wCons (wBin oAdd (wBin oMul (wName 0) (wC (.int 48271))) (wBin oMul (wName 1) (wC (.int 69621)))) wNil)) (wBin oIx (wName 3) (wBin oMod (wCall oInt1 (wCons (wName 1) wNil)) (wC (.int 16))))) (wName 2))))
abbrev N__law_number : List Str := ["cell", "k", "bound", "power", "lap", "remains", "small"]
def W__law_number (sp__law_draw : DSpec) : WS := (wSeq (wSet 3 (wC (.int 1))) (wSeq (wFor (wRng1 (wCons (wBin oMod (wCall oInt1 (wCons (wName 1) wNil)) (wC (.int 24))) wNil)) (fName 4) (wSet 3 (wBin oMul (wName 3) (wC (.int 1009))))) (wSeq (wSet 5 (wBin oFdivW (wBin oSub (wName 0) (wBin oPow (wC (.int 10)) (wC (.int 18)))) (wName 3))) (wSeq (wIfS (wTest (wBin oGt (wName 5) (wC (.int 0)))) (wRet (wBin oMod (wBin oMod (wCall oInt1 (wCons (wName 5) wNil)) (wC (.int 1009))) (wName 2))) wNext) (wSeq (wSet 6 (wBin oMod (wCall oInt1 (wCons (wName 0) wNil)) (wC (.int 1000003)))) (wRet (wBin oMod (wUser sp__law_draw (wCons (wBin oMul (wBin oAdd (wName 6) (wBin oMul (wC (.int 977)) (wName 1))) (wBin oAdd (wBin oAdd (wName 6) (wBin oMul (wC (.int 31)) (wName 1))) (wC (.int 5)))) (wCons (wBin oAdd (wBin oMod (wCall oInt1 (wCons (wName 1) wNil)) (wC (.int 9))) (wC (.int 1))) (wCons (wC (.int 999983)) wNil)))) (wName 2))))))))
abbrev N__law_next : List Str := ["draw", "bound", "at", "cell"]
def W__law_next (sp__law_cell_at sp__law_number : DSpec) : WS := (wSeq (wPut (wBin oAdd (wBin oIx (wName 0) (wC (.int 2))) (wC (.int 1))) (wName 0) (wC (.int 2))) (wSeq (wSet 2 (wBin oFdiv (wBin oIx (wName 0) (wC (.int 2))) (wC (.int 12)))) (wSeq (wSet 3 (wBin oAdd (wUser sp__law_cell_at (wCons (wBin oIx (wName 0) (wC (.int 0))) (wCons (wBin oAdd (wBin oIx (wName 0) (wC (.int 1))) (wName 2)) wNil))) (wBin oMul (wC (.int 31)) (wName 2)))) (wRet (wUser sp__law_number (wCons (wNameF 3) (wCons (wBin oAdd (wBin oMod (wCall oInt1 (wCons (wBin oIx (wName 0) (wC (.int 2))) wNil)) (wC (.int 12))) (wC (.int 1))) (wCons (wNameF 1) wNil))))))))
abbrev N__law_tool : List Str := ["draw", "name", "wide", "deep", "cutter", "low", "high"]
def W__law_tool (sp_box sp_union sp__law_next : DSpec) : WS := (wSeq (wPar 2 3 (wCons (wBin oAdd (wC (.int 1)) (wUser sp__law_next (wCons (wName 0) (wCons (wC (.int 2)) wNil)))) (wCons (wBin oAdd (wC (.int 1)) (wUser sp__law_next (wCons (wName 0) (wCons (wC (.int 2)) wNil)))) wNil))) (wSeq (wSet 4 (wUser sp_box (wCons (wTup (wCons (wC (.int 0)) (wCons (wC (.int 0)) (wCons (wC (.int 0)) wNil)))) (wCons (wTup (wCons (wName 2) (wCons (wBin oAdd (wC (.int 1)) (wUser sp__law_next (wCons (wName 0) (wCons (wC (.int 2)) wNil)))) (wCons (wName 3) wNil)))) wNil)))) (wSeq (wIfS (wTest (wBin (oEq false) (wUser sp__law_next (wCons (wName 0) (wCons (wC (.int 4)) wNil))) (wC (.int 0)))) (wSet 4 (wUser sp_union (wCons (wNameF 4) (wCons (wUser sp_box (wCons (wTup (wCons (wNeg (wC (.int 1))) (wCons (wC (.int 0)) (wCons (wC (.int 0)) wNil)))) (wCons (wTup (wCons (wBin oAdd (wName 2) (wC (.int 1))) (wCons (wC (.int 1)) (wCons (wC (.int 1)) wNil)))) wNil))) wNil)))) wNext) (wSeq (wPar 5 6 (wCons (wTup (wCons (wNeg (wUser sp__law_next (wCons (wName 0) (wCons (wC (.int 2)) wNil)))) (wCons (wNeg (wUser sp__law_next (wCons (wName 0) (wCons (wC (.int 2)) wNil)))) (wCons (wName 3) wNil)))) (wCons (wTup (wCons (wBin oAdd (wName 2) (wUser sp__law_next (wCons (wName 0) (wCons (wC (.int 2)) wNil)))) (wCons (wBin oAdd (wC (.int 2)) (wUser sp__law_next (wCons (wName 0) (wCons (wC (.int 2)) wNil)))) (wCons (wBin oAdd (wName 3) (wC (.int 2))) wNil)))) wNil))) (wRet (wTup (wCons (wName 1) (wCons (wName 4) (wCons (wIf (wTest (wBin oGt (wUser sp__law_next (wCons (wName 0) (wCons (wC (.int 3)) wNil))) (wC (.int 0)))) (wUser sp_box (wCons (wNameF 5) (wCons (wNameF 6) wNil))) (wTup wNil)) (wCons (wBin oAdd (wC (.int 1)) (wUser sp__law_next (wCons (wName 0) (wCons (wC (.int 5)) wNil)))) wNil))))))))))
abbrev N__law_cubes : List Str := ["solid", "found", "z0", "z1", "layer", "y0", "y1", "row", "x0", "x1", "z", "y", "x"]
def W__law_cubes : WS := (wSeq (wSet 1 wDNew) (wSeq (wFor (wSeqI (wNameF 0)) (fTup 3 (fCons (fName 2) (fCons (fName 3) (fCons (fName 4) fNil)))) (wFor (wSeqI (wNameF 4)) (fTup 3 (fCons (fName 5) (fCons (fName 6) (fCons (fName 7) fNil)))) (wFor (wSeqI (wNameF 7)) (fTup 2 (fCons (fName 8) (fCons (fName 9) fNil))) (wFor (wRng2 (wCons (wName 2) (wCons (wName 3) wNil))) (fName 10) (wFor (wRng2 (wCons (wName 5) (wCons (wName 6) wNil))) (fName 11) (wFor (wRng2 (wCons (wName 8) (wCons (wName 9) wNil))) (fName 12) (wDPut (wC (.bool true)) (wName 1) (wTup (wCons (wName 12) (wCons (wName 11) (wCons (wName 10) wNil))))))))))) (wRet (wName 1))))
abbrev N_law : List Str := ["script", "draw", "name", "cutter", "holder", "rate", "turn", "start", "axis", "to", "places", "number", "lot", "found", "place", "low", "high", "cubes", "many", "at", "one"]
def W_law (sp_union sp_moved sp_swept sp_cube_at sp_line_lot sp_travel_lot sp__law_next sp__law_tool sp__law_cubes : DSpec) : WS := (wSeq (wSet 1 (wLst (wCons (wSl (wName 0) wNoPart (wPart (wC (.int 63)))) (wCons (wC (.int 0)) (wCons (wC (.int 0)) wNil))))) (wSeq (wAsg (wUser sp__law_tool (wCons (wName 1) (wCons (wC (.str "t")) wNil))) (fTup 4 (fCons (fName 2) (fCons (fName 3) (fCons (fName 4) (fCons (fName 5) fNil)))))) (wSeq (wFor (wRng1 (wCons (wC (.int 3)) wNil)) (fName 6) (wSeq (wSet 7 (wCall oTuple (wCons (wLc (wRng1 (wCons (wC (.int 3)) wNil)) (fName 8) wYes (wBin oSub (wUser sp__law_next (wCons (wName 1) (wCons (wC (.int 9)) wNil))) (wC (.int 4))) [8]) wNil))) (wSeq (wAsg (wTup (wCons (wUser sp__law_next (wCons (wName 1) (wCons (wC (.int 3)) wNil))) (wCons (wBin oSub (wUser sp__law_next (wCons (wName 1) (wCons (wC (.int 9)) wNil))) (wC (.int 4))) wNil))) (fTup 2 (fCons (fName 8) (fCons (fName 9) fNil)))) (wSeq (wSet 10 (wLst wNil)) (wSeq (wFor (wRng2 (wCons (wCall oMinL (wCons (wLst (wCons (wName 9) (wCons (wBin oIx (wName 7) (wName 8)) wNil))) wNil)) (wCons (wBin oAdd (wCall oMaxL (wCons (wLst (wCons (wName 9) (wCons (wBin oIx (wName 7) (wName 8)) wNil))) wNil)) (wC (.int 1))) wNil))) (fName 11) (wExpr (wApp (wName 10) (wCons (wCall oTuple (wCons (wLc (wEnum (wCons (wNameF 7) wNil)) (fTup 2 (fCons (fName 19) (fCons (fName 20) fNil))) wYes (wIf (wTest (wBin (oEq false) (wName 19) (wName 8))) (wName 11) (wName 20)) [19, 20]) wNil)) wNil)))) (wSeq (wSet 12 (wUser sp_line_lot (wCons (wNameF 7) (wCons (wNameF 8) (wCons (wNameF 9) wNil))))) (wSeq (wIfS (wOr (wTest (wBin (oEq true) (wCall oSortedD (wCons (wFrz (wUser sp__law_cubes (wCons (wNameF 12) wNil))) wNil)) (wCall oSorted (wCons (wName 10) wNil)))) (wTest (wBin (oEqDic true) (wUser sp__law_cubes (wCons (wUser sp_cube_at (wCons (wNameF 7) wNil)) wNil)) (wDisp1 (wName 7) (wC (.bool true)))))) (wRet (wC (.bool false))) wNext) (wSeq (wSet 13 (wTup wNil)) (wSeq (wFor (wSeqI (wNameF 10)) (fName 14) (wSet 13 (wUser sp_union (wCons (wNameF 13) (wCons (wUser sp_moved (wCons (wNameF 3) (wCons (wNameF 14) wNil))) wNil))))) (wIfS (wTest (wBin (oEq true) (wUser sp_swept (wCons (wNameF 12) (wCons (wNameF 3) wNil))) (wName 13))) (wRet (wC (.bool false))) wNext)))))))))) (wSeq (wSet 15 (wCall oTuple (wCons (wLc (wRng1 (wCons (wC (.int 3)) wNil)) (fName 8) wYes (wBin oSub (wUser sp__law_next (wCons (wName 1) (wCons (wC (.int 5)) wNil))) (wC (.int 4))) [8]) wNil))) (wSeq (wSet 16 (wCall oTuple (wCons (wLc (wSeqI (wNameF 15)) (fName 20) wYes (wBin oAdd (wName 20) (wUser sp__law_next (wCons (wName 1) (wCons (wC (.int 3)) wNil)))) [20]) wNil))) (wSeq (wSet 17 (wUser sp__law_cubes (wCons (wUser sp_travel_lot (wCons (wTup (wCons (wName 15) (wCons (wName 16) (wCons (wName 15) (wCons (wC (.int 1)) (wCons (wC (.int 1)) (wCons (wC (.int 1)) wNil))))))) wNil)) wNil))) (wSeq (wSet 18 (wC (.int 1))) (wSeq (wFor (wRng1 (wCons (wC (.int 3)) wNil)) (fName 8) (wSet 18 (wBin oMul (wName 18) (wBin oAdd (wBin oSub (wBin oIx (wName 16) (wName 8)) (wBin oIx (wName 15) (wName 8))) (wC (.int 1)))))) (wRet (wAndV (wBin (oEq false) (wCall oLenD (wCons (wName 17) wNil)) (wName 18)) (wAndV (wBin (oIn false) (wName 15) (wName 17)) (wBin (oIn false) (wName 16) (wName 17)))))))))))))
end K41
end
section
set_option Elab.async false
set_option linter.all false
set_option maxRecDepth 100000
set_option maxHeartbeats 2000000
namespace K41
open PySem L2 DL
def topS (i : Nat) : Stmt := PySem.Challenge.pw_shopwhole_k41_lots.main.body.getD i (.Pass ⟨0, 0, 0, 0⟩)
/-! added -/
abbrev st_added : Stmt := topS 1
theorem sc_added : FnScope N_added ["point", "other"] (defScope st_added) := ⟨rfl, rfl, rfl, by decide +kernel, rfl, by decide +kernel, by decide +kernel⟩
theorem dv_added {P : Program} {w : World} {K : PySem.W.Frag} {mg : Str → Option Value} {base : Heap} {k : Nat} {f : Addr} {cdv : Value} {A : Around} {outer : List Env} {s : Shared} {H : Hp} (hr : Room k (cxOf CX0 P w K mg base N_added "added" (defScope st_added) f cdv A outer s H E0).nox.A) : ∃ t, XSs (cxOf CX0 P w K mg base N_added "added" (defScope st_added) f cdv A outer s H E0).nox (defBody st_added) t (W_added) :=
  ⟨_, (xss_one (xs_ret (xe_tup (xa_cons (xe_op xo_add (xe_ix (xe_name (pv 0)) xe_int (fun _ _ => rfl)) (xe_ix (xe_name (pv 1)) xe_int (fun _ _ => rfl))) (xa_cons (xe_op xo_add (xe_ix (xe_name (pv 0)) xe_int (fun _ _ => rfl)) (xe_ix (xe_name (pv 1)) xe_int (fun _ _ => rfl))) (xa_cons (xe_op xo_add (xe_ix (xe_name (pv 0)) xe_int (fun _ _ => rfl)) (xe_ix (xe_name (pv 1)) xe_int (fun _ _ => rfl))) xa_nil))))))⟩
theorem ok_added {P : Program} {w : World} {K : PySem.W.Frag} {mg : Str → Option Value} {base : Heap} {k : Nat} {f : Addr} {fd : FuncData} {sp : DSpec} (F : Fun K "added" "added" st_added f fd) (hl : ∀ ds K', sp ds K' → ds.length = 2) (hw : ∀ ds K', sp ds K' → W_added { nx := fun ρ => K' (.dat .none) (outsOf ds ρ), rt := fun r ρ => K' r (outsOf ds ρ) } (startD N_added ds)) : FnOk P w K mg base CX0 (k + 1) f fd ["point", "other"] (spD K sp) :=
  fn_data F sc_added hl fun cdv A outer s H hr => by
    obtain ⟨t, h⟩ := dv_added (f := f) (cdv := cdv) (A := A) (outer := outer) (s := s) (H := H) hr
    exact ⟨t, _, h, hw⟩
/-! sorted_corners -/
abbrev st_sorted_corners : Stmt := topS 2
theorem sc_sorted_corners : FnScope N_sorted_corners ["one", "other"] (defScope st_sorted_corners) := ⟨rfl, rfl, rfl, by decide +kernel, rfl, by decide +kernel, by decide +kernel⟩
theorem dv_sorted_corners {P : Program} {w : World} {K : PySem.W.Frag} {mg : Str → Option Value} {base : Heap} {k : Nat} {f : Addr} {cdv : Value} {A : Around} {outer : List Env} {s : Shared} {H : Hp} (m_max : mg "max" = none) (m_min : mg "min" = none) (m_range : mg "range" = none) (m_tuple : mg "tuple" = none) (hr : Room k (cxOf CX0 P w K mg base N_sorted_corners "sorted_corners" (defScope st_sorted_corners) f cdv A outer s H E0).nox.A) : ∃ t, XSs (cxOf CX0 P w K mg base N_sorted_corners "sorted_corners" (defScope st_sorted_corners) f cdv A outer s H E0).nox (defBody st_sorted_corners) t (W_sorted_corners) :=
  ⟨_, (xss_cons (xs_setLcD (i := 2) (own := [("axis", 3)]) rfl sc_sorted_corners.nd  rfl rfl (sw_true rfl rfl rfl (by decide +kernel)) (xi_range1 (by rfl) m_range (xa_cons xe_int xa_nil)) (blkOk_by (N := N_sorted_corners) (sc := defScope st_sorted_corners) (by decide +kernel)) (fun _ _ _ _ _ => (xg_name (i := 3) sc_sorted_corners.nd rfl (Or.inl rfl))) (fun _ _ _ _ _ => xts_nil) (fun _ _ _ _ _ => (xe_tup (xa_cons (xe_callB xc_min2 (by rfl) m_min (by decide +kernel) (xa_cons (xe_ix (xe_name (pv 0)) (xe_name (pv 3)) (fun _ _ => rfl)) (xa_cons (xe_ix (xe_name (pv 1)) (xe_name (pv 3)) (fun _ _ => rfl)) xa_nil))) (xa_cons (xe_callB xc_max2 (by rfl) m_max (by decide +kernel) (xa_cons (xe_ix (xe_name (pv 0)) (xe_name (pv 3)) (fun _ _ => rfl)) (xa_cons (xe_ix (xe_name (pv 1)) (xe_name (pv 3)) (fun _ _ => rfl)) xa_nil))) xa_nil))))) (xss_one (xs_ret (xe_tup (xa_cons (xe_callTy xc_tuple (by rfl) m_tuple (by decide +kernel) (xa_cons (xe_lcD (own := [("low", 4), ("_", 5)]) rfl sc_sorted_corners.nd (xi_seq (xe_nameF (pv 2))) (blkOk_by (N := N_sorted_corners) (sc := defScope st_sorted_corners) (by decide +kernel)) (fun _ _ _ _ _ => (xg_tup rfl (xgs_cons (xg_name (i := 4) sc_sorted_corners.nd rfl (Or.inl rfl)) (xgs_cons (xg_name (i := 5) sc_sorted_corners.nd rfl (Or.inl rfl)) xgs_nil)))) (fun _ _ _ _ _ => xts_nil) (fun _ _ _ _ _ => (xe_name (pv 4)))) xa_nil)) (xa_cons (xe_callTy xc_tuple (by rfl) m_tuple (by decide +kernel) (xa_cons (xe_lcD (own := [("_", 5), ("high", 6)]) rfl sc_sorted_corners.nd (xi_seq (xe_nameF (pv 2))) (blkOk_by (N := N_sorted_corners) (sc := defScope st_sorted_corners) (by decide +kernel)) (fun _ _ _ _ _ => (xg_tup rfl (xgs_cons (xg_name (i := 5) sc_sorted_corners.nd rfl (Or.inl rfl)) (xgs_cons (xg_name (i := 6) sc_sorted_corners.nd rfl (Or.inl rfl)) xgs_nil)))) (fun _ _ _ _ _ => xts_nil) (fun _ _ _ _ _ => (xe_name (pv 6)))) xa_nil)) xa_nil))))))⟩
theorem ok_sorted_corners {P : Program} {w : World} {K : PySem.W.Frag} {mg : Str → Option Value} {base : Heap} {k : Nat} {f : Addr} {fd : FuncData} {sp : DSpec} (m_max : mg "max" = none) (m_min : mg "min" = none) (m_range : mg "range" = none) (m_tuple : mg "tuple" = none) (F : Fun K "sorted_corners" "sorted_corners" st_sorted_corners f fd) (hl : ∀ ds K', sp ds K' → ds.length = 2) (hw : ∀ ds K', sp ds K' → W_sorted_corners { nx := fun ρ => K' (.dat .none) (outsOf ds ρ), rt := fun r ρ => K' r (outsOf ds ρ) } (startD N_sorted_corners ds)) : FnOk P w K mg base CX0 (k + 1) f fd ["one", "other"] (spD K sp) :=
  fn_data F sc_sorted_corners hl fun cdv A outer s H hr => by
    obtain ⟨t, h⟩ := dv_sorted_corners (f := f) (cdv := cdv) (A := A) (outer := outer) (s := s) (H := H) m_max m_min m_range m_tuple hr
    exact ⟨t, _, h, hw⟩
/-! with_number -/
abbrev st_with_number : Stmt := topS 3
theorem sc_with_number : FnScope N_with_number ["point", "axis", "number"] (defScope st_with_number) := ⟨rfl, rfl, rfl, by decide +kernel, rfl, by decide +kernel, by decide +kernel⟩
theorem dv_with_number {P : Program} {w : World} {K : PySem.W.Frag} {mg : Str → Option Value} {base : Heap} {k : Nat} {f : Addr} {cdv : Value} {A : Around} {outer : List Env} {s : Shared} {H : Hp} (hr : Room k (cxOf CX0 P w K mg base N_with_number "with_number" (defScope st_with_number) f cdv A outer s H E0).nox.A) : ∃ t, XSs (cxOf CX0 P w K mg base N_with_number "with_number" (defScope st_with_number) f cdv A outer s H E0).nox (defBody st_with_number) t (W_with_number) :=
  ⟨_, (xss_one (xs_ret (xe_tup (xa_star (xe_sl (xe_name (pv 0)) xp_none (xp_some (xe_name (pv 1)))) (xa_cons (xe_name (pv 2)) (xa_star (xe_sl (xe_name (pv 0)) (xp_some (xe_op xo_add (xe_name (pv 1)) xe_int)) xp_none) xa_nil))))))⟩
theorem ok_with_number {P : Program} {w : World} {K : PySem.W.Frag} {mg : Str → Option Value} {base : Heap} {k : Nat} {f : Addr} {fd : FuncData} {sp : DSpec} (F : Fun K "with_number" "with_number" st_with_number f fd) (hl : ∀ ds K', sp ds K' → ds.length = 3) (hw : ∀ ds K', sp ds K' → W_with_number { nx := fun ρ => K' (.dat .none) (outsOf ds ρ), rt := fun r ρ => K' r (outsOf ds ρ) } (startD N_with_number ds)) : FnOk P w K mg base CX0 (k + 1) f fd ["point", "axis", "number"] (spD K sp) :=
  fn_data F sc_with_number hl fun cdv A outer s H hr => by
    obtain ⟨t, h⟩ := dv_with_number (f := f) (cdv := cdv) (A := A) (outer := outer) (s := s) (H := H) hr
    exact ⟨t, _, h, hw⟩
/-! first_ending_beyond -/
abbrev st_first_ending_beyond : Stmt := topS 5
theorem sc_first_ending_beyond : FnScope N_first_ending_beyond ["stretches", "number"] (defScope st_first_ending_beyond) := ⟨rfl, rfl, rfl, by decide +kernel, rfl, by decide +kernel, by decide +kernel⟩
theorem dv_first_ending_beyond {P : Program} {w : World} {K : PySem.W.Frag} {mg : Str → Option Value} {base : Heap} {k : Nat} {f : Addr} {cdv : Value} {A : Around} {outer : List Env} {s : Shared} {H : Hp} (m_len : mg "len" = none) (hr : Room k (cxOf CX0 P w K mg base N_first_ending_beyond "first_ending_beyond" (defScope st_first_ending_beyond) f cdv A outer s H E0).nox.A) : ∃ t, XSs (cxOf CX0 P w K mg base N_first_ending_beyond "first_ending_beyond" (defScope st_first_ending_beyond) f cdv A outer s H E0).nox (defBody st_first_ending_beyond) t (W_first_ending_beyond) :=
  ⟨_, (xss_cons (xs_par (i := 2) (j := 3) rfl sc_first_ending_beyond.nd rfl rfl (by decide) rfl rfl (xa_cons xe_int (xa_cons (xe_callB xc_len (by rfl) m_len (by decide +kernel) (xa_cons (xe_name (pv 0)) xa_nil)) xa_nil)) (by rfl)) (xss_cons (xs_while PassesOwn.never (xt_cmp xo_lt (xe_name (pv 2)) (xe_name (pv 3)) (nomark _)) (xss_cons (xs_set (i := 4) sc_first_ending_beyond.nd rfl (Or.inl rfl) (xe_op xo_fdiv (xe_op xo_add (xe_name (pv 2)) (xe_name (pv 3))) xe_int)) (xss_one (xs_if (xt_cmp xo_gt (xe_ix (xe_ix (xe_name (pv 0)) (xe_name (pv 4)) (fun _ _ => rfl)) xe_int (fun _ _ => rfl)) (xe_name (pv 1)) (nomark _)) (xss_one (xs_set (i := 3) sc_first_ending_beyond.nd rfl (Or.inl rfl) (xe_name (pv 4)))) (xss_one (xs_set (i := 2) sc_first_ending_beyond.nd rfl (Or.inl rfl) (xe_op xo_add (xe_name (pv 4)) xe_int))))))) (xss_one (xs_ret (xe_name (pv 2))))))⟩
theorem ok_first_ending_beyond {P : Program} {w : World} {K : PySem.W.Frag} {mg : Str → Option Value} {base : Heap} {k : Nat} {f : Addr} {fd : FuncData} {sp : DSpec} (m_len : mg "len" = none) (F : Fun K "first_ending_beyond" "first_ending_beyond" st_first_ending_beyond f fd) (hl : ∀ ds K', sp ds K' → ds.length = 2) (hw : ∀ ds K', sp ds K' → W_first_ending_beyond { nx := fun ρ => K' (.dat .none) (outsOf ds ρ), rt := fun r ρ => K' r (outsOf ds ρ) } (startD N_first_ending_beyond ds)) : FnOk P w K mg base CX0 (k + 1) f fd ["stretches", "number"] (spD K sp) :=
  fn_data F sc_first_ending_beyond hl fun cdv A outer s H hr => by
    obtain ⟨t, h⟩ := dv_first_ending_beyond (f := f) (cdv := cdv) (A := A) (outer := outer) (s := s) (H := H) m_len hr
    exact ⟨t, _, h, hw⟩
/-! first_beginning_from -/
abbrev st_first_beginning_from : Stmt := topS 6
theorem sc_first_beginning_from : FnScope N_first_beginning_from ["stretches", "number"] (defScope st_first_beginning_from) := ⟨rfl, rfl, rfl, by decide +kernel, rfl, by decide +kernel, by decide +kernel⟩
theorem dv_first_beginning_from {P : Program} {w : World} {K : PySem.W.Frag} {mg : Str → Option Value} {base : Heap} {k : Nat} {f : Addr} {cdv : Value} {A : Around} {outer : List Env} {s : Shared} {H : Hp} (m_len : mg "len" = none) (hr : Room k (cxOf CX0 P w K mg base N_first_beginning_from "first_beginning_from" (defScope st_first_beginning_from) f cdv A outer s H E0).nox.A) : ∃ t, XSs (cxOf CX0 P w K mg base N_first_beginning_from "first_beginning_from" (defScope st_first_beginning_from) f cdv A outer s H E0).nox (defBody st_first_beginning_from) t (W_first_beginning_from) :=
  ⟨_, (xss_cons (xs_par (i := 2) (j := 3) rfl sc_first_beginning_from.nd rfl rfl (by decide) rfl rfl (xa_cons xe_int (xa_cons (xe_callB xc_len (by rfl) m_len (by decide +kernel) (xa_cons (xe_name (pv 0)) xa_nil)) xa_nil)) (by rfl)) (xss_cons (xs_while PassesOwn.never (xt_cmp xo_lt (xe_name (pv 2)) (xe_name (pv 3)) (nomark _)) (xss_cons (xs_set (i := 4) sc_first_beginning_from.nd rfl (Or.inl rfl) (xe_op xo_fdiv (xe_op xo_add (xe_name (pv 2)) (xe_name (pv 3))) xe_int)) (xss_one (xs_if (xt_cmp xo_ge (xe_ix (xe_ix (xe_name (pv 0)) (xe_name (pv 4)) (fun _ _ => rfl)) xe_int (fun _ _ => rfl)) (xe_name (pv 1)) (nomark _)) (xss_one (xs_set (i := 3) sc_first_beginning_from.nd rfl (Or.inl rfl) (xe_name (pv 4)))) (xss_one (xs_set (i := 2) sc_first_beginning_from.nd rfl (Or.inl rfl) (xe_op xo_add (xe_name (pv 4)) xe_int))))))) (xss_one (xs_ret (xe_name (pv 2))))))⟩
theorem ok_first_beginning_from {P : Program} {w : World} {K : PySem.W.Frag} {mg : Str → Option Value} {base : Heap} {k : Nat} {f : Addr} {fd : FuncData} {sp : DSpec} (m_len : mg "len" = none) (F : Fun K "first_beginning_from" "first_beginning_from" st_first_beginning_from f fd) (hl : ∀ ds K', sp ds K' → ds.length = 2) (hw : ∀ ds K', sp ds K' → W_first_beginning_from { nx := fun ρ => K' (.dat .none) (outsOf ds ρ), rt := fun r ρ => K' r (outsOf ds ρ) } (startD N_first_beginning_from ds)) : FnOk P w K mg base CX0 (k + 1) f fd ["stretches", "number"] (spD K sp) :=
  fn_data F sc_first_beginning_from hl fun cdv A outer s H hr => by
    obtain ⟨t, h⟩ := dv_first_beginning_from (f := f) (cdv := cdv) (A := A) (outer := outer) (s := s) (H := H) m_len hr
    exact ⟨t, _, h, hw⟩
/-! merged -/
abbrev st_merged : Stmt := topS 7
theorem sc_merged : FnScope N_merged ["stretches"] (defScope st_merged) := ⟨rfl, rfl, rfl, by decide +kernel, rfl, by decide +kernel, by decide +kernel⟩
theorem dv_merged {P : Program} {w : World} {K : PySem.W.Frag} {mg : Str → Option Value} {base : Heap} {k : Nat} {f : Addr} {cdv : Value} {A : Around} {outer : List Env} {s : Shared} {H : Hp} (m_tuple : mg "tuple" = none) (hr : Room k (cxOf CX0 P w K mg base N_merged "merged" (defScope st_merged) f cdv A outer s H E0).nox.A) : ∃ t, XSs (cxOf CX0 P w K mg base N_merged "merged" (defScope st_merged) f cdv A outer s H E0).nox (defBody st_merged) t (W_merged) :=
  ⟨_, (xss_cons (xs_set (i := 1) sc_merged.nd rfl (Or.inl rfl) (xe_lst xa_nil)) (xss_cons (xs_asg (xe_ix (xe_name (pv 0)) xe_int (fun _ _ => rfl)) (xg_tup rfl (xgs_cons (xg_name (i := 2) sc_merged.nd rfl (Or.inl rfl)) (xgs_cons (xg_name (i := 3) sc_merged.nd rfl (Or.inl rfl)) xgs_nil)))) (xss_cons (xs_for PassesOwn.never rfl (xi_seq (xe_sl (xe_name (pv 0)) (xp_some xe_int) xp_none)) (xg_tup rfl (xgs_cons (xg_name (i := 4) sc_merged.nd rfl (Or.inl rfl)) (xgs_cons (xg_name (i := 5) sc_merged.nd rfl (Or.inl rfl)) xgs_nil))) (xss_one (xs_if (xt_cmp xo_gt (xe_name (pv 4)) (xe_name (pv 3)) (nomark _)) (xss_cons (xs_expr (xe_append (xe_name (pv 1)) (xa_cons (xe_tup (xa_cons (xe_name (pv 2)) (xa_cons (xe_name (pv 3)) xa_nil))) xa_nil))) (xss_one (xs_par (i := 2) (j := 3) rfl sc_merged.nd rfl rfl (by decide) rfl rfl (xa_cons (xe_name (pv 4)) (xa_cons (xe_name (pv 5)) xa_nil)) (by rfl)))) (xss_one (xs_if (xt_cmp xo_gt (xe_name (pv 5)) (xe_name (pv 3)) (nomark _)) (xss_one (xs_set (i := 3) sc_merged.nd rfl (Or.inl rfl) (xe_name (pv 5)))) xss_nil))))) (xss_cons (xs_expr (xe_append (xe_name (pv 1)) (xa_cons (xe_tup (xa_cons (xe_name (pv 2)) (xa_cons (xe_name (pv 3)) xa_nil))) xa_nil))) (xss_one (xs_ret (xe_callTy xc_tuple (by rfl) m_tuple (by decide +kernel) (xa_cons (xe_name (pv 1)) xa_nil))))))))⟩
theorem ok_merged {P : Program} {w : World} {K : PySem.W.Frag} {mg : Str → Option Value} {base : Heap} {k : Nat} {f : Addr} {fd : FuncData} {sp : DSpec} (m_tuple : mg "tuple" = none) (F : Fun K "merged" "merged" st_merged f fd) (hl : ∀ ds K', sp ds K' → ds.length = 1) (hw : ∀ ds K', sp ds K' → W_merged { nx := fun ρ => K' (.dat .none) (outsOf ds ρ), rt := fun r ρ => K' r (outsOf ds ρ) } (startD N_merged ds)) : FnOk P w K mg base CX0 (k + 1) f fd ["stretches"] (spD K sp) :=
  fn_data F sc_merged hl fun cdv A outer s H hr => by
    obtain ⟨t, h⟩ := dv_merged (f := f) (cdv := cdv) (A := A) (outer := outer) (s := s) (H := H) m_tuple hr
    exact ⟨t, _, h, hw⟩
/-! joined_rows -/
abbrev st_joined_rows : Stmt := topS 8
theorem sc_joined_rows : FnScope N_joined_rows ["a", "b"] (defScope st_joined_rows) := ⟨rfl, rfl, rfl, by decide +kernel, rfl, by decide +kernel, by decide +kernel⟩
theorem dv_joined_rows {P : Program} {w : World} {K : PySem.W.Frag} {mg : Str → Option Value} {base : Heap} {k : Nat} {f : Addr} {cdv : Value} {A : Around} {outer : List Env} {s : Shared} {H : Hp} (sp_merged : DSpec) (m_sorted : mg "sorted" = none) (c_merged : Cal P w K mg base k "merged" sp_merged) (hr : Room k (cxOf CX0 P w K mg base N_joined_rows "joined_rows" (defScope st_joined_rows) f cdv A outer s H E0).nox.A) : ∃ t, XSs (cxOf CX0 P w K mg base N_joined_rows "joined_rows" (defScope st_joined_rows) f cdv A outer s H E0).nox (defBody st_joined_rows) t (W_joined_rows sp_merged) :=
  ⟨_, (xss_cons (xs_if (xt_cmp (xo_eq (Room.units (by exact hr))) (xe_name (pv 0)) (xe_name (pv 1)) (nomark _)) (xss_one (xs_ret (xe_name (pv 0)))) xss_nil) (xss_cons (xs_if (xt_cmp xo_lt (xe_ix (xe_ix (xe_name (pv 0)) (xe_neg xe_int) (fun _ _ => rfl)) xe_int (fun _ _ => rfl)) (xe_ix (xe_ix (xe_name (pv 1)) xe_int (fun _ _ => rfl)) xe_int (fun _ _ => rfl)) (nomark _)) (xss_one (xs_ret (xe_op xo_catT (xe_name (pv 0)) (xe_name (pv 1))))) xss_nil) (xss_cons (xs_if (xt_cmp xo_lt (xe_ix (xe_ix (xe_name (pv 1)) (xe_neg xe_int) (fun _ _ => rfl)) xe_int (fun _ _ => rfl)) (xe_ix (xe_ix (xe_name (pv 0)) xe_int (fun _ _ => rfl)) xe_int (fun _ _ => rfl)) (nomark _)) (xss_one (xs_ret (xe_op xo_catT (xe_name (pv 1)) (xe_name (pv 0))))) xss_nil) (xss_one (xs_ret (xe_callc c_merged (by exact hr) (Nat.le_refl _) (by rfl) (xa_cons (xe_callB (xc_sorted (Room.units (by exact hr))) (by rfl) m_sorted (by decide +kernel) (xa_cons (xe_tup (xa_star (xe_name (pv 0)) (xa_star (xe_name (pv 1)) xa_nil))) xa_nil)) xa_nil)))))))⟩
theorem ok_joined_rows {P : Program} {w : World} {K : PySem.W.Frag} {mg : Str → Option Value} {base : Heap} {k : Nat} {f : Addr} {fd : FuncData} {sp : DSpec} (sp_merged : DSpec) (m_sorted : mg "sorted" = none) (c_merged : Cal P w K mg base k "merged" sp_merged) (F : Fun K "joined_rows" "joined_rows" st_joined_rows f fd) (hl : ∀ ds K', sp ds K' → ds.length = 2) (hw : ∀ ds K', sp ds K' → W_joined_rows sp_merged { nx := fun ρ => K' (.dat .none) (outsOf ds ρ), rt := fun r ρ => K' r (outsOf ds ρ) } (startD N_joined_rows ds)) : FnOk P w K mg base CX0 (k + 1) f fd ["a", "b"] (spD K sp) :=
  fn_data F sc_joined_rows hl fun cdv A outer s H hr => by
    obtain ⟨t, h⟩ := dv_joined_rows (f := f) (cdv := cdv) (A := A) (outer := outer) (s := s) (H := H) sp_merged m_sorted c_merged hr
    exact ⟨t, _, h, hw⟩
/-! put -/
abbrev st_put : Stmt := topS 9
theorem sc_put : FnScope N_put ["out", "low", "high", "inside"] (defScope st_put) := ⟨rfl, rfl, rfl, by decide +kernel, rfl, by decide +kernel, by decide +kernel⟩
theorem dv_put {P : Program} {w : World} {K : PySem.W.Frag} {mg : Str → Option Value} {base : Heap} {k : Nat} {f : Addr} {cdv : Value} {A : Around} {outer : List Env} {s : Shared} {H : Hp} (hr : Room k (cxOf CX0 P w K mg base N_put "put" (defScope st_put) f cdv A outer s H E0).nox.A) : ∃ t, XSs (cxOf CX0 P w K mg base N_put "put" (defScope st_put) f cdv A outer s H E0).nox (defBody st_put) t (W_put) :=
  ⟨_, (xss_cons (xs_if (xt_not (xt_tru (xe_name (pv 3)))) (xss_one xs_retN) xss_nil) (xss_one (xs_if (xw_and (xt_tru (xe_name (pv 0))) (xw_and (xt_cmp (xo_eq (Room.units (by exact hr))) (xe_ix (xe_ix (xe_name (pv 0)) (xe_neg xe_int) (fun _ _ => rfl)) xe_int (fun _ _ => rfl)) (xe_name (pv 1)) (nomark _)) (xw_and1 (xt_cmp (xo_eq (Room.units (by exact hr))) (xe_ix (xe_ix (xe_name (pv 0)) (xe_neg xe_int) (fun _ _ => rfl)) xe_int (fun _ _ => rfl)) (xe_name (pv 3)) (nomark _))))).xt (xss_one (xs_put (xe_tup (xa_cons (xe_ix (xe_ix (xe_name (pv 0)) (xe_neg xe_int) (fun _ _ => rfl)) xe_int (fun _ _ => rfl)) (xa_cons (xe_name (pv 2)) (xa_cons (xe_name (pv 3)) xa_nil)))) (xe_name (pv 0)) (xe_neg xe_int))) (xss_one (xs_expr (xe_append (xe_name (pv 0)) (xa_cons (xe_tup (xa_cons (xe_name (pv 1)) (xa_cons (xe_name (pv 2)) (xa_cons (xe_name (pv 3)) xa_nil)))) xa_nil)))))))⟩
theorem ok_put {P : Program} {w : World} {K : PySem.W.Frag} {mg : Str → Option Value} {base : Heap} {k : Nat} {f : Addr} {fd : FuncData} {sp : DSpec} (F : Fun K "put" "put" st_put f fd) (hl : ∀ ds K', sp ds K' → ds.length = 4) (hw : ∀ ds K', sp ds K' → W_put { nx := fun ρ => K' (.dat .none) (outsOf ds ρ), rt := fun r ρ => K' r (outsOf ds ρ) } (startD N_put ds)) : FnOk P w K mg base CX0 (k + 1) f fd ["out", "low", "high", "inside"] (spD K sp) :=
  fn_data F sc_put hl fun cdv A outer s H hr => by
    obtain ⟨t, h⟩ := dv_put (f := f) (cdv := cdv) (A := A) (outer := outer) (s := s) (H := H) hr
    exact ⟨t, _, h, hw⟩
/-! put_all -/
abbrev st_put_all : Stmt := topS 10
theorem sc_put_all : FnScope N_put_all ["out", "slabs", "begin"] (defScope st_put_all) := ⟨rfl, rfl, rfl, by decide +kernel, rfl, by decide +kernel, by decide +kernel⟩
theorem dv_put_all {P : Program} {w : World} {K : PySem.W.Frag} {mg : Str → Option Value} {base : Heap} {k : Nat} {f : Addr} {cdv : Value} {A : Around} {outer : List Env} {s : Shared} {H : Hp} (sp_put : DSpec) (m_max : mg "max" = none) (c_put : Cal P w K mg base k "put" sp_put) (hr : Room k (cxOf CX0 P w K mg base N_put_all "put_all" (defScope st_put_all) f cdv A outer s H E0).nox.A) : ∃ t, XSs (cxOf CX0 P w K mg base N_put_all "put_all" (defScope st_put_all) f cdv A outer s H E0).nox (defBody st_put_all) t (W_put_all sp_put) :=
  ⟨_, (xss_cons (xs_for PassesOwn.never rfl (xi_seq (xe_sl (xe_name (pv 1)) xp_none (xp_some xe_int))) (xg_tup rfl (xgs_cons (xg_name (i := 3) sc_put_all.nd rfl (Or.inl rfl)) (xgs_cons (xg_name (i := 4) sc_put_all.nd rfl (Or.inl rfl)) (xgs_cons (xg_name (i := 5) sc_put_all.nd rfl (Or.inl rfl)) xgs_nil)))) (xss_one (xs_expr (xe_callc c_put (by exact hr) (Nat.le_refl _) (by rfl) (xa_cons (xe_name (pv 0)) (xa_cons (xe_callB xc_max2 (by rfl) m_max (by decide +kernel) (xa_cons (xe_name (pv 3)) (xa_cons (xe_name (pv 2)) xa_nil))) (xa_cons (xe_nameF (pv 4)) (xa_cons (xe_nameF (pv 5)) xa_nil)))))))) (xss_one (xs_expr (xe_extend (xe_name (pv 0)) (xa_cons (xe_sl (xe_name (pv 1)) (xp_some xe_int) xp_none) xa_nil)))))⟩
theorem ok_put_all {P : Program} {w : World} {K : PySem.W.Frag} {mg : Str → Option Value} {base : Heap} {k : Nat} {f : Addr} {fd : FuncData} {sp : DSpec} (sp_put : DSpec) (m_max : mg "max" = none) (c_put : Cal P w K mg base k "put" sp_put) (F : Fun K "put_all" "put_all" st_put_all f fd) (hl : ∀ ds K', sp ds K' → ds.length = 3) (hw : ∀ ds K', sp ds K' → W_put_all sp_put { nx := fun ρ => K' (.dat .none) (outsOf ds ρ), rt := fun r ρ => K' r (outsOf ds ρ) } (startD N_put_all ds)) : FnOk P w K mg base CX0 (k + 1) f fd ["out", "slabs", "begin"] (spD K sp) :=
  fn_data F sc_put_all hl fun cdv A outer s H hr => by
    obtain ⟨t, h⟩ := dv_put_all (f := f) (cdv := cdv) (A := A) (outer := outer) (s := s) (H := H) sp_put m_max c_put hr
    exact ⟨t, _, h, hw⟩
/-! lay_over -/
abbrev st_lay_over : Stmt := topS 11
theorem sc_lay_over : FnScope N_lay_over ["out", "a", "b", "rule", "keeps"] (defScope st_lay_over) := ⟨rfl, rfl, rfl, by decide +kernel, rfl, by decide +kernel, by decide +kernel⟩
theorem dv_lay_over {P : Program} {w : World} {K : PySem.W.Frag} {mg : Str → Option Value} {base : Heap} {k : Nat} {f : Addr} {cdv : Value} {A : Around} {outer : List Env} {s : Shared} {H : Hp} (sp_put sp_put_all : DSpec) (S : Addr → Option DSpec) (m_len : mg "len" = none) (m_max : mg "max" = none) (m_min : mg "min" = none) (c_put : Cal P w K mg base k "put" sp_put) (c_put_all : Cal P w K mg base k "put_all" sp_put_all) (hS : ∀ f sp, S f = some sp → Held P w K mg base k f (spD K sp)) (hr : Room k (cxOf CX0 P w K mg base N_lay_over "lay_over" (defScope st_lay_over) f cdv A outer s H E0).nox.A) : ∃ t, XSs (cxOf CX0 P w K mg base N_lay_over "lay_over" (defScope st_lay_over) f cdv A outer s H E0).nox (defBody st_lay_over) t (W_lay_over sp_put sp_put_all S) :=
  ⟨_, (xss_cons (xs_asg (xe_tup (xa_cons xe_int (xa_cons xe_int xa_nil))) (xg_tup rfl (xgs_cons (xg_name (i := 5) sc_lay_over.nd rfl (Or.inl rfl)) (xgs_cons (xg_name (i := 6) sc_lay_over.nd rfl (Or.inl rfl)) xgs_nil)))) (xss_cons (xs_set (i := 7) sc_lay_over.nd rfl (Or.inl rfl) (xe_callB xc_min2 (by rfl) m_min (by decide +kernel) (xa_cons (xe_ix (xe_ix (xe_name (pv 1)) xe_int (fun _ _ => rfl)) xe_int (fun _ _ => rfl)) (xa_cons (xe_ix (xe_ix (xe_name (pv 2)) xe_int (fun _ _ => rfl)) xe_int (fun _ _ => rfl)) xa_nil)))) (xss_cons (xs_while PassesOwn.never (xw_and (xt_cmp xo_lt (xe_name (pv 5)) (xe_callB xc_len (by rfl) m_len (by decide +kernel) (xa_cons (xe_name (pv 1)) xa_nil)) (nomark _)) (xw_and1 (xt_cmp xo_lt (xe_name (pv 6)) (xe_callB xc_len (by rfl) m_len (by decide +kernel) (xa_cons (xe_name (pv 2)) xa_nil)) (nomark _)))).xt (xss_cons (xs_asg (xe_ix (xe_name (pv 1)) (xe_name (pv 5)) (fun _ _ => rfl)) (xg_tup rfl (xgs_cons (xg_name (i := 8) sc_lay_over.nd rfl (Or.inl rfl)) (xgs_cons (xg_name (i := 9) sc_lay_over.nd rfl (Or.inl rfl)) (xgs_cons (xg_name (i := 10) sc_lay_over.nd rfl (Or.inl rfl)) xgs_nil))))) (xss_cons (xs_asg (xe_ix (xe_name (pv 2)) (xe_name (pv 6)) (fun _ _ => rfl)) (xg_tup rfl (xgs_cons (xg_name (i := 11) sc_lay_over.nd rfl (Or.inl rfl)) (xgs_cons (xg_name (i := 12) sc_lay_over.nd rfl (Or.inl rfl)) (xgs_cons (xg_name (i := 13) sc_lay_over.nd rfl (Or.inl rfl)) xgs_nil))))) (xss_cons (xs_par (i := 8) (j := 11) rfl sc_lay_over.nd rfl rfl (by decide) rfl rfl (xa_cons (xe_callB xc_max2 (by rfl) m_max (by decide +kernel) (xa_cons (xe_name (pv 8)) (xa_cons (xe_name (pv 7)) xa_nil))) (xa_cons (xe_callB xc_max2 (by rfl) m_max (by decide +kernel) (xa_cons (xe_name (pv 11)) (xa_cons (xe_name (pv 7)) xa_nil))) xa_nil)) (by rfl)) (xss_cons (xs_if (xt_cmp xo_lt (xe_name (pv 8)) (xe_name (pv 11)) (nomark _)) (xss_cons (xs_set (i := 7) sc_lay_over.nd rfl (Or.inl rfl) (xe_callB xc_min2 (by rfl) m_min (by decide +kernel) (xa_cons (xe_name (pv 9)) (xa_cons (xe_name (pv 11)) xa_nil)))) (xss_one (xs_if (xt_tru (xe_ix (xe_name (pv 4)) xe_int (fun _ _ => rfl))) (xss_one (xs_expr (xe_callc c_put (by exact hr) (Nat.le_refl _) (by rfl) (xa_cons (xe_name (pv 0)) (xa_cons (xe_nameF (pv 8)) (xa_cons (xe_nameF (pv 7)) (xa_cons (xe_nameF (pv 10)) xa_nil))))))) xss_nil))) (xss_one (xs_if (xt_cmp xo_lt (xe_name (pv 11)) (xe_name (pv 8)) (nomark _)) (xss_cons (xs_set (i := 7) sc_lay_over.nd rfl (Or.inl rfl) (xe_callB xc_min2 (by rfl) m_min (by decide +kernel) (xa_cons (xe_name (pv 12)) (xa_cons (xe_name (pv 8)) xa_nil)))) (xss_one (xs_if (xt_tru (xe_ix (xe_name (pv 4)) xe_int (fun _ _ => rfl))) (xss_one (xs_expr (xe_callc c_put (by exact hr) (Nat.le_refl _) (by rfl) (xa_cons (xe_name (pv 0)) (xa_cons (xe_nameF (pv 11)) (xa_cons (xe_nameF (pv 7)) (xa_cons (xe_nameF (pv 13)) xa_nil))))))) xss_nil))) (xss_cons (xs_set (i := 7) sc_lay_over.nd rfl (Or.inl rfl) (xe_callB xc_min2 (by rfl) m_min (by decide +kernel) (xa_cons (xe_name (pv 9)) (xa_cons (xe_name (pv 12)) xa_nil)))) (xss_one (xs_expr (xe_callc c_put (by exact hr) (Nat.le_refl _) (by rfl) (xa_cons (xe_name (pv 0)) (xa_cons (xe_nameF (pv 8)) (xa_cons (xe_nameF (pv 7)) (xa_cons (xe_callL hS (by exact hr) rfl (Or.inl rfl) (xa_cons (xe_name (pv 10)) (xa_cons (xe_name (pv 13)) xa_nil))) xa_nil))))))))))) (xss_cons (xs_if (xt_cmp xo_le (xe_name (pv 9)) (xe_name (pv 7)) (nomark _)) (xss_one (xs_augI (i := 5) sc_lay_over.nd rfl (Or.inl rfl) xe_int ip_add)) xss_nil) (xss_one (xs_if (xt_cmp xo_le (xe_name (pv 12)) (xe_name (pv 7)) (nomark _)) (xss_one (xs_augI (i := 6) sc_lay_over.nd rfl (Or.inl rfl) xe_int ip_add)) xss_nil)))))))) (xss_cons (xs_if (xt_tru (xe_ix (xe_name (pv 4)) xe_int (fun _ _ => rfl))) (xss_one (xs_expr (xe_callc c_put_all (by exact hr) (Nat.le_refl _) (by rfl) (xa_cons (xe_name (pv 0)) (xa_cons (xe_sl (xe_name (pv 1)) (xp_some (xe_name (pv 5))) xp_none) (xa_cons (xe_nameF (pv 7)) xa_nil)))))) xss_nil) (xss_one (xs_if (xt_tru (xe_ix (xe_name (pv 4)) xe_int (fun _ _ => rfl))) (xss_one (xs_expr (xe_callc c_put_all (by exact hr) (Nat.le_refl _) (by rfl) (xa_cons (xe_name (pv 0)) (xa_cons (xe_sl (xe_name (pv 2)) (xp_some (xe_name (pv 6))) xp_none) (xa_cons (xe_nameF (pv 7)) xa_nil)))))) xss_nil))))))⟩
theorem ok_lay_over {P : Program} {w : World} {K : PySem.W.Frag} {mg : Str → Option Value} {base : Heap} {k : Nat} {f : Addr} {fd : FuncData} {sp : DSpec} (sp_put sp_put_all : DSpec) (S : Addr → Option DSpec) (m_len : mg "len" = none) (m_max : mg "max" = none) (m_min : mg "min" = none) (c_put : Cal P w K mg base k "put" sp_put) (c_put_all : Cal P w K mg base k "put_all" sp_put_all) (hS : ∀ f sp, S f = some sp → Held P w K mg base k f (spD K sp)) (F : Fun K "lay_over" "lay_over" st_lay_over f fd) (hl : ∀ ds K', sp ds K' → ds.length = 5) (hw : ∀ ds K', sp ds K' → W_lay_over sp_put sp_put_all S { nx := fun ρ => K' (.dat .none) (outsOf ds ρ), rt := fun r ρ => K' r (outsOf ds ρ) } (startD N_lay_over ds)) : FnOk P w K mg base CX0 (k + 1) f fd ["out", "a", "b", "rule", "keeps"] (spD K sp) :=
  fn_data F sc_lay_over hl fun cdv A outer s H hr => by
    obtain ⟨t, h⟩ := dv_lay_over (f := f) (cdv := cdv) (A := A) (outer := outer) (s := s) (H := H) sp_put sp_put_all S m_len m_max m_min c_put c_put_all hS hr
    exact ⟨t, _, h, hw⟩
/-! combined -/
abbrev st_combined : Stmt := topS 12
theorem sc_combined : FnScope N_combined ["a", "b", "rule", "keeps"] (defScope st_combined) := ⟨rfl, rfl, rfl, by decide +kernel, rfl, by decide +kernel, by decide +kernel⟩
theorem dv_combined {P : Program} {w : World} {K : PySem.W.Frag} {mg : Str → Option Value} {base : Heap} {k : Nat} {f : Addr} {cdv : Value} {A : Around} {outer : List Env} {s : Shared} {H : Hp} (sp_first_ending_beyond sp_first_beginning_from sp_put_all sp_lay_over : DSpec) (m_len : mg "len" = none) (m_list : mg "list" = none) (m_max : mg "max" = none) (m_min : mg "min" = none) (m_tuple : mg "tuple" = none) (c_first_ending_beyond : Cal P w K mg base k "first_ending_beyond" sp_first_ending_beyond) (c_first_beginning_from : Cal P w K mg base k "first_beginning_from" sp_first_beginning_from) (c_put_all : Cal P w K mg base k "put_all" sp_put_all) (c_lay_over : Cal P w K mg base k "lay_over" sp_lay_over) (hr : Room k (cxOf CX0 P w K mg base N_combined "combined" (defScope st_combined) f cdv A outer s H E0).nox.A) : ∃ t, XSs (cxOf CX0 P w K mg base N_combined "combined" (defScope st_combined) f cdv A outer s H E0).nox (defBody st_combined) t (W_combined sp_first_ending_beyond sp_first_beginning_from sp_put_all sp_lay_over) :=
  ⟨_, (xss_cons (xs_if (xt_not (xt_tru (xe_name (pv 0)))) (xss_one (xs_ret (xe_if (xt_tru (xe_ix (xe_name (pv 3)) xe_int (fun _ _ => rfl))) (xe_name (pv 1)) (xe_tup xa_nil)))) xss_nil) (xss_cons (xs_if (xt_not (xt_tru (xe_name (pv 1)))) (xss_one (xs_ret (xe_if (xt_tru (xe_ix (xe_name (pv 3)) xe_int (fun _ _ => rfl))) (xe_name (pv 0)) (xe_tup xa_nil)))) xss_nil) (xss_cons (xs_par (i := 4) (j := 5) rfl sc_combined.nd rfl rfl (by decide) rfl rfl (xa_cons (xe_callB xc_max2 (by rfl) m_max (by decide +kernel) (xa_cons (xe_ix (xe_ix (xe_name (pv 0)) xe_int (fun _ _ => rfl)) xe_int (fun _ _ => rfl)) (xa_cons (xe_ix (xe_ix (xe_name (pv 1)) xe_int (fun _ _ => rfl)) xe_int (fun _ _ => rfl)) xa_nil))) (xa_cons (xe_callB xc_min2 (by rfl) m_min (by decide +kernel) (xa_cons (xe_ix (xe_ix (xe_name (pv 0)) (xe_neg xe_int) (fun _ _ => rfl)) xe_int (fun _ _ => rfl)) (xa_cons (xe_ix (xe_ix (xe_name (pv 1)) (xe_neg xe_int) (fun _ _ => rfl)) xe_int (fun _ _ => rfl)) xa_nil))) xa_nil)) (by rfl)) (xss_cons (xs_par (i := 6) (j := 7) rfl sc_combined.nd rfl rfl (by decide) rfl rfl (xa_cons (xe_callc c_first_ending_beyond (by exact hr) (Nat.le_refl _) (by rfl) (xa_cons (xe_nameF (pv 0)) (xa_cons (xe_nameF (pv 4)) xa_nil))) (xa_cons (xe_callc c_first_ending_beyond (by exact hr) (Nat.le_refl _) (by rfl) (xa_cons (xe_nameF (pv 1)) (xa_cons (xe_nameF (pv 4)) xa_nil))) xa_nil)) (by rfl)) (xss_cons (xs_set (i := 8) sc_combined.nd rfl (Or.inl rfl) (xe_callB xc_max2 (by rfl) m_max (by decide +kernel) (xa_cons (xe_name (pv 6)) (xa_cons (xe_callc c_first_beginning_from (by exact hr) (Nat.le_refl _) (by rfl) (xa_cons (xe_nameF (pv 0)) (xa_cons (xe_nameF (pv 5)) xa_nil))) xa_nil)))) (xss_cons (xs_set (i := 9) sc_combined.nd rfl (Or.inl rfl) (xe_callB xc_max2 (by rfl) m_max (by decide +kernel) (xa_cons (xe_name (pv 7)) (xa_cons (xe_callc c_first_beginning_from (by exact hr) (Nat.le_refl _) (by rfl) (xa_cons (xe_nameF (pv 1)) (xa_cons (xe_nameF (pv 5)) xa_nil))) xa_nil)))) (xss_cons (xs_set (i := 10) sc_combined.nd rfl (Or.inl rfl) (xe_if (xt_tru (xe_ix (xe_name (pv 3)) xe_int (fun _ _ => rfl))) (xe_callTy xc_list (by rfl) m_list (by decide +kernel) (xa_cons (xe_sl (xe_name (pv 0)) xp_none (xp_some (xe_name (pv 6)))) xa_nil)) (xe_lst xa_nil))) (xss_cons (xs_if (xt_tru (xe_ix (xe_name (pv 3)) xe_int (fun _ _ => rfl))) (xss_one (xs_expr (xe_extend (xe_name (pv 10)) (xa_cons (xe_sl (xe_name (pv 1)) xp_none (xp_some (xe_name (pv 7)))) xa_nil)))) xss_nil) (xss_cons (xs_if (xw_and (xt_cmp xo_lt (xe_name (pv 6)) (xe_name (pv 8)) (nomark _)) (xw_and1 (xt_cmp xo_lt (xe_name (pv 7)) (xe_name (pv 9)) (nomark _)))).xt (xss_one (xs_expr (xe_callc c_lay_over (by exact hr) (Nat.le_refl _) (by rfl) (xa_cons (xe_name (pv 10)) (xa_cons (xe_sl (xe_name (pv 0)) (xp_some (xe_name (pv 6))) (xp_some (xe_name (pv 8)))) (xa_cons (xe_sl (xe_name (pv 1)) (xp_some (xe_name (pv 7))) (xp_some (xe_name (pv 9)))) (xa_cons (xe_nameF (pv 2)) (xa_cons (xe_nameF (pv 3)) xa_nil)))))))) (xss_one (xs_if (xw_and (xt_tru (xe_ix (xe_name (pv 3)) xe_int (fun _ _ => rfl))) (xw_and1 (xt_cmp xo_lt (xe_name (pv 6)) (xe_name (pv 8)) (nomark _)))).xt (xss_one (xs_expr (xe_callc c_put_all (by exact hr) (Nat.le_refl _) (by rfl) (xa_cons (xe_name (pv 10)) (xa_cons (xe_sl (xe_name (pv 0)) (xp_some (xe_name (pv 6))) (xp_some (xe_name (pv 8)))) (xa_cons (xe_ix (xe_ix (xe_name (pv 0)) (xe_name (pv 6)) (fun _ _ => rfl)) xe_int (fun _ _ => rfl)) xa_nil)))))) (xss_one (xs_if (xw_and (xt_tru (xe_ix (xe_name (pv 3)) xe_int (fun _ _ => rfl))) (xw_and1 (xt_cmp xo_lt (xe_name (pv 7)) (xe_name (pv 9)) (nomark _)))).xt (xss_one (xs_expr (xe_callc c_put_all (by exact hr) (Nat.le_refl _) (by rfl) (xa_cons (xe_name (pv 10)) (xa_cons (xe_sl (xe_name (pv 1)) (xp_some (xe_name (pv 7))) (xp_some (xe_name (pv 9)))) (xa_cons (xe_ix (xe_ix (xe_name (pv 1)) (xe_name (pv 7)) (fun _ _ => rfl)) xe_int (fun _ _ => rfl)) xa_nil)))))) xss_nil))))) (xss_cons (xs_if (xw_and (xt_tru (xe_ix (xe_name (pv 3)) xe_int (fun _ _ => rfl))) (xw_and1 (xt_cmp xo_lt (xe_name (pv 8)) (xe_callB xc_len (by rfl) m_len (by decide +kernel) (xa_cons (xe_name (pv 0)) xa_nil)) (nomark _)))).xt (xss_one (xs_expr (xe_callc c_put_all (by exact hr) (Nat.le_refl _) (by rfl) (xa_cons (xe_name (pv 10)) (xa_cons (xe_sl (xe_name (pv 0)) (xp_some (xe_name (pv 8))) xp_none) (xa_cons (xe_ix (xe_ix (xe_name (pv 0)) (xe_name (pv 8)) (fun _ _ => rfl)) xe_int (fun _ _ => rfl)) xa_nil)))))) xss_nil) (xss_cons (xs_if (xw_and (xt_tru (xe_ix (xe_name (pv 3)) xe_int (fun _ _ => rfl))) (xw_and1 (xt_cmp xo_lt (xe_name (pv 9)) (xe_callB xc_len (by rfl) m_len (by decide +kernel) (xa_cons (xe_name (pv 1)) xa_nil)) (nomark _)))).xt (xss_one (xs_expr (xe_callc c_put_all (by exact hr) (Nat.le_refl _) (by rfl) (xa_cons (xe_name (pv 10)) (xa_cons (xe_sl (xe_name (pv 1)) (xp_some (xe_name (pv 9))) xp_none) (xa_cons (xe_ix (xe_ix (xe_name (pv 1)) (xe_name (pv 9)) (fun _ _ => rfl)) xe_int (fun _ _ => rfl)) xa_nil)))))) xss_nil) (xss_one (xs_ret (xe_callTy xc_tuple (by rfl) m_tuple (by decide +kernel) (xa_cons (xe_name (pv 10)) xa_nil)))))))))))))))⟩
theorem ok_combined {P : Program} {w : World} {K : PySem.W.Frag} {mg : Str → Option Value} {base : Heap} {k : Nat} {f : Addr} {fd : FuncData} {sp : DSpec} (sp_first_ending_beyond sp_first_beginning_from sp_put_all sp_lay_over : DSpec) (m_len : mg "len" = none) (m_list : mg "list" = none) (m_max : mg "max" = none) (m_min : mg "min" = none) (m_tuple : mg "tuple" = none) (c_first_ending_beyond : Cal P w K mg base k "first_ending_beyond" sp_first_ending_beyond) (c_first_beginning_from : Cal P w K mg base k "first_beginning_from" sp_first_beginning_from) (c_put_all : Cal P w K mg base k "put_all" sp_put_all) (c_lay_over : Cal P w K mg base k "lay_over" sp_lay_over) (F : Fun K "combined" "combined" st_combined f fd) (hl : ∀ ds K', sp ds K' → ds.length = 4) (hw : ∀ ds K', sp ds K' → W_combined sp_first_ending_beyond sp_first_beginning_from sp_put_all sp_lay_over { nx := fun ρ => K' (.dat .none) (outsOf ds ρ), rt := fun r ρ => K' r (outsOf ds ρ) } (startD N_combined ds)) : FnOk P w K mg base CX0 (k + 1) f fd ["a", "b", "rule", "keeps"] (spD K sp) :=
  fn_data F sc_combined hl fun cdv A outer s H hr => by
    obtain ⟨t, h⟩ := dv_combined (f := f) (cdv := cdv) (A := A) (outer := outer) (s := s) (H := H) sp_first_ending_beyond sp_first_beginning_from sp_put_all sp_lay_over m_len m_list m_max m_min m_tuple c_first_ending_beyond c_first_beginning_from c_put_all c_lay_over hr
    exact ⟨t, _, h, hw⟩
/-! joined_layers -/
abbrev st_joined_layers : Stmt := topS 13
theorem sc_joined_layers : FnScope N_joined_layers ["a", "b"] (defScope st_joined_layers) := ⟨rfl, rfl, rfl, by decide +kernel, rfl, by decide +kernel, by decide +kernel⟩
theorem dv_joined_layers {P : Program} {w : World} {K : PySem.W.Frag} {mg : Str → Option Value} {base : Heap} {k : Nat} {f : Addr} {cdv : Value} {A : Around} {outer : List Env} {s : Shared} {H : Hp} (sp_combined : DSpec) (a_joined_rows : Addr) (c_combined : Cal P w K mg base k "combined" sp_combined) (v_joined_rows : mg "joined_rows" = some (.ref a_joined_rows)) (hr : Room k (cxOf CX0 P w K mg base N_joined_layers "joined_layers" (defScope st_joined_layers) f cdv A outer s H E0).nox.A) : ∃ t, XSs (cxOf CX0 P w K mg base N_joined_layers "joined_layers" (defScope st_joined_layers) f cdv A outer s H E0).nox (defBody st_joined_layers) t (W_joined_layers sp_combined a_joined_rows) :=
  ⟨_, (xss_one (xs_ret (xe_callc c_combined (by exact hr) (Nat.le_refl _) (by rfl) (xa_cons (xe_nameF (pv 0)) (xa_cons (xe_nameF (pv 1)) (xa_cons (xe_glob (pe_glob (by rfl) v_joined_rows rfl)) (xa_cons (xe_tup (xa_cons xe_bl (xa_cons xe_bl xa_nil))) xa_nil)))))))⟩
theorem ok_joined_layers {P : Program} {w : World} {K : PySem.W.Frag} {mg : Str → Option Value} {base : Heap} {k : Nat} {f : Addr} {fd : FuncData} {sp : DSpec} (sp_combined : DSpec) (a_joined_rows : Addr) (c_combined : Cal P w K mg base k "combined" sp_combined) (v_joined_rows : mg "joined_rows" = some (.ref a_joined_rows)) (F : Fun K "joined_layers" "joined_layers" st_joined_layers f fd) (hl : ∀ ds K', sp ds K' → ds.length = 2) (hw : ∀ ds K', sp ds K' → W_joined_layers sp_combined a_joined_rows { nx := fun ρ => K' (.dat .none) (outsOf ds ρ), rt := fun r ρ => K' r (outsOf ds ρ) } (startD N_joined_layers ds)) : FnOk P w K mg base CX0 (k + 1) f fd ["a", "b"] (spD K sp) :=
  fn_data F sc_joined_layers hl fun cdv A outer s H hr => by
    obtain ⟨t, h⟩ := dv_joined_layers (f := f) (cdv := cdv) (A := A) (outer := outer) (s := s) (H := H) sp_combined a_joined_rows c_combined v_joined_rows hr
    exact ⟨t, _, h, hw⟩
/-! stacked -/
abbrev st_stacked : Stmt := topS 14
theorem sc_stacked : FnScope N_stacked ["slabs", "rule"] (defScope st_stacked) := ⟨rfl, rfl, rfl, by decide +kernel, rfl, by decide +kernel, by decide +kernel⟩
theorem dv_stacked {P : Program} {w : World} {K : PySem.W.Frag} {mg : Str → Option Value} {base : Heap} {k : Nat} {f : Addr} {cdv : Value} {A : Around} {outer : List Env} {s : Shared} {H : Hp} (sp_combined sp_stacked : DSpec) (m_len : mg "len" = none) (m_tuple : mg "tuple" = none) (c_combined : Cal P w K mg base k "combined" sp_combined) (c_stacked : Cal P w K mg base k "stacked" sp_stacked) (hr : Room k (cxOf CX0 P w K mg base N_stacked "stacked" (defScope st_stacked) f cdv A outer s H E0).nox.A) : ∃ t, XSs (cxOf CX0 P w K mg base N_stacked "stacked" (defScope st_stacked) f cdv A outer s H E0).nox (defBody st_stacked) t (W_stacked sp_combined sp_stacked) :=
  ⟨_, (xss_cons (xs_if (xt_cmp xo_lt (xe_callB xc_len (by rfl) m_len (by decide +kernel) (xa_cons (xe_name (pv 0)) xa_nil)) xe_int (nomark _)) (xss_one (xs_ret (xe_callTy xc_tuple (by rfl) m_tuple (by decide +kernel) (xa_cons (xe_name (pv 0)) xa_nil)))) xss_nil) (xss_cons (xs_set (i := 2) sc_stacked.nd rfl (Or.inl rfl) (xe_op xo_fdiv (xe_callB xc_len (by rfl) m_len (by decide +kernel) (xa_cons (xe_name (pv 0)) xa_nil)) xe_int)) (xss_one (xs_ret (xe_callc c_combined (by exact hr) (Nat.le_refl _) (by rfl) (xa_cons (xe_callc c_stacked (by exact hr) (Nat.le_refl _) (by rfl) (xa_cons (xe_sl (xe_name (pv 0)) xp_none (xp_some (xe_name (pv 2)))) (xa_cons (xe_nameF (pv 1)) xa_nil))) (xa_cons (xe_callc c_stacked (by exact hr) (Nat.le_refl _) (by rfl) (xa_cons (xe_sl (xe_name (pv 0)) (xp_some (xe_name (pv 2))) xp_none) (xa_cons (xe_nameF (pv 1)) xa_nil))) (xa_cons (xe_nameF (pv 1)) (xa_cons (xe_tup (xa_cons xe_bl (xa_cons xe_bl xa_nil))) xa_nil)))))))))⟩
theorem ok_stacked {P : Program} {w : World} {K : PySem.W.Frag} {mg : Str → Option Value} {base : Heap} {k : Nat} {f : Addr} {fd : FuncData} {sp : DSpec} (sp_combined sp_stacked : DSpec) (m_len : mg "len" = none) (m_tuple : mg "tuple" = none) (c_combined : Cal P w K mg base k "combined" sp_combined) (c_stacked : Cal P w K mg base k "stacked" sp_stacked) (F : Fun K "stacked" "stacked" st_stacked f fd) (hl : ∀ ds K', sp ds K' → ds.length = 2) (hw : ∀ ds K', sp ds K' → W_stacked sp_combined sp_stacked { nx := fun ρ => K' (.dat .none) (outsOf ds ρ), rt := fun r ρ => K' r (outsOf ds ρ) } (startD N_stacked ds)) : FnOk P w K mg base CX0 (k + 1) f fd ["slabs", "rule"] (spD K sp) :=
  fn_data F sc_stacked hl fun cdv A outer s H hr => by
    obtain ⟨t, h⟩ := dv_stacked (f := f) (cdv := cdv) (A := A) (outer := outer) (s := s) (H := H) sp_combined sp_stacked m_len m_tuple c_combined c_stacked hr
    exact ⟨t, _, h, hw⟩
/-! grown_layer -/
abbrev st_grown_layer : Stmt := topS 15
theorem sc_grown_layer : FnScope N_grown_layer ["layer", "low", "high"] (defScope st_grown_layer) := ⟨rfl, rfl, rfl, by decide +kernel, rfl, by decide +kernel, by decide +kernel⟩
theorem dv_grown_layer {P : Program} {w : World} {K : PySem.W.Frag} {mg : Str → Option Value} {base : Heap} {k : Nat} {f : Addr} {cdv : Value} {A : Around} {outer : List Env} {s : Shared} {H : Hp} (sp_merged sp_stacked : DSpec) (a_joined_rows : Addr) (c_merged : Cal P w K mg base k "merged" sp_merged) (c_stacked : Cal P w K mg base k "stacked" sp_stacked) (v_joined_rows : mg "joined_rows" = some (.ref a_joined_rows)) (hr : Room k (cxOf CX0 P w K mg base N_grown_layer "grown_layer" (defScope st_grown_layer) f cdv A outer s H E0).nox.A) : ∃ t, XSs (cxOf CX0 P w K mg base N_grown_layer "grown_layer" (defScope st_grown_layer) f cdv A outer s H E0).nox (defBody st_grown_layer) t (W_grown_layer sp_merged sp_stacked a_joined_rows) :=
  ⟨_, (xss_cons (xs_set (i := 3) sc_grown_layer.nd rfl (Or.inl rfl) (xe_lst xa_nil)) (xss_cons (xs_for PassesOwn.never rfl (xi_seq (xe_nameF (pv 0))) (xg_tup rfl (xgs_cons (xg_name (i := 4) sc_grown_layer.nd rfl (Or.inl rfl)) (xgs_cons (xg_name (i := 5) sc_grown_layer.nd rfl (Or.inl rfl)) (xgs_cons (xg_name (i := 6) sc_grown_layer.nd rfl (Or.inl rfl)) xgs_nil)))) (xss_cons (xs_set (i := 7) sc_grown_layer.nd rfl (Or.inl rfl) (xe_callc c_merged (by exact hr) (Nat.le_refl _) (by rfl) (xa_cons (xe_lcD (own := [("x0", 8), ("x1", 9)]) rfl sc_grown_layer.nd (xi_seq (xe_nameF (pv 6))) (blkOk_by (N := N_grown_layer) (sc := defScope st_grown_layer) (by decide +kernel)) (fun _ _ _ _ _ => (xg_tup rfl (xgs_cons (xg_name (i := 8) sc_grown_layer.nd rfl (Or.inl rfl)) (xgs_cons (xg_name (i := 9) sc_grown_layer.nd rfl (Or.inl rfl)) xgs_nil)))) (fun _ _ _ _ _ => xts_nil) (fun _ _ _ _ _ => (xe_tup (xa_cons (xe_op xo_add (xe_name (pv 8)) (xe_ix (xe_name (pv 1)) xe_int (fun _ _ => rfl))) (xa_cons (xe_op xo_add (xe_name (pv 9)) (xe_ix (xe_name (pv 2)) xe_int (fun _ _ => rfl))) xa_nil))))) xa_nil))) (xss_one (xs_expr (xe_append (xe_name (pv 3)) (xa_cons (xe_tup (xa_cons (xe_op xo_add (xe_name (pv 4)) (xe_ix (xe_name (pv 1)) xe_int (fun _ _ => rfl))) (xa_cons (xe_op xo_add (xe_name (pv 5)) (xe_ix (xe_name (pv 2)) xe_int (fun _ _ => rfl))) (xa_cons (xe_name (pv 7)) xa_nil)))) xa_nil)))))) (xss_one (xs_ret (xe_callc c_stacked (by exact hr) (Nat.le_refl _) (by rfl) (xa_cons (xe_nameF (pv 3)) (xa_cons (xe_glob (pe_glob (by rfl) v_joined_rows rfl)) xa_nil)))))))⟩
theorem ok_grown_layer {P : Program} {w : World} {K : PySem.W.Frag} {mg : Str → Option Value} {base : Heap} {k : Nat} {f : Addr} {fd : FuncData} {sp : DSpec} (sp_merged sp_stacked : DSpec) (a_joined_rows : Addr) (c_merged : Cal P w K mg base k "merged" sp_merged) (c_stacked : Cal P w K mg base k "stacked" sp_stacked) (v_joined_rows : mg "joined_rows" = some (.ref a_joined_rows)) (F : Fun K "grown_layer" "grown_layer" st_grown_layer f fd) (hl : ∀ ds K', sp ds K' → ds.length = 3) (hw : ∀ ds K', sp ds K' → W_grown_layer sp_merged sp_stacked a_joined_rows { nx := fun ρ => K' (.dat .none) (outsOf ds ρ), rt := fun r ρ => K' r (outsOf ds ρ) } (startD N_grown_layer ds)) : FnOk P w K mg base CX0 (k + 1) f fd ["layer", "low", "high"] (spD K sp) :=
  fn_data F sc_grown_layer hl fun cdv A outer s H hr => by
    obtain ⟨t, h⟩ := dv_grown_layer (f := f) (cdv := cdv) (A := A) (outer := outer) (s := s) (H := H) sp_merged sp_stacked a_joined_rows c_merged c_stacked v_joined_rows hr
    exact ⟨t, _, h, hw⟩
/-! grown -/
abbrev st_grown : Stmt := topS 16
theorem sc_grown : FnScope N_grown ["solid", "low", "high"] (defScope st_grown) := ⟨rfl, rfl, rfl, by decide +kernel, rfl, by decide +kernel, by decide +kernel⟩
theorem dv_grown {P : Program} {w : World} {K : PySem.W.Frag} {mg : Str → Option Value} {base : Heap} {k : Nat} {f : Addr} {cdv : Value} {A : Around} {outer : List Env} {s : Shared} {H : Hp} (sp_stacked sp_grown_layer : DSpec) (a_joined_layers : Addr) (c_stacked : Cal P w K mg base k "stacked" sp_stacked) (c_grown_layer : Cal P w K mg base k "grown_layer" sp_grown_layer) (v_joined_layers : mg "joined_layers" = some (.ref a_joined_layers)) (hr : Room k (cxOf CX0 P w K mg base N_grown "grown" (defScope st_grown) f cdv A outer s H E0).nox.A) : ∃ t, XSs (cxOf CX0 P w K mg base N_grown "grown" (defScope st_grown) f cdv A outer s H E0).nox (defBody st_grown) t (W_grown sp_stacked sp_grown_layer a_joined_layers) :=
  ⟨_, (xss_cons (xs_setLcD (i := 3) (own := [("begin", 4), ("end", 5), ("layer", 6)]) rfl sc_grown.nd  rfl rfl (sw_true rfl rfl rfl (by decide +kernel)) (xi_seq (xe_nameF (pv 0))) (blkOk_by (N := N_grown) (sc := defScope st_grown) (by decide +kernel)) (fun _ _ _ _ _ => (xg_tup rfl (xgs_cons (xg_name (i := 4) sc_grown.nd rfl (Or.inl rfl)) (xgs_cons (xg_name (i := 5) sc_grown.nd rfl (Or.inl rfl)) (xgs_cons (xg_name (i := 6) sc_grown.nd rfl (Or.inl rfl)) xgs_nil))))) (fun _ _ _ _ _ => xts_nil) (fun _ _ _ _ _ => (xe_tup (xa_cons (xe_op xo_add (xe_name (pv 4)) (xe_ix (xe_name (pv 1)) xe_int (fun _ _ => rfl))) (xa_cons (xe_op xo_add (xe_name (pv 5)) (xe_ix (xe_name (pv 2)) xe_int (fun _ _ => rfl))) (xa_cons (xe_callc c_grown_layer (by exact hr) (Nat.le_refl _) (by rfl) (xa_cons (xe_nameF (pv 6)) (xa_cons (xe_nameF (pv 1)) (xa_cons (xe_nameF (pv 2)) xa_nil)))) xa_nil)))))) (xss_one (xs_ret (xe_callc c_stacked (by exact hr) (Nat.le_refl _) (by rfl) (xa_cons (xe_nameF (pv 3)) (xa_cons (xe_glob (pe_glob (by rfl) v_joined_layers rfl)) xa_nil))))))⟩
theorem ok_grown {P : Program} {w : World} {K : PySem.W.Frag} {mg : Str → Option Value} {base : Heap} {k : Nat} {f : Addr} {fd : FuncData} {sp : DSpec} (sp_stacked sp_grown_layer : DSpec) (a_joined_layers : Addr) (c_stacked : Cal P w K mg base k "stacked" sp_stacked) (c_grown_layer : Cal P w K mg base k "grown_layer" sp_grown_layer) (v_joined_layers : mg "joined_layers" = some (.ref a_joined_layers)) (F : Fun K "grown" "grown" st_grown f fd) (hl : ∀ ds K', sp ds K' → ds.length = 3) (hw : ∀ ds K', sp ds K' → W_grown sp_stacked sp_grown_layer a_joined_layers { nx := fun ρ => K' (.dat .none) (outsOf ds ρ), rt := fun r ρ => K' r (outsOf ds ρ) } (startD N_grown ds)) : FnOk P w K mg base CX0 (k + 1) f fd ["solid", "low", "high"] (spD K sp) :=
  fn_data F sc_grown hl fun cdv A outer s H hr => by
    obtain ⟨t, h⟩ := dv_grown (f := f) (cdv := cdv) (A := A) (outer := outer) (s := s) (H := H) sp_stacked sp_grown_layer a_joined_layers c_stacked c_grown_layer v_joined_layers hr
    exact ⟨t, _, h, hw⟩
/-! count_of -/
abbrev st_count_of : Stmt := topS 17
theorem sc_count_of : FnScope N_count_of ["solid"] (defScope st_count_of) := ⟨rfl, rfl, rfl, by decide +kernel, rfl, by decide +kernel, by decide +kernel⟩
theorem dv_count_of {P : Program} {w : World} {K : PySem.W.Frag} {mg : Str → Option Value} {base : Heap} {k : Nat} {f : Addr} {cdv : Value} {A : Around} {outer : List Env} {s : Shared} {H : Hp} (m_len : mg "len" = none) (m_sum : mg "sum" = none) (hr : Room k (cxOf CX0 P w K mg base N_count_of "count_of" (defScope st_count_of) f cdv A outer s H E0).nox.A) : ∃ t, XSs (cxOf CX0 P w K mg base N_count_of "count_of" (defScope st_count_of) f cdv A outer s H E0).nox (defBody st_count_of) t (W_count_of) :=
  ⟨_, (xss_one (xs_ret (xe_callB (xc_sum rfl) (by rfl) m_sum (by decide +kernel) (xa_cons (xe_lc2D (own := [("_", 1), ("layer", 2), ("row", 3)]) (vs1 := [1, 3]) rfl sc_count_of.nd (xi_seq (xe_nameF (pv 0))) (blkOk_by (N := N_count_of) (sc := defScope st_count_of) (by decide +kernel)) (fun _ _ _ _ _ => (xg_tup rfl (xgs_cons (xg_name (i := 1) sc_count_of.nd rfl (Or.inl rfl)) (xgs_cons (xg_name (i := 1) sc_count_of.nd rfl (Or.inl rfl)) (xgs_cons (xg_name (i := 2) sc_count_of.nd rfl (Or.inl rfl)) xgs_nil))))) (fun _ _ _ _ _ => xts_nil) (fun _ _ _ _ _ => (xi_seq (xe_nameF (pv 2)))) (fun _ _ _ _ _ => (xg_tup rfl (xgs_cons (xg_name (i := 1) sc_count_of.nd rfl (Or.inl rfl)) (xgs_cons (xg_name (i := 1) sc_count_of.nd rfl (Or.inl rfl)) (xgs_cons (xg_name (i := 3) sc_count_of.nd rfl (Or.inl rfl)) xgs_nil))))) (fun _ _ _ _ _ => xts_nil) (fun _ _ _ _ _ => (xe_callB xc_len (by rfl) m_len (by decide +kernel) (xa_cons (xe_name (pv 3)) xa_nil)))) xa_nil))))⟩
theorem ok_count_of {P : Program} {w : World} {K : PySem.W.Frag} {mg : Str → Option Value} {base : Heap} {k : Nat} {f : Addr} {fd : FuncData} {sp : DSpec} (m_len : mg "len" = none) (m_sum : mg "sum" = none) (F : Fun K "count_of" "count_of" st_count_of f fd) (hl : ∀ ds K', sp ds K' → ds.length = 1) (hw : ∀ ds K', sp ds K' → W_count_of { nx := fun ρ => K' (.dat .none) (outsOf ds ρ), rt := fun r ρ => K' r (outsOf ds ρ) } (startD N_count_of ds)) : FnOk P w K mg base CX0 (k + 1) f fd ["solid"] (spD K sp) :=
  fn_data F sc_count_of hl fun cdv A outer s H hr => by
    obtain ⟨t, h⟩ := dv_count_of (f := f) (cdv := cdv) (A := A) (outer := outer) (s := s) (H := H) m_len m_sum hr
    exact ⟨t, _, h, hw⟩
/-! box -/
abbrev st_box : Stmt := topS 19
theorem sc_box : FnScope N_box ["corner", "other"] (defScope st_box) := ⟨rfl, rfl, rfl, by decide +kernel, rfl, by decide +kernel, by decide +kernel⟩
theorem dv_box {P : Program} {w : World} {K : PySem.W.Frag} {mg : Str → Option Value} {base : Heap} {k : Nat} {f : Addr} {cdv : Value} {A : Around} {outer : List Env} {s : Shared} {H : Hp} (hr : Room k (cxOf CX0 P w K mg base N_box "box" (defScope st_box) f cdv A outer s H E0).nox.A) : ∃ t, XSs (cxOf CX0 P w K mg base N_box "box" (defScope st_box) f cdv A outer s H E0).nox (defBody st_box) t (W_box) :=
  ⟨_, (xss_cons (xs_if (xw_or (xt_cmp xo_ge (xe_ix (xe_name (pv 0)) xe_int (fun _ _ => rfl)) (xe_ix (xe_name (pv 1)) xe_int (fun _ _ => rfl)) (nomark _)) (xw_or (xt_cmp xo_ge (xe_ix (xe_name (pv 0)) xe_int (fun _ _ => rfl)) (xe_ix (xe_name (pv 1)) xe_int (fun _ _ => rfl)) (nomark _)) (xw_or1 (xt_cmp xo_ge (xe_ix (xe_name (pv 0)) xe_int (fun _ _ => rfl)) (xe_ix (xe_name (pv 1)) xe_int (fun _ _ => rfl)) (nomark _))))).xt (xss_one (xs_ret (xe_tup xa_nil))) xss_nil) (xss_cons (xs_set (i := 2) sc_box.nd rfl (Or.inl rfl) (xe_tup (xa_cons (xe_tup (xa_cons (xe_ix (xe_name (pv 0)) xe_int (fun _ _ => rfl)) (xa_cons (xe_ix (xe_name (pv 1)) xe_int (fun _ _ => rfl)) xa_nil))) xa_nil))) (xss_one (xs_ret (xe_tup (xa_cons (xe_tup (xa_cons (xe_ix (xe_name (pv 0)) xe_int (fun _ _ => rfl)) (xa_cons (xe_ix (xe_name (pv 1)) xe_int (fun _ _ => rfl)) (xa_cons (xe_tup (xa_cons (xe_tup (xa_cons (xe_ix (xe_name (pv 0)) xe_int (fun _ _ => rfl)) (xa_cons (xe_ix (xe_name (pv 1)) xe_int (fun _ _ => rfl)) (xa_cons (xe_name (pv 2)) xa_nil)))) xa_nil)) xa_nil)))) xa_nil))))))⟩
theorem ok_box {P : Program} {w : World} {K : PySem.W.Frag} {mg : Str → Option Value} {base : Heap} {k : Nat} {f : Addr} {fd : FuncData} {sp : DSpec} (F : Fun K "box" "box" st_box f fd) (hl : ∀ ds K', sp ds K' → ds.length = 2) (hw : ∀ ds K', sp ds K' → W_box { nx := fun ρ => K' (.dat .none) (outsOf ds ρ), rt := fun r ρ => K' r (outsOf ds ρ) } (startD N_box ds)) : FnOk P w K mg base CX0 (k + 1) f fd ["corner", "other"] (spD K sp) :=
  fn_data F sc_box hl fun cdv A outer s H hr => by
    obtain ⟨t, h⟩ := dv_box (f := f) (cdv := cdv) (A := A) (outer := outer) (s := s) (H := H) hr
    exact ⟨t, _, h, hw⟩
/-! union -/
abbrev st_union : Stmt := topS 20
theorem sc_union : FnScope N_union ["a", "b"] (defScope st_union) := ⟨rfl, rfl, rfl, by decide +kernel, rfl, by decide +kernel, by decide +kernel⟩
theorem dv_union {P : Program} {w : World} {K : PySem.W.Frag} {mg : Str → Option Value} {base : Heap} {k : Nat} {f : Addr} {cdv : Value} {A : Around} {outer : List Env} {s : Shared} {H : Hp} (sp_combined : DSpec) (a_joined_layers : Addr) (c_combined : Cal P w K mg base k "combined" sp_combined) (v_joined_layers : mg "joined_layers" = some (.ref a_joined_layers)) (hr : Room k (cxOf CX0 P w K mg base N_union "union" (defScope st_union) f cdv A outer s H E0).nox.A) : ∃ t, XSs (cxOf CX0 P w K mg base N_union "union" (defScope st_union) f cdv A outer s H E0).nox (defBody st_union) t (W_union sp_combined a_joined_layers) :=
  ⟨_, (xss_one (xs_ret (xe_callc c_combined (by exact hr) (Nat.le_refl _) (by rfl) (xa_cons (xe_nameF (pv 0)) (xa_cons (xe_nameF (pv 1)) (xa_cons (xe_glob (pe_glob (by rfl) v_joined_layers rfl)) (xa_cons (xe_tup (xa_cons xe_bl (xa_cons xe_bl xa_nil))) xa_nil)))))))⟩
theorem ok_union {P : Program} {w : World} {K : PySem.W.Frag} {mg : Str → Option Value} {base : Heap} {k : Nat} {f : Addr} {fd : FuncData} {sp : DSpec} (sp_combined : DSpec) (a_joined_layers : Addr) (c_combined : Cal P w K mg base k "combined" sp_combined) (v_joined_layers : mg "joined_layers" = some (.ref a_joined_layers)) (F : Fun K "union" "union" st_union f fd) (hl : ∀ ds K', sp ds K' → ds.length = 2) (hw : ∀ ds K', sp ds K' → W_union sp_combined a_joined_layers { nx := fun ρ => K' (.dat .none) (outsOf ds ρ), rt := fun r ρ => K' r (outsOf ds ρ) } (startD N_union ds)) : FnOk P w K mg base CX0 (k + 1) f fd ["a", "b"] (spD K sp) :=
  fn_data F sc_union hl fun cdv A outer s H hr => by
    obtain ⟨t, h⟩ := dv_union (f := f) (cdv := cdv) (A := A) (outer := outer) (s := s) (H := H) sp_combined a_joined_layers c_combined v_joined_layers hr
    exact ⟨t, _, h, hw⟩
/-! union_of -/
abbrev st_union_of : Stmt := topS 21
theorem sc_union_of : FnScope N_union_of ["solids"] (defScope st_union_of) := ⟨rfl, rfl, rfl, by decide +kernel, rfl, by decide +kernel, by decide +kernel⟩
theorem dv_union_of {P : Program} {w : World} {K : PySem.W.Frag} {mg : Str → Option Value} {base : Heap} {k : Nat} {f : Addr} {cdv : Value} {A : Around} {outer : List Env} {s : Shared} {H : Hp} (sp_union : DSpec) (m_len : mg "len" = none) (m_list : mg "list" = none) (m_range : mg "range" = none) (c_union : Cal P w K mg base k "union" sp_union) (hr : Room k (cxOf CX0 P w K mg base N_union_of "union_of" (defScope st_union_of) f cdv A outer s H E0).nox.A) : ∃ t, XSs (cxOf CX0 P w K mg base N_union_of "union_of" (defScope st_union_of) f cdv A outer s H E0).nox (defBody st_union_of) t (W_union_of sp_union) :=
  ⟨_, (xss_cons (xs_set (i := 1) sc_union_of.nd rfl (Or.inr rfl) (xe_callTy xc_list (by rfl) m_list (by decide +kernel) (xa_cons (xe_name (pv 0)) xa_nil))) (xss_cons (xs_while PassesOwn.never (xt_cmp xo_gt (xe_callB xc_len (by rfl) m_len (by decide +kernel) (xa_cons (xe_name (pv 1)) xa_nil)) xe_int (nomark _)) (xss_one (xs_set (i := 1) sc_union_of.nd rfl (Or.inr rfl) (xe_lcD (own := [("k", 2)]) rfl sc_union_of.nd (xi_range3 (pi_range3 (by rfl) m_range (xa_cons xe_int (xa_cons (xe_callB xc_len (by rfl) m_len (by decide +kernel) (xa_cons (xe_name (pv 1)) xa_nil)) (xa_cons xe_int xa_nil))).pa) (xa_cons xe_int (xa_cons (xe_callB xc_len (by rfl) m_len (by decide +kernel) (xa_cons (xe_name (pv 1)) xa_nil)) (xa_cons xe_int xa_nil)))) (blkOk_by (N := N_union_of) (sc := defScope st_union_of) (by decide +kernel)) (fun _ _ _ _ _ => (xg_name (i := 2) sc_union_of.nd rfl (Or.inl rfl))) (fun _ _ _ _ _ => xts_nil) (fun _ _ _ _ _ => (xe_if (xt_cmp xo_lt (xe_op xo_add (xe_name (pv 2)) xe_int) (xe_callB xc_len (by rfl) m_len (by decide +kernel) (xa_cons (xe_name (pv 1)) xa_nil)) (nomark _)) (xe_callc c_union (by exact hr) (Nat.le_refl _) (by rfl) (xa_cons (xe_ix (xe_name (pv 1)) (xe_name (pv 2)) (fun _ _ => rfl)) (xa_cons (xe_ix (xe_name (pv 1)) (xe_op xo_add (xe_name (pv 2)) xe_int) (fun _ _ => rfl)) xa_nil))) (xe_ix (xe_name (pv 1)) (xe_name (pv 2)) (fun _ _ => rfl)))))))) (xss_one (xs_ret (xe_if (xt_tru (xe_name (pv 1))) (xe_ix (xe_name (pv 1)) xe_int (fun _ _ => rfl)) (xe_tup xa_nil))))))⟩
theorem ok_union_of {P : Program} {w : World} {K : PySem.W.Frag} {mg : Str → Option Value} {base : Heap} {k : Nat} {f : Addr} {fd : FuncData} {sp : DSpec} (sp_union : DSpec) (m_len : mg "len" = none) (m_list : mg "list" = none) (m_range : mg "range" = none) (c_union : Cal P w K mg base k "union" sp_union) (F : Fun K "union_of" "union_of" st_union_of f fd) (hl : ∀ ds K', sp ds K' → ds.length = 1) (hw : ∀ ds K', sp ds K' → W_union_of sp_union { nx := fun ρ => K' (.dat .none) (outsOf ds ρ), rt := fun r ρ => K' r (outsOf ds ρ) } (startD N_union_of ds)) : FnOk P w K mg base CX0 (k + 1) f fd ["solids"] (spD K sp) :=
  fn_data F sc_union_of hl fun cdv A outer s H hr => by
    obtain ⟨t, h⟩ := dv_union_of (f := f) (cdv := cdv) (A := A) (outer := outer) (s := s) (H := H) sp_union m_len m_list m_range c_union hr
    exact ⟨t, _, h, hw⟩
/-! boxes_of -/
abbrev st_boxes_of : Stmt := topS 22
theorem sc_boxes_of : FnScope N_boxes_of ["solid"] (defScope st_boxes_of) := ⟨rfl, rfl, rfl, by decide +kernel, rfl, by decide +kernel, by decide +kernel⟩
theorem dv_boxes_of {P : Program} {w : World} {K : PySem.W.Frag} {mg : Str → Option Value} {base : Heap} {k : Nat} {f : Addr} {cdv : Value} {A : Around} {outer : List Env} {s : Shared} {H : Hp} (hr : Room k (cxOf CX0 P w K mg base N_boxes_of "boxes_of" (defScope st_boxes_of) f cdv A outer s H E0).nox.A) : ∃ t, XSs (cxOf CX0 P w K mg base N_boxes_of "boxes_of" (defScope st_boxes_of) f cdv A outer s H E0).nox (defBody st_boxes_of) t (W_boxes_of) :=
  ⟨_, (xss_cons (xs_set (i := 1) sc_boxes_of.nd rfl (Or.inl rfl) (xe_lst xa_nil)) (xss_cons (xs_for PassesOwn.never rfl (xi_seq (xe_nameF (pv 0))) (xg_tup rfl (xgs_cons (xg_name (i := 2) sc_boxes_of.nd rfl (Or.inl rfl)) (xgs_cons (xg_name (i := 3) sc_boxes_of.nd rfl (Or.inl rfl)) (xgs_cons (xg_name (i := 4) sc_boxes_of.nd rfl (Or.inl rfl)) xgs_nil)))) (xss_one (xs_for PassesOwn.never rfl (xi_seq (xe_nameF (pv 4))) (xg_tup rfl (xgs_cons (xg_name (i := 5) sc_boxes_of.nd rfl (Or.inl rfl)) (xgs_cons (xg_name (i := 6) sc_boxes_of.nd rfl (Or.inl rfl)) (xgs_cons (xg_name (i := 7) sc_boxes_of.nd rfl (Or.inl rfl)) xgs_nil)))) (xss_one (xs_for PassesOwn.never rfl (xi_seq (xe_nameF (pv 7))) (xg_tup rfl (xgs_cons (xg_name (i := 8) sc_boxes_of.nd rfl (Or.inl rfl)) (xgs_cons (xg_name (i := 9) sc_boxes_of.nd rfl (Or.inl rfl)) xgs_nil))) (xss_one (xs_expr (xe_append (xe_name (pv 1)) (xa_cons (xe_tup (xa_cons (xe_tup (xa_cons (xe_name (pv 8)) (xa_cons (xe_name (pv 5)) (xa_cons (xe_name (pv 2)) xa_nil)))) (xa_cons (xe_tup (xa_cons (xe_name (pv 9)) (xa_cons (xe_name (pv 6)) (xa_cons (xe_name (pv 3)) xa_nil)))) xa_nil))) xa_nil))))))))) (xss_one (xs_ret (xe_name (pv 1))))))⟩
theorem ok_boxes_of {P : Program} {w : World} {K : PySem.W.Frag} {mg : Str → Option Value} {base : Heap} {k : Nat} {f : Addr} {fd : FuncData} {sp : DSpec} (F : Fun K "boxes_of" "boxes_of" st_boxes_of f fd) (hl : ∀ ds K', sp ds K' → ds.length = 1) (hw : ∀ ds K', sp ds K' → W_boxes_of { nx := fun ρ => K' (.dat .none) (outsOf ds ρ), rt := fun r ρ => K' r (outsOf ds ρ) } (startD N_boxes_of ds)) : FnOk P w K mg base CX0 (k + 1) f fd ["solid"] (spD K sp) :=
  fn_data F sc_boxes_of hl fun cdv A outer s H hr => by
    obtain ⟨t, h⟩ := dv_boxes_of (f := f) (cdv := cdv) (A := A) (outer := outer) (s := s) (H := H) hr
    exact ⟨t, _, h, hw⟩
/-! moved_layer -/
abbrev st_moved_layer : Stmt := topS 23
theorem sc_moved_layer : FnScope N_moved_layer ["layer", "by"] (defScope st_moved_layer) := ⟨rfl, rfl, rfl, by decide +kernel, rfl, by decide +kernel, by decide +kernel⟩
theorem dv_moved_layer {P : Program} {w : World} {K : PySem.W.Frag} {mg : Str → Option Value} {base : Heap} {k : Nat} {f : Addr} {cdv : Value} {A : Around} {outer : List Env} {s : Shared} {H : Hp} (m_tuple : mg "tuple" = none) (hr : Room k (cxOf CX0 P w K mg base N_moved_layer "moved_layer" (defScope st_moved_layer) f cdv A outer s H E0).nox.A) : ∃ t, XSs (cxOf CX0 P w K mg base N_moved_layer "moved_layer" (defScope st_moved_layer) f cdv A outer s H E0).nox (defBody st_moved_layer) t (W_moved_layer) :=
  ⟨_, (xss_one (xs_ret (xe_callTy xc_tuple (by rfl) m_tuple (by decide +kernel) (xa_cons (xe_lcD (own := [("y0", 2), ("y1", 3), ("row", 4)]) rfl sc_moved_layer.nd (xi_seq (xe_nameF (pv 0))) (blkOk_by (N := N_moved_layer) (sc := defScope st_moved_layer) (by decide +kernel)) (fun _ _ _ _ _ => (xg_tup rfl (xgs_cons (xg_name (i := 2) sc_moved_layer.nd rfl (Or.inl rfl)) (xgs_cons (xg_name (i := 3) sc_moved_layer.nd rfl (Or.inl rfl)) (xgs_cons (xg_name (i := 4) sc_moved_layer.nd rfl (Or.inl rfl)) xgs_nil))))) (fun _ _ _ _ _ => xts_nil) (fun _ _ _ _ _ => (xe_tup (xa_cons (xe_op xo_add (xe_name (pv 2)) (xe_ix (xe_name (pv 1)) xe_int (fun _ _ => rfl))) (xa_cons (xe_op xo_add (xe_name (pv 3)) (xe_ix (xe_name (pv 1)) xe_int (fun _ _ => rfl))) (xa_cons (xe_callTy xc_tuple (by rfl) m_tuple (by decide +kernel) (xa_cons (xe_lcD (own := [("x0", 5), ("x1", 6)]) rfl sc_moved_layer.nd (xi_seq (xe_nameF (pv 4))) (blkOk_by (N := N_moved_layer) (sc := _) (by rfl)) (fun _ _ _ _ _ => (xg_tup rfl (xgs_cons (xg_name (i := 5) sc_moved_layer.nd rfl (Or.inl rfl)) (xgs_cons (xg_name (i := 6) sc_moved_layer.nd rfl (Or.inl rfl)) xgs_nil)))) (fun _ _ _ _ _ => xts_nil) (fun _ _ _ _ _ => (xe_tup (xa_cons (xe_op xo_add (xe_name (pv 5)) (xe_ix (xe_name (pv 1)) xe_int (fun _ _ => rfl))) (xa_cons (xe_op xo_add (xe_name (pv 6)) (xe_ix (xe_name (pv 1)) xe_int (fun _ _ => rfl))) xa_nil))))) xa_nil)) xa_nil)))))) xa_nil))))⟩
theorem ok_moved_layer {P : Program} {w : World} {K : PySem.W.Frag} {mg : Str → Option Value} {base : Heap} {k : Nat} {f : Addr} {fd : FuncData} {sp : DSpec} (m_tuple : mg "tuple" = none) (F : Fun K "moved_layer" "moved_layer" st_moved_layer f fd) (hl : ∀ ds K', sp ds K' → ds.length = 2) (hw : ∀ ds K', sp ds K' → W_moved_layer { nx := fun ρ => K' (.dat .none) (outsOf ds ρ), rt := fun r ρ => K' r (outsOf ds ρ) } (startD N_moved_layer ds)) : FnOk P w K mg base CX0 (k + 1) f fd ["layer", "by"] (spD K sp) :=
  fn_data F sc_moved_layer hl fun cdv A outer s H hr => by
    obtain ⟨t, h⟩ := dv_moved_layer (f := f) (cdv := cdv) (A := A) (outer := outer) (s := s) (H := H) m_tuple hr
    exact ⟨t, _, h, hw⟩
/-! moved -/
abbrev st_moved : Stmt := topS 24
theorem sc_moved : FnScope N_moved ["solid", "by"] (defScope st_moved) := ⟨rfl, rfl, rfl, by decide +kernel, rfl, by decide +kernel, by decide +kernel⟩
theorem dv_moved {P : Program} {w : World} {K : PySem.W.Frag} {mg : Str → Option Value} {base : Heap} {k : Nat} {f : Addr} {cdv : Value} {A : Around} {outer : List Env} {s : Shared} {H : Hp} (sp_moved_layer : DSpec) (m_tuple : mg "tuple" = none) (c_moved_layer : Cal P w K mg base k "moved_layer" sp_moved_layer) (hr : Room k (cxOf CX0 P w K mg base N_moved "moved" (defScope st_moved) f cdv A outer s H E0).nox.A) : ∃ t, XSs (cxOf CX0 P w K mg base N_moved "moved" (defScope st_moved) f cdv A outer s H E0).nox (defBody st_moved) t (W_moved sp_moved_layer) :=
  ⟨_, (xss_one (xs_ret (xe_callTy xc_tuple (by rfl) m_tuple (by decide +kernel) (xa_cons (xe_lcD (own := [("z0", 2), ("z1", 3), ("layer", 4)]) rfl sc_moved.nd (xi_seq (xe_nameF (pv 0))) (blkOk_by (N := N_moved) (sc := defScope st_moved) (by decide +kernel)) (fun _ _ _ _ _ => (xg_tup rfl (xgs_cons (xg_name (i := 2) sc_moved.nd rfl (Or.inl rfl)) (xgs_cons (xg_name (i := 3) sc_moved.nd rfl (Or.inl rfl)) (xgs_cons (xg_name (i := 4) sc_moved.nd rfl (Or.inl rfl)) xgs_nil))))) (fun _ _ _ _ _ => xts_nil) (fun _ _ _ _ _ => (xe_tup (xa_cons (xe_op xo_add (xe_name (pv 2)) (xe_ix (xe_name (pv 1)) xe_int (fun _ _ => rfl))) (xa_cons (xe_op xo_add (xe_name (pv 3)) (xe_ix (xe_name (pv 1)) xe_int (fun _ _ => rfl))) (xa_cons (xe_callc c_moved_layer (by exact hr) (Nat.le_refl _) (by rfl) (xa_cons (xe_nameF (pv 4)) (xa_cons (xe_nameF (pv 1)) xa_nil))) xa_nil)))))) xa_nil))))⟩
theorem ok_moved {P : Program} {w : World} {K : PySem.W.Frag} {mg : Str → Option Value} {base : Heap} {k : Nat} {f : Addr} {fd : FuncData} {sp : DSpec} (sp_moved_layer : DSpec) (m_tuple : mg "tuple" = none) (c_moved_layer : Cal P w K mg base k "moved_layer" sp_moved_layer) (F : Fun K "moved" "moved" st_moved f fd) (hl : ∀ ds K', sp ds K' → ds.length = 2) (hw : ∀ ds K', sp ds K' → W_moved sp_moved_layer { nx := fun ρ => K' (.dat .none) (outsOf ds ρ), rt := fun r ρ => K' r (outsOf ds ρ) } (startD N_moved ds)) : FnOk P w K mg base CX0 (k + 1) f fd ["solid", "by"] (spD K sp) :=
  fn_data F sc_moved hl fun cdv A outer s H hr => by
    obtain ⟨t, h⟩ := dv_moved (f := f) (cdv := cdv) (A := A) (outer := outer) (s := s) (H := H) sp_moved_layer m_tuple c_moved_layer hr
    exact ⟨t, _, h, hw⟩
/-! swept -/
abbrev st_swept : Stmt := topS 25
theorem sc_swept : FnScope N_swept ["lot", "tool"] (defScope st_swept) := ⟨rfl, rfl, rfl, by decide +kernel, rfl, by decide +kernel, by decide +kernel⟩
theorem dv_swept {P : Program} {w : World} {K : PySem.W.Frag} {mg : Str → Option Value} {base : Heap} {k : Nat} {f : Addr} {cdv : Value} {A : Around} {outer : List Env} {s : Shared} {H : Hp} (sp_grown sp_count_of sp_union_of sp_boxes_of : DSpec) (c_grown : Cal P w K mg base k "grown" sp_grown) (c_count_of : Cal P w K mg base k "count_of" sp_count_of) (c_union_of : Cal P w K mg base k "union_of" sp_union_of) (c_boxes_of : Cal P w K mg base k "boxes_of" sp_boxes_of) (hr : Room k (cxOf CX0 P w K mg base N_swept "swept" (defScope st_swept) f cdv A outer s H E0).nox.A) : ∃ t, XSs (cxOf CX0 P w K mg base N_swept "swept" (defScope st_swept) f cdv A outer s H E0).nox (defBody st_swept) t (W_swept sp_grown sp_count_of sp_union_of sp_boxes_of) :=
  ⟨_, (xss_cons (xs_asg (xe_if (xt_cmp xo_le (xe_callc c_count_of (by exact hr) (Nat.le_refl _) (by rfl) (xa_cons (xe_nameF (pv 1)) xa_nil)) (xe_callc c_count_of (by exact hr) (Nat.le_refl _) (by rfl) (xa_cons (xe_nameF (pv 0)) xa_nil)) (nomark _)) (xe_tup (xa_cons (xe_name (pv 0)) (xa_cons (xe_name (pv 1)) xa_nil))) (xe_tup (xa_cons (xe_name (pv 1)) (xa_cons (xe_name (pv 0)) xa_nil)))) (xg_tup rfl (xgs_cons (xg_name (i := 2) sc_swept.nd rfl (Or.inr rfl)) (xgs_cons (xg_name (i := 3) sc_swept.nd rfl (Or.inl rfl)) xgs_nil)))) (xss_one (xs_ret (xe_callc c_union_of (by exact hr) (Nat.le_refl _) (by rfl) (xa_cons (xe_lcD (own := [("low", 4), ("high", 5)]) rfl sc_swept.nd (xi_seq (xe_callc c_boxes_of (by exact hr) (Nat.le_refl _) (by rfl) (xa_cons (xe_nameF (pv 3)) xa_nil))) (blkOk_by (N := N_swept) (sc := defScope st_swept) (by decide +kernel)) (fun _ _ _ _ _ => (xg_tup rfl (xgs_cons (xg_name (i := 4) sc_swept.nd rfl (Or.inl rfl)) (xgs_cons (xg_name (i := 5) sc_swept.nd rfl (Or.inl rfl)) xgs_nil)))) (fun _ _ _ _ _ => xts_nil) (fun _ _ _ _ _ => (xe_callc c_grown (by exact hr) (Nat.le_refl _) (by rfl) (xa_cons (xe_nameF (pv 2)) (xa_cons (xe_nameF (pv 4)) (xa_cons (xe_tup (xa_cons (xe_op xo_sub (xe_ix (xe_name (pv 5)) xe_int (fun _ _ => rfl)) xe_int) (xa_cons (xe_op xo_sub (xe_ix (xe_name (pv 5)) xe_int (fun _ _ => rfl)) xe_int) (xa_cons (xe_op xo_sub (xe_ix (xe_name (pv 5)) xe_int (fun _ _ => rfl)) xe_int) xa_nil)))) xa_nil)))))) xa_nil)))))⟩
theorem ok_swept {P : Program} {w : World} {K : PySem.W.Frag} {mg : Str → Option Value} {base : Heap} {k : Nat} {f : Addr} {fd : FuncData} {sp : DSpec} (sp_grown sp_count_of sp_union_of sp_boxes_of : DSpec) (c_grown : Cal P w K mg base k "grown" sp_grown) (c_count_of : Cal P w K mg base k "count_of" sp_count_of) (c_union_of : Cal P w K mg base k "union_of" sp_union_of) (c_boxes_of : Cal P w K mg base k "boxes_of" sp_boxes_of) (F : Fun K "swept" "swept" st_swept f fd) (hl : ∀ ds K', sp ds K' → ds.length = 2) (hw : ∀ ds K', sp ds K' → W_swept sp_grown sp_count_of sp_union_of sp_boxes_of { nx := fun ρ => K' (.dat .none) (outsOf ds ρ), rt := fun r ρ => K' r (outsOf ds ρ) } (startD N_swept ds)) : FnOk P w K mg base CX0 (k + 1) f fd ["lot", "tool"] (spD K sp) :=
  fn_data F sc_swept hl fun cdv A outer s H hr => by
    obtain ⟨t, h⟩ := dv_swept (f := f) (cdv := cdv) (A := A) (outer := outer) (s := s) (H := H) sp_grown sp_count_of sp_union_of sp_boxes_of c_grown c_count_of c_union_of c_boxes_of hr
    exact ⟨t, _, h, hw⟩
/-! cube_at -/
abbrev st_cube_at : Stmt := topS 27
theorem sc_cube_at : FnScope N_cube_at ["standing"] (defScope st_cube_at) := ⟨rfl, rfl, rfl, by decide +kernel, rfl, by decide +kernel, by decide +kernel⟩
theorem dv_cube_at {P : Program} {w : World} {K : PySem.W.Frag} {mg : Str → Option Value} {base : Heap} {k : Nat} {f : Addr} {cdv : Value} {A : Around} {outer : List Env} {s : Shared} {H : Hp} (sp_added sp_box : DSpec) (c_added : Cal P w K mg base k "added" sp_added) (c_box : Cal P w K mg base k "box" sp_box) (hr : Room k (cxOf CX0 P w K mg base N_cube_at "cube_at" (defScope st_cube_at) f cdv A outer s H E0).nox.A) : ∃ t, XSs (cxOf CX0 P w K mg base N_cube_at "cube_at" (defScope st_cube_at) f cdv A outer s H E0).nox (defBody st_cube_at) t (W_cube_at sp_added sp_box) :=
  ⟨_, (xss_one (xs_ret (xe_callc c_box (by exact hr) (Nat.le_refl _) (by rfl) (xa_cons (xe_nameF (pv 0)) (xa_cons (xe_callc c_added (by exact hr) (Nat.le_refl _) (by rfl) (xa_cons (xe_nameF (pv 0)) (xa_cons (xe_tup (xa_cons xe_int (xa_cons xe_int (xa_cons xe_int xa_nil)))) xa_nil))) xa_nil)))))⟩
theorem ok_cube_at {P : Program} {w : World} {K : PySem.W.Frag} {mg : Str → Option Value} {base : Heap} {k : Nat} {f : Addr} {fd : FuncData} {sp : DSpec} (sp_added sp_box : DSpec) (c_added : Cal P w K mg base k "added" sp_added) (c_box : Cal P w K mg base k "box" sp_box) (F : Fun K "cube_at" "cube_at" st_cube_at f fd) (hl : ∀ ds K', sp ds K' → ds.length = 1) (hw : ∀ ds K', sp ds K' → W_cube_at sp_added sp_box { nx := fun ρ => K' (.dat .none) (outsOf ds ρ), rt := fun r ρ => K' r (outsOf ds ρ) } (startD N_cube_at ds)) : FnOk P w K mg base CX0 (k + 1) f fd ["standing"] (spD K sp) :=
  fn_data F sc_cube_at hl fun cdv A outer s H hr => by
    obtain ⟨t, h⟩ := dv_cube_at (f := f) (cdv := cdv) (A := A) (outer := outer) (s := s) (H := H) sp_added sp_box c_added c_box hr
    exact ⟨t, _, h, hw⟩
/-! line_lot -/
abbrev st_line_lot : Stmt := topS 28
theorem sc_line_lot : FnScope N_line_lot ["start", "axis", "to"] (defScope st_line_lot) := ⟨rfl, rfl, rfl, by decide +kernel, rfl, by decide +kernel, by decide +kernel⟩
theorem dv_line_lot {P : Program} {w : World} {K : PySem.W.Frag} {mg : Str → Option Value} {base : Heap} {k : Nat} {f : Addr} {cdv : Value} {A : Around} {outer : List Env} {s : Shared} {H : Hp} (sp_added sp_sorted_corners sp_with_number sp_box : DSpec) (c_added : Cal P w K mg base k "added" sp_added) (c_sorted_corners : Cal P w K mg base k "sorted_corners" sp_sorted_corners) (c_with_number : Cal P w K mg base k "with_number" sp_with_number) (c_box : Cal P w K mg base k "box" sp_box) (hr : Room k (cxOf CX0 P w K mg base N_line_lot "line_lot" (defScope st_line_lot) f cdv A outer s H E0).nox.A) : ∃ t, XSs (cxOf CX0 P w K mg base N_line_lot "line_lot" (defScope st_line_lot) f cdv A outer s H E0).nox (defBody st_line_lot) t (W_line_lot sp_added sp_sorted_corners sp_with_number sp_box) :=
  ⟨_, (xss_cons (xs_asg (xe_callc c_sorted_corners (by exact hr) (Nat.le_refl _) (by rfl) (xa_cons (xe_nameF (pv 0)) (xa_cons (xe_callc c_with_number (by exact hr) (Nat.le_refl _) (by rfl) (xa_cons (xe_nameF (pv 0)) (xa_cons (xe_nameF (pv 1)) (xa_cons (xe_nameF (pv 2)) xa_nil)))) xa_nil))) (xg_tup rfl (xgs_cons (xg_name (i := 3) sc_line_lot.nd rfl (Or.inl rfl)) (xgs_cons (xg_name (i := 4) sc_line_lot.nd rfl (Or.inl rfl)) xgs_nil)))) (xss_one (xs_ret (xe_callc c_box (by exact hr) (Nat.le_refl _) (by rfl) (xa_cons (xe_nameF (pv 3)) (xa_cons (xe_callc c_added (by exact hr) (Nat.le_refl _) (by rfl) (xa_cons (xe_nameF (pv 4)) (xa_cons (xe_tup (xa_cons xe_int (xa_cons xe_int (xa_cons xe_int xa_nil)))) xa_nil))) xa_nil))))))⟩
theorem ok_line_lot {P : Program} {w : World} {K : PySem.W.Frag} {mg : Str → Option Value} {base : Heap} {k : Nat} {f : Addr} {fd : FuncData} {sp : DSpec} (sp_added sp_sorted_corners sp_with_number sp_box : DSpec) (c_added : Cal P w K mg base k "added" sp_added) (c_sorted_corners : Cal P w K mg base k "sorted_corners" sp_sorted_corners) (c_with_number : Cal P w K mg base k "with_number" sp_with_number) (c_box : Cal P w K mg base k "box" sp_box) (F : Fun K "line_lot" "line_lot" st_line_lot f fd) (hl : ∀ ds K', sp ds K' → ds.length = 3) (hw : ∀ ds K', sp ds K' → W_line_lot sp_added sp_sorted_corners sp_with_number sp_box { nx := fun ρ => K' (.dat .none) (outsOf ds ρ), rt := fun r ρ => K' r (outsOf ds ρ) } (startD N_line_lot ds)) : FnOk P w K mg base CX0 (k + 1) f fd ["start", "axis", "to"] (spD K sp) :=
  fn_data F sc_line_lot hl fun cdv A outer s H hr => by
    obtain ⟨t, h⟩ := dv_line_lot (f := f) (cdv := cdv) (A := A) (outer := outer) (s := s) (H := H) sp_added sp_sorted_corners sp_with_number sp_box c_added c_sorted_corners c_with_number c_box hr
    exact ⟨t, _, h, hw⟩
/-! travel_lot -/
abbrev st_travel_lot : Stmt := topS 29
theorem sc_travel_lot : FnScope N_travel_lot ["machine"] (defScope st_travel_lot) := ⟨rfl, rfl, rfl, by decide +kernel, rfl, by decide +kernel, by decide +kernel⟩
theorem dv_travel_lot {P : Program} {w : World} {K : PySem.W.Frag} {mg : Str → Option Value} {base : Heap} {k : Nat} {f : Addr} {cdv : Value} {A : Around} {outer : List Env} {s : Shared} {H : Hp} (sp_added sp_box : DSpec) (c_added : Cal P w K mg base k "added" sp_added) (c_box : Cal P w K mg base k "box" sp_box) (hr : Room k (cxOf CX0 P w K mg base N_travel_lot "travel_lot" (defScope st_travel_lot) f cdv A outer s H E0).nox.A) : ∃ t, XSs (cxOf CX0 P w K mg base N_travel_lot "travel_lot" (defScope st_travel_lot) f cdv A outer s H E0).nox (defBody st_travel_lot) t (W_travel_lot sp_added sp_box) :=
  ⟨_, (xss_one (xs_ret (xe_callc c_box (by exact hr) (Nat.le_refl _) (by rfl) (xa_cons (xe_ix (xe_name (pv 0)) xe_int (fun _ _ => rfl)) (xa_cons (xe_callc c_added (by exact hr) (Nat.le_refl _) (by rfl) (xa_cons (xe_ix (xe_name (pv 0)) xe_int (fun _ _ => rfl)) (xa_cons (xe_tup (xa_cons xe_int (xa_cons xe_int (xa_cons xe_int xa_nil)))) xa_nil))) xa_nil)))))⟩
theorem ok_travel_lot {P : Program} {w : World} {K : PySem.W.Frag} {mg : Str → Option Value} {base : Heap} {k : Nat} {f : Addr} {fd : FuncData} {sp : DSpec} (sp_added sp_box : DSpec) (c_added : Cal P w K mg base k "added" sp_added) (c_box : Cal P w K mg base k "box" sp_box) (F : Fun K "travel_lot" "travel_lot" st_travel_lot f fd) (hl : ∀ ds K', sp ds K' → ds.length = 1) (hw : ∀ ds K', sp ds K' → W_travel_lot sp_added sp_box { nx := fun ρ => K' (.dat .none) (outsOf ds ρ), rt := fun r ρ => K' r (outsOf ds ρ) } (startD N_travel_lot ds)) : FnOk P w K mg base CX0 (k + 1) f fd ["machine"] (spD K sp) :=
  fn_data F sc_travel_lot hl fun cdv A outer s H hr => by
    obtain ⟨t, h⟩ := dv_travel_lot (f := f) (cdv := cdv) (A := A) (outer := outer) (s := s) (H := H) sp_added sp_box c_added c_box hr
    exact ⟨t, _, h, hw⟩
/-! _law_cell_at -/
abbrev st__law_cell_at : Stmt := topS 31
theorem sc__law_cell_at : FnScope N__law_cell_at ["script", "k"] (defScope st__law_cell_at) := ⟨rfl, rfl, rfl, by decide +kernel, rfl, by decide +kernel, by decide +kernel⟩
theorem dv__law_cell_at {P : Program} {w : World} {K : PySem.W.Frag} {mg : Str → Option Value} {base : Heap} {k : Nat} {f : Addr} {cdv : Value} {A : Around} {outer : List Env} {s : Shared} {H : Hp} (m_len : mg "len" = none) (hr : Room k (cxOf CX0 P w K mg base N__law_cell_at "_law_cell_at" (defScope st__law_cell_at) f cdv A outer s H E0).nox.A) : ∃ t, XSs (cxOf CX0 P w K mg base N__law_cell_at "_law_cell_at" (defScope st__law_cell_at) f cdv A outer s H E0).nox (defBody st__law_cell_at) t (W__law_cell_at) :=
  ⟨_, (xss_cons (xs_if (xt_cmp xo_lt (xe_name (pv 1)) (xe_callB xc_len (by rfl) m_len (by decide +kernel) (xa_cons (xe_name (pv 0)) xa_nil)) (nomark _)) (xss_one (xs_ret (xe_ix (xe_name (pv 0)) (xe_name (pv 1)) (fun _ _ => rfl)))) xss_nil) (xss_one (xs_ret xe_int)))⟩
theorem ok__law_cell_at {P : Program} {w : World} {K : PySem.W.Frag} {mg : Str → Option Value} {base : Heap} {k : Nat} {f : Addr} {fd : FuncData} {sp : DSpec} (m_len : mg "len" = none) (F : Fun K "_law_cell_at" "_law_cell_at" st__law_cell_at f fd) (hl : ∀ ds K', sp ds K' → ds.length = 2) (hw : ∀ ds K', sp ds K' → W__law_cell_at { nx := fun ρ => K' (.dat .none) (outsOf ds ρ), rt := fun r ρ => K' r (outsOf ds ρ) } (startD N__law_cell_at ds)) : FnOk P w K mg base CX0 (k + 1) f fd ["script", "k"] (spD K sp) :=
  fn_data F sc__law_cell_at hl fun cdv A outer s H hr => by
    obtain ⟨t, h⟩ := dv__law_cell_at (f := f) (cdv := cdv) (A := A) (outer := outer) (s := s) (H := H) m_len hr
    exact ⟨t, _, h, hw⟩
/-! _law_draw -/
abbrev st__law_draw : Stmt := topS 32
theorem sc__law_draw : FnScope N__law_draw ["cell", "k", "bound"] (defScope st__law_draw) := ⟨rfl, rfl, rfl, by decide +kernel, rfl, by decide +kernel, by decide +kernel⟩
theorem dv__law_draw {P : Program} {w : World} {K : PySem.W.Frag} {mg : Str → Option Value} {base : Heap} {k : Nat} {f : Addr} {cdv : Value} {A : Around} {outer : List Env} {s : Shared} {H : Hp} (m_int : mg "int" = none) (hr : Room k (cxOf CX0 P w K mg base N__law_draw "_law_draw" (defScope st__law_draw) f cdv A outer s H E0).nox.A) : ∃ t, XSs (cxOf CX0 P w K mg base N__law_draw "_law_draw" (defScope st__law_draw) f cdv A outer s H E0).nox (defBody st__law_draw) t (W__law_draw) :=
  ⟨_, (xss_cons (xs_set (i := 3) sc__law_draw.nd rfl (Or.inl rfl) (xe_tup (xa_cons xe_int (xa_cons xe_int (xa_cons xe_int (xa_cons xe_int (xa_cons xe_int (xa_cons xe_int (xa_cons xe_int (xa_cons xe_int (xa_cons xe_int (xa_cons xe_int (xa_cons xe_int (xa_cons xe_int (xa_cons xe_int (xa_cons xe_int (xa_cons xe_int (xa_cons xe_int xa_nil)))))))))))))))))) (xss_one (xs_ret (xe_op xo_mod (xe_op xo_mod (xe_callTy xc_int (by rfl) m_int (by decide +kernel) (xa_cons (xe_op xo_add (xe_op xo_mul (xe_name (pv 0)) xe_int) (xe_op xo_mul (xe_name (pv 1)) xe_int)) xa_nil)) (xe_ix (xe_name (pv 3)) (xe_op xo_mod (xe_callTy xc_int (by rfl) m_int (by decide +kernel) (xa_cons (xe_name (pv 1)) xa_nil)) xe_int) (fun _ _ => rfl))) (xe_name (pv 2))))))⟩
theorem ok__law_draw {P : Program} {w : World} {K : PySem.W.Frag} {mg : Str → Option Value} {base : Heap} {k : Nat} {f : Addr} {fd : FuncData} {sp : DSpec} (m_int : mg "int" = none) (F : Fun K "_law_draw" "_law_draw" st__law_draw f fd) (hl : ∀ ds K', sp ds K' → ds.length = 3) (hw : ∀ ds K', sp ds K' → W__law_draw { nx := fun ρ => K' (.dat .none) (outsOf ds ρ), rt := fun r ρ => K' r (outsOf ds ρ) } (startD N__law_draw ds)) : FnOk P w K mg base CX0 (k + 1) f fd ["cell", "k", "bound"] (spD K sp) :=
  fn_data F sc__law_draw hl fun cdv A outer s H hr => by
    obtain ⟨t, h⟩ := dv__law_draw (f := f) (cdv := cdv) (A := A) (outer := outer) (s := s) (H := H) m_int hr
    exact ⟨t, _, h, hw⟩
/-! _law_number -/
abbrev st__law_number : Stmt := topS 33
theorem sc__law_number : FnScope N__law_number ["cell", "k", "bound"] (defScope st__law_number) := ⟨rfl, rfl, rfl, by decide +kernel, rfl, by decide +kernel, by decide +kernel⟩
theorem dv__law_number {P : Program} {w : World} {K : PySem.W.Frag} {mg : Str → Option Value} {base : Heap} {k : Nat} {f : Addr} {cdv : Value} {A : Around} {outer : List Env} {s : Shared} {H : Hp} (sp__law_draw : DSpec) (m_int : mg "int" = none) (m_range : mg "range" = none) (c__law_draw : Cal P w K mg base k "_law_draw" sp__law_draw) (hr : Room k (cxOf CX0 P w K mg base N__law_number "_law_number" (defScope st__law_number) f cdv A outer s H E0).nox.A) : ∃ t, XSs (cxOf CX0 P w K mg base N__law_number "_law_number" (defScope st__law_number) f cdv A outer s H E0).nox (defBody st__law_number) t (W__law_number sp__law_draw) :=
  ⟨_, (xss_cons (xs_set (i := 3) sc__law_number.nd rfl (Or.inl rfl) xe_int) (xss_cons (xs_for PassesOwn.never rfl (xi_range1 (by rfl) m_range (xa_cons (xe_op xo_mod (xe_callTy xc_int (by rfl) m_int (by decide +kernel) (xa_cons (xe_name (pv 1)) xa_nil)) xe_int) xa_nil)) (xg_name (i := 4) sc__law_number.nd rfl (Or.inl rfl)) (xss_one (xs_set (i := 3) sc__law_number.nd rfl (Or.inl rfl) (xe_op xo_mul (xe_name (pv 3)) xe_int)))) (xss_cons (xs_set (i := 5) sc__law_number.nd rfl (Or.inl rfl) (xe_op xo_fdivW (xe_op xo_sub (xe_name (pv 0)) (xe_op xo_pow xe_int xe_int)) (xe_name (pv 3)))) (xss_cons (xs_if (xt_cmp xo_gt (xe_name (pv 5)) xe_int (nomark _)) (xss_one (xs_ret (xe_op xo_mod (xe_op xo_mod (xe_callTy xc_int (by rfl) m_int (by decide +kernel) (xa_cons (xe_name (pv 5)) xa_nil)) xe_int) (xe_name (pv 2))))) xss_nil) (xss_cons (xs_set (i := 6) sc__law_number.nd rfl (Or.inl rfl) (xe_op xo_mod (xe_callTy xc_int (by rfl) m_int (by decide +kernel) (xa_cons (xe_name (pv 0)) xa_nil)) xe_int)) (xss_one (xs_ret (xe_op xo_mod (xe_callc c__law_draw (by exact hr) (Nat.le_refl _) (by rfl) (xa_cons (xe_op xo_mul (xe_op xo_add (xe_name (pv 6)) (xe_op xo_mul xe_int (xe_name (pv 1)))) (xe_op xo_add (xe_op xo_add (xe_name (pv 6)) (xe_op xo_mul xe_int (xe_name (pv 1)))) xe_int)) (xa_cons (xe_op xo_add (xe_op xo_mod (xe_callTy xc_int (by rfl) m_int (by decide +kernel) (xa_cons (xe_name (pv 1)) xa_nil)) xe_int) xe_int) (xa_cons xe_int xa_nil)))) (xe_name (pv 2))))))))))⟩
theorem ok__law_number {P : Program} {w : World} {K : PySem.W.Frag} {mg : Str → Option Value} {base : Heap} {k : Nat} {f : Addr} {fd : FuncData} {sp : DSpec} (sp__law_draw : DSpec) (m_int : mg "int" = none) (m_range : mg "range" = none) (c__law_draw : Cal P w K mg base k "_law_draw" sp__law_draw) (F : Fun K "_law_number" "_law_number" st__law_number f fd) (hl : ∀ ds K', sp ds K' → ds.length = 3) (hw : ∀ ds K', sp ds K' → W__law_number sp__law_draw { nx := fun ρ => K' (.dat .none) (outsOf ds ρ), rt := fun r ρ => K' r (outsOf ds ρ) } (startD N__law_number ds)) : FnOk P w K mg base CX0 (k + 1) f fd ["cell", "k", "bound"] (spD K sp) :=
  fn_data F sc__law_number hl fun cdv A outer s H hr => by
    obtain ⟨t, h⟩ := dv__law_number (f := f) (cdv := cdv) (A := A) (outer := outer) (s := s) (H := H) sp__law_draw m_int m_range c__law_draw hr
    exact ⟨t, _, h, hw⟩
/-! _law_next -/
abbrev st__law_next : Stmt := topS 34
theorem sc__law_next : FnScope N__law_next ["draw", "bound"] (defScope st__law_next) := ⟨rfl, rfl, rfl, by decide +kernel, rfl, by decide +kernel, by decide +kernel⟩
theorem dv__law_next {P : Program} {w : World} {K : PySem.W.Frag} {mg : Str → Option Value} {base : Heap} {k : Nat} {f : Addr} {cdv : Value} {A : Around} {outer : List Env} {s : Shared} {H : Hp} (sp__law_cell_at sp__law_number : DSpec) (m_int : mg "int" = none) (c__law_cell_at : Cal P w K mg base k "_law_cell_at" sp__law_cell_at) (c__law_number : Cal P w K mg base k "_law_number" sp__law_number) (hr : Room k (cxOf CX0 P w K mg base N__law_next "_law_next" (defScope st__law_next) f cdv A outer s H E0).nox.A) : ∃ t, XSs (cxOf CX0 P w K mg base N__law_next "_law_next" (defScope st__law_next) f cdv A outer s H E0).nox (defBody st__law_next) t (W__law_next sp__law_cell_at sp__law_number) :=
  ⟨_, (xss_cons (xs_put (xe_op xo_add (xe_ix (xe_name (pv 0)) xe_int (fun _ _ => rfl)) xe_int) (xe_name (pv 0)) xe_int) (xss_cons (xs_set (i := 2) sc__law_next.nd rfl (Or.inl rfl) (xe_op xo_fdiv (xe_ix (xe_name (pv 0)) xe_int (fun _ _ => rfl)) xe_int)) (xss_cons (xs_set (i := 3) sc__law_next.nd rfl (Or.inl rfl) (xe_op xo_add (xe_callc c__law_cell_at (by exact hr) (Nat.le_refl _) (by rfl) (xa_cons (xe_ix (xe_name (pv 0)) xe_int (fun _ _ => rfl)) (xa_cons (xe_op xo_add (xe_ix (xe_name (pv 0)) xe_int (fun _ _ => rfl)) (xe_name (pv 2))) xa_nil))) (xe_op xo_mul xe_int (xe_name (pv 2))))) (xss_one (xs_ret (xe_callc c__law_number (by exact hr) (Nat.le_refl _) (by rfl) (xa_cons (xe_nameF (pv 3)) (xa_cons (xe_op xo_add (xe_op xo_mod (xe_callTy xc_int (by rfl) m_int (by decide +kernel) (xa_cons (xe_ix (xe_name (pv 0)) xe_int (fun _ _ => rfl)) xa_nil)) xe_int) xe_int) (xa_cons (xe_nameF (pv 1)) xa_nil)))))))))⟩
theorem ok__law_next {P : Program} {w : World} {K : PySem.W.Frag} {mg : Str → Option Value} {base : Heap} {k : Nat} {f : Addr} {fd : FuncData} {sp : DSpec} (sp__law_cell_at sp__law_number : DSpec) (m_int : mg "int" = none) (c__law_cell_at : Cal P w K mg base k "_law_cell_at" sp__law_cell_at) (c__law_number : Cal P w K mg base k "_law_number" sp__law_number) (F : Fun K "_law_next" "_law_next" st__law_next f fd) (hl : ∀ ds K', sp ds K' → ds.length = 2) (hw : ∀ ds K', sp ds K' → W__law_next sp__law_cell_at sp__law_number { nx := fun ρ => K' (.dat .none) (outsOf ds ρ), rt := fun r ρ => K' r (outsOf ds ρ) } (startD N__law_next ds)) : FnOk P w K mg base CX0 (k + 1) f fd ["draw", "bound"] (spD K sp) :=
  fn_data F sc__law_next hl fun cdv A outer s H hr => by
    obtain ⟨t, h⟩ := dv__law_next (f := f) (cdv := cdv) (A := A) (outer := outer) (s := s) (H := H) sp__law_cell_at sp__law_number m_int c__law_cell_at c__law_number hr
    exact ⟨t, _, h, hw⟩
/-! _law_tool -/
abbrev st__law_tool : Stmt := topS 35
theorem sc__law_tool : FnScope N__law_tool ["draw", "name"] (defScope st__law_tool) := ⟨rfl, rfl, rfl, by decide +kernel, rfl, by decide +kernel, by decide +kernel⟩
theorem dv__law_tool {P : Program} {w : World} {K : PySem.W.Frag} {mg : Str → Option Value} {base : Heap} {k : Nat} {f : Addr} {cdv : Value} {A : Around} {outer : List Env} {s : Shared} {H : Hp} (sp_box sp_union sp__law_next : DSpec) (c_box : Cal P w K mg base k "box" sp_box) (c_union : Cal P w K mg base k "union" sp_union) (c__law_next : Cal P w K mg base k "_law_next" sp__law_next) (hr : Room k (cxOf CX0 P w K mg base N__law_tool "_law_tool" (defScope st__law_tool) f cdv A outer s H E0).nox.A) : ∃ t, XSs (cxOf CX0 P w K mg base N__law_tool "_law_tool" (defScope st__law_tool) f cdv A outer s H E0).nox (defBody st__law_tool) t (W__law_tool sp_box sp_union sp__law_next) :=
  ⟨_, (xss_cons (xs_par (i := 2) (j := 3) rfl sc__law_tool.nd rfl rfl (by decide) rfl rfl (xa_cons (xe_op xo_add xe_int (xe_callc c__law_next (by exact hr) (Nat.le_refl _) (by rfl) (xa_cons (xe_name (pv 0)) (xa_cons xe_int xa_nil)))) (xa_cons (xe_op xo_add xe_int (xe_callc c__law_next (by exact hr) (Nat.le_refl _) (by rfl) (xa_cons (xe_name (pv 0)) (xa_cons xe_int xa_nil)))) xa_nil)) (by rfl)) (xss_cons (xs_set (i := 4) sc__law_tool.nd rfl (Or.inl rfl) (xe_callc c_box (by exact hr) (Nat.le_refl _) (by rfl) (xa_cons (xe_tup (xa_cons xe_int (xa_cons xe_int (xa_cons xe_int xa_nil)))) (xa_cons (xe_tup (xa_cons (xe_name (pv 2)) (xa_cons (xe_op xo_add xe_int (xe_callc c__law_next (by exact hr) (Nat.le_refl _) (by rfl) (xa_cons (xe_name (pv 0)) (xa_cons xe_int xa_nil)))) (xa_cons (xe_name (pv 3)) xa_nil)))) xa_nil)))) (xss_cons (xs_if (xt_cmp (xo_eq (Room.units (by exact hr))) (xe_callc c__law_next (by exact hr) (Nat.le_refl _) (by rfl) (xa_cons (xe_name (pv 0)) (xa_cons xe_int xa_nil))) xe_int (nomark _)) (xss_one (xs_set (i := 4) sc__law_tool.nd rfl (Or.inl rfl) (xe_callc c_union (by exact hr) (Nat.le_refl _) (by rfl) (xa_cons (xe_nameF (pv 4)) (xa_cons (xe_callc c_box (by exact hr) (Nat.le_refl _) (by rfl) (xa_cons (xe_tup (xa_cons (xe_neg xe_int) (xa_cons xe_int (xa_cons xe_int xa_nil)))) (xa_cons (xe_tup (xa_cons (xe_op xo_add (xe_name (pv 2)) xe_int) (xa_cons xe_int (xa_cons xe_int xa_nil)))) xa_nil))) xa_nil))))) xss_nil) (xss_cons (xs_par (i := 5) (j := 6) rfl sc__law_tool.nd rfl rfl (by decide) rfl rfl (xa_cons (xe_tup (xa_cons (xe_neg (xe_callc c__law_next (by exact hr) (Nat.le_refl _) (by rfl) (xa_cons (xe_name (pv 0)) (xa_cons xe_int xa_nil)))) (xa_cons (xe_neg (xe_callc c__law_next (by exact hr) (Nat.le_refl _) (by rfl) (xa_cons (xe_name (pv 0)) (xa_cons xe_int xa_nil)))) (xa_cons (xe_name (pv 3)) xa_nil)))) (xa_cons (xe_tup (xa_cons (xe_op xo_add (xe_name (pv 2)) (xe_callc c__law_next (by exact hr) (Nat.le_refl _) (by rfl) (xa_cons (xe_name (pv 0)) (xa_cons xe_int xa_nil)))) (xa_cons (xe_op xo_add xe_int (xe_callc c__law_next (by exact hr) (Nat.le_refl _) (by rfl) (xa_cons (xe_name (pv 0)) (xa_cons xe_int xa_nil)))) (xa_cons (xe_op xo_add (xe_name (pv 3)) xe_int) xa_nil)))) xa_nil)) (by rfl)) (xss_one (xs_ret (xe_tup (xa_cons (xe_name (pv 1)) (xa_cons (xe_name (pv 4)) (xa_cons (xe_if (xt_cmp xo_gt (xe_callc c__law_next (by exact hr) (Nat.le_refl _) (by rfl) (xa_cons (xe_name (pv 0)) (xa_cons xe_int xa_nil))) xe_int (nomark _)) (xe_callc c_box (by exact hr) (Nat.le_refl _) (by rfl) (xa_cons (xe_nameF (pv 5)) (xa_cons (xe_nameF (pv 6)) xa_nil))) (xe_tup xa_nil)) (xa_cons (xe_op xo_add xe_int (xe_callc c__law_next (by exact hr) (Nat.le_refl _) (by rfl) (xa_cons (xe_name (pv 0)) (xa_cons xe_int xa_nil)))) xa_nil)))))))))))⟩
theorem ok__law_tool {P : Program} {w : World} {K : PySem.W.Frag} {mg : Str → Option Value} {base : Heap} {k : Nat} {f : Addr} {fd : FuncData} {sp : DSpec} (sp_box sp_union sp__law_next : DSpec) (c_box : Cal P w K mg base k "box" sp_box) (c_union : Cal P w K mg base k "union" sp_union) (c__law_next : Cal P w K mg base k "_law_next" sp__law_next) (F : Fun K "_law_tool" "_law_tool" st__law_tool f fd) (hl : ∀ ds K', sp ds K' → ds.length = 2) (hw : ∀ ds K', sp ds K' → W__law_tool sp_box sp_union sp__law_next { nx := fun ρ => K' (.dat .none) (outsOf ds ρ), rt := fun r ρ => K' r (outsOf ds ρ) } (startD N__law_tool ds)) : FnOk P w K mg base CX0 (k + 1) f fd ["draw", "name"] (spD K sp) :=
  fn_data F sc__law_tool hl fun cdv A outer s H hr => by
    obtain ⟨t, h⟩ := dv__law_tool (f := f) (cdv := cdv) (A := A) (outer := outer) (s := s) (H := H) sp_box sp_union sp__law_next c_box c_union c__law_next hr
    exact ⟨t, _, h, hw⟩
/-! _law_cubes -/
abbrev st__law_cubes : Stmt := topS 36
theorem sc__law_cubes : FnScope N__law_cubes ["solid"] (defScope st__law_cubes) := ⟨rfl, rfl, rfl, by decide +kernel, rfl, by decide +kernel, by decide +kernel⟩
theorem dv__law_cubes {P : Program} {w : World} {K : PySem.W.Frag} {mg : Str → Option Value} {base : Heap} {k : Nat} {f : Addr} {cdv : Value} {A : Around} {outer : List Env} {s : Shared} {H : Hp} (m_range : mg "range" = none) (hr : Room k (cxOf CX0 P w K mg base N__law_cubes "_law_cubes" (defScope st__law_cubes) f cdv A outer s H E0).nox.A) : ∃ t, XSs (cxOf CX0 P w K mg base N__law_cubes "_law_cubes" (defScope st__law_cubes) f cdv A outer s H E0).nox (defBody st__law_cubes) t (W__law_cubes) :=
  ⟨_, (xss_cons (xs_set (i := 1) sc__law_cubes.nd rfl (Or.inl rfl) xe_dnew) (xss_cons (xs_for PassesOwn.never rfl (xi_seq (xe_nameF (pv 0))) (xg_tup rfl (xgs_cons (xg_name (i := 2) sc__law_cubes.nd rfl (Or.inl rfl)) (xgs_cons (xg_name (i := 3) sc__law_cubes.nd rfl (Or.inl rfl)) (xgs_cons (xg_name (i := 4) sc__law_cubes.nd rfl (Or.inl rfl)) xgs_nil)))) (xss_one (xs_for PassesOwn.never rfl (xi_seq (xe_nameF (pv 4))) (xg_tup rfl (xgs_cons (xg_name (i := 5) sc__law_cubes.nd rfl (Or.inl rfl)) (xgs_cons (xg_name (i := 6) sc__law_cubes.nd rfl (Or.inl rfl)) (xgs_cons (xg_name (i := 7) sc__law_cubes.nd rfl (Or.inl rfl)) xgs_nil)))) (xss_one (xs_for PassesOwn.never rfl (xi_seq (xe_nameF (pv 7))) (xg_tup rfl (xgs_cons (xg_name (i := 8) sc__law_cubes.nd rfl (Or.inl rfl)) (xgs_cons (xg_name (i := 9) sc__law_cubes.nd rfl (Or.inl rfl)) xgs_nil))) (xss_one (xs_for PassesOwn.never rfl (xi_range2 (by rfl) m_range (xa_cons (xe_name (pv 2)) (xa_cons (xe_name (pv 3)) xa_nil))) (xg_name (i := 10) sc__law_cubes.nd rfl (Or.inl rfl)) (xss_one (xs_for PassesOwn.never rfl (xi_range2 (by rfl) m_range (xa_cons (xe_name (pv 5)) (xa_cons (xe_name (pv 6)) xa_nil))) (xg_name (i := 11) sc__law_cubes.nd rfl (Or.inl rfl)) (xss_one (xs_for PassesOwn.never rfl (xi_range2 (by rfl) m_range (xa_cons (xe_name (pv 8)) (xa_cons (xe_name (pv 9)) xa_nil))) (xg_name (i := 12) sc__law_cubes.nd rfl (Or.inl rfl)) (xss_one (xs_dput (Room.units (by exact hr)) xe_bl (xe_name (pv 1)) (xe_tup (xa_cons (xe_name (pv 12)) (xa_cons (xe_name (pv 11)) (xa_cons (xe_name (pv 10)) xa_nil))))))))))))))))) (xss_one (xs_ret (xe_name (pv 1))))))⟩
theorem ok__law_cubes {P : Program} {w : World} {K : PySem.W.Frag} {mg : Str → Option Value} {base : Heap} {k : Nat} {f : Addr} {fd : FuncData} {sp : DSpec} (m_range : mg "range" = none) (F : Fun K "_law_cubes" "_law_cubes" st__law_cubes f fd) (hl : ∀ ds K', sp ds K' → ds.length = 1) (hw : ∀ ds K', sp ds K' → W__law_cubes { nx := fun ρ => K' (.dat .none) (outsOf ds ρ), rt := fun r ρ => K' r (outsOf ds ρ) } (startD N__law_cubes ds)) : FnOk P w K mg base CX0 (k + 1) f fd ["solid"] (spD K sp) :=
  fn_data F sc__law_cubes hl fun cdv A outer s H hr => by
    obtain ⟨t, h⟩ := dv__law_cubes (f := f) (cdv := cdv) (A := A) (outer := outer) (s := s) (H := H) m_range hr
    exact ⟨t, _, h, hw⟩
/-! law -/
abbrev st_law : Stmt := topS 37
theorem sc_law : FnScope N_law ["script"] (defScope st_law) := ⟨rfl, rfl, rfl, by decide +kernel, rfl, by decide +kernel, by decide +kernel⟩
theorem dv_law {P : Program} {w : World} {K : PySem.W.Frag} {mg : Str → Option Value} {base : Heap} {k : Nat} {f : Addr} {cdv : Value} {A : Around} {outer : List Env} {s : Shared} {H : Hp} (sp_union sp_moved sp_swept sp_cube_at sp_line_lot sp_travel_lot sp__law_next sp__law_tool sp__law_cubes : DSpec) (m_enumerate : mg "enumerate" = none) (m_len : mg "len" = none) (m_max : mg "max" = none) (m_min : mg "min" = none) (m_range : mg "range" = none) (m_sorted : mg "sorted" = none) (m_tuple : mg "tuple" = none) (c_union : Cal P w K mg base k "union" sp_union) (c_moved : Cal P w K mg base k "moved" sp_moved) (c_swept : Cal P w K mg base k "swept" sp_swept) (c_cube_at : Cal P w K mg base k "cube_at" sp_cube_at) (c_line_lot : Cal P w K mg base k "line_lot" sp_line_lot) (c_travel_lot : Cal P w K mg base k "travel_lot" sp_travel_lot) (c__law_next : Cal P w K mg base k "_law_next" sp__law_next) (c__law_tool : Cal P w K mg base k "_law_tool" sp__law_tool) (c__law_cubes : Cal P w K mg base k "_law_cubes" sp__law_cubes) (hr : Room k (cxOf CX0 P w K mg base N_law "law" (defScope st_law) f cdv A outer s H E0).nox.A) : ∃ t, XSs (cxOf CX0 P w K mg base N_law "law" (defScope st_law) f cdv A outer s H E0).nox (defBody st_law) t (W_law sp_union sp_moved sp_swept sp_cube_at sp_line_lot sp_travel_lot sp__law_next sp__law_tool sp__law_cubes) :=
  ⟨_, (xss_cons (xs_set (i := 1) sc_law.nd rfl (Or.inr rfl) (xe_lst (xa_cons (xe_sl (xe_name (pv 0)) xp_none (xp_some xe_int)) (xa_cons xe_int (xa_cons xe_int xa_nil))))) (xss_cons (xs_asg (xe_callc c__law_tool (by exact hr) (Nat.le_refl _) (by rfl) (xa_cons (xe_name (pv 1)) (xa_cons xe_str xa_nil))) (xg_tup rfl (xgs_cons (xg_name (i := 2) sc_law.nd rfl (Or.inl rfl)) (xgs_cons (xg_name (i := 3) sc_law.nd rfl (Or.inl rfl)) (xgs_cons (xg_name (i := 4) sc_law.nd rfl (Or.inl rfl)) (xgs_cons (xg_name (i := 5) sc_law.nd rfl (Or.inl rfl)) xgs_nil)))))) (xss_cons (xs_for PassesOwn.never rfl (xi_range1 (by rfl) m_range (xa_cons xe_int xa_nil)) (xg_name (i := 6) sc_law.nd rfl (Or.inl rfl)) (xss_cons (xs_set (i := 7) sc_law.nd rfl (Or.inl rfl) (xe_callTy xc_tuple (by rfl) m_tuple (by decide +kernel) (xa_cons (xe_lcD (own := [("axis", 8)]) rfl sc_law.nd (xi_range1 (by rfl) m_range (xa_cons xe_int xa_nil)) (blkOk_by (N := N_law) (sc := defScope st_law) (by decide +kernel)) (fun _ _ _ _ _ => (xg_name (i := 8) sc_law.nd rfl (Or.inl rfl))) (fun _ _ _ _ _ => xts_nil) (fun _ _ _ _ _ => (xe_op xo_sub (xe_callc c__law_next (by exact hr) (Nat.le_refl _) (by rfl) (xa_cons (xe_name (pv 1)) (xa_cons xe_int xa_nil))) xe_int))) xa_nil))) (xss_cons (xs_asg (xe_tup (xa_cons (xe_callc c__law_next (by exact hr) (Nat.le_refl _) (by rfl) (xa_cons (xe_name (pv 1)) (xa_cons xe_int xa_nil))) (xa_cons (xe_op xo_sub (xe_callc c__law_next (by exact hr) (Nat.le_refl _) (by rfl) (xa_cons (xe_name (pv 1)) (xa_cons xe_int xa_nil))) xe_int) xa_nil))) (xg_tup rfl (xgs_cons (xg_name (i := 8) sc_law.nd rfl (Or.inr rfl)) (xgs_cons (xg_name (i := 9) sc_law.nd rfl (Or.inl rfl)) xgs_nil)))) (xss_cons (xs_set (i := 10) sc_law.nd rfl (Or.inl rfl) (xe_lst xa_nil)) (xss_cons (xs_for PassesOwn.never rfl (xi_range2 (by rfl) m_range (xa_cons (xe_callB (xc_minL rfl) (by rfl) m_min (by decide +kernel) (xa_cons (xe_lst (xa_cons (xe_name (pv 9)) (xa_cons (xe_ix (xe_name (pv 7)) (xe_name (pv 8)) (fun _ _ => rfl)) xa_nil))) xa_nil)) (xa_cons (xe_op xo_add (xe_callB (xc_maxL rfl) (by rfl) m_max (by decide +kernel) (xa_cons (xe_lst (xa_cons (xe_name (pv 9)) (xa_cons (xe_ix (xe_name (pv 7)) (xe_name (pv 8)) (fun _ _ => rfl)) xa_nil))) xa_nil)) xe_int) xa_nil))) (xg_name (i := 11) sc_law.nd rfl (Or.inr rfl)) (xss_one (xs_expr (xe_append (xe_name (pv 10)) (xa_cons (xe_callTy xc_tuple (by rfl) m_tuple (by decide +kernel) (xa_cons (xe_lcD (own := [("at", 19), ("one", 20)]) rfl sc_law.nd (xi_enum (by rfl) m_enumerate (xa_cons (xe_nameF (pv 7)) xa_nil)) (blkOk_by (N := N_law) (sc := defScope st_law) (by decide +kernel)) (fun _ _ _ _ _ => (xg_tup rfl (xgs_cons (xg_name (i := 19) sc_law.nd rfl (Or.inl rfl)) (xgs_cons (xg_name (i := 20) sc_law.nd rfl (Or.inl rfl)) xgs_nil)))) (fun _ _ _ _ _ => xts_nil) (fun _ _ _ _ _ => (xe_if (xt_cmp (xo_eq (Room.units (by exact hr))) (xe_name (pv 19)) (xe_name (pv 8)) (nomark _)) (xe_name (pv 11)) (xe_name (pv 20))))) xa_nil)) xa_nil))))) (xss_cons (xs_set (i := 12) sc_law.nd rfl (Or.inl rfl) (xe_callc c_line_lot (by exact hr) (Nat.le_refl _) (by rfl) (xa_cons (xe_nameF (pv 7)) (xa_cons (xe_nameF (pv 8)) (xa_cons (xe_nameF (pv 9)) xa_nil))))) (xss_cons (xs_if (xw_or (xt_cmp (xo_ne (Room.units (by exact hr))) (xe_callB (xc_sortedD rfl (Room.units (by exact hr))) (by rfl) m_sorted (by decide +kernel) (xa_cons (xe_frz (xe_callc c__law_cubes (by exact hr) (Nat.le_refl _) (by rfl) (xa_cons (xe_nameF (pv 12)) xa_nil))) xa_nil)) (xe_callB (xc_sorted (Room.units (by exact hr))) (by rfl) m_sorted (by decide +kernel) (xa_cons (xe_name (pv 10)) xa_nil)) (nomark _)) (xw_or1 (xt_cmp (xo_eqDic (neg := true) (Room.units2 (by exact hr))) (xe_callc c__law_cubes (by exact hr) (Nat.le_refl _) (by rfl) (xa_cons (xe_callc c_cube_at (by exact hr) (Nat.le_refl _) (by rfl) (xa_cons (xe_nameF (pv 7)) xa_nil)) xa_nil)) (xe_disp1 (Room.units (by exact hr)) (xe_name (pv 7)) xe_bl) (nomark _)))).xt (xss_one (xs_ret xe_bl)) xss_nil) (xss_cons (xs_set (i := 13) sc_law.nd rfl (Or.inl rfl) (xe_tup xa_nil)) (xss_cons (xs_for PassesOwn.never rfl (xi_seq (xe_nameF (pv 10))) (xg_name (i := 14) sc_law.nd rfl (Or.inl rfl)) (xss_one (xs_set (i := 13) sc_law.nd rfl (Or.inl rfl) (xe_callc c_union (by exact hr) (Nat.le_refl _) (by rfl) (xa_cons (xe_nameF (pv 13)) (xa_cons (xe_callc c_moved (by exact hr) (Nat.le_refl _) (by rfl) (xa_cons (xe_nameF (pv 3)) (xa_cons (xe_nameF (pv 14)) xa_nil))) xa_nil)))))) (xss_one (xs_if (xt_cmp (xo_ne (Room.units (by exact hr))) (xe_callc c_swept (by exact hr) (Nat.le_refl _) (by rfl) (xa_cons (xe_nameF (pv 12)) (xa_cons (xe_nameF (pv 3)) xa_nil))) (xe_name (pv 13)) (nomark _)) (xss_one (xs_ret xe_bl)) xss_nil))))))))))) (xss_cons (xs_set (i := 15) sc_law.nd rfl (Or.inl rfl) (xe_callTy xc_tuple (by rfl) m_tuple (by decide +kernel) (xa_cons (xe_lcD (own := [("axis", 8)]) rfl sc_law.nd (xi_range1 (by rfl) m_range (xa_cons xe_int xa_nil)) (blkOk_by (N := N_law) (sc := defScope st_law) (by decide +kernel)) (fun _ _ _ _ _ => (xg_name (i := 8) sc_law.nd rfl (Or.inl rfl))) (fun _ _ _ _ _ => xts_nil) (fun _ _ _ _ _ => (xe_op xo_sub (xe_callc c__law_next (by exact hr) (Nat.le_refl _) (by rfl) (xa_cons (xe_name (pv 1)) (xa_cons xe_int xa_nil))) xe_int))) xa_nil))) (xss_cons (xs_set (i := 16) sc_law.nd rfl (Or.inl rfl) (xe_callTy xc_tuple (by rfl) m_tuple (by decide +kernel) (xa_cons (xe_lcD (own := [("one", 20)]) rfl sc_law.nd (xi_seq (xe_nameF (pv 15))) (blkOk_by (N := N_law) (sc := defScope st_law) (by decide +kernel)) (fun _ _ _ _ _ => (xg_name (i := 20) sc_law.nd rfl (Or.inl rfl))) (fun _ _ _ _ _ => xts_nil) (fun _ _ _ _ _ => (xe_op xo_add (xe_name (pv 20)) (xe_callc c__law_next (by exact hr) (Nat.le_refl _) (by rfl) (xa_cons (xe_name (pv 1)) (xa_cons xe_int xa_nil)))))) xa_nil))) (xss_cons (xs_set (i := 17) sc_law.nd rfl (Or.inl rfl) (xe_callc c__law_cubes (by exact hr) (Nat.le_refl _) (by rfl) (xa_cons (xe_callc c_travel_lot (by exact hr) (Nat.le_refl _) (by rfl) (xa_cons (xe_tup (xa_cons (xe_name (pv 15)) (xa_cons (xe_name (pv 16)) (xa_cons (xe_name (pv 15)) (xa_cons xe_int (xa_cons xe_int (xa_cons xe_int xa_nil))))))) xa_nil)) xa_nil))) (xss_cons (xs_set (i := 18) sc_law.nd rfl (Or.inl rfl) xe_int) (xss_cons (xs_for PassesOwn.never rfl (xi_range1 (by rfl) m_range (xa_cons xe_int xa_nil)) (xg_name (i := 8) sc_law.nd rfl (Or.inr rfl)) (xss_one (xs_set (i := 18) sc_law.nd rfl (Or.inl rfl) (xe_op xo_mul (xe_name (pv 18)) (xe_op xo_add (xe_op xo_sub (xe_ix (xe_name (pv 16)) (xe_name (pv 8)) (fun _ _ => rfl)) (xe_ix (xe_name (pv 15)) (xe_name (pv 8)) (fun _ _ => rfl))) xe_int))))) (xss_one (xs_ret (xe_and (xe_cmp (xo_eq (Room.units (by exact hr))) (xe_callB xc_lenD (by rfl) m_len PySem.boot_len (xa_cons (xe_name (pv 17)) xa_nil)) (xe_name (pv 18)) (nomark _)) (xe_and (xe_in (Room.units (by exact hr)) (xe_name (pv 15)) (xe_name (pv 17))) (xe_one (xe_in (Room.units (by exact hr)) (xe_name (pv 16)) (xe_name (pv 17))))))))))))))))⟩
theorem ok_law {P : Program} {w : World} {K : PySem.W.Frag} {mg : Str → Option Value} {base : Heap} {k : Nat} {f : Addr} {fd : FuncData} {sp : DSpec} (sp_union sp_moved sp_swept sp_cube_at sp_line_lot sp_travel_lot sp__law_next sp__law_tool sp__law_cubes : DSpec) (m_enumerate : mg "enumerate" = none) (m_len : mg "len" = none) (m_max : mg "max" = none) (m_min : mg "min" = none) (m_range : mg "range" = none) (m_sorted : mg "sorted" = none) (m_tuple : mg "tuple" = none) (c_union : Cal P w K mg base k "union" sp_union) (c_moved : Cal P w K mg base k "moved" sp_moved) (c_swept : Cal P w K mg base k "swept" sp_swept) (c_cube_at : Cal P w K mg base k "cube_at" sp_cube_at) (c_line_lot : Cal P w K mg base k "line_lot" sp_line_lot) (c_travel_lot : Cal P w K mg base k "travel_lot" sp_travel_lot) (c__law_next : Cal P w K mg base k "_law_next" sp__law_next) (c__law_tool : Cal P w K mg base k "_law_tool" sp__law_tool) (c__law_cubes : Cal P w K mg base k "_law_cubes" sp__law_cubes) (F : Fun K "law" "law" st_law f fd) (hl : ∀ ds K', sp ds K' → ds.length = 1) (hw : ∀ ds K', sp ds K' → W_law sp_union sp_moved sp_swept sp_cube_at sp_line_lot sp_travel_lot sp__law_next sp__law_tool sp__law_cubes { nx := fun ρ => K' (.dat .none) (outsOf ds ρ), rt := fun r ρ => K' r (outsOf ds ρ) } (startD N_law ds)) : FnOk P w K mg base CX0 (k + 1) f fd ["script"] (spD K sp) :=
  fn_data F sc_law hl fun cdv A outer s H hr => by
    obtain ⟨t, h⟩ := dv_law (f := f) (cdv := cdv) (A := A) (outer := outer) (s := s) (H := H) sp_union sp_moved sp_swept sp_cube_at sp_line_lot sp_travel_lot sp__law_next sp__law_tool sp__law_cubes m_enumerate m_len m_max m_min m_range m_sorted m_tuple c_union c_moved c_swept c_cube_at c_line_lot c_travel_lot c__law_next c__law_tool c__law_cubes hr
    exact ⟨t, _, h, hw⟩
end K41
end
section
set_option Elab.async false
set_option linter.all false
set_option maxRecDepth 100000
set_option maxHeartbeats 1000000
namespace K41
open PySem L2 DL SM
local macro_rules | `(tactic| walk_at "ev") => `(tactic| first
  | (with_reducible refine ev_seq ?_)
  | (with_reducible refine ev_next ?_)
  | (with_reducible refine ev_break ?_)
  | (with_reducible refine ev_cont ?_)
  | (with_reducible refine ev_expr ?_)
  | (with_reducible refine ev_kExpr ?_)
  | (with_reducible refine ev_ret ?_)
  | (with_reducible refine ev_retN ?_)
  | (with_reducible refine ev_kRet_dat ?_)
  | (with_reducible refine ev_kRet_lst ?_)
  | (with_reducible refine ev_ifS ?_)
  | (with_reducible refine ev_kIfS_t ?_)
  | (with_reducible refine ev_kIfS_f ?_)
  | (with_reducible refine ev_set ?_)
  | (with_reducible refine ev_par ?_)
  | (with_reducible refine ev_asg ?_)
  | (with_reducible refine ev_put ?_)
  | (with_reducible refine ev_kPut1 ?_)
  | (with_reducible refine ev_kPut2 ?_)
  | (with_reducible refine ev_for ?_)
  | (with_reducible refine ev_kFor ?_)
  | (with_reducible refine ev_seqI ?_)
  | (with_reducible refine ev_kSeqI_l ?_)
  | (with_reducible refine ev_kSeqI_t ?_)
  | (with_reducible refine ev_kSeqI_n ?_)
  | (with_reducible refine ev_rng1 ?_)
  | (with_reducible refine ev_rng2 ?_)
  | (with_reducible refine ev_rng3 ?_)
  | (with_reducible refine ev_c ?_)
  | (with_reducible refine ev_fn ?_)
  | (with_reducible refine ev_bin ?_)
  | (with_reducible refine ev_kBin1 ?_)
  | (with_reducible refine ev_intT ?_)
  | (with_reducible refine ev_eqI ?_)
  | (with_reducible refine ev_neI ?_)
  | (with_reducible refine ev_isN ?_)
  | (with_reducible refine ev_neg ?_)
  | (with_reducible refine ev_kNeg ?_)
  | (with_reducible refine ev_not ?_)
  | (with_reducible refine ev_kNot ?_)
  | (with_reducible refine ev_test ?_)
  | (with_reducible refine ev_kTest ?_)
  | (with_reducible refine ev_tru ?_)
  | (with_reducible refine ev_and ?_)
  | (with_reducible refine ev_or ?_)
  | (with_reducible refine ev_kAnd_t ?_)
  | (with_reducible refine ev_kAnd_f ?_)
  | (with_reducible refine ev_kOr_t ?_)
  | (with_reducible refine ev_kOr_f ?_)
  | (with_reducible refine ev_if ?_)
  | (with_reducible refine ev_kIf_t ?_)
  | (with_reducible refine ev_kIf_f ?_)
  | (with_reducible refine ev_andV ?_)
  | (with_reducible refine ev_orV ?_)
  | (with_reducible refine ev_kAndV_t ?_)
  | (with_reducible refine ev_kAndV_f ?_)
  | (with_reducible refine ev_kOrV_t ?_)
  | (with_reducible refine ev_kOrV_f ?_)
  | (with_reducible refine ev_notV ?_)
  | (with_reducible refine ev_kNotV ?_)
  | (with_reducible refine ev_isi ?_)
  | (with_reducible refine ev_nil ?_)
  | (with_reducible refine ev_kCons2 ?_)
  | (with_reducible refine ev_cons ?_)
  | (with_reducible refine ev_kCons1_dat ?_)
  | (with_reducible refine ev_kCons1_fn ?_)
  | (with_reducible refine ev_kCons1_own ?_)
  | (with_reducible refine ev_kCons1_lst ?_)
  | (with_reducible refine ev_star ?_)
  | (with_reducible refine ev_kStar2 ?_)
  | (with_reducible refine ev_tup ?_)
  | (with_reducible refine ev_lst ?_)
  | (with_reducible refine ev_noPart ?_)
  | (with_reducible refine ev_part ?_)
  | (with_reducible refine ev_kPart ?_)
  | (with_reducible refine ev_sl ?_)
  | (with_reducible refine ev_kSl1 ?_)
  | (with_reducible refine ev_kSl2 ?_)
  | (with_reducible refine ev_rev ?_)
  | (with_reducible refine ev_call ?_)
  | (with_reducible refine ev_max2 ?_)
  | (with_reducible refine ev_min2 ?_)
  | (with_reducible refine ev_int1 ?_)
  | (with_reducible refine ev_user ?_)
  | (with_reducible refine ev_app ?_)
  | (with_reducible refine ev_ext ?_)
  | (with_reducible refine ev_lc ?_)
  | ((with_reducible refine' ev_name ?k0 ?k1 ?_); (case k0 => rfl); (case k1 => rfl))
  | ((with_reducible refine' ev_nameO ?k0 ?k1 ?_); (case k0 => rfl); (case k1 => rfl))
  | ((with_reducible refine' ev_nameF_dat ?k0 ?_); (case k0 => rfl))
  | ((with_reducible refine' ev_nameF_fn ?k0 ?_); (case k0 => rfl))
  | ((with_reducible refine' ev_nameF_arg ?k0 ?_); (case k0 => rfl))
  | ((with_reducible refine' ev_nameF_lst ?k0 ?_); (case k0 => rfl))
  | ((with_reducible refine' ev_kSet_dat ?k0 ?_); (case k0 => rfl))
  | ((with_reducible refine' ev_kSet_lst ?k0 ?_); (case k0 => rfl))
  | ((with_reducible refine' ev_kSet_fn ?k0 ?_); (case k0 => rfl))
  | ((with_reducible refine' ev_kPar ?k0 ?k1 ?k2 ?k3 ?_); (case k0 => rfl); (case k1 => rfl); (case k2 => rfl); (case k3 => rfl))
  | ((with_reducible refine' ev_kAsg ?k0 ?_); (case k0 => rfl))
  | ((with_reducible refine' ev_aug ?k0 ?_); (case k0 => rfl))
  | ((with_reducible refine' ev_kAug ?k0 ?_); (case k0 => rfl))
  | ((with_reducible refine' ev_kPut3 ?k0 ?k1 ?_); (case k0 => rfl); (case k1 => rfl))
  | ((with_reducible refine' ev_ix ?k0 ?k1 ?_); (case k0 => rfl); (case k1 => rfl))
  | ((with_reducible refine' ev_kTru ?k0 ?_); (case k0 => rfl))
  | ((with_reducible refine' ev_kIsi ?k0 ?k1 ?_); (case k0 => rfl); (case k1 => rfl))
  | ((with_reducible refine' ev_kStar1 ?k0 ?_); (case k0 => rfl))
  | ((with_reducible refine' ev_kSl3_t ?k0 ?_); (case k0 => rfl))
  | ((with_reducible refine' ev_kSl3_l ?k0 ?_); (case k0 => rfl))
  | ((with_reducible refine' ev_kRev_t ?k0 ?_); (case k0 => rfl))
  | ((with_reducible refine' ev_kRev_l ?k0 ?_); (case k0 => rfl))
  | ((with_reducible refine' ev_len ?k0 ?_); (case k0 => rfl))
  | ((with_reducible refine' ev_tuple ?k0 ?_); (case k0 => rfl))
  | ((with_reducible refine' ev_list ?k0 ?_); (case k0 => rfl))
  | ((with_reducible refine' ev_kApp1 ?k0 ?_); (case k0 => rfl))
  | ((with_reducible refine' ev_kExt1 ?k0 ?_); (case k0 => rfl))
  | ((with_reducible refine' ev_kRet_own ?k0 ?_); (case k0 => rfl))
  | ((with_reducible refine' ev_kTup ?k0 ?k1 ?_); (case k0 => rfl); (case k1 => simp [sizeLine]))
  | ((with_reducible refine' ev_kLst ?k0 ?k1 ?_); (case k0 => rfl); (case k1 => simp [sizeLine]))
  | (with_reducible refine ev_nx ?_)
  | (with_reducible refine ev_rt ?_)
  | (with_reducible refine ev_bk ?_)
  | (with_reducible refine ev_ct ?_)
)
local macro_rules | `(tactic| walk_at "evs") => `(tactic| repeat (walk_at "ev"))
def sp_put : DSpec := fun ds K' => ∃ (β : Type) (_ : DecidableEq β) (enc : β → PyData) (isE : β → Bool) (R : List (Slab β)) (lo hi : Int) (x : β),
  ds = [.arg (R.map (eS enc)), .dat (.int lo), .dat (.int hi), .dat (enc x)] ∧ truD (enc x) = some (!isE x) ∧ (∀ y, (enc y).eqv (enc x) = true ↔ y = x) ∧ (∀ y, SeqAt.shaped (enc y) = true) ∧ R.length < sizeLine ∧
  K' (.dat .none) [.arg ((putM isE R lo hi x).map (eS enc)), .dat (.int lo), .dat (.int hi), .dat (enc x)]
theorem ixN_last (n : Nat) : ixN (n + 1) (-1) = some n := by
  unfold ixN
  rw [if_neg (by omega), if_pos (by omega)]
  congr 1
  omega
theorem set_last {α : Type} (xs : List α) (x y : α) : (xs ++ [x]).set xs.length y = xs ++ [y] := by
  rw [List.set_append_right _ _ (Nat.le_refl _), Nat.sub_self]; rfl
theorem nil_or_last {α : Type} (R : List α) : R = [] ∨ ∃ L l, R = L ++ [l] := by
  rcases List.eq_nil_or_concat R with h | ⟨L, l, h⟩
  · exact .inl h
  · exact .inr ⟨L, l, by rw [h, List.concat_eq_append]⟩
theorem wp_put : ∀ ds K', sp_put ds K' → W_put { nx := fun ρ => K' (.dat .none) (outsOf ds ρ), rt := fun r ρ => K' r (outsOf ds ρ) } (startD N_put ds) := by
  rintro ds K' ⟨β, _, enc, isE, R, lo, hi, x, rfl, ht, he, hs, hl, q⟩
  have app : (∀ l, R.getLast? = some l → ¬ (l.2.1 = lo ∧ l.2.2 = x)) → isE x = false → wExpr (wApp (wName 0) (wCons (wTup (wCons (wName 1) (wCons (wName 2) (wCons (wName 3) wNil)))) wNil)) { nx := fun ρ => K' (.dat .none) (outsOf [.arg (R.map (eS enc)), .dat (.int lo), .dat (.int hi), .dat (enc x)] ρ), rt := fun r ρ => K' r (outsOf [.arg (R.map (eS enc)), .dat (.int lo), .dat (.int hi), .dat (enc x)] ρ) } (startD N_put [.arg (R.map (eS enc)), .dat (.int lo), .dat (.int hi), .dat (enc x)]) := by
    intro hn hx
    walk_at "evs"
    refine ev_kApp2 rfl (by rw [List.length_map]; exact hl) ?_
    walk_at "evs"
    have e : putM isE R lo hi x = R ++ [(lo, hi, x)] := by
      unfold putM
      rw [if_neg (by rw [hx]; decide)]
      cases hR : R.getLast? with
      | none => rw [List.getLast?_eq_none_iff.mp hR]; rfl
      | some l => dsimp only; rw [if_neg (hn l hR)]
    rw [e, List.map_append] at q
    exact q
  unfold W_put
  walk_at "evs"
  refine ev_kTru (b := !isE x) ht ?_
  walk_at "evs"
  refine ev_kIfS (fun h => ?_) (fun h => ?_)
  · walk_at "evs"
    have hx : isE x = true := by simpa using h
    have e : putM isE R lo hi x = R := by unfold putM; rw [if_pos hx]
    rw [e] at q
    exact q
  have hx : isE x = false := by simpa using h
  walk_at "evs"
  rcases nil_or_last R with rfl | ⟨L, l, rfl⟩
  · refine ev_kAnd_f (ev_kIfS_f ?_)
    exact app (fun l e => nomatch e) hx
  refine ev_kAnd (fun _ => ?_) (fun z => by simp at z)
  have hm : ∀ i : Nat, (List.map (eS enc) (L ++ [l])) = L.map (eS enc) ++ [eS enc l] := fun _ => by rw [List.map_append]; rfl
  have hat : atI (List.map (eS enc) (L ++ [l])) (-1) = some (eS enc l) := by rw [List.map_append]; exact atI_last _ _
  have last : (L ++ [l]).getLast? = some l := by simp
  walk_at "evs"
  refine ev_ix (b := false) rfl hat ?_
  walk_at "evs"
  refine ev_kAnd (fun h1 => ?_) (fun h1 => ?_)
  · walk_at "evs"
    refine ev_ix (b := false) rfl hat ?_
    walk_at "evs"
    refine ev_eq rfl rfl (hs _) (hs _) ?_
    walk_at "evs"
    refine ev_kIfS (fun h2 => ?_) (fun h2 => ?_)
    · walk_at "evs"
      refine ev_ix (b := false) rfl hat ?_
      walk_at "evs"
      refine ev_kPut3 (b := true) (j := L.length) rfl (by rw [List.length_map, List.length_append]; exact ixN_last _) ?_
      walk_at "evs"
      have e : putM isE (L ++ [l]) lo hi x = L ++ [(l.1, hi, x)] := by
        unfold putM
        rw [if_neg (by rw [hx]; decide), last]
        dsimp only
        rw [if_pos ⟨of_decide_eq_true h1, (he _).mp h2⟩, List.dropLast_concat]
      rw [e, List.map_append] at q
      rw [List.map_append]
      have e2 : (List.map (eS enc) L ++ List.map (eS enc) [l]).set L.length (eS enc (l.1, hi, x)) = List.map (eS enc) L ++ [eS enc (l.1, hi, x)] := by
        have := set_last (L.map (eS enc)) (eS enc l) (eS enc (l.1, hi, x))
        rw [List.length_map] at this
        exact this
      have q' : K' (.dat .none) [.arg ((List.map (eS enc) L ++ List.map (eS enc) [l]).set L.length (eS enc (l.1, hi, x))), .dat (.int lo), .dat (.int hi), .dat (enc x)] := by rw [e2]; exact q
      exact q'
    · refine app (fun k e => ?_) hx
      rw [last] at e
      cases e
      rintro ⟨_, z⟩
      rw [z, (he _).mpr rfl] at h2
      cases h2
  · refine ev_kIfS_f (app (fun k e => ?_) hx)
    rw [last] at e
    cases e
    rintro ⟨z, _⟩
    exact absurd z (of_decide_eq_false h1)

end K41
end
section
set_option Elab.async false
set_option linter.all false
set_option maxRecDepth 100000
set_option maxHeartbeats 1000000
namespace K41
open PySem L2 DL SM
local macro_rules | `(tactic| walk_at "ev") => `(tactic| first
  | (with_reducible refine ev_seq ?_)
  | (with_reducible refine ev_next ?_)
  | (with_reducible refine ev_break ?_)
  | (with_reducible refine ev_cont ?_)
  | (with_reducible refine ev_expr ?_)
  | (with_reducible refine ev_kExpr ?_)
  | (with_reducible refine ev_ret ?_)
  | (with_reducible refine ev_retN ?_)
  | (with_reducible refine ev_kRet_dat ?_)
  | (with_reducible refine ev_kRet_lst ?_)
  | (with_reducible refine ev_ifS ?_)
  | (with_reducible refine ev_kIfS_t ?_)
  | (with_reducible refine ev_kIfS_f ?_)
  | (with_reducible refine ev_set ?_)
  | (with_reducible refine ev_par ?_)
  | (with_reducible refine ev_asg ?_)
  | (with_reducible refine ev_put ?_)
  | (with_reducible refine ev_kPut1 ?_)
  | (with_reducible refine ev_kPut2 ?_)
  | (with_reducible refine ev_for ?_)
  | (with_reducible refine ev_kFor ?_)
  | (with_reducible refine ev_seqI ?_)
  | (with_reducible refine ev_kSeqI_l ?_)
  | (with_reducible refine ev_kSeqI_t ?_)
  | (with_reducible refine ev_kSeqI_n ?_)
  | (with_reducible refine ev_rng1 ?_)
  | (with_reducible refine ev_rng2 ?_)
  | (with_reducible refine ev_rng3 ?_)
  | (with_reducible refine ev_c ?_)
  | (with_reducible refine ev_fn ?_)
  | (with_reducible refine ev_bin ?_)
  | (with_reducible refine ev_kBin1 ?_)
  | (with_reducible refine ev_intT ?_)
  | (with_reducible refine ev_eqI ?_)
  | (with_reducible refine ev_neI ?_)
  | (with_reducible refine ev_isN ?_)
  | (with_reducible refine ev_neg ?_)
  | (with_reducible refine ev_kNeg ?_)
  | (with_reducible refine ev_not ?_)
  | (with_reducible refine ev_kNot ?_)
  | (with_reducible refine ev_test ?_)
  | (with_reducible refine ev_kTest ?_)
  | (with_reducible refine ev_tru ?_)
  | (with_reducible refine ev_and ?_)
  | (with_reducible refine ev_or ?_)
  | (with_reducible refine ev_kAnd_t ?_)
  | (with_reducible refine ev_kAnd_f ?_)
  | (with_reducible refine ev_kOr_t ?_)
  | (with_reducible refine ev_kOr_f ?_)
  | (with_reducible refine ev_if ?_)
  | (with_reducible refine ev_kIf_t ?_)
  | (with_reducible refine ev_kIf_f ?_)
  | (with_reducible refine ev_andV ?_)
  | (with_reducible refine ev_orV ?_)
  | (with_reducible refine ev_kAndV_t ?_)
  | (with_reducible refine ev_kAndV_f ?_)
  | (with_reducible refine ev_kOrV_t ?_)
  | (with_reducible refine ev_kOrV_f ?_)
  | (with_reducible refine ev_notV ?_)
  | (with_reducible refine ev_kNotV ?_)
  | (with_reducible refine ev_isi ?_)
  | (with_reducible refine ev_nil ?_)
  | (with_reducible refine ev_kCons2 ?_)
  | (with_reducible refine ev_cons ?_)
  | (with_reducible refine ev_kCons1_dat ?_)
  | (with_reducible refine ev_kCons1_fn ?_)
  | (with_reducible refine ev_kCons1_own ?_)
  | (with_reducible refine ev_kCons1_lst ?_)
  | (with_reducible refine ev_star ?_)
  | (with_reducible refine ev_kStar2 ?_)
  | (with_reducible refine ev_tup ?_)
  | (with_reducible refine ev_lst ?_)
  | (with_reducible refine ev_noPart ?_)
  | (with_reducible refine ev_part ?_)
  | (with_reducible refine ev_kPart ?_)
  | (with_reducible refine ev_sl ?_)
  | (with_reducible refine ev_kSl1 ?_)
  | (with_reducible refine ev_kSl2 ?_)
  | (with_reducible refine ev_rev ?_)
  | (with_reducible refine ev_call ?_)
  | (with_reducible refine ev_max2 ?_)
  | (with_reducible refine ev_min2 ?_)
  | (with_reducible refine ev_int1 ?_)
  | (with_reducible refine ev_user ?_)
  | (with_reducible refine ev_app ?_)
  | (with_reducible refine ev_ext ?_)
  | (with_reducible refine ev_lc ?_)
  | ((with_reducible refine' ev_name ?k0 ?k1 ?_); (case k0 => rfl); (case k1 => rfl))
  | ((with_reducible refine' ev_nameO ?k0 ?k1 ?_); (case k0 => rfl); (case k1 => rfl))
  | ((with_reducible refine' ev_nameF_dat ?k0 ?_); (case k0 => rfl))
  | ((with_reducible refine' ev_nameF_fn ?k0 ?_); (case k0 => rfl))
  | ((with_reducible refine' ev_nameF_arg ?k0 ?_); (case k0 => rfl))
  | ((with_reducible refine' ev_nameF_lst ?k0 ?_); (case k0 => rfl))
  | ((with_reducible refine' ev_kSet_dat ?k0 ?_); (case k0 => rfl))
  | ((with_reducible refine' ev_kSet_lst ?k0 ?_); (case k0 => rfl))
  | ((with_reducible refine' ev_kSet_fn ?k0 ?_); (case k0 => rfl))
  | ((with_reducible refine' ev_kPar ?k0 ?k1 ?k2 ?k3 ?_); (case k0 => rfl); (case k1 => rfl); (case k2 => rfl); (case k3 => rfl))
  | ((with_reducible refine' ev_kAsg ?k0 ?_); (case k0 => rfl))
  | ((with_reducible refine' ev_aug ?k0 ?_); (case k0 => rfl))
  | ((with_reducible refine' ev_kAug ?k0 ?_); (case k0 => rfl))
  | ((with_reducible refine' ev_kPut3 ?k0 ?k1 ?_); (case k0 => rfl); (case k1 => rfl))
  | ((with_reducible refine' ev_ix ?k0 ?k1 ?_); (case k0 => rfl); (case k1 => rfl))
  | ((with_reducible refine' ev_kTru ?k0 ?_); (case k0 => rfl))
  | ((with_reducible refine' ev_kIsi ?k0 ?k1 ?_); (case k0 => rfl); (case k1 => rfl))
  | ((with_reducible refine' ev_kStar1 ?k0 ?_); (case k0 => rfl))
  | ((with_reducible refine' ev_kSl3_t ?k0 ?_); (case k0 => rfl))
  | ((with_reducible refine' ev_kSl3_l ?k0 ?_); (case k0 => rfl))
  | ((with_reducible refine' ev_kRev_t ?k0 ?_); (case k0 => rfl))
  | ((with_reducible refine' ev_kRev_l ?k0 ?_); (case k0 => rfl))
  | ((with_reducible refine' ev_len ?k0 ?_); (case k0 => rfl))
  | ((with_reducible refine' ev_tuple ?k0 ?_); (case k0 => rfl))
  | ((with_reducible refine' ev_list ?k0 ?_); (case k0 => rfl))
  | ((with_reducible refine' ev_kApp1 ?k0 ?_); (case k0 => rfl))
  | ((with_reducible refine' ev_kExt1 ?k0 ?_); (case k0 => rfl))
  | ((with_reducible refine' ev_kRet_own ?k0 ?_); (case k0 => rfl))
  | ((with_reducible refine' ev_kTup ?k0 ?k1 ?_); (case k0 => rfl); (case k1 => simp [sizeLine]))
  | ((with_reducible refine' ev_kLst ?k0 ?k1 ?_); (case k0 => rfl); (case k1 => simp [sizeLine]))
  | (with_reducible refine ev_nx ?_)
  | (with_reducible refine ev_rt ?_)
  | (with_reducible refine ev_bk ?_)
  | (with_reducible refine ev_ct ?_)
)
local macro_rules | `(tactic| walk_at "evs") => `(tactic| repeat (walk_at "ev"))
section
variable {β : Type} {E : Int → Prop} {G : β → Prop} {L : List (Slab β)}
theorem form_at {i : Nat} {s : Slab β} (h : Form E G L) (e : L[i]? = some s) :
    (∀ t ∈ L.take (i + 1), t.2.1 ≤ s.2.1 ∧ t.1 ≤ s.1) ∧ ∀ t ∈ L.drop i, s.2.1 ≤ t.2.1 ∧ s.1 ≤ t.1 := by
  letI : DecidableEq β := fun a b => Classical.propDecidable (a = b)
  have hi : i < L.length := (List.getElem?_eq_some_iff.mp e).1
  have hs : L[i] = s := (List.getElem?_eq_some_iff.mp e).2
  have ok := Form.mem h s (List.mem_of_getElem? e)
  have ed : L.drop i = s :: L.drop (i + 1) := by rw [List.drop_eq_getElem_cons hi, hs]
  have hc : Form E G (L.take i ++ L.drop i) := by rw [List.take_append_drop]; exact h
  refine ⟨fun t m => ?_, fun t m => ?_⟩
  · rw [List.take_add_one, e] at m
    rcases List.mem_append.mp m with m | m
    · have := form_cross hc t m s (by rw [ed]; exact List.mem_cons_self)
      have := ok.lt
      have := (Form.mem h t (List.mem_of_mem_take m)).lt
      omega
    · have : t = s := by simpa using m
      rw [this]; omega
  · rw [ed] at m
    rcases List.mem_cons.mp m with rfl | m
    · omega
    · have hf : Form E G (s :: L.drop (i + 1)) := by rw [← ed]; exact form_drop i h
      have := Form.above hf t m
      have := ok.lt
      have := (Form.mem h t (List.mem_of_mem_drop m)).lt
      omega
end
theorem atI_of {α : Type} {xs : List α} {i : Nat} {x : α} (e : xs[i]? = some x) : atI xs (i : Int) = some x := atI_nat e
theorem atI_map {α γ : Type} {f : α → γ} {xs : List α} {i : Nat} {x : α} (e : xs[i]? = some x) : atI (xs.map f) (i : Int) = some (f x) := atI_nat (by rw [List.getElem?_map, e]; rfl)
def sp_first_ending_beyond : DSpec := fun ds K' => ∃ (β : Type) (enc : β → PyData) (E : Int → Prop) (G : β → Prop) (L : List (Slab β)) (n : Int),
  ds = [.dat (eSl enc L), .dat (.int n)] ∧ Form E G L ∧ ∀ r : Nat, r ≤ L.length → (∀ s ∈ L.take r, s.2.1 ≤ n) → (∀ s ∈ L.drop r, n < s.2.1) → ∀ outs, K' (.dat (.int r)) outs
def sp_first_beginning_from : DSpec := fun ds K' => ∃ (β : Type) (enc : β → PyData) (E : Int → Prop) (G : β → Prop) (L : List (Slab β)) (n : Int),
  ds = [.dat (eSl enc L), .dat (.int n)] ∧ Form E G L ∧ ∀ r : Nat, r ≤ L.length → (∀ s ∈ L.take r, s.1 < n) → (∀ s ∈ L.drop r, n ≤ s.1) → ∀ outs, K' (.dat (.int r)) outs
theorem half {lo hi : Nat} (h : lo < hi) : ((lo : Int) + (hi : Int)) / 2 = (((lo + hi) / 2 : Nat) : Int) := by omega
theorem wp_first_ending_beyond : ∀ ds K', sp_first_ending_beyond ds K' → W_first_ending_beyond { nx := fun ρ => K' (.dat .none) (outsOf ds ρ), rt := fun r ρ => K' r (outsOf ds ρ) } (startD N_first_ending_beyond ds) := by
  rintro ds K' ⟨β, enc, E, G, L, n, rfl, hf, q⟩
  unfold W_first_ending_beyond
  walk_at "evs"
  refine ev_while (fun m ρ => ∃ (lo hi : Nat) (y : Option DV), ρ = [some (.dat (eSl enc L)), some (.dat (.int n)), some (.dat (.int lo)), some (.dat (.int hi)), y] ∧ lo ≤ hi ∧ hi ≤ L.length ∧ m = hi - lo ∧ (∀ s ∈ L.take lo, s.2.1 ≤ n) ∧ (∀ s ∈ L.drop hi, n < s.2.1) ∧ notArgB (some y) = true) ⟨L.length, 0, L.length, none, by rw [show (L.length : Int) = ((L.map (eS enc)).length : Nat) by rw [List.length_map]]; rfl, by omega, by omega, by omega, by simp, by simp, rfl⟩ ?_
  rintro m ρ ⟨lo, hi, y, rfl, h1, h2, rfl, h3, h4, hy⟩
  walk_at "evs"
  refine ev_kWh (fun hc => ?_) (fun hc => ?_)
  · have hlt : lo < hi := by have := of_decide_eq_true hc; omega
    walk_at "evs"
    refine ev_int ⟨by decide, by decide⟩ ?_
    rw [half hlt]
    refine ev_kSet_dat hy ?_
    walk_at "evs"
    obtain ⟨s, hs⟩ : ∃ s, L[(lo + hi) / 2]? = some s := ⟨_, List.getElem?_eq_getElem (by omega)⟩
    refine ev_ix (b := true) rfl (atI_map hs) ?_
    walk_at "evs"
    obtain ⟨g1, g2⟩ := form_at hf hs
    refine ev_kIfS (fun h => ?_) (fun h => ?_)
    · have hn := of_decide_eq_true h
      walk_at "evs"
      exact ⟨(lo + hi) / 2 - lo, by omega, lo, (lo + hi) / 2, _, rfl, by omega, by omega, rfl, h3, fun t m => by have := g2 t m; omega, rfl⟩
    · have hn := of_decide_eq_false h
      walk_at "evs"
      exact ⟨hi - ((lo + hi) / 2 + 1), by omega, (lo + hi) / 2 + 1, hi, _, rfl, by omega, h2, rfl, fun t m => by have := g1 t m; omega, h4, rfl⟩
  · have hge : lo = hi := by have := of_decide_eq_false hc; omega
    subst hge
    walk_at "evs"
    exact q lo h2 h3 h4 _
theorem wp_first_beginning_from : ∀ ds K', sp_first_beginning_from ds K' → W_first_beginning_from { nx := fun ρ => K' (.dat .none) (outsOf ds ρ), rt := fun r ρ => K' r (outsOf ds ρ) } (startD N_first_beginning_from ds) := by
  rintro ds K' ⟨β, enc, E, G, L, n, rfl, hf, q⟩
  unfold W_first_beginning_from
  walk_at "evs"
  refine ev_while (fun m ρ => ∃ (lo hi : Nat) (y : Option DV), ρ = [some (.dat (eSl enc L)), some (.dat (.int n)), some (.dat (.int lo)), some (.dat (.int hi)), y] ∧ lo ≤ hi ∧ hi ≤ L.length ∧ m = hi - lo ∧ (∀ s ∈ L.take lo, s.1 < n) ∧ (∀ s ∈ L.drop hi, n ≤ s.1) ∧ notArgB (some y) = true) ⟨L.length, 0, L.length, none, by rw [show (L.length : Int) = ((L.map (eS enc)).length : Nat) by rw [List.length_map]]; rfl, by omega, by omega, by omega, by simp, by simp, rfl⟩ ?_
  rintro m ρ ⟨lo, hi, y, rfl, h1, h2, rfl, h3, h4, hy⟩
  walk_at "evs"
  refine ev_kWh (fun hc => ?_) (fun hc => ?_)
  · have hlt : lo < hi := by have := of_decide_eq_true hc; omega
    walk_at "evs"
    refine ev_int ⟨by decide, by decide⟩ ?_
    rw [half hlt]
    refine ev_kSet_dat hy ?_
    walk_at "evs"
    obtain ⟨s, hs⟩ : ∃ s, L[(lo + hi) / 2]? = some s := ⟨_, List.getElem?_eq_getElem (by omega)⟩
    refine ev_ix (b := true) rfl (atI_map hs) ?_
    walk_at "evs"
    obtain ⟨g1, g2⟩ := form_at hf hs
    refine ev_kIfS (fun h => ?_) (fun h => ?_)
    · have hn := of_decide_eq_true h
      walk_at "evs"
      exact ⟨(lo + hi) / 2 - lo, by omega, lo, (lo + hi) / 2, _, rfl, by omega, by omega, rfl, h3, fun t m => by have := g2 t m; omega, rfl⟩
    · have hn := of_decide_eq_false h
      walk_at "evs"
      exact ⟨hi - ((lo + hi) / 2 + 1), by omega, (lo + hi) / 2 + 1, hi, _, rfl, by omega, h2, rfl, fun t m => by have := g1 t m; omega, h4, rfl⟩
  · have hge : lo = hi := by have := of_decide_eq_false hc; omega
    subst hge
    walk_at "evs"
    exact q lo h2 h3 h4 _

end K41
end
section
set_option Elab.async false
set_option linter.all false
set_option maxRecDepth 100000
set_option maxHeartbeats 1000000
namespace K41
open PySem L2 DL SM
local macro_rules | `(tactic| walk_at "ev") => `(tactic| first
  | (with_reducible refine ev_seq ?_)
  | (with_reducible refine ev_next ?_)
  | (with_reducible refine ev_break ?_)
  | (with_reducible refine ev_cont ?_)
  | (with_reducible refine ev_expr ?_)
  | (with_reducible refine ev_kExpr ?_)
  | (with_reducible refine ev_ret ?_)
  | (with_reducible refine ev_retN ?_)
  | (with_reducible refine ev_kRet_dat ?_)
  | (with_reducible refine ev_kRet_lst ?_)
  | (with_reducible refine ev_ifS ?_)
  | (with_reducible refine ev_kIfS_t ?_)
  | (with_reducible refine ev_kIfS_f ?_)
  | (with_reducible refine ev_set ?_)
  | (with_reducible refine ev_par ?_)
  | (with_reducible refine ev_asg ?_)
  | (with_reducible refine ev_put ?_)
  | (with_reducible refine ev_kPut1 ?_)
  | (with_reducible refine ev_kPut2 ?_)
  | (with_reducible refine ev_for ?_)
  | (with_reducible refine ev_kFor ?_)
  | (with_reducible refine ev_seqI ?_)
  | (with_reducible refine ev_kSeqI_l ?_)
  | (with_reducible refine ev_kSeqI_t ?_)
  | (with_reducible refine ev_kSeqI_n ?_)
  | (with_reducible refine ev_rng1 ?_)
  | (with_reducible refine ev_rng2 ?_)
  | (with_reducible refine ev_rng3 ?_)
  | (with_reducible refine ev_c ?_)
  | (with_reducible refine ev_fn ?_)
  | (with_reducible refine ev_bin ?_)
  | (with_reducible refine ev_kBin1 ?_)
  | (with_reducible refine ev_intT ?_)
  | (with_reducible refine ev_eqI ?_)
  | (with_reducible refine ev_neI ?_)
  | (with_reducible refine ev_isN ?_)
  | (with_reducible refine ev_neg ?_)
  | (with_reducible refine ev_kNeg ?_)
  | (with_reducible refine ev_not ?_)
  | (with_reducible refine ev_kNot ?_)
  | (with_reducible refine ev_test ?_)
  | (with_reducible refine ev_kTest ?_)
  | (with_reducible refine ev_tru ?_)
  | (with_reducible refine ev_and ?_)
  | (with_reducible refine ev_or ?_)
  | (with_reducible refine ev_kAnd_t ?_)
  | (with_reducible refine ev_kAnd_f ?_)
  | (with_reducible refine ev_kOr_t ?_)
  | (with_reducible refine ev_kOr_f ?_)
  | (with_reducible refine ev_if ?_)
  | (with_reducible refine ev_kIf_t ?_)
  | (with_reducible refine ev_kIf_f ?_)
  | (with_reducible refine ev_andV ?_)
  | (with_reducible refine ev_orV ?_)
  | (with_reducible refine ev_kAndV_t ?_)
  | (with_reducible refine ev_kAndV_f ?_)
  | (with_reducible refine ev_kOrV_t ?_)
  | (with_reducible refine ev_kOrV_f ?_)
  | (with_reducible refine ev_notV ?_)
  | (with_reducible refine ev_kNotV ?_)
  | (with_reducible refine ev_isi ?_)
  | (with_reducible refine ev_nil ?_)
  | (with_reducible refine ev_kCons2 ?_)
  | (with_reducible refine ev_cons ?_)
  | (with_reducible refine ev_kCons1_dat ?_)
  | (with_reducible refine ev_kCons1_fn ?_)
  | (with_reducible refine ev_kCons1_own ?_)
  | (with_reducible refine ev_kCons1_lst ?_)
  | (with_reducible refine ev_star ?_)
  | (with_reducible refine ev_kStar2 ?_)
  | (with_reducible refine ev_tup ?_)
  | (with_reducible refine ev_lst ?_)
  | (with_reducible refine ev_noPart ?_)
  | (with_reducible refine ev_part ?_)
  | (with_reducible refine ev_kPart ?_)
  | (with_reducible refine ev_sl ?_)
  | (with_reducible refine ev_kSl1 ?_)
  | (with_reducible refine ev_kSl2 ?_)
  | (with_reducible refine ev_rev ?_)
  | (with_reducible refine ev_call ?_)
  | (with_reducible refine ev_max2 ?_)
  | (with_reducible refine ev_min2 ?_)
  | (with_reducible refine ev_int1 ?_)
  | (with_reducible refine ev_user ?_)
  | (with_reducible refine ev_app ?_)
  | (with_reducible refine ev_ext ?_)
  | (with_reducible refine ev_lc ?_)
  | ((with_reducible refine' ev_name ?k0 ?k1 ?_); (case k0 => rfl); (case k1 => rfl))
  | ((with_reducible refine' ev_nameO ?k0 ?k1 ?_); (case k0 => rfl); (case k1 => rfl))
  | ((with_reducible refine' ev_nameF_dat ?k0 ?_); (case k0 => rfl))
  | ((with_reducible refine' ev_nameF_fn ?k0 ?_); (case k0 => rfl))
  | ((with_reducible refine' ev_nameF_arg ?k0 ?_); (case k0 => rfl))
  | ((with_reducible refine' ev_nameF_lst ?k0 ?_); (case k0 => rfl))
  | ((with_reducible refine' ev_kSet_dat ?k0 ?_); (case k0 => rfl))
  | ((with_reducible refine' ev_kSet_lst ?k0 ?_); (case k0 => rfl))
  | ((with_reducible refine' ev_kSet_fn ?k0 ?_); (case k0 => rfl))
  | ((with_reducible refine' ev_kPar ?k0 ?k1 ?k2 ?k3 ?_); (case k0 => rfl); (case k1 => rfl); (case k2 => rfl); (case k3 => rfl))
  | ((with_reducible refine' ev_kAsg ?k0 ?_); (case k0 => rfl))
  | ((with_reducible refine' ev_aug ?k0 ?_); (case k0 => rfl))
  | ((with_reducible refine' ev_kAug ?k0 ?_); (case k0 => rfl))
  | ((with_reducible refine' ev_kPut3 ?k0 ?k1 ?_); (case k0 => rfl); (case k1 => rfl))
  | ((with_reducible refine' ev_ix ?k0 ?k1 ?_); (case k0 => rfl); (case k1 => rfl))
  | ((with_reducible refine' ev_kTru ?k0 ?_); (case k0 => rfl))
  | ((with_reducible refine' ev_kIsi ?k0 ?k1 ?_); (case k0 => rfl); (case k1 => rfl))
  | ((with_reducible refine' ev_kStar1 ?k0 ?_); (case k0 => rfl))
  | ((with_reducible refine' ev_kSl3_t ?k0 ?_); (case k0 => rfl))
  | ((with_reducible refine' ev_kSl3_l ?k0 ?_); (case k0 => rfl))
  | ((with_reducible refine' ev_kRev_t ?k0 ?_); (case k0 => rfl))
  | ((with_reducible refine' ev_kRev_l ?k0 ?_); (case k0 => rfl))
  | ((with_reducible refine' ev_len ?k0 ?_); (case k0 => rfl))
  | ((with_reducible refine' ev_tuple ?k0 ?_); (case k0 => rfl))
  | ((with_reducible refine' ev_list ?k0 ?_); (case k0 => rfl))
  | ((with_reducible refine' ev_kApp1 ?k0 ?_); (case k0 => rfl))
  | ((with_reducible refine' ev_kExt1 ?k0 ?_); (case k0 => rfl))
  | ((with_reducible refine' ev_kRet_own ?k0 ?_); (case k0 => rfl))
  | ((with_reducible refine' ev_kTup ?k0 ?k1 ?_); (case k0 => rfl); (case k1 => simp [sizeLine]))
  | ((with_reducible refine' ev_kLst ?k0 ?k1 ?_); (case k0 => rfl); (case k1 => simp [sizeLine]))
  | (with_reducible refine ev_nx ?_)
  | (with_reducible refine ev_rt ?_)
  | (with_reducible refine ev_bk ?_)
  | (with_reducible refine ev_ct ?_)
)
local macro_rules | `(tactic| walk_at "evs") => `(tactic| repeat (walk_at "ev"))
theorem cut_hi {α : Type} (xs : List α) (n : Nat) : cutD xs none (some (n : Int)) = xs.take n := by
  unfold cutD
  rw [HT.sIx_nat, HT.sIx_none]
  rw [Nat.sub_zero, List.drop_zero, ← List.take_take, List.take_length]
theorem cut_lo {α : Type} (xs : List α) (n : Nat) : cutD xs (some (n : Int)) none = xs.drop n := by
  unfold cutD
  rw [HT.sIx_nat, HT.sIx_none]
  by_cases h : n ≤ xs.length
  · rw [Nat.min_eq_left h]
    exact List.take_of_length_le (by rw [List.length_drop]; exact Nat.le_refl _)
  · rw [Nat.min_eq_right (by omega), List.drop_eq_nil_of_le (by omega : xs.length ≤ n), List.drop_length, List.take_nil]
theorem cut_both {α : Type} (xs : List α) (n m : Nat) (h : n ≤ m) (hm : m ≤ xs.length) : cutD xs (some (n : Int)) (some (m : Int)) = (xs.drop n).take (m - n) := by
  unfold cutD
  rw [HT.sIx_nat, HT.sIx_nat, Nat.min_eq_left hm, Nat.min_eq_left (by omega)]
theorem cut_hi1 {α : Type} (xs : List α) : cutD xs none (some 1) = xs.take 1 := cut_hi xs 1
theorem cut_lo1 {α : Type} (xs : List α) : cutD xs (some 1) none = xs.drop 1 := cut_lo xs 1
structure EncOk {β : Type} (enc : β → PyData) (isE : β → Bool) : Prop where
  tru : ∀ x, truD (enc x) = some (!isE x)
  eqv : ∀ x y, (enc x).eqv (enc y) = true ↔ x = y
  sh : ∀ x, SeqAt.shaped (enc x) = true
theorem putM_len {β : Type} [DecidableEq β] {isE : β → Bool} {R : List (Slab β)} {lo hi : Int} {x : β} : (putM isE R lo hi x).length ≤ R.length + 1 := by
  unfold putM
  split
  · omega
  · split
    · split
      · rw [List.length_append, List.length_dropLast]; simp
      · simp
    · simp
def sp_put_all : DSpec := fun ds K' => ∃ (β : Type) (_ : DecidableEq β) (enc : β → PyData) (isE : β → Bool) (R L : List (Slab β)) (b : Int),
  ds = [.arg (R.map (eS enc)), .dat (eSl enc L), .dat (.int b)] ∧ EncOk enc isE ∧ R.length + L.length < sizeLine ∧
  K' (.dat .none) [.arg ((putAllM isE R L b).map (eS enc)), .dat (eSl enc L), .dat (.int b)]
theorem wp_put_all : ∀ ds K', sp_put_all ds K' → W_put_all sp_put { nx := fun ρ => K' (.dat .none) (outsOf ds ρ), rt := fun r ρ => K' r (outsOf ds ρ) } (startD N_put_all ds) := by
  rintro ds K' ⟨β, _, enc, isE, R, L, b, rfl, ok, hl, q⟩
  unfold W_put_all
  walk_at "evs"
  rw [cut_hi1]
  walk_at "evs"
  cases L with
  | nil =>
    refine ev_forNil ?_
    walk_at "evs"
    rw [cut_lo1]
    refine ev_kExt2 rfl (by simp; omega) ?_
    walk_at "evs"
    have q' : K' (.dat .none) [.arg (R.map (eS enc)), .dat (eSl enc []), .dat (.int b)] := q
    rw [← List.append_nil (R.map (eS enc))] at q'
    exact q'
  | cons s r =>
    refine ev_forCons rfl ?_
    walk_at "evs"
    refine ev_kUser (by simp [owns]) rfl ⟨β, inferInstance, enc, isE, R, max s.1 b, s.2.1, s.2.2, rfl, ok.tru _, fun y => ok.eqv y _, ok.sh, by simp at hl; omega, ?_⟩
    walk_at "evs"
    refine ev_forNil ?_
    walk_at "evs"
    rw [cut_lo1]
    have := putM_len (isE := isE) (R := R) (lo := max s.1 b) (hi := s.2.1) (x := s.2.2)
    refine ev_kExt2 rfl (by simp at hl ⊢; omega) ?_
    walk_at "evs"
    have q' : K' (.dat .none) [.arg ((putM isE R (max s.1 b) s.2.1 s.2.2 ++ r).map (eS enc)), .dat (eSl enc (s :: r)), .dat (.int b)] := q
    rw [List.map_append] at q'
    exact q'

end K41
end
section
set_option Elab.async false
set_option linter.all false
set_option maxRecDepth 100000
set_option maxHeartbeats 1000000
namespace K41
open PySem L2 DL SM
local macro_rules | `(tactic| walk_at "ev") => `(tactic| first
  | (with_reducible refine ev_seq ?_)
  | (with_reducible refine ev_next ?_)
  | (with_reducible refine ev_break ?_)
  | (with_reducible refine ev_cont ?_)
  | (with_reducible refine ev_expr ?_)
  | (with_reducible refine ev_kExpr ?_)
  | (with_reducible refine ev_ret ?_)
  | (with_reducible refine ev_retN ?_)
  | (with_reducible refine ev_kRet_dat ?_)
  | (with_reducible refine ev_kRet_lst ?_)
  | (with_reducible refine ev_ifS ?_)
  | (with_reducible refine ev_kIfS_t ?_)
  | (with_reducible refine ev_kIfS_f ?_)
  | (with_reducible refine ev_set ?_)
  | (with_reducible refine ev_par ?_)
  | (with_reducible refine ev_asg ?_)
  | (with_reducible refine ev_put ?_)
  | (with_reducible refine ev_kPut1 ?_)
  | (with_reducible refine ev_kPut2 ?_)
  | (with_reducible refine ev_for ?_)
  | (with_reducible refine ev_kFor ?_)
  | (with_reducible refine ev_seqI ?_)
  | (with_reducible refine ev_kSeqI_l ?_)
  | (with_reducible refine ev_kSeqI_t ?_)
  | (with_reducible refine ev_kSeqI_n ?_)
  | (with_reducible refine ev_rng1 ?_)
  | (with_reducible refine ev_rng2 ?_)
  | (with_reducible refine ev_rng3 ?_)
  | (with_reducible refine ev_c ?_)
  | (with_reducible refine ev_fn ?_)
  | (with_reducible refine ev_bin ?_)
  | (with_reducible refine ev_kBin1 ?_)
  | (with_reducible refine ev_intT ?_)
  | (with_reducible refine ev_eqI ?_)
  | (with_reducible refine ev_neI ?_)
  | (with_reducible refine ev_isN ?_)
  | (with_reducible refine ev_neg ?_)
  | (with_reducible refine ev_kNeg ?_)
  | (with_reducible refine ev_not ?_)
  | (with_reducible refine ev_kNot ?_)
  | (with_reducible refine ev_test ?_)
  | (with_reducible refine ev_kTest ?_)
  | (with_reducible refine ev_tru ?_)
  | (with_reducible refine ev_and ?_)
  | (with_reducible refine ev_or ?_)
  | (with_reducible refine ev_kAnd_t ?_)
  | (with_reducible refine ev_kAnd_f ?_)
  | (with_reducible refine ev_kOr_t ?_)
  | (with_reducible refine ev_kOr_f ?_)
  | (with_reducible refine ev_if ?_)
  | (with_reducible refine ev_kIf_t ?_)
  | (with_reducible refine ev_kIf_f ?_)
  | (with_reducible refine ev_andV ?_)
  | (with_reducible refine ev_orV ?_)
  | (with_reducible refine ev_kAndV_t ?_)
  | (with_reducible refine ev_kAndV_f ?_)
  | (with_reducible refine ev_kOrV_t ?_)
  | (with_reducible refine ev_kOrV_f ?_)
  | (with_reducible refine ev_notV ?_)
  | (with_reducible refine ev_kNotV ?_)
  | (with_reducible refine ev_isi ?_)
  | (with_reducible refine ev_nil ?_)
  | (with_reducible refine ev_kCons2 ?_)
  | (with_reducible refine ev_cons ?_)
  | (with_reducible refine ev_kCons1_dat ?_)
  | (with_reducible refine ev_kCons1_fn ?_)
  | (with_reducible refine ev_kCons1_own ?_)
  | (with_reducible refine ev_kCons1_lst ?_)
  | (with_reducible refine ev_star ?_)
  | (with_reducible refine ev_kStar2 ?_)
  | (with_reducible refine ev_tup ?_)
  | (with_reducible refine ev_lst ?_)
  | (with_reducible refine ev_noPart ?_)
  | (with_reducible refine ev_part ?_)
  | (with_reducible refine ev_kPart ?_)
  | (with_reducible refine ev_sl ?_)
  | (with_reducible refine ev_kSl1 ?_)
  | (with_reducible refine ev_kSl2 ?_)
  | (with_reducible refine ev_rev ?_)
  | (with_reducible refine ev_call ?_)
  | (with_reducible refine ev_max2 ?_)
  | (with_reducible refine ev_min2 ?_)
  | (with_reducible refine ev_int1 ?_)
  | (with_reducible refine ev_user ?_)
  | (with_reducible refine ev_app ?_)
  | (with_reducible refine ev_ext ?_)
  | (with_reducible refine ev_lc ?_)
  | ((with_reducible refine' ev_name ?k0 ?k1 ?_); (case k0 => rfl); (case k1 => rfl))
  | ((with_reducible refine' ev_nameO ?k0 ?k1 ?_); (case k0 => rfl); (case k1 => rfl))
  | ((with_reducible refine' ev_nameF_dat ?k0 ?_); (case k0 => rfl))
  | ((with_reducible refine' ev_nameF_fn ?k0 ?_); (case k0 => rfl))
  | ((with_reducible refine' ev_nameF_arg ?k0 ?_); (case k0 => rfl))
  | ((with_reducible refine' ev_nameF_lst ?k0 ?_); (case k0 => rfl))
  | ((with_reducible refine' ev_kSet_dat ?k0 ?_); (case k0 => rfl))
  | ((with_reducible refine' ev_kSet_lst ?k0 ?_); (case k0 => rfl))
  | ((with_reducible refine' ev_kSet_fn ?k0 ?_); (case k0 => rfl))
  | ((with_reducible refine' ev_kPar ?k0 ?k1 ?k2 ?k3 ?_); (case k0 => rfl); (case k1 => rfl); (case k2 => rfl); (case k3 => rfl))
  | ((with_reducible refine' ev_kAsg ?k0 ?_); (case k0 => rfl))
  | ((with_reducible refine' ev_aug ?k0 ?_); (case k0 => rfl))
  | ((with_reducible refine' ev_kAug ?k0 ?_); (case k0 => rfl))
  | ((with_reducible refine' ev_kPut3 ?k0 ?k1 ?_); (case k0 => rfl); (case k1 => rfl))
  | ((with_reducible refine' ev_ix ?k0 ?k1 ?_); (case k0 => rfl); (case k1 => rfl))
  | ((with_reducible refine' ev_kTru ?k0 ?_); (case k0 => rfl))
  | ((with_reducible refine' ev_kIsi ?k0 ?k1 ?_); (case k0 => rfl); (case k1 => rfl))
  | ((with_reducible refine' ev_kStar1 ?k0 ?_); (case k0 => rfl))
  | ((with_reducible refine' ev_kSl3_t ?k0 ?_); (case k0 => rfl))
  | ((with_reducible refine' ev_kSl3_l ?k0 ?_); (case k0 => rfl))
  | ((with_reducible refine' ev_kRev_t ?k0 ?_); (case k0 => rfl))
  | ((with_reducible refine' ev_kRev_l ?k0 ?_); (case k0 => rfl))
  | ((with_reducible refine' ev_len ?k0 ?_); (case k0 => rfl))
  | ((with_reducible refine' ev_tuple ?k0 ?_); (case k0 => rfl))
  | ((with_reducible refine' ev_list ?k0 ?_); (case k0 => rfl))
  | ((with_reducible refine' ev_kApp1 ?k0 ?_); (case k0 => rfl))
  | ((with_reducible refine' ev_kExt1 ?k0 ?_); (case k0 => rfl))
  | ((with_reducible refine' ev_kRet_own ?k0 ?_); (case k0 => rfl))
  | ((with_reducible refine' ev_kTup ?k0 ?k1 ?_); (case k0 => rfl); (case k1 => simp [sizeLine]))
  | ((with_reducible refine' ev_kLst ?k0 ?k1 ?_); (case k0 => rfl); (case k1 => simp [sizeLine]))
  | (with_reducible refine ev_nx ?_)
  | (with_reducible refine ev_rt ?_)
  | (with_reducible refine ev_bk ?_)
  | (with_reducible refine ev_ct ?_)
)
local macro_rules | `(tactic| walk_at "evs") => `(tactic| repeat (walk_at "ev"))
theorem at_unit {l : List (Slab Unit)} {z : Int} : at' l z = some () ↔ ∃ s ∈ l, s.1 ≤ z ∧ z < s.2.1 := by
  induction l with
  | nil => simp [at']
  | cons s r ih =>
    unfold at'
    by_cases h : s.1 ≤ z ∧ z < s.2.1
    · rw [if_pos h]
      exact ⟨fun _ => ⟨s, List.mem_cons_self, h⟩, fun _ => rfl⟩
    · rw [if_neg h, ih]
      constructor
      · rintro ⟨t, m, g⟩; exact ⟨t, List.mem_cons_of_mem _ m, g⟩
      · rintro ⟨t, m, g⟩
        rcases List.mem_cons.mp m with rfl | m
        · exact absurd g h
        · exact ⟨t, m, g⟩
theorem opt_unit {x y : Option Unit} (h : x = some () ↔ y = some ()) : x = y := by
  cases x with
  | none =>
    cases y with
    | none => rfl
    | some u => have := h.mpr rfl; cases this
  | some u =>
    have := h.mp rfl
    rw [this]
theorem at_same {l m : List (Slab Unit)} (h : ∀ s, s ∈ l ↔ s ∈ m) (z : Int) : at' l z = at' m z := opt_unit (by
  rw [at_unit, at_unit]
  constructor
  · rintro ⟨s, a, b⟩; exact ⟨s, (h s).mp a, b⟩
  · rintro ⟨s, a, b⟩; exact ⟨s, (h s).mpr a, b⟩)
def sp_merged : DSpec := fun ds K' => ∃ (xs : List (Slab Unit)) (E : Int → Prop),
  ds = [.dat (.list (xs.map eU))] ∧ xs ≠ [] ∧ (∀ s ∈ xs, s.1 < s.2.1 ∧ E s.1 ∧ E s.2.1) ∧ xs.Pairwise (fun s t => s.1 ≤ t.1) ∧ xs.length ≤ 3000000 ∧ ∀ R, Form E AnyU R → R ≠ [] → (∀ z, at' R z = at' xs z) → ∀ outs, K' (.dat (eRow R)) outs
theorem wp_merged : ∀ ds K', sp_merged ds K' → W_merged { nx := fun ρ => K' (.dat .none) (outsOf ds ρ), rt := fun r ρ => K' r (outsOf ds ρ) } (startD N_merged ds) := by
  rintro ds K' ⟨xs, E, rfl, hne, hE, hp, hl, q⟩
  have szl : sizeLine = 16777216 := rfl
  unfold W_merged
  walk_at "evs"
  cases xs with
  | nil => exact absurd rfl hne
  | cons x0 rest =>
  refine ev_ix (b := false) rfl (show atI ((x0 :: rest).map eU) 0 = some (eU x0) from atI_map (i := 0) rfl) ?_
  walk_at "evs"
  rw [cut_lo1]
  walk_at "evs"
  have ok0 := hE x0 List.mem_cons_self
  refine forGo_ind (I := fun left ρ => ∃ (O done todo : List (Slab Unit)) (lo hi : Int) (y4 y5 : Option DV), ρ = [some (.dat (.list ((x0 :: rest).map eU))), some (.lst (O.map eU)), some (.dat (.int lo)), some (.dat (.int hi)), y4, y5] ∧ left = todo.map eU ∧ x0 :: rest = done ++ todo ∧ O.length < done.length ∧
      Form E AnyU (O ++ [(lo, hi, ())]) ∧ (∀ z, at' (O ++ [(lo, hi, ())]) z = at' done z) ∧ (∀ s ∈ todo, lo ≤ s.1) ∧ todo.Pairwise (fun s t => s.1 ≤ t.1) ∧ notArgB (some y4) = true ∧ notArgB (some y5) = true) ?_ ?_ _ _ ?_
  · rintro ρ ⟨O, done, todo, lo, hi, y4, y5, rfl, hle, hd, hO, hf, ha, hs, hpw, n4, n5⟩
    cases todo with
    | cons _ _ => cases hle
    | nil =>
      have hdl : done.length ≤ 3000000 := by
        have := congrArg List.length hd
        simp at this hl
        omega
      walk_at "evs"
      refine ev_kApp2 rfl (by rw [List.length_map]; omega) ?_
      walk_at "evs"
      have e : List.map eU O ++ [PyData.tuple [.int lo, .int hi]] = (O ++ [(lo, hi, ())]).map eU := by rw [List.map_append]; rfl
      have e2 : done = x0 :: rest := by rw [hd, List.append_nil]
      have := q (O ++ [(lo, hi, ())]) hf (by simp) (fun z => by rw [ha, e2])
      unfold eRow at this
      rw [← e] at this
      exact this _
  · rintro x xs' ρ ⟨O, done, todo, lo, hi, y4, y5, rfl, hle, hd, hO, hf, ha, hs, hpw, n4, n5⟩
    cases todo with
    | nil => cases hle
    | cons s todo =>
      rw [List.map_cons] at hle
      have h1 := List.cons.inj hle
      obtain ⟨rfl, hxs⟩ := h1
      have hsm : s ∈ x0 :: rest := by rw [hd]; exact List.mem_append_right _ List.mem_cons_self
      have okS := hE s hsm
      have hlo := hs s List.mem_cons_self
      have hd' : x0 :: rest = (done ++ [s]) ++ todo := by rw [hd]; simp
      have hdl : done.length ≤ 3000000 := by
        have := congrArg List.length hd
        simp at this hl
        omega
      obtain ⟨f1, f2, f3⟩ := form_append.mp hf
      have okL : Ok E AnyU (lo, hi, ()) := f2.1
      have ll : lo < hi := okL.lt
      have hp2 := List.pairwise_cons.mp hpw
      refine ⟨[some (.dat (.list ((x0 :: rest).map eU))), some (.lst (O.map eU)), some (.dat (.int lo)), some (.dat (.int hi)), some (.dat (.int s.1)), some (.dat (.int s.2.1))], by simp [fTup, fCons, fName, fNil, eU, n4, n5], fun Gn hG => ?_⟩
      have split_at : ∀ z, at' (O ++ [(lo, hi, ())]) z = (at' O z).or (if lo ≤ z ∧ z < hi then some () else none) := fun z => by rw [at_append]; simp only [at']
      have done_at : ∀ z, at' (done ++ [s]) z = ((at' O z).or (if lo ≤ z ∧ z < hi then some () else none)).or (if s.1 ≤ z ∧ z < s.2.1 then some () else none) := fun z => by
        rw [at_append, ← ha, split_at]
        simp only [at']
      walk_at "evs"
      refine ev_kIfS (fun c => ?_) (fun c => ?_)
      · have c := of_decide_eq_true c
        walk_at "evs"
        refine ev_kApp2 rfl (by rw [List.length_map]; omega) ?_
        walk_at "evs"
        refine hG _ ⟨O ++ [(lo, hi, ())], done ++ [s], todo, s.1, s.2.1, some (.dat (.int s.1)), some (.dat (.int s.2.1)), ?_, hxs, hd', by simp; omega, ?_, fun z => ?_, hp2.1, hp2.2, rfl, rfl⟩
        · rw [List.map_append]; rfl
        · refine form_append.mpr ⟨hf, form_one ⟨okS.1, okS.2.1, okS.2.2, trivial⟩, fun u t e1 e2 => ?_⟩
          simp at e1 e2
          subst e1; subst e2
          exact ⟨by show hi ≤ s.1; omega, fun z => by have z : hi = s.1 := z; omega⟩
        · rw [at_append, split_at, done_at]
          simp only [at']
      · have c := of_decide_eq_false c
        walk_at "evs"
        refine ev_kIfS (fun c2 => ?_) (fun c2 => ?_)
        · have c2 := of_decide_eq_true c2
          walk_at "evs"
          refine hG _ ⟨O, done ++ [s], todo, lo, s.2.1, some (.dat (.int s.1)), some (.dat (.int s.2.1)), rfl, hxs, hd', by simp; omega, ?_, fun z => ?_, fun t m => hs t (List.mem_cons_of_mem _ m), hp2.2, rfl, rfl⟩
          · refine form_append.mpr ⟨f1, form_one ⟨by show lo < s.2.1; omega, okL.e1, okS.2.2, trivial⟩, fun u t e1 e2 => ?_⟩
            simp at e2
            subst e2
            exact f3 u (lo, hi, ()) e1 rfl
          · rw [done_at, at_append, Option.or_assoc]
            congr 1
            simp only [at']
            by_cases g1 : lo ≤ z ∧ z < hi
            · rw [if_pos g1, if_pos ⟨g1.1, by omega⟩]; rfl
            · rw [if_neg g1]
              by_cases g2 : s.1 ≤ z ∧ z < s.2.1
              · rw [if_pos g2, if_pos ⟨by omega, g2.2⟩]; rfl
              · rw [if_neg g2, if_neg (by omega)]; rfl
        · have c2 := of_decide_eq_false c2
          walk_at "evs"
          refine hG _ ⟨O, done ++ [s], todo, lo, hi, some (.dat (.int s.1)), some (.dat (.int s.2.1)), rfl, hxs, hd', by simp; omega, hf, fun z => ?_, fun t m => hs t (List.mem_cons_of_mem _ m), hp2.2, rfl, rfl⟩
          rw [done_at, split_at, Option.or_assoc]
          congr 1
          by_cases g1 : lo ≤ z ∧ z < hi
          · rw [if_pos g1]; rfl
          · rw [if_neg g1, if_neg (by omega)]; rfl
  · have hp2 := List.pairwise_cons.mp hp
    exact ⟨[], [x0], rest, x0.1, x0.2.1, none, none, rfl, rfl, rfl, by simp, form_one ⟨ok0.1, ok0.2.1, ok0.2.2, trivial⟩, fun z => by simp only [at', List.nil_append], hp2.1, hp2.2, rfl, rfl⟩

/-! rows put together -/
theorem opt_or_comm (x y : Option Unit) : x.or y = y.or x := by cases x <;> cases y <;> rfl
def leU (s t : Slab Unit) : Bool := decide (s.1 < t.1 ∨ s.1 = t.1 ∧ s.2.1 ≤ t.2.1)
theorem sort_eU (l : List (Slab Unit)) : sortD (l.map eU) = (l.mergeSort leU).map eU := by
  have h := List.map_mergeSort (f := eU) (r := leU) (s := PySem.W.dataLe false id) (l := l) fun a _ b _ => by
    have := PySem.W.dataLe_ii (fun s : Slab Unit => s.1) (fun s => s.2.1)
    exact (congrFun (congrFun this a) b).symm
  exact h.symm
theorem leU_sorted (l : List (Slab Unit)) : (l.mergeSort leU).Pairwise (fun s t => s.1 ≤ t.1) := by
  have h := List.pairwise_mergeSort (le := leU) (fun a b c h1 h2 => by
    have h1 := of_decide_eq_true h1
    have h2 := of_decide_eq_true h2
    exact decide_eq_true (by omega)) (fun a b => by
    by_cases h : leU a b = true
    · rw [h]; rfl
    · have h' : leU a b = false := by simpa using h
      have := of_decide_eq_false h'
      have : leU b a = true := decide_eq_true (by omega)
      rw [h', this]; rfl) l
  exact h.imp fun h => by have := of_decide_eq_true h; omega
theorem mem_sort {l : List (Slab Unit)} {s : Slab Unit} : s ∈ l.mergeSort leU ↔ s ∈ l := (List.mergeSort_perm l leU).mem_iff
def sp_joined_rows : DSpec := fun ds K' => ∃ (E : Int → Prop) (a b : Row),
  ds = [.dat (eRow a), .dat (eRow b)] ∧ Form E AnyU a ∧ Form E AnyU b ∧ a ≠ [] ∧ b ≠ [] ∧ a.length ≤ 1000000 ∧ b.length ≤ 1000000 ∧ ∀ R, Form E AnyU R → R ≠ [] → (∀ z, at' R z = (at' a z).or (at' b z)) → ∀ outs, K' (.dat (eRow R)) outs
theorem wp_joined_rows : ∀ ds K', sp_joined_rows ds K' → W_joined_rows sp_merged { nx := fun ρ => K' (.dat .none) (outsOf ds ρ), rt := fun r ρ => K' r (outsOf ds ρ) } (startD N_joined_rows ds) := by
  rintro ds K' ⟨E, a, b, rfl, ha, hb, na, nb, la, lb, q⟩
  have szl : sizeLine = 16777216 := rfl
  unfold W_joined_rows
  have at0 : ∀ {c : Row} {s : Slab Unit}, c.head? = some s → atI (c.map eU) 0 = some (eU s) := fun {c s} e => by
    cases c with
    | nil => cases e
    | cons u r => cases e; exact atI_map (i := 0) rfl
  have at1 : ∀ {c : Row} {s : Slab Unit}, c.getLast? = some s → atI (c.map eU) (-1) = some (eU s) := fun {c s} e => by
    rcases nil_or_last c with rfl | ⟨L, l, rfl⟩
    · cases e
    · have : l = s := by simpa using e
      subst this
      rw [List.map_append]
      exact atI_last _ _
  have ends : ∀ {c : Row}, c ≠ [] → (∃ s, c.head? = some s) ∧ ∃ s, c.getLast? = some s := fun {c} h => by
    rcases nil_or_last c with rfl | ⟨L, l, rfl⟩
    · exact absurd rfl h
    · refine ⟨?_, l, by simp⟩
      cases L with
      | nil => exact ⟨l, rfl⟩
      | cons x r => exact ⟨x, rfl⟩
  obtain ⟨⟨a0, ea⟩, al, ela⟩ := ends na
  obtain ⟨⟨b0, eb⟩, bl, elb⟩ := ends nb
  walk_at "evs"
  refine ev_eq (d := eRow a) (e := eRow b) rfl rfl (Pd.shaped (pd_eRow 0 a)) (Pd.shaped (pd_eRow 0 b)) ?_
  walk_at "evs"
  refine ev_kIfS (fun c => ?_) (fun c => ?_)
  · have c : (eRow a).eqv (eRow b) = true := c
    rw [Pd.eqv (pd_eRow 0 a) (pd_eRow 0 b)] at c
    have e := eRow_inj c
    subst e
    walk_at "evs"
    exact q a ha na (fun z => by cases at' a z <;> rfl) _
  walk_at "evs"
  refine ev_ix (b := true) rfl (at1 ela) ?_
  walk_at "evs"
  refine ev_ix (b := true) rfl (at0 eb) ?_
  walk_at "evs"
  have jn : ∀ {c d : Row} {x y : Slab Unit}, Form E AnyU c → Form E AnyU d → c.getLast? = some x → d.head? = some y → x.2.1 < y.1 → Form E AnyU (c ++ d) := fun {c d x y} hc hd e1 e2 h => form_append.mpr ⟨hc, hd, fun s t f1 f2 => by
    rw [e1] at f1; rw [e2] at f2
    cases f1; cases f2
    exact ⟨by omega, fun z => by omega⟩⟩
  refine ev_kIfS (fun c1 => ?_) (fun c1 => ?_)
  · have c1 := of_decide_eq_true c1
    walk_at "evs"
    refine ev_cat (by rw [List.length_map, List.length_map]; omega) ?_
    walk_at "evs"
    have := q (a ++ b) (jn ha hb ela eb c1) (by simp [na]) (fun z => at_append)
    unfold eRow at this
    rw [List.map_append] at this
    exact this _
  walk_at "evs"
  refine ev_ix (b := true) rfl (at1 elb) ?_
  walk_at "evs"
  refine ev_ix (b := true) rfl (at0 ea) ?_
  walk_at "evs"
  refine ev_kIfS (fun c2 => ?_) (fun c2 => ?_)
  · have c2 := of_decide_eq_true c2
    walk_at "evs"
    refine ev_cat (by rw [List.length_map, List.length_map]; omega) ?_
    walk_at "evs"
    have := q (b ++ a) (jn hb ha elb ea c2) (by simp [na]) (fun z => by rw [at_append, opt_or_comm])
    unfold eRow at this
    rw [List.map_append] at this
    exact this _
  walk_at "evs"
  refine ev_kTup (ds := (a ++ b).map eU) ?_ (by rw [List.length_map, List.length_append]; omega) ?_
  · rw [dats_app, dats_app, List.map_append]
    simp [dats]
  walk_at "evs"
  refine ev_sorted (b := true) (ds := (a ++ b).map eU) rfl (PySem.W.AllAlike.of fun _ _ => rfl) (PySem.W.Sortable.tuples fun s => ⟨_, _, rfl⟩) (fun d m => ?_) ?_
  · obtain ⟨s, _, rfl⟩ := List.mem_map.mp m
    exact Nat.le_trans (pd_eU 0 s).can.2 (by decide)
  rw [sort_eU]
  walk_at "evs"
  refine ev_kUser0 rfl rfl ⟨(a ++ b).mergeSort leU, E, rfl, ?_, fun s m => ?_, leU_sorted _, ?_, fun R f1 f2 f3 outs => ?_⟩
  · intro z
    have := (List.mergeSort_perm (a ++ b) leU).length_eq
    rw [z] at this
    simp at this
    exact na (List.eq_nil_of_length_eq_zero (by omega))
  · rw [mem_sort] at m
    rcases List.mem_append.mp m with m | m
    · have := Form.mem ha s m; exact ⟨this.lt, this.e1, this.e2⟩
    · have := Form.mem hb s m; exact ⟨this.lt, this.e1, this.e2⟩
  · rw [(List.mergeSort_perm (a ++ b) leU).length_eq, List.length_append]; omega
  · walk_at "evs"
    exact q R f1 f2 (fun z => by rw [f3, at_same (fun s => mem_sort) z, at_append]) _

end K41
end
section
set_option Elab.async false
set_option linter.all false
set_option maxRecDepth 100000
set_option maxHeartbeats 1000000
namespace K41
open PySem L2 DL SM
local macro_rules | `(tactic| walk_at "ev") => `(tactic| first
  | (with_reducible refine ev_seq ?_)
  | (with_reducible refine ev_next ?_)
  | (with_reducible refine ev_break ?_)
  | (with_reducible refine ev_cont ?_)
  | (with_reducible refine ev_expr ?_)
  | (with_reducible refine ev_kExpr ?_)
  | (with_reducible refine ev_ret ?_)
  | (with_reducible refine ev_retN ?_)
  | (with_reducible refine ev_kRet_dat ?_)
  | (with_reducible refine ev_kRet_lst ?_)
  | (with_reducible refine ev_ifS ?_)
  | (with_reducible refine ev_kIfS_t ?_)
  | (with_reducible refine ev_kIfS_f ?_)
  | (with_reducible refine ev_set ?_)
  | (with_reducible refine ev_par ?_)
  | (with_reducible refine ev_asg ?_)
  | (with_reducible refine ev_put ?_)
  | (with_reducible refine ev_kPut1 ?_)
  | (with_reducible refine ev_kPut2 ?_)
  | (with_reducible refine ev_for ?_)
  | (with_reducible refine ev_kFor ?_)
  | (with_reducible refine ev_seqI ?_)
  | (with_reducible refine ev_kSeqI_l ?_)
  | (with_reducible refine ev_kSeqI_t ?_)
  | (with_reducible refine ev_kSeqI_n ?_)
  | (with_reducible refine ev_rng1 ?_)
  | (with_reducible refine ev_rng2 ?_)
  | (with_reducible refine ev_rng3 ?_)
  | (with_reducible refine ev_c ?_)
  | (with_reducible refine ev_fn ?_)
  | (with_reducible refine ev_bin ?_)
  | (with_reducible refine ev_kBin1 ?_)
  | (with_reducible refine ev_intT ?_)
  | (with_reducible refine ev_eqI ?_)
  | (with_reducible refine ev_neI ?_)
  | (with_reducible refine ev_isN ?_)
  | (with_reducible refine ev_neg ?_)
  | (with_reducible refine ev_kNeg ?_)
  | (with_reducible refine ev_not ?_)
  | (with_reducible refine ev_kNot ?_)
  | (with_reducible refine ev_test ?_)
  | (with_reducible refine ev_kTest ?_)
  | (with_reducible refine ev_tru ?_)
  | (with_reducible refine ev_and ?_)
  | (with_reducible refine ev_or ?_)
  | (with_reducible refine ev_kAnd_t ?_)
  | (with_reducible refine ev_kAnd_f ?_)
  | (with_reducible refine ev_kOr_t ?_)
  | (with_reducible refine ev_kOr_f ?_)
  | (with_reducible refine ev_if ?_)
  | (with_reducible refine ev_kIf_t ?_)
  | (with_reducible refine ev_kIf_f ?_)
  | (with_reducible refine ev_andV ?_)
  | (with_reducible refine ev_orV ?_)
  | (with_reducible refine ev_kAndV_t ?_)
  | (with_reducible refine ev_kAndV_f ?_)
  | (with_reducible refine ev_kOrV_t ?_)
  | (with_reducible refine ev_kOrV_f ?_)
  | (with_reducible refine ev_notV ?_)
  | (with_reducible refine ev_kNotV ?_)
  | (with_reducible refine ev_isi ?_)
  | (with_reducible refine ev_nil ?_)
  | (with_reducible refine ev_kCons2 ?_)
  | (with_reducible refine ev_cons ?_)
  | (with_reducible refine ev_kCons1_dat ?_)
  | (with_reducible refine ev_kCons1_fn ?_)
  | (with_reducible refine ev_kCons1_own ?_)
  | (with_reducible refine ev_kCons1_lst ?_)
  | (with_reducible refine ev_star ?_)
  | (with_reducible refine ev_kStar2 ?_)
  | (with_reducible refine ev_tup ?_)
  | (with_reducible refine ev_lst ?_)
  | (with_reducible refine ev_noPart ?_)
  | (with_reducible refine ev_part ?_)
  | (with_reducible refine ev_kPart ?_)
  | (with_reducible refine ev_sl ?_)
  | (with_reducible refine ev_kSl1 ?_)
  | (with_reducible refine ev_kSl2 ?_)
  | (with_reducible refine ev_rev ?_)
  | (with_reducible refine ev_call ?_)
  | (with_reducible refine ev_max2 ?_)
  | (with_reducible refine ev_min2 ?_)
  | (with_reducible refine ev_int1 ?_)
  | (with_reducible refine ev_user ?_)
  | (with_reducible refine ev_app ?_)
  | (with_reducible refine ev_ext ?_)
  | (with_reducible refine ev_lc ?_)
  | ((with_reducible refine' ev_name ?k0 ?k1 ?_); (case k0 => rfl); (case k1 => rfl))
  | ((with_reducible refine' ev_nameO ?k0 ?k1 ?_); (case k0 => rfl); (case k1 => rfl))
  | ((with_reducible refine' ev_nameF_dat ?k0 ?_); (case k0 => rfl))
  | ((with_reducible refine' ev_nameF_fn ?k0 ?_); (case k0 => rfl))
  | ((with_reducible refine' ev_nameF_arg ?k0 ?_); (case k0 => rfl))
  | ((with_reducible refine' ev_nameF_lst ?k0 ?_); (case k0 => rfl))
  | ((with_reducible refine' ev_kSet_dat ?k0 ?_); (case k0 => rfl))
  | ((with_reducible refine' ev_kSet_lst ?k0 ?_); (case k0 => rfl))
  | ((with_reducible refine' ev_kSet_fn ?k0 ?_); (case k0 => rfl))
  | ((with_reducible refine' ev_kPar ?k0 ?k1 ?k2 ?k3 ?_); (case k0 => rfl); (case k1 => rfl); (case k2 => rfl); (case k3 => rfl))
  | ((with_reducible refine' ev_kAsg ?k0 ?_); (case k0 => rfl))
  | ((with_reducible refine' ev_aug ?k0 ?_); (case k0 => rfl))
  | ((with_reducible refine' ev_kAug ?k0 ?_); (case k0 => rfl))
  | ((with_reducible refine' ev_kPut3 ?k0 ?k1 ?_); (case k0 => rfl); (case k1 => rfl))
  | ((with_reducible refine' ev_ix ?k0 ?k1 ?_); (case k0 => rfl); (case k1 => rfl))
  | ((with_reducible refine' ev_kTru ?k0 ?_); (case k0 => rfl))
  | ((with_reducible refine' ev_kIsi ?k0 ?k1 ?_); (case k0 => rfl); (case k1 => rfl))
  | ((with_reducible refine' ev_kStar1 ?k0 ?_); (case k0 => rfl))
  | ((with_reducible refine' ev_kSl3_t ?k0 ?_); (case k0 => rfl))
  | ((with_reducible refine' ev_kSl3_l ?k0 ?_); (case k0 => rfl))
  | ((with_reducible refine' ev_kRev_t ?k0 ?_); (case k0 => rfl))
  | ((with_reducible refine' ev_kRev_l ?k0 ?_); (case k0 => rfl))
  | ((with_reducible refine' ev_len ?k0 ?_); (case k0 => rfl))
  | ((with_reducible refine' ev_tuple ?k0 ?_); (case k0 => rfl))
  | ((with_reducible refine' ev_list ?k0 ?_); (case k0 => rfl))
  | ((with_reducible refine' ev_kApp1 ?k0 ?_); (case k0 => rfl))
  | ((with_reducible refine' ev_kExt1 ?k0 ?_); (case k0 => rfl))
  | ((with_reducible refine' ev_kRet_own ?k0 ?_); (case k0 => rfl))
  | ((with_reducible refine' ev_kTup ?k0 ?k1 ?_); (case k0 => rfl); (case k1 => simp [sizeLine]))
  | ((with_reducible refine' ev_kLst ?k0 ?k1 ?_); (case k0 => rfl); (case k1 => simp [sizeLine]))
  | (with_reducible refine ev_nx ?_)
  | (with_reducible refine ev_rt ?_)
  | (with_reducible refine ev_bk ?_)
  | (with_reducible refine ev_ct ?_)
)
local macro_rules | `(tactic| walk_at "evs") => `(tactic| repeat (walk_at "ev"))
theorem ev_seq_cut {a b : WS} {D : DE} {ρ : Den} (P : Den → Prop) (h2 : ∀ ρ, P ρ → b D ρ) (h1 : ∀ N : Den → Prop, (∀ ρ, P ρ → N ρ) → a { D with nx := N } ρ) : wSeq a b D ρ := h1 _ h2
theorem ev_while_cut {t : WT} {b : WS} {D : DE} {ρ : Den} (W : Nat → Den → Prop) (P : Den → Prop) (h0 : ∃ m, W m ρ) (hP : ∀ ρ, P ρ → D.nx ρ) (h : ∀ N : Den → Prop, (∀ ρ, P ρ → N ρ) → ∀ m ρ, W m ρ → t ρ (kWh b W m { D with nx := N })) : wWhile t b D ρ := ⟨W, h0, h D.nx hP⟩
/-- what is asked of the rule that a combination is given -/
def RuleOk {β : Type} (enc : β → PyData) (G : β → Prop) (rule : β → β → β) (sp : DSpec) : Prop := ∀ x y (K1 : DV → List DV → Prop), G x → G y → (∀ outs, K1 (.dat (enc (rule x y))) outs) → sp [.dat (enc x), .dat (enc y)] K1
structure CombOk {β : Type} (enc : β → PyData) (isE : β → Bool) (E : Int → Prop) (G : β → Prop) (rule : β → β → β) (M : Nat) : Prop where
  en : EncOk enc isE
  few : Few E M
  hM : M ≤ 1000000
  hG : ∀ x, G x → isE x = false
  hr : ∀ x y, G x → G y → isE (rule x y) = false → G (rule x y)
def sp_lay_over (S : Addr → Option DSpec) : DSpec := fun ds K' => ∃ (β : Type) (_ : DecidableEq β) (enc : β → PyData) (isE : β → Bool) (E : Int → Prop) (G : β → Prop) (rule : β → β → β) (M : Nat) (a b R0 : List (Slab β)) (sa sb : Slab β) (f : Addr) (sp : DSpec) (k1 k2 : Bool),
  ds = [.arg (R0.map (eS enc)), .dat (eSl enc a), .dat (eSl enc b), .fn (.ref f), .dat (.tuple [.bool k1, .bool k2])] ∧ S f = some sp ∧ RuleOk enc G rule sp ∧ CombOk enc isE E G rule M ∧ Form E G a ∧ Form E G b ∧ Form E G R0 ∧
  a.head? = some sa ∧ b.head? = some sb ∧ (∀ s ∈ R0, s.2.1 ≤ min sa.1 sb.1) ∧
  ∀ R2, Form E G R2 → (∀ z, at' R2 z = (at' R0 z).or (comb (k1, k2) rule isE (at' a z) (at' b z))) → K' (.dat .none) [.arg (R2.map (eS enc)), .dat (eSl enc a), .dat (eSl enc b), .fn (.ref f), .dat (.tuple [.bool k1, .bool k2])]
set_option maxHeartbeats 4000000 in
theorem wp_lay_over (S : Addr → Option DSpec) : ∀ ds K', sp_lay_over S ds K' → W_lay_over sp_put sp_put_all S { nx := fun ρ => K' (.dat .none) (outsOf ds ρ), rt := fun r ρ => K' r (outsOf ds ρ) } (startD N_lay_over ds) := by
  rintro ds K' ⟨β, _, enc, isE, E, G, rule, M, a, b, R0, sa0, sb0, f, sp, k1, k2, rfl, hS, hR, ok, ha, hb, h0, ea, eb, hR0, q⟩
  unfold W_lay_over
  have at0 : ∀ {c : List (Slab β)} {s : Slab β}, c.head? = some s → atI (c.map (eS enc)) 0 = some (eS enc s) := fun {c s} e => by
    cases c with
    | nil => cases e
    | cons u r => cases e; exact atI_map (i := 0) rfl
  have few : ∀ {R : List (Slab β)}, Form E G R → R.length ≤ 1000000 := fun h => Nat.le_trans (Form.few ok.few h) ok.hM
  have szl : sizeLine = 16777216 := rfl
  walk_at "evs"
  refine ev_ix (b := true) rfl (at0 ea) ?_
  walk_at "evs"
  refine ev_ix (b := true) rfl (at0 eb) ?_
  walk_at "evs"
  have tail : ∀ (n : Den → Prop) (r : DV → Den → Prop) (b' c' : Den → Prop) (R' o1 o2 o3 o4 x8 x10 x11 x13 : Option DV) (i j vi vj p ta tb : Int), (vi = if ta ≤ p then i + 1 else i) → (vj = if tb ≤ p then j + 1 else j) → n [R', o1, o2, o3, o4, some (.dat (.int vi)), some (.dat (.int vj)), some (.dat (.int p)), x8, some (.dat (.int ta)), x10, x11, some (.dat (.int tb)), x13] →
      wSeq (wIfS (wTest (wBin oLe (wName 9) (wName 7))) (wAugI 5 (fun i j => i + j) (wC (.int 1))) wNext) (wIfS (wTest (wBin oLe (wName 12) (wName 7))) (wAugI 6 (fun i j => i + j) (wC (.int 1))) wNext) (DE.mk n r b' c') [R', o1, o2, o3, o4, some (.dat (.int i)), some (.dat (.int j)), some (.dat (.int p)), x8, some (.dat (.int ta)), x10, x11, some (.dat (.int tb)), x13] := by
    intro n r b' c' R' o1 o2 o3 o4 x8 x10 x11 x13 i j vi vj p ta tb ei ej h
    walk_at "evs"
    refine ev_kIfS (fun h1 => ?_) (fun h1 => ?_)
    · rw [if_pos (of_decide_eq_true h1)] at ei
      subst ei
      walk_at "evs"
      refine ev_kIfS (fun h2 => ?_) (fun h2 => ?_)
      · rw [if_pos (of_decide_eq_true h2)] at ej
        subst ej
        walk_at "evs"
        exact h
      · rw [if_neg (of_decide_eq_false h2)] at ej
        subst ej
        walk_at "evs"
        exact h
    · rw [if_neg (of_decide_eq_false h1)] at ei
      subst ei
      walk_at "evs"
      refine ev_kIfS (fun h2 => ?_) (fun h2 => ?_)
      · rw [if_pos (of_decide_eq_true h2)] at ej
        subst ej
        walk_at "evs"
        exact h
      · rw [if_neg (of_decide_eq_false h2)] at ej
        subst ej
        walk_at "evs"
        exact h
  have cst : ∀ (c : Prop) [Decidable c] (i : Nat), (((if c then i + 1 else i : Nat)) : Int) = if c then (i : Int) + 1 else i := fun c _ i => by split <;> simp
  refine ev_while_cut (fun m ρ => ∃ (i j d : Nat) (p : Int) (R : List (Slab β)) (y1 y2 y3 y4 y5 y6 : Option DV), ρ = [some (.arg (R.map (eS enc))), some (.dat (eSl enc a)), some (.dat (eSl enc b)), some (.fn (.ref f)), some (.dat (.tuple [.bool k1, .bool k2])), some (.dat (.int i)), some (.dat (.int j)), some (.dat (.int p)), y1, y2, y3, y4, y5, y6] ∧
    LO (k1, k2) rule isE E G a b R0 i j p R ∧ m = 2 * ((a.length - i) + (b.length - j)) + d ∧ d ≤ 1 ∧ (d = 0 → ∀ sa sb, a[i]? = some sa → b[j]? = some sb → max sa.1 p = max sb.1 p) ∧ notArgB (some y1) = true ∧ notArgB (some y2) = true ∧ notArgB (some y3) = true ∧ notArgB (some y4) = true ∧ notArgB (some y5) = true ∧ notArgB (some y6) = true)
    (fun ρ => ∃ (i j : Nat) (p : Int) (R : List (Slab β)) (y1 y2 y3 y4 y5 y6 : Option DV), ρ = [some (.arg (R.map (eS enc))), some (.dat (eSl enc a)), some (.dat (eSl enc b)), some (.fn (.ref f)), some (.dat (.tuple [.bool k1, .bool k2])), some (.dat (.int i)), some (.dat (.int j)), some (.dat (.int p)), y1, y2, y3, y4, y5, y6] ∧ LO (k1, k2) rule isE E G a b R0 i j p R ∧ (i = a.length ∨ j = b.length))
    ⟨2 * (a.length + b.length) + 1, 0, 0, 1, min sa0.1 sb0.1, R0, none, none, none, none, none, none, rfl, LO.start ha hb h0 ea eb hR0, by omega, by omega, by omega, rfl, rfl, rfl, rfl, rfl, rfl⟩ ?_ ?_
  · rintro ρ ⟨i, j, p, R, y1, y2, y3, y4, y5, y6, rfl, lo, hij⟩
    have hRl := few lo.fR
    have hal := few ha
    have hbl := few hb
    have p1 : ∀ {R : List (Slab β)}, R.length ≤ 1000000 → (putAllM isE R (a.drop i) p).length ≤ 3000000 := fun {R} h => by
      have h2 : (a.drop i).length ≤ 1000000 := Nat.le_trans (by rw [List.length_drop]; omega) hal
      unfold putAllM
      split
      · omega
      · rename_i s r e
        have := putM_len (isE := isE) (R := R) (lo := max s.1 p) (hi := s.2.1) (x := s.2.2)
        rw [e] at h2
        simp only [List.length_append, List.length_cons] at h2 ⊢
        omega
    walk_at "evs"
    refine ev_kIfS (fun e1 => ?_) (fun e1 => ?_)
    · have e1 : k1 = true := e1
      subst e1
      walk_at "evs"
      rw [cut_lo, ← List.map_drop]
      walk_at "evs"
      refine ev_kUser (by simp [owns]) rfl ⟨β, inferInstance, enc, isE, R, a.drop i, p, rfl, ok.en, by rw [List.length_drop]; omega, ?_⟩
      walk_at "evs"
      refine ev_kIfS (fun e2 => ?_) (fun e2 => ?_)
      · have e2 : k2 = true := e2
        subst e2
        have := p1 hRl
        walk_at "evs"
        rw [cut_lo, ← List.map_drop]
        walk_at "evs"
        refine ev_kUser (by simp [owns]) rfl ⟨β, inferInstance, enc, isE, putAllM isE R (a.drop i) p, b.drop j, p, rfl, ok.en, by rw [List.length_drop]; omega, ?_⟩
        walk_at "evs"
        obtain ⟨f1, f2⟩ := LO.done ha hb ok.hG lo hij rfl rfl
        exact q _ f1 f2
      · have e2 : k2 = false := e2
        subst e2
        walk_at "evs"
        obtain ⟨f1, f2⟩ := LO.done ha hb ok.hG lo hij rfl rfl
        exact q _ f1 f2
    · have e1 : k1 = false := e1
      subst e1
      walk_at "evs"
      refine ev_kIfS (fun e2 => ?_) (fun e2 => ?_)
      · have e2 : k2 = true := e2
        subst e2
        walk_at "evs"
        rw [cut_lo, ← List.map_drop]
        walk_at "evs"
        refine ev_kUser (by simp [owns]) rfl ⟨β, inferInstance, enc, isE, R, b.drop j, p, rfl, ok.en, by rw [List.length_drop]; omega, ?_⟩
        walk_at "evs"
        obtain ⟨f1, f2⟩ := LO.done ha hb ok.hG lo hij rfl rfl
        exact q _ f1 f2
      · have e2 : k2 = false := e2
        subst e2
        walk_at "evs"
        obtain ⟨f1, f2⟩ := LO.done ha hb ok.hG lo hij rfl rfl
        exact q _ f1 f2
  rintro N hN m ρ ⟨i, j, d, p, R, y1, y2, y3, y4, y5, y6, rfl, lo, rfl, hd, hd0, n1, n2, n3, n4, n5, n6⟩
  walk_at "evs"
  refine ev_kAnd (fun h1 => ?_) (fun h1 => ?_)
  · have hi : i < a.length := by have := of_decide_eq_true h1; rw [List.length_map] at this; omega
    walk_at "evs"
    refine ev_kWh (fun h2 => ?_) (fun h2 => ?_)
    · have hj : j < b.length := by have := of_decide_eq_true h2; rw [List.length_map] at this; omega
      obtain ⟨sa, hsa⟩ : ∃ s, a[i]? = some s := ⟨_, List.getElem?_eq_getElem hi⟩
      obtain ⟨sb, hsb⟩ : ∃ s, b[j]? = some s := ⟨_, List.getElem?_eq_getElem hj⟩
      obtain ⟨st1, st2, st3⟩ := LO.step ha hb ok.hG ok.hr lo hsa hsb
      have pa := lo.an sa hsa
      have pb := lo.bn sb hsb
      have ga := (Form.mem ha sa (List.mem_of_getElem? hsa))
      have gb := (Form.mem hb sb (List.mem_of_getElem? hsb))
      have hRl := few lo.fR
      -- the turn's end
      have fin : ∀ (R' : List (Slab β)) (p' : Int) (x8 x10 x11 x13 : Option DV), LO (k1, k2) rule isE E G a b R0 (if sa.2.1 ≤ p' then i + 1 else i) (if sb.2.1 ≤ p' then j + 1 else j) p' R' → (sa.2.1 ≤ p' ∨ sb.2.1 ≤ p' ∨ (d = 1 ∧ max sa.1 p' = max sb.1 p')) → notArgB (some x8) = true → notArgB (some x10) = true → notArgB (some x11) = true → notArgB (some x13) = true →
          ∃ m', m' < 2 * ((a.length - i) + (b.length - j)) + d ∧ ∃ (i2 j2 d2 : Nat) (p2 : Int) (R2 : List (Slab β)) (y1 y2 y3 y4 y5 y6 : Option DV), [some (.arg (R'.map (eS enc))), some (.dat (eSl enc a)), some (.dat (eSl enc b)), some (.fn (.ref f)), some (.dat (.tuple [.bool k1, .bool k2])), some (.dat (.int (if sa.2.1 ≤ p' then i + 1 else i : Nat))), some (.dat (.int (if sb.2.1 ≤ p' then j + 1 else j : Nat))), some (.dat (.int p')), x8, some (.dat (.int sa.2.1)), x10, x11, some (.dat (.int sb.2.1)), x13] =
            [some (.arg (R2.map (eS enc))), some (.dat (eSl enc a)), some (.dat (eSl enc b)), some (.fn (.ref f)), some (.dat (.tuple [.bool k1, .bool k2])), some (.dat (.int i2)), some (.dat (.int j2)), some (.dat (.int p2)), y1, y2, y3, y4, y5, y6] ∧
            LO (k1, k2) rule isE E G a b R0 i2 j2 p2 R2 ∧ m' = 2 * ((a.length - i2) + (b.length - j2)) + d2 ∧ d2 ≤ 1 ∧ (d2 = 0 → ∀ sa sb, a[i2]? = some sa → b[j2]? = some sb → max sa.1 p2 = max sb.1 p2) ∧ notArgB (some y1) = true ∧ notArgB (some y2) = true ∧ notArgB (some y3) = true ∧ notArgB (some y4) = true ∧ notArgB (some y5) = true ∧ notArgB (some y6) = true := by
        intro R' p' x8 x10 x11 x13 l' pr g1 g2 g3 g4
        by_cases c1 : sa.2.1 ≤ p'
        · refine ⟨2 * ((a.length - (if sa.2.1 ≤ p' then i + 1 else i)) + (b.length - (if sb.2.1 ≤ p' then j + 1 else j))) + 1, ?_, _, _, 1, p', R', x8, _, x10, x11, _, x13, rfl, l', rfl, by omega, (fun z => by omega), g1, rfl, g2, g3, rfl, g4⟩
          rw [if_pos c1]
          split <;> omega
        · by_cases c2 : sb.2.1 ≤ p'
          · refine ⟨2 * ((a.length - (if sa.2.1 ≤ p' then i + 1 else i)) + (b.length - (if sb.2.1 ≤ p' then j + 1 else j))) + 1, ?_, _, _, 1, p', R', x8, _, x10, x11, _, x13, rfl, l', rfl, by omega, (fun z => by omega), g1, rfl, g2, g3, rfl, g4⟩
            rw [if_pos c2, if_neg c1]
            omega
          · rcases pr with h | h | ⟨h, hm⟩
            · exact absurd h c1
            · exact absurd h c2
            · refine ⟨2 * ((a.length - (if sa.2.1 ≤ p' then i + 1 else i)) + (b.length - (if sb.2.1 ≤ p' then j + 1 else j))) + 0, ?_, _, _, 0, p', R', x8, _, x10, x11, _, x13, rfl, l', rfl, by omega, (fun _ ta tb e1 e2 => ?_), g1, rfl, g2, g3, rfl, g4⟩
              · rw [if_neg c2, if_neg c1]
                omega
              · rw [if_neg c1, hsa] at e1
                rw [if_neg c2, hsb] at e2
                cases e1; cases e2
                exact hm
      walk_at "evs"
      refine ev_ix (b := true) rfl (atI_map hsa) ?_
      refine ev_kAsg (ρ2 := [some (.arg (R.map (eS enc))), some (.dat (eSl enc a)), some (.dat (eSl enc b)), some (.fn (.ref f)), some (.dat (.tuple [.bool k1, .bool k2])), some (.dat (.int i)), some (.dat (.int j)), some (.dat (.int p)), some (.dat (.int sa.1)), some (.dat (.int sa.2.1)), some (.dat (enc sa.2.2)), y4, y5, y6]) (by simp [fTup, fCons, fName, fNil, eS, n1, n2, n3]) ?_
      walk_at "evs"
      refine ev_ix (b := true) rfl (atI_map hsb) ?_
      refine ev_kAsg (ρ2 := [some (.arg (R.map (eS enc))), some (.dat (eSl enc a)), some (.dat (eSl enc b)), some (.fn (.ref f)), some (.dat (.tuple [.bool k1, .bool k2])), some (.dat (.int i)), some (.dat (.int j)), some (.dat (.int p)), some (.dat (.int sa.1)), some (.dat (.int sa.2.1)), some (.dat (enc sa.2.2)), some (.dat (.int sb.1)), some (.dat (.int sb.2.1)), some (.dat (enc sb.2.2))]) (by simp [fTup, fCons, fName, fNil, eS, n4, n5, n6]) ?_
      walk_at "evs"
      refine ev_kIfS (fun c1 => ?_) (fun c1 => ?_)
      · have c1 := of_decide_eq_true c1
        have hd1 : d = 1 := by
          rcases Nat.lt_or_ge d 1 with h | h
          · have := hd0 (by omega) sa sb hsa hsb; omega
          · omega
        walk_at "evs"
        have l1 := st1 c1
        have pr : sa.2.1 ≤ min sa.2.1 (max sb.1 p) ∨ sb.2.1 ≤ min sa.2.1 (max sb.1 p) ∨ (d = 1 ∧ max sa.1 (min sa.2.1 (max sb.1 p)) = max sb.1 (min sa.2.1 (max sb.1 p))) := by
          by_cases z : sa.2.1 ≤ max sb.1 p
          · exact .inl (by omega)
          · exact .inr (.inr ⟨hd1, by omega⟩)
        refine ev_kIfS (fun e1 => ?_) (fun e1 => ?_)
        · have e1 : k1 = true := e1
          subst e1
          walk_at "evs"
          refine ev_kUser (by simp [owns]) rfl ⟨β, inferInstance, enc, isE, R, max sa.1 p, min sa.2.1 (max sb.1 p), sa.2.2, rfl, ok.en.tru _, fun y => ok.en.eqv y _, ok.en.sh, by omega, ?_⟩
          with_reducible refine ev_kExpr ?_
          with_reducible refine ev_nx ?_
          exact tail _ _ _ _ _ _ _ _ _ _ _ _ _ i j _ _ _ _ _ (cst _ _) (cst _ _) (fin _ _ _ _ _ _ l1 pr rfl rfl rfl rfl)
        · have e1 : k1 = false := e1
          subst e1
          with_reducible refine ev_next ?_
          with_reducible refine ev_nx ?_
          exact tail _ _ _ _ _ _ _ _ _ _ _ _ _ i j _ _ _ _ _ (cst _ _) (cst _ _) (fin _ _ _ _ _ _ l1 pr rfl rfl rfl rfl)
      · have c1 := of_decide_eq_false c1
        walk_at "evs"
        refine ev_kIfS (fun c2 => ?_) (fun c2 => ?_)
        · have c2 := of_decide_eq_true c2
          have hd1 : d = 1 := by
            rcases Nat.lt_or_ge d 1 with h | h
            · have := hd0 (by omega) sa sb hsa hsb; omega
            · omega
          walk_at "evs"
          have l1 := st2 c2
          have pr : sa.2.1 ≤ min sb.2.1 (max sa.1 p) ∨ sb.2.1 ≤ min sb.2.1 (max sa.1 p) ∨ (d = 1 ∧ max sa.1 (min sb.2.1 (max sa.1 p)) = max sb.1 (min sb.2.1 (max sa.1 p))) := by
            by_cases z : sb.2.1 ≤ max sa.1 p
            · exact .inr (.inl (by omega))
            · exact .inr (.inr ⟨hd1, by omega⟩)
          refine ev_kIfS (fun e1 => ?_) (fun e1 => ?_)
          · have e1 : k2 = true := e1
            subst e1
            walk_at "evs"
            refine ev_kUser (by simp [owns]) rfl ⟨β, inferInstance, enc, isE, R, max sb.1 p, min sb.2.1 (max sa.1 p), sb.2.2, rfl, ok.en.tru _, fun y => ok.en.eqv y _, ok.en.sh, by omega, ?_⟩
            with_reducible refine ev_kExpr ?_
            with_reducible refine ev_nx ?_
            exact tail _ _ _ _ _ _ _ _ _ _ _ _ _ i j _ _ _ _ _ (cst _ _) (cst _ _) (fin _ _ _ _ _ _ l1 pr rfl rfl rfl rfl)
          · have e1 : k2 = false := e1
            subst e1
            with_reducible refine ev_next ?_
            with_reducible refine ev_nx ?_
            exact tail _ _ _ _ _ _ _ _ _ _ _ _ _ i j _ _ _ _ _ (cst _ _) (cst _ _) (fin _ _ _ _ _ _ l1 pr rfl rfl rfl rfl)
        · have c2 := of_decide_eq_false c2
          have l1 := st3 (by omega)
          have pr : sa.2.1 ≤ min sa.2.1 sb.2.1 ∨ sb.2.1 ≤ min sa.2.1 sb.2.1 ∨ (d = 1 ∧ max sa.1 (min sa.2.1 sb.2.1) = max sb.1 (min sa.2.1 sb.2.1)) := by
            by_cases z : sa.2.1 ≤ sb.2.1
            · exact .inl (by omega)
            · exact .inr (.inl (by omega))
          walk_at "evs"
          refine ev_loc rfl hS ?_
          walk_at "evs"
          refine ev_kUser0 rfl rfl (hR _ _ _ ga.g gb.g fun outs => ?_)
          walk_at "evs"
          refine ev_kUser (by simp [owns]) rfl ⟨β, inferInstance, enc, isE, R, max sa.1 p, min sa.2.1 sb.2.1, rule sa.2.2 sb.2.2, rfl, ok.en.tru _, fun y => ok.en.eqv y _, ok.en.sh, by omega, ?_⟩
          with_reducible refine ev_kExpr ?_
          with_reducible refine ev_nx ?_
          exact tail _ _ _ _ _ _ _ _ _ _ _ _ _ i j _ _ _ _ _ (cst _ _) (cst _ _) (fin _ _ _ _ _ _ l1 pr rfl rfl rfl rfl)
    · have hj : j = b.length := by have := of_decide_eq_false h2; rw [List.length_map] at this; have := lo.jl; omega
      exact hN _ ⟨i, j, p, R, y1, y2, y3, y4, y5, y6, rfl, lo, .inr hj⟩
  · have hi : i = a.length := by have := of_decide_eq_false h1; rw [List.length_map] at this; have := lo.il; omega
    exact ev_kWh (fun z => nomatch z) fun _ => hN _ ⟨i, j, p, R, y1, y2, y3, y4, y5, y6, rfl, lo, .inl hi⟩

end K41
end
section
set_option Elab.async false
set_option linter.all false
set_option maxRecDepth 100000
set_option maxHeartbeats 1000000
namespace K41
open PySem L2 DL SM
local macro_rules | `(tactic| walk_at "ev") => `(tactic| first
  | (with_reducible refine ev_seq ?_)
  | (with_reducible refine ev_next ?_)
  | (with_reducible refine ev_break ?_)
  | (with_reducible refine ev_cont ?_)
  | (with_reducible refine ev_expr ?_)
  | (with_reducible refine ev_kExpr ?_)
  | (with_reducible refine ev_ret ?_)
  | (with_reducible refine ev_retN ?_)
  | (with_reducible refine ev_kRet_dat ?_)
  | (with_reducible refine ev_kRet_lst ?_)
  | (with_reducible refine ev_ifS ?_)
  | (with_reducible refine ev_kIfS_t ?_)
  | (with_reducible refine ev_kIfS_f ?_)
  | (with_reducible refine ev_set ?_)
  | (with_reducible refine ev_par ?_)
  | (with_reducible refine ev_asg ?_)
  | (with_reducible refine ev_put ?_)
  | (with_reducible refine ev_kPut1 ?_)
  | (with_reducible refine ev_kPut2 ?_)
  | (with_reducible refine ev_for ?_)
  | (with_reducible refine ev_kFor ?_)
  | (with_reducible refine ev_seqI ?_)
  | (with_reducible refine ev_kSeqI_l ?_)
  | (with_reducible refine ev_kSeqI_t ?_)
  | (with_reducible refine ev_kSeqI_n ?_)
  | (with_reducible refine ev_rng1 ?_)
  | (with_reducible refine ev_rng2 ?_)
  | (with_reducible refine ev_rng3 ?_)
  | (with_reducible refine ev_c ?_)
  | (with_reducible refine ev_fn ?_)
  | (with_reducible refine ev_bin ?_)
  | (with_reducible refine ev_kBin1 ?_)
  | (with_reducible refine ev_intT ?_)
  | (with_reducible refine ev_eqI ?_)
  | (with_reducible refine ev_neI ?_)
  | (with_reducible refine ev_isN ?_)
  | (with_reducible refine ev_neg ?_)
  | (with_reducible refine ev_kNeg ?_)
  | (with_reducible refine ev_not ?_)
  | (with_reducible refine ev_kNot ?_)
  | (with_reducible refine ev_test ?_)
  | (with_reducible refine ev_kTest ?_)
  | (with_reducible refine ev_tru ?_)
  | (with_reducible refine ev_and ?_)
  | (with_reducible refine ev_or ?_)
  | (with_reducible refine ev_kAnd_t ?_)
  | (with_reducible refine ev_kAnd_f ?_)
  | (with_reducible refine ev_kOr_t ?_)
  | (with_reducible refine ev_kOr_f ?_)
  | (with_reducible refine ev_if ?_)
  | (with_reducible refine ev_kIf_t ?_)
  | (with_reducible refine ev_kIf_f ?_)
  | (with_reducible refine ev_andV ?_)
  | (with_reducible refine ev_orV ?_)
  | (with_reducible refine ev_kAndV_t ?_)
  | (with_reducible refine ev_kAndV_f ?_)
  | (with_reducible refine ev_kOrV_t ?_)
  | (with_reducible refine ev_kOrV_f ?_)
  | (with_reducible refine ev_notV ?_)
  | (with_reducible refine ev_kNotV ?_)
  | (with_reducible refine ev_isi ?_)
  | (with_reducible refine ev_nil ?_)
  | (with_reducible refine ev_kCons2 ?_)
  | (with_reducible refine ev_cons ?_)
  | (with_reducible refine ev_kCons1_dat ?_)
  | (with_reducible refine ev_kCons1_fn ?_)
  | (with_reducible refine ev_kCons1_own ?_)
  | (with_reducible refine ev_kCons1_lst ?_)
  | (with_reducible refine ev_star ?_)
  | (with_reducible refine ev_kStar2 ?_)
  | (with_reducible refine ev_tup ?_)
  | (with_reducible refine ev_lst ?_)
  | (with_reducible refine ev_noPart ?_)
  | (with_reducible refine ev_part ?_)
  | (with_reducible refine ev_kPart ?_)
  | (with_reducible refine ev_sl ?_)
  | (with_reducible refine ev_kSl1 ?_)
  | (with_reducible refine ev_kSl2 ?_)
  | (with_reducible refine ev_rev ?_)
  | (with_reducible refine ev_call ?_)
  | (with_reducible refine ev_max2 ?_)
  | (with_reducible refine ev_min2 ?_)
  | (with_reducible refine ev_int1 ?_)
  | (with_reducible refine ev_user ?_)
  | (with_reducible refine ev_app ?_)
  | (with_reducible refine ev_ext ?_)
  | (with_reducible refine ev_lc ?_)
  | ((with_reducible refine' ev_name ?k0 ?k1 ?_); (case k0 => rfl); (case k1 => rfl))
  | ((with_reducible refine' ev_nameO ?k0 ?k1 ?_); (case k0 => rfl); (case k1 => rfl))
  | ((with_reducible refine' ev_nameF_dat ?k0 ?_); (case k0 => rfl))
  | ((with_reducible refine' ev_nameF_fn ?k0 ?_); (case k0 => rfl))
  | ((with_reducible refine' ev_nameF_arg ?k0 ?_); (case k0 => rfl))
  | ((with_reducible refine' ev_nameF_lst ?k0 ?_); (case k0 => rfl))
  | ((with_reducible refine' ev_kSet_dat ?k0 ?_); (case k0 => rfl))
  | ((with_reducible refine' ev_kSet_lst ?k0 ?_); (case k0 => rfl))
  | ((with_reducible refine' ev_kSet_fn ?k0 ?_); (case k0 => rfl))
  | ((with_reducible refine' ev_kPar ?k0 ?k1 ?k2 ?k3 ?_); (case k0 => rfl); (case k1 => rfl); (case k2 => rfl); (case k3 => rfl))
  | ((with_reducible refine' ev_kAsg ?k0 ?_); (case k0 => rfl))
  | ((with_reducible refine' ev_aug ?k0 ?_); (case k0 => rfl))
  | ((with_reducible refine' ev_kAug ?k0 ?_); (case k0 => rfl))
  | ((with_reducible refine' ev_kPut3 ?k0 ?k1 ?_); (case k0 => rfl); (case k1 => rfl))
  | ((with_reducible refine' ev_ix ?k0 ?k1 ?_); (case k0 => rfl); (case k1 => rfl))
  | ((with_reducible refine' ev_kTru ?k0 ?_); (case k0 => rfl))
  | ((with_reducible refine' ev_kIsi ?k0 ?k1 ?_); (case k0 => rfl); (case k1 => rfl))
  | ((with_reducible refine' ev_kStar1 ?k0 ?_); (case k0 => rfl))
  | ((with_reducible refine' ev_kSl3_t ?k0 ?_); (case k0 => rfl))
  | ((with_reducible refine' ev_kSl3_l ?k0 ?_); (case k0 => rfl))
  | ((with_reducible refine' ev_kRev_t ?k0 ?_); (case k0 => rfl))
  | ((with_reducible refine' ev_kRev_l ?k0 ?_); (case k0 => rfl))
  | ((with_reducible refine' ev_len ?k0 ?_); (case k0 => rfl))
  | ((with_reducible refine' ev_tuple ?k0 ?_); (case k0 => rfl))
  | ((with_reducible refine' ev_list ?k0 ?_); (case k0 => rfl))
  | ((with_reducible refine' ev_kApp1 ?k0 ?_); (case k0 => rfl))
  | ((with_reducible refine' ev_kExt1 ?k0 ?_); (case k0 => rfl))
  | ((with_reducible refine' ev_kRet_own ?k0 ?_); (case k0 => rfl))
  | ((with_reducible refine' ev_kTup ?k0 ?k1 ?_); (case k0 => rfl); (case k1 => simp [sizeLine]))
  | ((with_reducible refine' ev_kLst ?k0 ?k1 ?_); (case k0 => rfl); (case k1 => simp [sizeLine]))
  | (with_reducible refine ev_nx ?_)
  | (with_reducible refine ev_rt ?_)
  | (with_reducible refine ev_bk ?_)
  | (with_reducible refine ev_ct ?_)
)
local macro_rules | `(tactic| walk_at "evs") => `(tactic| repeat (walk_at "ev"))
abbrev W_comb_end : WS := (wSeq (wIfS (wAnd (wTru (wBin oIx (wName 3) (wC (.int 0)))) (wTest (wBin oLt (wName 8) (wCall oLen (wCons (wName 0) wNil))))) (wExpr (wUser sp_put_all (wCons (wName 10) (wCons (wSl (wName 0) (wPart (wName 8)) wNoPart) (wCons (wBin oIx (wBin oIx (wName 0) (wName 8)) (wC (.int 0))) wNil))))) wNext) (wSeq (wIfS (wAnd (wTru (wBin oIx (wName 3) (wC (.int 1)))) (wTest (wBin oLt (wName 9) (wCall oLen (wCons (wName 1) wNil))))) (wExpr (wUser sp_put_all (wCons (wName 10) (wCons (wSl (wName 1) (wPart (wName 9)) wNoPart) (wCons (wBin oIx (wBin oIx (wName 1) (wName 9)) (wC (.int 0))) wNil))))) wNext) (wRet (wCall oTuple (wCons (wName 10) wNil)))))
abbrev W_comb_mid (S : Addr → Option DSpec) : WS := (wIfS (wAnd (wTest (wBin oLt (wName 6) (wName 8))) (wTest (wBin oLt (wName 7) (wName 9)))) (wExpr (wUser (sp_lay_over S) (wCons (wName 10) (wCons (wSl (wName 0) (wPart (wName 6)) (wPart (wName 8))) (wCons (wSl (wName 1) (wPart (wName 7)) (wPart (wName 9))) (wCons (wNameF 2) (wCons (wNameF 3) wNil))))))) (wIfS (wAnd (wTru (wBin oIx (wName 3) (wC (.int 0)))) (wTest (wBin oLt (wName 6) (wName 8)))) (wExpr (wUser sp_put_all (wCons (wName 10) (wCons (wSl (wName 0) (wPart (wName 6)) (wPart (wName 8))) (wCons (wBin oIx (wBin oIx (wName 0) (wName 6)) (wC (.int 0))) wNil))))) (wIfS (wAnd (wTru (wBin oIx (wName 3) (wC (.int 1)))) (wTest (wBin oLt (wName 7) (wName 9)))) (wExpr (wUser sp_put_all (wCons (wName 10) (wCons (wSl (wName 1) (wPart (wName 7)) (wPart (wName 9))) (wCons (wBin oIx (wBin oIx (wName 1) (wName 7)) (wC (.int 0))) wNil))))) wNext)))
theorem putAllM_len {β : Type} [DecidableEq β] {isE : β → Bool} {R L : List (Slab β)} {b : Int} : (putAllM isE R L b).length ≤ R.length + L.length := by
  unfold putAllM
  split
  · simp
  · rename_i s r
    have := putM_len (isE := isE) (R := R) (lo := max s.1 b) (hi := s.2.1) (x := s.2.2)
    simp only [List.length_append, List.length_cons]
    omega
theorem comb_end {β : Type} [DecidableEq β] {enc : β → PyData} {isE : β → Bool} (ok : EncOk enc isE) {n b' c' : Den → Prop} {r : DV → Den → Prop} {a b M R1 R2 : List (Slab β)} {k1 k2 : Bool} {ta tb : Nat} {v2 : V} {x4 x5 x6 x7 : PyData} (hM : M.length ≤ 4000000) (ha : a.length ≤ 1000000) (hb : b.length ≤ 1000000)
    (h1 : R1 = if k1 = true then putAllM isE M (a.drop ta) ((a[ta]?.map (·.1)).getD 0) else M) (h2 : R2 = if k2 = true then putAllM isE R1 (b.drop tb) ((b[tb]?.map (·.1)).getD 0) else R1) (q : ∀ ρ, r (.dat (eSl enc R2)) ρ) :
    W_comb_end (DE.mk n r b' c') [some (.dat (eSl enc a)), some (.dat (eSl enc b)), some (.fn v2), some (.dat (.tuple [.bool k1, .bool k2])), some (.dat x4), some (.dat x5), some (.dat x6), some (.dat x7), some (.dat (.int ta)), some (.dat (.int tb)), some (.lst (M.map (eS enc)))] := by
  have szl : sizeLine = 16777216 := rfl
  have last : ∀ (R : List (Slab β)) (o2 o3 o4 o5 o6 o7 o8 o9 : Option DV) (o0 o1 : Option DV), R = R2 → wRet (wCall oTuple (wCons (wName 10) wNil)) (DE.mk n r b' c') [o0, o1, o2, o3, o4, o5, o6, o7, o8, o9, some (.lst (R.map (eS enc)))] := by
    intro R o2 o3 o4 o5 o6 o7 o8 o9 o0 o1 e
    subst e
    walk_at "evs"
    exact q _
  have second : R1.length ≤ 6000000 → ∀ (x8 : PyData), (wSeq (wIfS (wAnd (wTru (wBin oIx (wName 3) (wC (.int 1)))) (wTest (wBin oLt (wName 9) (wCall oLen (wCons (wName 1) wNil))))) (wExpr (wUser sp_put_all (wCons (wName 10) (wCons (wSl (wName 1) (wPart (wName 9)) wNoPart) (wCons (wBin oIx (wBin oIx (wName 1) (wName 9)) (wC (.int 0))) wNil))))) wNext) (wRet (wCall oTuple (wCons (wName 10) wNil)))) (DE.mk n r b' c')
      [some (.dat (eSl enc a)), some (.dat (eSl enc b)), some (.fn v2), some (.dat (.tuple [.bool k1, .bool k2])), some (.dat x4), some (.dat x5), some (.dat x6), some (.dat x7), some (.dat x8), some (.dat (.int tb)), some (.lst (R1.map (eS enc)))] := by
    intro hl x8
    have no : (k2 = true → b.length ≤ tb) → R1 = R2 := fun h => by
      rw [h2]
      split
      · rename_i k
        rw [List.drop_eq_nil_of_le (h k)]; rfl
      · rfl
    with_reducible refine ev_seq (ev_ifS (ev_and ?_))
    walk_at "evs"
    refine ev_kAnd (fun e2 => ?_) (fun e2 => ?_)
    · have e2 : k2 = true := e2
      walk_at "evs"
      refine ev_kIfS (fun c => ?_) (fun c => ?_)
      · have hlt : tb < b.length := by have := of_decide_eq_true c; rw [List.length_map] at this; omega
        obtain ⟨s, hs⟩ : ∃ s, b[tb]? = some s := ⟨_, List.getElem?_eq_getElem hlt⟩
        walk_at "evs"
        rw [cut_lo, ← List.map_drop]
        walk_at "evs"
        refine ev_ix (b := true) rfl (atI_map hs) ?_
        walk_at "evs"
        refine ev_kUser (by simp [owns]) rfl ⟨β, inferInstance, enc, isE, R1, b.drop tb, s.1, rfl, ok, by rw [List.length_drop]; omega, ?_⟩
        with_reducible refine ev_kExpr ?_
        with_reducible refine ev_nx ?_
        refine last _ _ _ _ _ _ _ _ _ _ _ ?_
        rw [h2, if_pos e2, hs]
        rfl
      · have hge : b.length ≤ tb := by have := of_decide_eq_false c; rw [List.length_map] at this; omega
        with_reducible refine ev_next ?_
        with_reducible refine ev_nx ?_
        exact last _ _ _ _ _ _ _ _ _ _ _ (no fun _ => hge)
    · have e2 : k2 = false := e2
      with_reducible refine ev_kIfS_f ?_
      with_reducible refine ev_next ?_
      with_reducible refine ev_nx ?_
      exact last _ _ _ _ _ _ _ _ _ _ _ (no fun z => by rw [e2] at z; cases z)
  have no : (k1 = true → a.length ≤ ta) → M = R1 := fun h => by
    rw [h1]
    split
    · rename_i k
      rw [List.drop_eq_nil_of_le (h k)]; rfl
    · rfl
  have l1 : R1.length ≤ 6000000 := by
    rw [h1]
    split
    · have := putAllM_len (isE := isE) (R := M) (L := a.drop ta) (b := (a[ta]?.map (·.1)).getD 0)
      rw [List.length_drop] at this
      omega
    · omega
  with_reducible refine ev_seq (ev_ifS (ev_and ?_))
  walk_at "evs"
  refine ev_kAnd (fun e2 => ?_) (fun e2 => ?_)
  · have e2 : k1 = true := e2
    walk_at "evs"
    refine ev_kIfS (fun c => ?_) (fun c => ?_)
    · have hlt : ta < a.length := by have := of_decide_eq_true c; rw [List.length_map] at this; omega
      obtain ⟨s, hs⟩ : ∃ s, a[ta]? = some s := ⟨_, List.getElem?_eq_getElem hlt⟩
      walk_at "evs"
      rw [cut_lo, ← List.map_drop]
      walk_at "evs"
      refine ev_ix (b := true) rfl (atI_map hs) ?_
      walk_at "evs"
      refine ev_kUser (by simp [owns]) rfl ⟨β, inferInstance, enc, isE, M, a.drop ta, s.1, rfl, ok, by rw [List.length_drop]; omega, ?_⟩
      with_reducible refine ev_kExpr ?_
      with_reducible refine ev_nx ?_
      have e3 : putAllM isE M (a.drop ta) s.1 = R1 := by rw [h1, if_pos e2, hs]; rfl
      rw [e3]
      exact second l1 (.int ta)
    · have hge : a.length ≤ ta := by have := of_decide_eq_false c; rw [List.length_map] at this; omega
      with_reducible refine ev_next ?_
      with_reducible refine ev_nx ?_
      rw [no fun _ => hge]
      exact second l1 (.int ta)
  · have e2 : k1 = false := e2
    with_reducible refine ev_kIfS_f ?_
    with_reducible refine ev_next ?_
    with_reducible refine ev_nx ?_
    rw [no fun z => by rw [e2] at z; cases z]
    exact second l1 (.int ta)
theorem comb_mid {S : Addr → Option DSpec} {β : Type} [DecidableEq β] {enc : β → PyData} {isE : β → Bool} {E : Int → Prop} {G : β → Prop} {rule : β → β → β} {Mx : Nat} {a b : List (Slab β)} {a0 b0 : Slab β} {f : Addr} {sp : DSpec} {k1 k2 : Bool} {fa ta fb tb : Nat} {x4 x5 : PyData} {n b' c' : Den → Prop} {r : DV → Den → Prop}
    (hS : S f = some sp) (hR : RuleOk enc G rule sp) (ok : CombOk enc isE E G rule Mx) (ha : Form E G a) (hb : Form E G b) (ea : a.head? = some a0) (eb : b.head? = some b0) (fa1 : ∀ s ∈ a.take fa, s.2.1 ≤ max a0.1 b0.1) (fb1 : ∀ s ∈ b.take fb, s.2.1 ≤ max a0.1 b0.1) (hta : ta ≤ a.length) (htb : tb ≤ b.length)
    (q : ∀ M, Form E G M → (∀ z, at' M z = (at' (pre (k1, k2) a b fa fb) z).or (comb (k1, k2) rule isE (at' ((a.drop fa).take (ta - fa)) z) (at' ((b.drop fb).take (tb - fb)) z))) → n [some (.dat (eSl enc a)), some (.dat (eSl enc b)), some (.fn (.ref f)), some (.dat (.tuple [.bool k1, .bool k2])), some (.dat x4), some (.dat x5), some (.dat (.int fa)), some (.dat (.int fb)), some (.dat (.int ta)), some (.dat (.int tb)), some (.lst (M.map (eS enc)))]) :
    W_comb_mid S (DE.mk n r b' c') [some (.dat (eSl enc a)), some (.dat (eSl enc b)), some (.fn (.ref f)), some (.dat (.tuple [.bool k1, .bool k2])), some (.dat x4), some (.dat x5), some (.dat (.int fa)), some (.dat (.int fb)), some (.dat (.int ta)), some (.dat (.int tb)), some (.lst ((pre (k1, k2) a b fa fb).map (eS enc)))] := by
  have szl : sizeLine = 16777216 := rfl
  have few : ∀ {R : List (Slab β)}, Form E G R → R.length ≤ 1000000 := fun h => Nat.le_trans (Form.few ok.few h) ok.hM
  have fp := pre_form (keeps := (k1, k2)) ha hb ea eb fa1 fb1
  have lp := few fp
  have la := few ha
  have lb := few hb
  have cutm : ∀ {l : List (Slab β)} {i j : Nat}, i < j → j ≤ l.length → cutD (l.map (eS enc)) (some (i : Int)) (some (j : Int)) = ((l.drop i).take (j - i)).map (eS enc) := fun {l i j} h1 h2 => by
    rw [cut_both _ _ _ (by omega) (by rw [List.length_map]; exact h2), List.map_take, List.map_drop]
  -- the two kinds of one alone
  have onlyA : tb ≤ fb → wIfS (wAnd (wTru (wBin oIx (wName 3) (wC (.int 0)))) (wTest (wBin oLt (wName 6) (wName 8)))) (wExpr (wUser sp_put_all (wCons (wName 10) (wCons (wSl (wName 0) (wPart (wName 6)) (wPart (wName 8))) (wCons (wBin oIx (wBin oIx (wName 0) (wName 6)) (wC (.int 0))) wNil))))) (wIfS (wAnd (wTru (wBin oIx (wName 3) (wC (.int 1)))) (wTest (wBin oLt (wName 7) (wName 9)))) (wExpr (wUser sp_put_all (wCons (wName 10) (wCons (wSl (wName 1) (wPart (wName 7)) (wPart (wName 9))) (wCons (wBin oIx (wBin oIx (wName 1) (wName 7)) (wC (.int 0))) wNil))))) wNext) (DE.mk n r b' c') [some (.dat (eSl enc a)), some (.dat (eSl enc b)), some (.fn (.ref f)), some (.dat (.tuple [.bool k1, .bool k2])), some (.dat x4), some (.dat x5), some (.dat (.int fa)), some (.dat (.int fb)), some (.dat (.int ta)), some (.dat (.int tb)), some (.lst ((pre (k1, k2) a b fa fb).map (eS enc)))] := by
    intro hn
    have skip : (k1 = true → ta ≤ fa) → wIfS (wAnd (wTru (wBin oIx (wName 3) (wC (.int 1)))) (wTest (wBin oLt (wName 7) (wName 9)))) (wExpr (wUser sp_put_all (wCons (wName 10) (wCons (wSl (wName 1) (wPart (wName 7)) (wPart (wName 9))) (wCons (wBin oIx (wBin oIx (wName 1) (wName 7)) (wC (.int 0))) wNil))))) wNext (DE.mk n r b' c') [some (.dat (eSl enc a)), some (.dat (eSl enc b)), some (.fn (.ref f)), some (.dat (.tuple [.bool k1, .bool k2])), some (.dat x4), some (.dat x5), some (.dat (.int fa)), some (.dat (.int fb)), some (.dat (.int ta)), some (.dat (.int tb)), some (.lst ((pre (k1, k2) a b fa fb).map (eS enc)))] := by
      intro hk
      obtain ⟨g1, g2⟩ := mid_no (isE := isE) (rule := rule) (keeps := (k1, k2)) ha hb ea eb fa1 fb1 (.inr hn) hk (fun _ => hn)
      walk_at "evs"
      refine ev_kAnd (fun e2 => ?_) (fun e2 => ?_)
      · walk_at "evs"
        refine ev_kIfS (fun c => ?_) (fun c => ?_)
        · have := of_decide_eq_true c; omega
        · walk_at "evs"
          exact q _ g1 g2
      · with_reducible refine ev_kIfS_f ?_
        walk_at "evs"
        exact q _ g1 g2
    with_reducible refine ev_ifS (ev_and ?_)
    walk_at "evs"
    refine ev_kAnd (fun e2 => ?_) (fun e2 => ?_)
    · have e2 : k1 = true := e2
      walk_at "evs"
      refine ev_kIfS (fun c => ?_) (fun c => ?_)
      · have hlt : fa < ta := by have := of_decide_eq_true c; omega
        obtain ⟨s, hs⟩ : ∃ s, a[fa]? = some s := ⟨_, List.getElem?_eq_getElem (by omega)⟩
        obtain ⟨g1, g2⟩ := mid_a (rule := rule) (keeps := (k1, k2)) ha hb ok.hG ea eb fa1 fb1 hn hlt hs e2
        walk_at "evs"
        rw [cutm hlt hta]
        walk_at "evs"
        refine ev_ix (b := true) rfl (atI_map hs) ?_
        walk_at "evs"
        refine ev_kUser (by simp [owns]) rfl ⟨β, inferInstance, enc, isE, pre (k1, k2) a b fa fb, (a.drop fa).take (ta - fa), s.1, rfl, ok.en, by rw [List.length_take, List.length_drop]; omega, ?_⟩
        walk_at "evs"
        exact q _ g1 g2
      · have hle : ta ≤ fa := by have := of_decide_eq_false c; omega
        exact skip fun _ => hle
    · have e2 : k1 = false := e2
      with_reducible refine ev_kIfS_f ?_
      exact skip fun z => by rw [e2] at z; cases z
  with_reducible refine ev_ifS (ev_and ?_)
  walk_at "evs"
  refine ev_kAnd (fun c1 => ?_) (fun c1 => ?_)
  · have c1 : fa < ta := by have := of_decide_eq_true c1; omega
    walk_at "evs"
    refine ev_kIfS (fun c2 => ?_) (fun c2 => ?_)
    · have c2 : fb < tb := by have := of_decide_eq_true c2; omega
      obtain ⟨s, hs⟩ : ∃ s, a[fa]? = some s := ⟨_, List.getElem?_eq_getElem (by omega)⟩
      obtain ⟨t, ht⟩ : ∃ s, b[fb]? = some s := ⟨_, List.getElem?_eq_getElem (by omega)⟩
      walk_at "evs"
      rw [cutm c1 hta]
      walk_at "evs"
      rw [cutm c2 htb]
      walk_at "evs"
      refine ev_kUser (by simp [owns]) rfl ⟨β, inferInstance, enc, isE, E, G, rule, Mx, (a.drop fa).take (ta - fa), (b.drop fb).take (tb - fb), pre (k1, k2) a b fa fb, s, t, f, sp, k1, k2, rfl, hS, hR, ok, form_take _ (form_drop _ ha), form_take _ (form_drop _ hb), fp, head_mid c1 hs, head_mid c2 ht, fun u m => ?_, fun R2 g1 g2 => ?_⟩
      · have h1 := pre_below_a (keeps := (k1, k2)) ha hb ea eb fa1 fb1 hs u m
        have h2 := pre_below_b (keeps := (k1, k2)) ha hb ea eb fa1 fb1 ht u m
        omega
      · walk_at "evs"
        exact q _ g1 g2
    · have c2 : tb ≤ fb := by have := of_decide_eq_false c2; omega
      exact onlyA c2
  · have c1 : ta ≤ fa := by have := of_decide_eq_false c1; omega
    with_reducible refine ev_kIfS_f ?_
    by_cases hn : tb ≤ fb
    · exact onlyA hn
    -- slabs of b alone
    have second : wIfS (wAnd (wTru (wBin oIx (wName 3) (wC (.int 1)))) (wTest (wBin oLt (wName 7) (wName 9)))) (wExpr (wUser sp_put_all (wCons (wName 10) (wCons (wSl (wName 1) (wPart (wName 7)) (wPart (wName 9))) (wCons (wBin oIx (wBin oIx (wName 1) (wName 7)) (wC (.int 0))) wNil))))) wNext (DE.mk n r b' c') [some (.dat (eSl enc a)), some (.dat (eSl enc b)), some (.fn (.ref f)), some (.dat (.tuple [.bool k1, .bool k2])), some (.dat x4), some (.dat x5), some (.dat (.int fa)), some (.dat (.int fb)), some (.dat (.int ta)), some (.dat (.int tb)), some (.lst ((pre (k1, k2) a b fa fb).map (eS enc)))] := by
      with_reducible refine ev_ifS (ev_and ?_)
      walk_at "evs"
      refine ev_kAnd (fun e2 => ?_) (fun e2 => ?_)
      · have e2 : k2 = true := e2
        walk_at "evs"
        refine ev_kIfS (fun c => ?_) (fun c => ?_)
        · have hlt : fb < tb := by omega
          obtain ⟨s, hs⟩ : ∃ s, b[fb]? = some s := ⟨_, List.getElem?_eq_getElem (by omega)⟩
          obtain ⟨g1, g2⟩ := mid_b (rule := rule) (keeps := (k1, k2)) ha hb ok.hG ea eb fa1 fb1 c1 hlt hs e2
          walk_at "evs"
          rw [cutm hlt htb]
          walk_at "evs"
          refine ev_ix (b := true) rfl (atI_map hs) ?_
          walk_at "evs"
          refine ev_kUser (by simp [owns]) rfl ⟨β, inferInstance, enc, isE, pre (k1, k2) a b fa fb, (b.drop fb).take (tb - fb), s.1, rfl, ok.en, by rw [List.length_take, List.length_drop]; omega, ?_⟩
          walk_at "evs"
          exact q _ g1 g2
        · have := of_decide_eq_false c; omega
      · have e2 : k2 = false := e2
        with_reducible refine ev_kIfS_f ?_
        obtain ⟨g1, g2⟩ := mid_no (isE := isE) (rule := rule) (keeps := (k1, k2)) ha hb ea eb fa1 fb1 (.inl c1) (fun _ => c1) (fun z => by have z : k2 = true := z; rw [e2] at z; cases z)
        walk_at "evs"
        exact q _ g1 g2
    with_reducible refine ev_ifS (ev_and ?_)
    walk_at "evs"
    refine ev_kAnd (fun e2 => ?_) (fun e2 => ?_)
    · walk_at "evs"
      refine ev_kIfS (fun c => ?_) (fun c => ?_)
      · have := of_decide_eq_true c; omega
      · exact second
    · with_reducible refine ev_kIfS_f ?_
      exact second
def sp_combined (S : Addr → Option DSpec) : DSpec := fun ds K' => ∃ (β : Type) (_ : DecidableEq β) (enc : β → PyData) (isE : β → Bool) (E : Int → Prop) (G : β → Prop) (rule : β → β → β) (M : Nat) (a b : List (Slab β)) (f : Addr) (sp : DSpec) (k1 k2 : Bool),
  ds = [.dat (eSl enc a), .dat (eSl enc b), .fn (.ref f), .dat (.tuple [.bool k1, .bool k2])] ∧ S f = some sp ∧ RuleOk enc G rule sp ∧ CombOk enc isE E G rule M ∧ Form E G a ∧ Form E G b ∧
  ∀ R2, Form E G R2 → (∀ z, at' R2 z = comb (k1, k2) rule isE (at' a z) (at' b z)) → ∀ outs, K' (.dat (eSl enc R2)) outs
theorem wp_combined (S : Addr → Option DSpec) : ∀ ds K', sp_combined S ds K' → W_combined sp_first_ending_beyond sp_first_beginning_from sp_put_all (sp_lay_over S) { nx := fun ρ => K' (.dat .none) (outsOf ds ρ), rt := fun r ρ => K' r (outsOf ds ρ) } (startD N_combined ds) := by
  rintro ds K' ⟨β, _, enc, isE, E, G, rule, Mx, a, b, f, sp, k1, k2, rfl, hS, hR, ok, ha, hb, q⟩
  unfold W_combined
  have szl : sizeLine = 16777216 := rfl
  have few : ∀ {R : List (Slab β)}, Form E G R → R.length ≤ 1000000 := fun h => Nat.le_trans (Form.few ok.few h) ok.hM
  have la := few ha
  have lb := few hb
  walk_at "evs"
  cases a with
  | nil =>
    refine ev_kIfS (fun _ => ?_) (fun z => nomatch z)
    walk_at "evs"
    refine ev_kIf (fun e => ?_) (fun e => ?_)
    · have e : k2 = true := e
      walk_at "evs"
      refine q b hb (fun z => ?_) _
      simp only [at']
      rw [comb_none_l, if_pos e]
    · have e : k2 = false := e
      walk_at "evs"
      refine q [] trivial (fun z => ?_) _
      simp only [at']
      rw [comb_none_l, if_neg (by show ¬ k2 = true; rw [e]; decide)]
  | cons a0 ra =>
    refine ev_kIfS (fun z => nomatch z) (fun _ => ?_)
    walk_at "evs"
    cases b with
    | nil =>
      refine ev_kIfS (fun _ => ?_) (fun z => nomatch z)
      walk_at "evs"
      refine ev_kIf (fun e => ?_) (fun e => ?_)
      · have e : k1 = true := e
        walk_at "evs"
        refine q (a0 :: ra) ha (fun z => ?_) _
        rw [show at' ([] : List (Slab β)) z = none from rfl, comb_none_r, if_pos e]
      · have e : k1 = false := e
        walk_at "evs"
        refine q [] trivial (fun z => ?_) _
        rw [show at' ([] : List (Slab β)) z = none from rfl, comb_none_r, if_neg (by show ¬ k1 = true; rw [e]; decide)]
    | cons b0 rb =>
      refine ev_kIfS (fun z => nomatch z) (fun _ => ?_)
      have ea : (a0 :: ra).head? = some a0 := rfl
      have eb : (b0 :: rb).head? = some b0 := rfl
      generalize a0 :: ra = a at *
      generalize b0 :: rb = b at *
      have at0 : ∀ {c : List (Slab β)} {s : Slab β}, c.head? = some s → atI (c.map (eS enc)) 0 = some (eS enc s) := fun {c s} e => by
        cases c with
        | nil => cases e
        | cons u r => cases e; exact atI_map (i := 0) rfl
      have at1 : ∀ {c : List (Slab β)} {s : Slab β}, c.getLast? = some s → atI (c.map (eS enc)) (-1) = some (eS enc s) := fun {c s} e => by
        rcases nil_or_last c with rfl | ⟨L, l, rfl⟩
        · cases e
        · have : l = s := by simpa using e
          subst this
          rw [List.map_append]
          exact atI_last _ _
      have lst : ∀ {c : List (Slab β)} {s : Slab β}, c.head? = some s → ∃ l, c.getLast? = some l := fun {c s} e => by
        rcases nil_or_last c with rfl | ⟨L, l, rfl⟩
        · cases e
        · exact ⟨l, by simp⟩
      obtain ⟨al, ela⟩ := lst ea
      obtain ⟨bl, elb⟩ := lst eb
      walk_at "evs"
      refine ev_ix (b := true) rfl (at0 ea) ?_
      walk_at "evs"
      refine ev_ix (b := true) rfl (at0 eb) ?_
      walk_at "evs"
      refine ev_ix (b := true) rfl (at1 ela) ?_
      walk_at "evs"
      refine ev_ix (b := true) rfl (at1 elb) ?_
      walk_at "evs"
      refine ev_kUser0 rfl rfl ⟨β, enc, E, G, a, max a0.1 b0.1, rfl, ha, fun fa lfa fa1 fa2 _ => ?_⟩
      walk_at "evs"
      refine ev_kUser0 rfl rfl ⟨β, enc, E, G, b, max a0.1 b0.1, rfl, hb, fun fb lfb fb1 fb2 _ => ?_⟩
      walk_at "evs"
      refine ev_kUser0 rfl rfl ⟨β, enc, E, G, a, min al.2.1 bl.2.1, rfl, ha, fun ta' lta' ta1' ta2' _ => ?_⟩
      walk_at "evs"
      refine ev_kUser0 rfl rfl ⟨β, enc, E, G, b, min al.2.1 bl.2.1, rfl, hb, fun tb' ltb' tb1' tb2' _ => ?_⟩
      walk_at "evs"
      have mx : ∀ x y : Nat, max (x : Int) (y : Int) = ((max x y : Nat) : Int) := fun x y => by omega
      rw [mx, mx]
      have dropr : ∀ {l : List (Slab β)} {i j : Nat} {s : Slab β}, i ≤ j → s ∈ l.drop j → s ∈ l.drop i := fun {l i j s} h m => by
        have : l.drop j = (l.drop i).drop (j - i) := by rw [List.drop_drop]; congr 1; omega
        rw [this] at m
        exact List.mem_of_mem_drop m
      have ta2 : ∀ s ∈ a.drop (max fa ta'), min al.2.1 bl.2.1 ≤ s.1 := fun s m => ta2' s (dropr (Nat.le_max_right _ _) m)
      have tb2 : ∀ s ∈ b.drop (max fb tb'), min al.2.1 bl.2.1 ≤ s.1 := fun s m => tb2' s (dropr (Nat.le_max_right _ _) m)
      have lta : fa ≤ max fa ta' := Nat.le_max_left _ _
      have ltb : fb ≤ max fb tb' := Nat.le_max_left _ _
      have hta : max fa ta' ≤ a.length := Nat.max_le.mpr ⟨lfa, lta'⟩
      have htb : max fb tb' ≤ b.length := Nat.max_le.mpr ⟨lfb, ltb'⟩
      generalize max fa ta' = ta at *
      generalize max fb tb' = tb at *
      -- behind the slabs ahead
      have go : ∀ (r : DV → Den → Prop) (n b' c' : Den → Prop), (∀ R ρ, r R ρ = K' R (outsOf [.dat (eSl enc a), .dat (eSl enc b), .fn (.ref f), .dat (.tuple [.bool k1, .bool k2])] ρ)) → ∀ (P : List (Slab β)), P = pre (k1, k2) a b fa fb →
          wSeq (W_comb_mid S) W_comb_end (DE.mk n r b' c') [some (.dat (eSl enc a)), some (.dat (eSl enc b)), some (.fn (.ref f)), some (.dat (.tuple [.bool k1, .bool k2])), some (.dat (.int (max a0.1 b0.1))), some (.dat (.int (min al.2.1 bl.2.1))), some (.dat (.int fa)), some (.dat (.int fb)), some (.dat (.int ta)), some (.dat (.int tb)), some (.lst (P.map (eS enc)))] := by
        intro r n b' c' hr P hP
        subst hP
        with_reducible refine ev_seq ?_
        refine comb_mid hS hR ok ha hb ea eb fa1 fb1 hta htb fun M g1 g2 => ?_
        have hM := few g1
        refine comb_end ok.en (by omega) la lb rfl rfl fun ρ => ?_
        rw [hr]
        obtain ⟨f1, f2⟩ := comb_done (keeps := (k1, k2)) (isE := isE) (rule := rule) ha hb ok.hG ea eb ela elb fa1 fa2 fb1 fb2 lta ltb ta2 tb2 g1 g2 rfl rfl
        exact q _ f1 f2 _
      have fp := pre_form (keeps := (k1, k2)) ha hb ea eb fa1 fb1
      have lp := few fp
      refine ev_kIf (fun e1 => ?_) (fun e1 => ?_)
      · have e1 : k1 = true := e1
        subst e1
        walk_at "evs"
        rw [cut_hi, ← List.map_take]
        walk_at "evs"
        refine ev_kIfS (fun e2 => ?_) (fun e2 => ?_)
        · have e2 : k2 = true := e2
          subst e2
          walk_at "evs"
          rw [cut_hi, ← List.map_take]
          refine ev_kExt2 rfl (by rw [List.length_map, List.length_map, List.length_take, List.length_take]; omega) ?_
          with_reducible refine ev_kExpr ?_
          with_reducible refine ev_nx ?_
          rw [← List.map_append]
          exact go _ _ _ _ (fun _ _ => rfl) (a.take fa ++ b.take fb) rfl
        · have e2 : k2 = false := e2
          subst e2
          with_reducible refine ev_next ?_
          with_reducible refine ev_nx ?_
          exact go _ _ _ _ (fun _ _ => rfl) (a.take fa) (by unfold pre; simp)
      · have e1 : k1 = false := e1
        subst e1
        walk_at "evs"
        refine ev_kIfS (fun e2 => ?_) (fun e2 => ?_)
        · have e2 : k2 = true := e2
          subst e2
          walk_at "evs"
          rw [cut_hi, ← List.map_take]
          refine ev_kExt2 rfl (by rw [List.length_map, List.length_take]; simp; omega) ?_
          with_reducible refine ev_kExpr ?_
          with_reducible refine ev_nx ?_
          rw [List.nil_append]
          exact go _ _ _ _ (fun _ _ => rfl) (b.take fb) (by unfold pre; simp)
        · have e2 : k2 = false := e2
          subst e2
          with_reducible refine ev_next ?_
          with_reducible refine ev_nx ?_
          exact go _ _ _ _ (fun _ _ => rfl) [] (by unfold pre; simp)

end K41
end
section
set_option Elab.async false
set_option linter.all false
set_option maxRecDepth 100000
set_option maxHeartbeats 1000000
namespace K41
open PySem L2 DL SM
local macro_rules | `(tactic| walk_at "ev") => `(tactic| first
  | (with_reducible refine ev_seq ?_)
  | (with_reducible refine ev_next ?_)
  | (with_reducible refine ev_break ?_)
  | (with_reducible refine ev_cont ?_)
  | (with_reducible refine ev_expr ?_)
  | (with_reducible refine ev_kExpr ?_)
  | (with_reducible refine ev_ret ?_)
  | (with_reducible refine ev_retN ?_)
  | (with_reducible refine ev_kRet_dat ?_)
  | (with_reducible refine ev_kRet_lst ?_)
  | (with_reducible refine ev_ifS ?_)
  | (with_reducible refine ev_kIfS_t ?_)
  | (with_reducible refine ev_kIfS_f ?_)
  | (with_reducible refine ev_set ?_)
  | (with_reducible refine ev_par ?_)
  | (with_reducible refine ev_asg ?_)
  | (with_reducible refine ev_put ?_)
  | (with_reducible refine ev_kPut1 ?_)
  | (with_reducible refine ev_kPut2 ?_)
  | (with_reducible refine ev_for ?_)
  | (with_reducible refine ev_kFor ?_)
  | (with_reducible refine ev_seqI ?_)
  | (with_reducible refine ev_kSeqI_l ?_)
  | (with_reducible refine ev_kSeqI_t ?_)
  | (with_reducible refine ev_kSeqI_n ?_)
  | (with_reducible refine ev_rng1 ?_)
  | (with_reducible refine ev_rng2 ?_)
  | (with_reducible refine ev_rng3 ?_)
  | (with_reducible refine ev_c ?_)
  | (with_reducible refine ev_fn ?_)
  | (with_reducible refine ev_bin ?_)
  | (with_reducible refine ev_kBin1 ?_)
  | (with_reducible refine ev_intT ?_)
  | (with_reducible refine ev_eqI ?_)
  | (with_reducible refine ev_neI ?_)
  | (with_reducible refine ev_isN ?_)
  | (with_reducible refine ev_neg ?_)
  | (with_reducible refine ev_kNeg ?_)
  | (with_reducible refine ev_not ?_)
  | (with_reducible refine ev_kNot ?_)
  | (with_reducible refine ev_test ?_)
  | (with_reducible refine ev_kTest ?_)
  | (with_reducible refine ev_tru ?_)
  | (with_reducible refine ev_and ?_)
  | (with_reducible refine ev_or ?_)
  | (with_reducible refine ev_kAnd_t ?_)
  | (with_reducible refine ev_kAnd_f ?_)
  | (with_reducible refine ev_kOr_t ?_)
  | (with_reducible refine ev_kOr_f ?_)
  | (with_reducible refine ev_if ?_)
  | (with_reducible refine ev_kIf_t ?_)
  | (with_reducible refine ev_kIf_f ?_)
  | (with_reducible refine ev_andV ?_)
  | (with_reducible refine ev_orV ?_)
  | (with_reducible refine ev_kAndV_t ?_)
  | (with_reducible refine ev_kAndV_f ?_)
  | (with_reducible refine ev_kOrV_t ?_)
  | (with_reducible refine ev_kOrV_f ?_)
  | (with_reducible refine ev_notV ?_)
  | (with_reducible refine ev_kNotV ?_)
  | (with_reducible refine ev_isi ?_)
  | (with_reducible refine ev_nil ?_)
  | (with_reducible refine ev_kCons2 ?_)
  | (with_reducible refine ev_cons ?_)
  | (with_reducible refine ev_kCons1_dat ?_)
  | (with_reducible refine ev_kCons1_fn ?_)
  | (with_reducible refine ev_kCons1_own ?_)
  | (with_reducible refine ev_kCons1_lst ?_)
  | (with_reducible refine ev_star ?_)
  | (with_reducible refine ev_kStar2 ?_)
  | (with_reducible refine ev_tup ?_)
  | (with_reducible refine ev_lst ?_)
  | (with_reducible refine ev_noPart ?_)
  | (with_reducible refine ev_part ?_)
  | (with_reducible refine ev_kPart ?_)
  | (with_reducible refine ev_sl ?_)
  | (with_reducible refine ev_kSl1 ?_)
  | (with_reducible refine ev_kSl2 ?_)
  | (with_reducible refine ev_rev ?_)
  | (with_reducible refine ev_call ?_)
  | (with_reducible refine ev_max2 ?_)
  | (with_reducible refine ev_min2 ?_)
  | (with_reducible refine ev_int1 ?_)
  | (with_reducible refine ev_user ?_)
  | (with_reducible refine ev_app ?_)
  | (with_reducible refine ev_ext ?_)
  | (with_reducible refine ev_lc ?_)
  | ((with_reducible refine' ev_name ?k0 ?k1 ?_); (case k0 => rfl); (case k1 => rfl))
  | ((with_reducible refine' ev_nameO ?k0 ?k1 ?_); (case k0 => rfl); (case k1 => rfl))
  | ((with_reducible refine' ev_nameF_dat ?k0 ?_); (case k0 => rfl))
  | ((with_reducible refine' ev_nameF_fn ?k0 ?_); (case k0 => rfl))
  | ((with_reducible refine' ev_nameF_arg ?k0 ?_); (case k0 => rfl))
  | ((with_reducible refine' ev_nameF_lst ?k0 ?_); (case k0 => rfl))
  | ((with_reducible refine' ev_kSet_dat ?k0 ?_); (case k0 => rfl))
  | ((with_reducible refine' ev_kSet_lst ?k0 ?_); (case k0 => rfl))
  | ((with_reducible refine' ev_kSet_fn ?k0 ?_); (case k0 => rfl))
  | ((with_reducible refine' ev_kPar ?k0 ?k1 ?k2 ?k3 ?_); (case k0 => rfl); (case k1 => rfl); (case k2 => rfl); (case k3 => rfl))
  | ((with_reducible refine' ev_kAsg ?k0 ?_); (case k0 => rfl))
  | ((with_reducible refine' ev_aug ?k0 ?_); (case k0 => rfl))
  | ((with_reducible refine' ev_kAug ?k0 ?_); (case k0 => rfl))
  | ((with_reducible refine' ev_kPut3 ?k0 ?k1 ?_); (case k0 => rfl); (case k1 => rfl))
  | ((with_reducible refine' ev_ix ?k0 ?k1 ?_); (case k0 => rfl); (case k1 => rfl))
  | ((with_reducible refine' ev_kTru ?k0 ?_); (case k0 => rfl))
  | ((with_reducible refine' ev_kIsi ?k0 ?k1 ?_); (case k0 => rfl); (case k1 => rfl))
  | ((with_reducible refine' ev_kStar1 ?k0 ?_); (case k0 => rfl))
  | ((with_reducible refine' ev_kSl3_t ?k0 ?_); (case k0 => rfl))
  | ((with_reducible refine' ev_kSl3_l ?k0 ?_); (case k0 => rfl))
  | ((with_reducible refine' ev_kRev_t ?k0 ?_); (case k0 => rfl))
  | ((with_reducible refine' ev_kRev_l ?k0 ?_); (case k0 => rfl))
  | ((with_reducible refine' ev_len ?k0 ?_); (case k0 => rfl))
  | ((with_reducible refine' ev_tuple ?k0 ?_); (case k0 => rfl))
  | ((with_reducible refine' ev_list ?k0 ?_); (case k0 => rfl))
  | ((with_reducible refine' ev_kApp1 ?k0 ?_); (case k0 => rfl))
  | ((with_reducible refine' ev_kExt1 ?k0 ?_); (case k0 => rfl))
  | ((with_reducible refine' ev_kRet_own ?k0 ?_); (case k0 => rfl))
  | ((with_reducible refine' ev_kTup ?k0 ?k1 ?_); (case k0 => rfl); (case k1 => simp [sizeLine]))
  | ((with_reducible refine' ev_kLst ?k0 ?k1 ?_); (case k0 => rfl); (case k1 => simp [sizeLine]))
  | (with_reducible refine ev_nx ?_)
  | (with_reducible refine ev_rt ?_)
  | (with_reducible refine ev_bk ?_)
  | (with_reducible refine ev_ct ?_)
)
local macro_rules | `(tactic| walk_at "evs") => `(tactic| repeat (walk_at "ev"))
theorem rs2 (n : Nat) : Builtin.Range.rangeSize 0 n 2 = (((n + 1) / 2 : Nat) : Int) := by
  unfold Builtin.Range.rangeSize
  rw [if_pos (by decide)]
  split <;> omega
theorem rg2 (n : Nat) (h : n ≤ 1000000) : RgC 0 n 2 ((n + 1) / 2) := by
  have fl : ∀ i : Int, 0 ≤ i → i ≤ 2000000 → Builtin.Range.rangeFitsLong i = true := fun i h1 h2 => by
    unfold Builtin.Range.rangeFitsLong
    simp
    omega
  refine ⟨by decide, by decide, ?_, rs2 n⟩
  unfold Builtin.Range.small
  rw [rs2, fl 0 (by omega) (by omega), fl n (by omega) (by omega), fl 2 (by omega) (by omega), fl _ (by omega) (by omega), if_pos (by decide), fl _ (by omega) (by omega)]
  simp
theorem encOk_row : EncOk eRow List.isEmpty where
  tru := fun x => by cases x <;> rfl
  eqv := fun x y => by rw [Pd.eqv (pd_eRow 0 x) (pd_eRow 0 y)]; exact ⟨eRow_inj, fun e => by rw [e]⟩
  sh := fun x => Pd.shaped (pd_eRow 0 x)
theorem encOk_lay : EncOk eLay List.isEmpty where
  tru := fun x => by cases x <;> rfl
  eqv := fun x y => by rw [Pd.eqv (pd_eLay 0 x) (pd_eLay 0 y)]; exact ⟨eLay_inj x y, fun e => by rw [e]⟩
  sh := fun x => Pd.shaped (pd_eLay 0 x)
theorem rule_rows {E : Int → Prop} {M : Nat} (few : Few E M) (hM : M ≤ 1000000) : RuleOk eRow (FRow E) joinR sp_joined_rows := fun x y K1 gx gy k =>
  ⟨E, x, y, rfl, gx.1, gy.1, gx.2, gy.2, Nat.le_trans (Form.few few gx.1) hM, Nat.le_trans (Form.few few gy.1) hM, fun R f1 _ f3 outs => by
    obtain ⟨h1, h2, _⟩ := joinR_ok gx.1 gy.1
    have e : R = joinR x y := ext f1 h1 fun z => by rw [f3, h2]
    rw [e]; exact k outs⟩
theorem comb_rows {E : Int → Prop} {M : Nat} (few : Few E M) (hM : M ≤ 1000000) : CombOk eRow List.isEmpty E (FRow E) joinR M := ⟨encOk_row, few, hM, fun x g => ne_isE g.2, row_hr joinR_rule⟩
def sp_joined_layers : DSpec := fun ds K' => ∃ (E : Int → Prop) (M : Nat) (a b : Lay), ds = [.dat (eLay a), .dat (eLay b)] ∧ Few E M ∧ M ≤ 1000000 ∧ Form E (FRow E) a ∧ Form E (FRow E) b ∧ ∀ outs, K' (.dat (eLay (joinL a b))) outs
theorem wp_joined_layers (aR : Addr) : ∀ ds K', sp_joined_layers ds K' → W_joined_layers (sp_combined (only aR sp_joined_rows)) aR { nx := fun ρ => K' (.dat .none) (outsOf ds ρ), rt := fun r ρ => K' r (outsOf ds ρ) } (startD N_joined_layers ds) := by
  rintro ds K' ⟨E, M, a, b, rfl, few, hM, ha, hb, q⟩
  unfold W_joined_layers
  walk_at "evs"
  refine ev_kUser0 rfl rfl ⟨Row, SM.decRow, eRow, List.isEmpty, E, FRow E, joinR, M, a, b, aR, sp_joined_rows, true, true, rfl, only_self, rule_rows few hM, comb_rows few hM, ha, hb, fun R f1 f2 outs => ?_⟩
  walk_at "evs"
  have e : joinL a b = R := canon_eq f1 f2
  rw [← show eLay (joinL a b) = eSl eRow R by rw [e]]
  exact q _
theorem rule_lays {E : Int → Prop} {M : Nat} (few : Few E M) (hM : M ≤ 1000000) : RuleOk eLay (FLay E) joinL sp_joined_layers := fun x y K1 gx gy k => ⟨E, M, x, y, rfl, few, hM, gx.1, gy.1, k⟩
theorem comb_lays {E : Int → Prop} {M : Nat} (few : Few E M) (hM : M ≤ 1000000) : CombOk eLay List.isEmpty E (FLay E) joinL M := ⟨encOk_lay, few, hM, fun x g => ne_isE g.2, lay_hr op_or joinR_rule⟩
def sp_union : DSpec := fun ds K' => ∃ (E : Int → Prop) (M : Nat) (a b : Sol), ds = [.dat (eSol a), .dat (eSol b)] ∧ Few E M ∧ M ≤ 1000000 ∧ FSol E a ∧ FSol E b ∧ ∀ outs, K' (.dat (eSol (joinS a b))) outs
theorem wp_union (aL : Addr) : ∀ ds K', sp_union ds K' → W_union (sp_combined (only aL sp_joined_layers)) aL { nx := fun ρ => K' (.dat .none) (outsOf ds ρ), rt := fun r ρ => K' r (outsOf ds ρ) } (startD N_union ds) := by
  rintro ds K' ⟨E, M, a, b, rfl, few, hM, ha, hb, q⟩
  unfold W_union
  walk_at "evs"
  refine ev_kUser0 rfl rfl ⟨Lay, SM.decLay, eLay, List.isEmpty, E, FLay E, joinL, M, a, b, aL, sp_joined_layers, true, true, rfl, only_self, rule_lays few hM, comb_lays few hM, ha, hb, fun R f1 f2 outs => ?_⟩
  walk_at "evs"
  have e : joinS a b = R := canon_eq f1 f2
  rw [← show eSol (joinS a b) = eSl eLay R by rw [e]]
  exact q _
def sp_union_of : DSpec := fun ds K' => ∃ (E : Int → Prop) (M : Nat) (rows : List Sol), ds = [.dat (.list (rows.map eSol))] ∧ Few E M ∧ M ≤ 1000000 ∧ (∀ s ∈ rows, FSol E s) ∧ rows.length ≤ 1000000 ∧ ∀ U, FSol E U → (∀ p, cS U p = rows.any (cS · p)) → ∀ outs, K' (.dat (eSol U)) outs
theorem take_two {α : Type} {l : List α} {t : Nat} {x y : α} (h1 : l[2 * t]? = some x) (h2 : l[2 * t + 1]? = some y) : l.take (2 * (t + 1)) = l.take (2 * t) ++ [x, y] := by
  rw [show 2 * (t + 1) = (2 * t + 1) + 1 by omega, List.take_add_one, List.take_add_one, h1, h2]
  simp
theorem wp_union_of : ∀ ds K', sp_union_of ds K' → W_union_of sp_union { nx := fun ρ => K' (.dat .none) (outsOf ds ρ), rt := fun r ρ => K' r (outsOf ds ρ) } (startD N_union_of ds) := by
  rintro ds K' ⟨E, M, rows0, rfl, few, hM, hF0, hl0, q⟩
  have szl : sizeLine = 16777216 := rfl
  unfold W_union_of
  walk_at "evs"
  refine ev_while_cut (fun m ρ => ∃ rows : List Sol, ρ = [some (.dat (.list (rows0.map eSol))), some (.lst (rows.map eSol)), none] ∧ m = rows.length ∧ rows.length ≤ 1000000 ∧ (∀ s ∈ rows, FSol E s) ∧ ∀ p, rows.any (cS · p) = rows0.any (cS · p))
    (fun ρ => ∃ rows : List Sol, ρ = [some (.dat (.list (rows0.map eSol))), some (.lst (rows.map eSol)), none] ∧ rows.length ≤ 1 ∧ (∀ s ∈ rows, FSol E s) ∧ ∀ p, rows.any (cS · p) = rows0.any (cS · p))
    ⟨_, rows0, rfl, rfl, hl0, hF0, fun _ => rfl⟩ ?_ ?_
  · rintro ρ ⟨rows, rfl, hl, hF, hc⟩
    walk_at "evs"
    cases rows with
    | nil =>
      refine ev_kIf_f ?_
      walk_at "evs"
      exact q [] trivial (fun p => hc p) _
    | cons s r =>
      have : r = [] := by
        cases r with
        | nil => rfl
        | cons _ _ => simp at hl
      subst this
      refine ev_kIf_t ?_
      walk_at "evs"
      refine q s (hF s List.mem_cons_self) (fun p => ?_) _
      have := hc p
      rw [← this]
      simp
  · rintro N hN m ρ ⟨rows, rfl, rfl, hl, hF, hc⟩
    walk_at "evs"
    refine ev_kWh (fun c => ?_) (fun c => ?_)
    · have c : 1 < rows.length := by have := of_decide_eq_true c; rw [List.length_map] at this; omega
      walk_at "evs"
      rw [List.length_map]
      refine ev_kRng3 (rg2 rows.length hl) ?_
      refine lcGo_ind (I := fun acc left ρ => ∃ (t : Nat) (acc' : List Sol), ρ = [some (.dat (.list (rows0.map eSol))), some (.lst (rows.map eSol)), none] ∧ acc = acc'.map eSol ∧ acc'.length = t ∧ t ≤ (rows.length + 1) / 2 ∧ left = (rangeC 0 2 ((rows.length + 1) / 2)).drop t ∧ (∀ s ∈ acc', FSol E s) ∧ ∀ p, acc'.any (cS · p) = (rows.take (2 * t)).any (cS · p)) ?_ ?_ _ _ _ ?_
      · rintro acc ρ ⟨t, acc', rfl, rfl, rfl, ht, hle, hFa, hca⟩
        have ht2 : acc'.length = (rows.length + 1) / 2 := by
          have := congrArg List.length hle
          rw [List.length_drop, rangeC_len] at this
          simp at this
          omega
        walk_at "evs"
        refine ⟨acc'.length, by omega, acc', rfl, rfl, by omega, hFa, fun p => ?_⟩
        rw [hca, List.take_of_length_le (by omega), hc]
      · rintro acc x xs ρ ⟨t, acc', rfl, rfl, rfl, ht, hle, hFa, hca⟩
        have hlt : acc'.length < (rows.length + 1) / 2 := by
          have := congrArg List.length hle
          rw [List.length_drop, rangeC_len] at this
          simp at this
          omega
        have hx : (rangeC 0 2 ((rows.length + 1) / 2))[acc'.length]? = some x := by
          rw [← List.head?_drop, ← hle]; rfl
        obtain ⟨_, rfl⟩ := rangeC_get hx
        have hxs : xs = (rangeC 0 2 ((rows.length + 1) / 2)).drop (acc'.length + 1) := by
          rw [← List.tail_drop, ← hle]; rfl
        refine ⟨rfl, _, rfl, fun Gn hG => ?_⟩
        have ek : (0 : Int) + (acc'.length : Int) * 2 = ((2 * acc'.length : Nat) : Int) := by omega
        rw [ek]
        obtain ⟨u, hu⟩ : ∃ s, rows[2 * acc'.length]? = some s := ⟨_, List.getElem?_eq_getElem (by omega)⟩
        have fu := hF u (List.mem_of_getElem? hu)
        have sz : (acc'.map eSol).length < sizeLine := by rw [List.length_map]; omega
        walk_at "evs"
        refine ev_kIf (fun c2 => ?_) (fun c2 => ?_)
        · have c2 : 2 * acc'.length + 1 < rows.length := by have := of_decide_eq_true c2; rw [List.length_map] at this; omega
          obtain ⟨v, hv⟩ : ∃ s, rows[2 * acc'.length + 1]? = some s := ⟨_, List.getElem?_eq_getElem c2⟩
          have fv := hF v (List.mem_of_getElem? hv)
          walk_at "evs"
          refine ev_ix (b := false) rfl (atI_map hu) ?_
          walk_at "evs"
          refine ev_ix (b := false) rfl (show atI (rows.map eSol) (((2 * acc'.length : Nat) : Int) + 1) = some (eSol v) from atI_map (i := 2 * acc'.length + 1) hv) ?_
          walk_at "evs"
          refine ev_kUser0 rfl rfl ⟨E, M, u, v, rfl, few, hM, fu, fv, fun outs => ?_⟩
          obtain ⟨j1, _, j3⟩ := combS_ok op_or joinR_rule fu fv
          refine hG _ _ sz ⟨acc'.length + 1, acc' ++ [joinS u v], rfl, by simp, by simp, by omega, hxs, fun s m => ?_, fun p => ?_⟩
          · rcases List.mem_append.mp m with m | m
            · exact hFa s m
            · have : s = joinS u v := by simpa using m
              rw [this]; exact j1
          · rw [take_two hu hv, List.any_append, List.any_append, hca]
            simp [j3]
        · have c2 : rows.length = 2 * acc'.length + 1 := by have := of_decide_eq_false c2; rw [List.length_map] at this; omega
          walk_at "evs"
          refine ev_ix (b := false) rfl (atI_map hu) ?_
          refine hG _ _ sz ⟨acc'.length + 1, acc' ++ [u], rfl, by simp, by simp, by omega, hxs, fun s m => ?_, fun p => ?_⟩
          · rcases List.mem_append.mp m with m | m
            · exact hFa s m
            · have : s = u := by simpa using m
              rw [this]; exact fu
          · have e : rows.take (2 * (acc'.length + 1)) = rows.take (2 * acc'.length) ++ [u] := by
              rw [List.take_of_length_le (by omega), ← List.take_append_drop (2 * acc'.length) rows]
              congr 1
              · rw [List.take_append_drop]
              · rw [List.drop_eq_getElem_cons (by omega : 2 * acc'.length < rows.length), List.drop_eq_nil_of_le (by omega)]
                rw [List.getElem?_eq_getElem (by omega)] at hu
                rw [Option.some.inj hu]
            rw [e, List.any_append, List.any_append, hca]
      · exact ⟨0, [], rfl, rfl, rfl, by omega, rfl, (fun s m => nomatch m), fun p => by simp⟩
    · have c : rows.length ≤ 1 := by have := of_decide_eq_false c; rw [List.length_map] at this; omega
      exact hN _ ⟨rows, rfl, c, hF, hc⟩

end K41
end
section
set_option Elab.async false
set_option linter.all false
set_option maxRecDepth 100000
set_option maxHeartbeats 1000000
namespace K41
open PySem L2 DL SM
local macro_rules | `(tactic| walk_at "ev") => `(tactic| first
  | (with_reducible refine ev_seq ?_)
  | (with_reducible refine ev_next ?_)
  | (with_reducible refine ev_break ?_)
  | (with_reducible refine ev_cont ?_)
  | (with_reducible refine ev_expr ?_)
  | (with_reducible refine ev_kExpr ?_)
  | (with_reducible refine ev_ret ?_)
  | (with_reducible refine ev_retN ?_)
  | (with_reducible refine ev_kRet_dat ?_)
  | (with_reducible refine ev_kRet_lst ?_)
  | (with_reducible refine ev_ifS ?_)
  | (with_reducible refine ev_kIfS_t ?_)
  | (with_reducible refine ev_kIfS_f ?_)
  | (with_reducible refine ev_set ?_)
  | (with_reducible refine ev_par ?_)
  | (with_reducible refine ev_asg ?_)
  | (with_reducible refine ev_put ?_)
  | (with_reducible refine ev_kPut1 ?_)
  | (with_reducible refine ev_kPut2 ?_)
  | (with_reducible refine ev_for ?_)
  | (with_reducible refine ev_kFor ?_)
  | (with_reducible refine ev_seqI ?_)
  | (with_reducible refine ev_kSeqI_l ?_)
  | (with_reducible refine ev_kSeqI_t ?_)
  | (with_reducible refine ev_kSeqI_n ?_)
  | (with_reducible refine ev_rng1 ?_)
  | (with_reducible refine ev_rng2 ?_)
  | (with_reducible refine ev_rng3 ?_)
  | (with_reducible refine ev_c ?_)
  | (with_reducible refine ev_fn ?_)
  | (with_reducible refine ev_bin ?_)
  | (with_reducible refine ev_kBin1 ?_)
  | (with_reducible refine ev_intT ?_)
  | (with_reducible refine ev_eqI ?_)
  | (with_reducible refine ev_neI ?_)
  | (with_reducible refine ev_isN ?_)
  | (with_reducible refine ev_neg ?_)
  | (with_reducible refine ev_kNeg ?_)
  | (with_reducible refine ev_not ?_)
  | (with_reducible refine ev_kNot ?_)
  | (with_reducible refine ev_test ?_)
  | (with_reducible refine ev_kTest ?_)
  | (with_reducible refine ev_tru ?_)
  | (with_reducible refine ev_and ?_)
  | (with_reducible refine ev_or ?_)
  | (with_reducible refine ev_kAnd_t ?_)
  | (with_reducible refine ev_kAnd_f ?_)
  | (with_reducible refine ev_kOr_t ?_)
  | (with_reducible refine ev_kOr_f ?_)
  | (with_reducible refine ev_if ?_)
  | (with_reducible refine ev_kIf_t ?_)
  | (with_reducible refine ev_kIf_f ?_)
  | (with_reducible refine ev_andV ?_)
  | (with_reducible refine ev_orV ?_)
  | (with_reducible refine ev_kAndV_t ?_)
  | (with_reducible refine ev_kAndV_f ?_)
  | (with_reducible refine ev_kOrV_t ?_)
  | (with_reducible refine ev_kOrV_f ?_)
  | (with_reducible refine ev_notV ?_)
  | (with_reducible refine ev_kNotV ?_)
  | (with_reducible refine ev_isi ?_)
  | (with_reducible refine ev_nil ?_)
  | (with_reducible refine ev_kCons2 ?_)
  | (with_reducible refine ev_cons ?_)
  | (with_reducible refine ev_kCons1_dat ?_)
  | (with_reducible refine ev_kCons1_fn ?_)
  | (with_reducible refine ev_kCons1_own ?_)
  | (with_reducible refine ev_kCons1_lst ?_)
  | (with_reducible refine ev_star ?_)
  | (with_reducible refine ev_kStar2 ?_)
  | (with_reducible refine ev_tup ?_)
  | (with_reducible refine ev_lst ?_)
  | (with_reducible refine ev_noPart ?_)
  | (with_reducible refine ev_part ?_)
  | (with_reducible refine ev_kPart ?_)
  | (with_reducible refine ev_sl ?_)
  | (with_reducible refine ev_kSl1 ?_)
  | (with_reducible refine ev_kSl2 ?_)
  | (with_reducible refine ev_rev ?_)
  | (with_reducible refine ev_call ?_)
  | (with_reducible refine ev_max2 ?_)
  | (with_reducible refine ev_min2 ?_)
  | (with_reducible refine ev_int1 ?_)
  | (with_reducible refine ev_user ?_)
  | (with_reducible refine ev_app ?_)
  | (with_reducible refine ev_ext ?_)
  | (with_reducible refine ev_lc ?_)
  | ((with_reducible refine' ev_name ?k0 ?k1 ?_); (case k0 => rfl); (case k1 => rfl))
  | ((with_reducible refine' ev_nameO ?k0 ?k1 ?_); (case k0 => rfl); (case k1 => rfl))
  | ((with_reducible refine' ev_nameF_dat ?k0 ?_); (case k0 => rfl))
  | ((with_reducible refine' ev_nameF_fn ?k0 ?_); (case k0 => rfl))
  | ((with_reducible refine' ev_nameF_arg ?k0 ?_); (case k0 => rfl))
  | ((with_reducible refine' ev_nameF_lst ?k0 ?_); (case k0 => rfl))
  | ((with_reducible refine' ev_kSet_dat ?k0 ?_); (case k0 => rfl))
  | ((with_reducible refine' ev_kSet_lst ?k0 ?_); (case k0 => rfl))
  | ((with_reducible refine' ev_kSet_fn ?k0 ?_); (case k0 => rfl))
  | ((with_reducible refine' ev_kPar ?k0 ?k1 ?k2 ?k3 ?_); (case k0 => rfl); (case k1 => rfl); (case k2 => rfl); (case k3 => rfl))
  | ((with_reducible refine' ev_kAsg ?k0 ?_); (case k0 => rfl))
  | ((with_reducible refine' ev_aug ?k0 ?_); (case k0 => rfl))
  | ((with_reducible refine' ev_kAug ?k0 ?_); (case k0 => rfl))
  | ((with_reducible refine' ev_kPut3 ?k0 ?k1 ?_); (case k0 => rfl); (case k1 => rfl))
  | ((with_reducible refine' ev_ix ?k0 ?k1 ?_); (case k0 => rfl); (case k1 => rfl))
  | ((with_reducible refine' ev_kTru ?k0 ?_); (case k0 => rfl))
  | ((with_reducible refine' ev_kIsi ?k0 ?k1 ?_); (case k0 => rfl); (case k1 => rfl))
  | ((with_reducible refine' ev_kStar1 ?k0 ?_); (case k0 => rfl))
  | ((with_reducible refine' ev_kSl3_t ?k0 ?_); (case k0 => rfl))
  | ((with_reducible refine' ev_kSl3_l ?k0 ?_); (case k0 => rfl))
  | ((with_reducible refine' ev_kRev_t ?k0 ?_); (case k0 => rfl))
  | ((with_reducible refine' ev_kRev_l ?k0 ?_); (case k0 => rfl))
  | ((with_reducible refine' ev_len ?k0 ?_); (case k0 => rfl))
  | ((with_reducible refine' ev_tuple ?k0 ?_); (case k0 => rfl))
  | ((with_reducible refine' ev_list ?k0 ?_); (case k0 => rfl))
  | ((with_reducible refine' ev_kApp1 ?k0 ?_); (case k0 => rfl))
  | ((with_reducible refine' ev_kExt1 ?k0 ?_); (case k0 => rfl))
  | ((with_reducible refine' ev_kRet_own ?k0 ?_); (case k0 => rfl))
  | ((with_reducible refine' ev_kTup ?k0 ?k1 ?_); (case k0 => rfl); (case k1 => simp [sizeLine]))
  | ((with_reducible refine' ev_kLst ?k0 ?k1 ?_); (case k0 => rfl); (case k1 => simp [sizeLine]))
  | (with_reducible refine ev_nx ?_)
  | (with_reducible refine ev_rt ?_)
  | (with_reducible refine ev_bk ?_)
  | (with_reducible refine ev_ct ?_)
)
local macro_rules | `(tactic| walk_at "evs") => `(tactic| repeat (walk_at "ev"))
def eDr (ns : List Int) (k : Int) : List PyData := [.list (ns.map .int), .int 0, .int k]
def sp__law_cell_at : DSpec := fun ds K' => ∃ (ns : List Int) (k : Int), ds = [.dat (.list (ns.map .int)), .dat (.int k)] ∧ 0 ≤ k ∧ ∀ c outs, K' (.dat (.int c)) outs
theorem wp__law_cell_at : ∀ ds K', sp__law_cell_at ds K' → W__law_cell_at { nx := fun ρ => K' (.dat .none) (outsOf ds ρ), rt := fun r ρ => K' r (outsOf ds ρ) } (startD N__law_cell_at ds) := by
  rintro ds K' ⟨ns, k, rfl, hk, q⟩
  unfold W__law_cell_at
  walk_at "evs"
  refine ev_kIfS (fun h => ?_) (fun h => ?_)
  · have h : k < (ns.length : Int) := by have := of_decide_eq_true h; rw [List.length_map] at this; exact this
    obtain ⟨j, rfl⟩ := Int.eq_ofNat_of_zero_le hk
    obtain ⟨n, hn⟩ : ∃ n, ns[j]? = some n := ⟨_, List.getElem?_eq_getElem (by omega)⟩
    walk_at "evs"
    refine ev_ix (b := false) rfl (atI_map hn) ?_
    walk_at "evs"
    exact q _ _
  · walk_at "evs"
    exact q _ _
def sp__law_draw : DSpec := fun ds K' => ∃ c k b : Int, ds = [.dat (.int c), .dat (.int k), .dat (.int b)] ∧ 0 < b ∧ ∀ r outs, 0 ≤ r → r < b → K' (.dat (.int r)) outs
def primesL : List Int := [1000003, 1000033, 1000037, 1000039, 1000081, 1000099, 1000117, 1000121, 1000133, 1000151, 1000159, 1000171, 1000183, 1000187, 1000193, 1000199]
theorem primes_at {i : Int} (h0 : 0 ≤ i) (h1 : i < 16) : ∃ p : Int, atI (primesL.map PyData.int) i = some (.int p) ∧ 0 < p := by
  obtain ⟨j, rfl⟩ := Int.eq_ofNat_of_zero_le h0
  have hj : j < 16 := by omega
  have key : ∀ j : Nat, j < 16 → ∃ p : Int, primesL[j]? = some p ∧ 0 < p := by
    intro j hj
    have : ∀ j : Fin 16, ∃ p : Int, primesL[j.1]? = some p ∧ 0 < p := by
      intro j
      have hl : j.1 < primesL.length := j.2
      refine ⟨primesL[j.1], List.getElem?_eq_getElem hl, ?_⟩
      have all : ∀ x ∈ primesL, 0 < x := by decide
      exact all _ (List.getElem_mem hl)
    exact this ⟨j, hj⟩
  obtain ⟨p, h1, h2⟩ := key j hj
  exact ⟨p, atI_map h1, h2⟩
theorem wp__law_draw : ∀ ds K', sp__law_draw ds K' → W__law_draw { nx := fun ρ => K' (.dat .none) (outsOf ds ρ), rt := fun r ρ => K' r (outsOf ds ρ) } (startD N__law_draw ds) := by
  rintro ds K' ⟨c, k, b, rfl, hb, q⟩
  unfold W__law_draw
  walk_at "evs"
  refine ev_int (.inr ⟨by decide, by decide⟩) ?_
  walk_at "evs"
  refine ev_int (.inr ⟨by decide, by decide⟩) ?_
  walk_at "evs"
  refine ev_int (show (0 : Int) < 16 by decide) ?_
  obtain ⟨p, hp, h0⟩ := primes_at (i := k % 16) (by omega) (by omega)
  refine ev_ix (b := true) rfl (show atI (primesL.map PyData.int) (k % 16) = some (.int p) from hp) ?_
  refine ev_int h0 ?_
  walk_at "evs"
  refine ev_int hb ?_
  walk_at "evs"
  exact q _ _ (Int.emod_nonneg _ (by omega)) (Int.emod_lt_of_pos _ hb)
def sp__law_number : DSpec := fun ds K' => ∃ c k b : Int, ds = [.dat (.int c), .dat (.int k), .dat (.int b)] ∧ 0 < b ∧ 0 ≤ k ∧ k ≤ 100 ∧ ∀ r outs, 0 ≤ r → r < b → K' (.dat (.int r)) outs
theorem pow_bound (i : Nat) (h : i ≤ 24) : ((1009 : Int) ^ i).natAbs < 2 ^ 250 := by
  have : (1009 : Nat) ^ i ≤ 1009 ^ 24 := Nat.pow_le_pow_right (by decide) h
  have e : ((1009 : Int) ^ i).natAbs = 1009 ^ i := by rw [Int.natAbs_pow]; rfl
  rw [e]
  have : (1009 : Nat) ^ 24 < 2 ^ 250 := by decide
  omega
theorem wp__law_number : ∀ ds K', sp__law_number ds K' → W__law_number sp__law_draw { nx := fun ρ => K' (.dat .none) (outsOf ds ρ), rt := fun r ρ => K' r (outsOf ds ρ) } (startD N__law_number ds) := by
  rintro ds K' ⟨c, k, b, rfl, hb, hk, hk2, q⟩
  unfold W__law_number
  walk_at "evs"
  refine ev_int (show (0 : Int) < 24 by decide) ?_
  walk_at "evs"
  refine ev_kRng1 (by omega) (by omega) ?_
  walk_at "evs"
  refine forGo_ind (I := fun left ρ => ∃ (t : Nat) (y : Option DV), ρ = [some (.dat (.int c)), some (.dat (.int k)), some (.dat (.int b)), some (.dat (.int (1009 ^ t))), y, none, none] ∧ t ≤ (k % 24).toNat ∧ left = (rangeD 0 (k % 24).toNat).drop t ∧ notArgB (some y) = true) ?_ ?_ _ _ ⟨0, _, rfl, by omega, rfl, rfl⟩
  · rintro ρ ⟨t, y, rfl, ht, _, hy⟩
    have ht : t ≤ 24 := by omega
    have hp : (0 : Int) < 1009 ^ t := Int.pow_pos (by decide)
    walk_at "evs"
    refine ev_int ⟨by decide, by decide, by decide⟩ ?_
    walk_at "evs"
    refine ev_int (wide_div hp (pow_bound t ht) (by decide) (by decide)) ?_
    walk_at "evs"
    refine ev_kIfS (fun h => ?_) (fun h => ?_)
    · walk_at "evs"
      refine ev_int (show (0 : Int) < 1009 by decide) ?_
      walk_at "evs"
      refine ev_int hb ?_
      walk_at "evs"
      exact q _ _ (Int.emod_nonneg _ (by omega)) (Int.emod_lt_of_pos _ hb)
    · walk_at "evs"
      refine ev_int (show (0 : Int) < 1000003 by decide) ?_
      walk_at "evs"
      refine ev_int (.inl ⟨by decide, by decide⟩) ?_
      walk_at "evs"
      refine ev_int (.inl ⟨by decide, by decide⟩) ?_
      walk_at "evs"
      refine ev_int (.inl ⟨by omega, by omega⟩) ?_
      walk_at "evs"
      refine ev_int (show (0 : Int) < 9 by decide) ?_
      walk_at "evs"
      refine ev_kUser0 rfl rfl ⟨_, _, _, rfl, by decide, fun r outs h0 h1 => ?_⟩
      walk_at "evs"
      refine ev_int hb ?_
      walk_at "evs"
      exact q _ _ (Int.emod_nonneg _ (by omega)) (Int.emod_lt_of_pos _ hb)
  · rintro x xs ρ ⟨t, y, rfl, ht, hle, hy⟩
    have hx : (rangeD 0 (k % 24).toNat)[t]? = some x := by rw [← List.head?_drop, ← hle]; rfl
    obtain ⟨hlt, rfl⟩ := rangeD_get hx
    have hxs : xs = (rangeD 0 (k % 24).toNat).drop (t + 1) := by rw [← List.tail_drop, ← hle]; rfl
    refine ⟨_, by simp [fName, hy]; rfl, fun N hN => ?_⟩
    walk_at "evs"
    refine ev_int (.inr ⟨by decide, by decide⟩) ?_
    walk_at "evs"
    exact hN _ ⟨t + 1, some (.dat (.int t)), by rw [Int.pow_succ]; rfl, by omega, hxs, rfl⟩
def sp__law_next : DSpec := fun ds K' => ∃ (ns : List Int) (k b : Int), ds = [.arg (eDr ns k), .dat (.int b)] ∧ 0 ≤ k ∧ k ≤ 1000000 ∧ 0 < b ∧ ∀ r, 0 ≤ r → r < b → K' (.dat (.int r)) [.arg (eDr ns (k + 1)), .dat (.int b)]
theorem wp__law_next : ∀ ds K', sp__law_next ds K' → W__law_next sp__law_cell_at sp__law_number { nx := fun ρ => K' (.dat .none) (outsOf ds ρ), rt := fun r ρ => K' r (outsOf ds ρ) } (startD N__law_next ds) := by
  rintro ds K' ⟨ns, k, b, rfl, hk, hk2, hb, q⟩
  unfold W__law_next
  walk_at "evs"
  refine ev_int ⟨by decide, by decide⟩ ?_
  walk_at "evs"
  refine ev_kUser0 rfl rfl ⟨ns, 0 + (k + 1) / 12, rfl, by omega, fun c outs => ?_⟩
  walk_at "evs"
  refine ev_int (.inl ⟨by decide, by decide⟩) ?_
  walk_at "evs"
  refine ev_int (show (0 : Int) < 12 by decide) ?_
  walk_at "evs"
  refine ev_kUser0 rfl rfl ⟨_, _, b, rfl, hb, by omega, by omega, fun r outs h0 h1 => ?_⟩
  walk_at "evs"
  exact q r h0 h1

end K41
end
section
set_option Elab.async false
set_option linter.all false
set_option maxRecDepth 100000
set_option maxHeartbeats 1000000
namespace K41
open PySem L2 DL SM
local macro_rules | `(tactic| walk_at "ev") => `(tactic| first
  | (with_reducible refine ev_seq ?_)
  | (with_reducible refine ev_next ?_)
  | (with_reducible refine ev_break ?_)
  | (with_reducible refine ev_cont ?_)
  | (with_reducible refine ev_expr ?_)
  | (with_reducible refine ev_kExpr ?_)
  | (with_reducible refine ev_ret ?_)
  | (with_reducible refine ev_retN ?_)
  | (with_reducible refine ev_kRet_dat ?_)
  | (with_reducible refine ev_kRet_lst ?_)
  | (with_reducible refine ev_ifS ?_)
  | (with_reducible refine ev_kIfS_t ?_)
  | (with_reducible refine ev_kIfS_f ?_)
  | (with_reducible refine ev_set ?_)
  | (with_reducible refine ev_par ?_)
  | (with_reducible refine ev_asg ?_)
  | (with_reducible refine ev_put ?_)
  | (with_reducible refine ev_kPut1 ?_)
  | (with_reducible refine ev_kPut2 ?_)
  | (with_reducible refine ev_for ?_)
  | (with_reducible refine ev_kFor ?_)
  | (with_reducible refine ev_seqI ?_)
  | (with_reducible refine ev_kSeqI_l ?_)
  | (with_reducible refine ev_kSeqI_t ?_)
  | (with_reducible refine ev_kSeqI_n ?_)
  | (with_reducible refine ev_rng1 ?_)
  | (with_reducible refine ev_rng2 ?_)
  | (with_reducible refine ev_rng3 ?_)
  | (with_reducible refine ev_c ?_)
  | (with_reducible refine ev_fn ?_)
  | (with_reducible refine ev_bin ?_)
  | (with_reducible refine ev_kBin1 ?_)
  | (with_reducible refine ev_intT ?_)
  | (with_reducible refine ev_eqI ?_)
  | (with_reducible refine ev_neI ?_)
  | (with_reducible refine ev_isN ?_)
  | (with_reducible refine ev_neg ?_)
  | (with_reducible refine ev_kNeg ?_)
  | (with_reducible refine ev_not ?_)
  | (with_reducible refine ev_kNot ?_)
  | (with_reducible refine ev_test ?_)
  | (with_reducible refine ev_kTest ?_)
  | (with_reducible refine ev_tru ?_)
  | (with_reducible refine ev_and ?_)
  | (with_reducible refine ev_or ?_)
  | (with_reducible refine ev_kAnd_t ?_)
  | (with_reducible refine ev_kAnd_f ?_)
  | (with_reducible refine ev_kOr_t ?_)
  | (with_reducible refine ev_kOr_f ?_)
  | (with_reducible refine ev_if ?_)
  | (with_reducible refine ev_kIf_t ?_)
  | (with_reducible refine ev_kIf_f ?_)
  | (with_reducible refine ev_andV ?_)
  | (with_reducible refine ev_orV ?_)
  | (with_reducible refine ev_kAndV_t ?_)
  | (with_reducible refine ev_kAndV_f ?_)
  | (with_reducible refine ev_kOrV_t ?_)
  | (with_reducible refine ev_kOrV_f ?_)
  | (with_reducible refine ev_notV ?_)
  | (with_reducible refine ev_kNotV ?_)
  | (with_reducible refine ev_isi ?_)
  | (with_reducible refine ev_nil ?_)
  | (with_reducible refine ev_kCons2 ?_)
  | (with_reducible refine ev_cons ?_)
  | (with_reducible refine ev_kCons1_dat ?_)
  | (with_reducible refine ev_kCons1_fn ?_)
  | (with_reducible refine ev_kCons1_own ?_)
  | (with_reducible refine ev_kCons1_lst ?_)
  | (with_reducible refine ev_star ?_)
  | (with_reducible refine ev_kStar2 ?_)
  | (with_reducible refine ev_tup ?_)
  | (with_reducible refine ev_lst ?_)
  | (with_reducible refine ev_noPart ?_)
  | (with_reducible refine ev_part ?_)
  | (with_reducible refine ev_kPart ?_)
  | (with_reducible refine ev_sl ?_)
  | (with_reducible refine ev_kSl1 ?_)
  | (with_reducible refine ev_kSl2 ?_)
  | (with_reducible refine ev_rev ?_)
  | (with_reducible refine ev_call ?_)
  | (with_reducible refine ev_max2 ?_)
  | (with_reducible refine ev_min2 ?_)
  | (with_reducible refine ev_int1 ?_)
  | (with_reducible refine ev_user ?_)
  | (with_reducible refine ev_app ?_)
  | (with_reducible refine ev_ext ?_)
  | (with_reducible refine ev_lc ?_)
  | ((with_reducible refine' ev_name ?k0 ?k1 ?_); (case k0 => rfl); (case k1 => rfl))
  | ((with_reducible refine' ev_nameO ?k0 ?k1 ?_); (case k0 => rfl); (case k1 => rfl))
  | ((with_reducible refine' ev_nameF_dat ?k0 ?_); (case k0 => rfl))
  | ((with_reducible refine' ev_nameF_fn ?k0 ?_); (case k0 => rfl))
  | ((with_reducible refine' ev_nameF_arg ?k0 ?_); (case k0 => rfl))
  | ((with_reducible refine' ev_nameF_lst ?k0 ?_); (case k0 => rfl))
  | ((with_reducible refine' ev_kSet_dat ?k0 ?_); (case k0 => rfl))
  | ((with_reducible refine' ev_kSet_lst ?k0 ?_); (case k0 => rfl))
  | ((with_reducible refine' ev_kSet_fn ?k0 ?_); (case k0 => rfl))
  | ((with_reducible refine' ev_kPar ?k0 ?k1 ?k2 ?k3 ?_); (case k0 => rfl); (case k1 => rfl); (case k2 => rfl); (case k3 => rfl))
  | ((with_reducible refine' ev_kAsg ?k0 ?_); (case k0 => rfl))
  | ((with_reducible refine' ev_aug ?k0 ?_); (case k0 => rfl))
  | ((with_reducible refine' ev_kAug ?k0 ?_); (case k0 => rfl))
  | ((with_reducible refine' ev_kPut3 ?k0 ?k1 ?_); (case k0 => rfl); (case k1 => rfl))
  | ((with_reducible refine' ev_ix ?k0 ?k1 ?_); (case k0 => rfl); (case k1 => rfl))
  | ((with_reducible refine' ev_kTru ?k0 ?_); (case k0 => rfl))
  | ((with_reducible refine' ev_kIsi ?k0 ?k1 ?_); (case k0 => rfl); (case k1 => rfl))
  | ((with_reducible refine' ev_kStar1 ?k0 ?_); (case k0 => rfl))
  | ((with_reducible refine' ev_kSl3_t ?k0 ?_); (case k0 => rfl))
  | ((with_reducible refine' ev_kSl3_l ?k0 ?_); (case k0 => rfl))
  | ((with_reducible refine' ev_kRev_t ?k0 ?_); (case k0 => rfl))
  | ((with_reducible refine' ev_kRev_l ?k0 ?_); (case k0 => rfl))
  | ((with_reducible refine' ev_len ?k0 ?_); (case k0 => rfl))
  | ((with_reducible refine' ev_tuple ?k0 ?_); (case k0 => rfl))
  | ((with_reducible refine' ev_list ?k0 ?_); (case k0 => rfl))
  | ((with_reducible refine' ev_kApp1 ?k0 ?_); (case k0 => rfl))
  | ((with_reducible refine' ev_kExt1 ?k0 ?_); (case k0 => rfl))
  | ((with_reducible refine' ev_kRet_own ?k0 ?_); (case k0 => rfl))
  | ((with_reducible refine' ev_kTup ?k0 ?k1 ?_); (case k0 => rfl); (case k1 => simp [sizeLine]))
  | ((with_reducible refine' ev_kLst ?k0 ?k1 ?_); (case k0 => rfl); (case k1 => simp [sizeLine]))
  | (with_reducible refine ev_nx ?_)
  | (with_reducible refine ev_rt ?_)
  | (with_reducible refine ev_bk ?_)
  | (with_reducible refine ev_ct ?_)
)
local macro_rules | `(tactic| walk_at "evs") => `(tactic| repeat (walk_at "ev"))
def eP (p : Pt) : PyData := .tuple [.int p.1, .int p.2.1, .int p.2.2]
def eB (b : Pt × Pt) : PyData := .tuple [eP b.1, eP b.2]
def boxS (lo hi : Pt) : Sol := if lo.1 < hi.1 ∧ lo.2.1 < hi.2.1 ∧ lo.2.2 < hi.2.2 then [(lo.2.2, hi.2.2, [(lo.2.1, hi.2.1, [(lo.1, hi.1, ())])])] else []
def inB (b : Pt × Pt) (p : Int × Int × Int) : Bool := decide (b.1.2.2 ≤ p.1 ∧ p.1 < b.2.2.2) && (decide (b.1.2.1 ≤ p.2.1 ∧ p.2.1 < b.2.2.1) && decide (b.1.1 ≤ p.2.2 ∧ p.2.2 < b.2.1))
def ptIn (E : Int → Prop) (p : Pt) : Prop := E p.1 ∧ E p.2.1 ∧ E p.2.2
theorem box_form {E : Int → Prop} {lo hi : Pt} (h1 : ptIn E lo) (h2 : ptIn E hi) : FSol E (boxS lo hi) := by
  unfold boxS
  split
  · rename_i h
    refine form_one ⟨h.2.2, h1.2.2, h2.2.2, form_one ⟨h.2.1, h1.2.1, h2.2.1, form_one ⟨h.1, h1.1, h2.1, trivial⟩, fun z => nomatch z⟩, fun z => nomatch z⟩
  · trivial
theorem lift_one {β γ : Type} {C : β → γ → Bool} {s : Slab β} {z : Int} {p : γ} : lift C (at' [s] z) p = (decide (s.1 ≤ z ∧ z < s.2.1) && C s.2.2 p) := by
  unfold at'
  by_cases h : s.1 ≤ z ∧ z < s.2.1
  · rw [if_pos h, decide_eq_true h]; rfl
  · rw [if_neg h, decide_eq_false h]; rfl
theorem box_cells (b : Pt × Pt) (p : Int × Int × Int) : cS (boxS b.1 b.2) p = inB b p := by
  unfold boxS
  split
  · show lift cL (at' [_] p.1) p.2 = _
    rw [lift_one]
    show (_ && lift cR (at' [_] p.2.1) p.2.2) = _
    rw [lift_one]
    show (_ && (_ && lift cU (at' [_] p.2.2) ())) = _
    rw [lift_one]
    show (_ && (_ && (_ && true))) = _
    rw [Bool.and_true]; rfl
  · rename_i h
    show false = _
    symm
    unfold inB
    simp only [Bool.and_eq_false_iff, decide_eq_false_iff_not]
    omega
def sp_box : DSpec := fun ds K' => ∃ lo hi : Pt, ds = [.dat (eP lo), .dat (eP hi)] ∧ ∀ outs, K' (.dat (eSol (boxS lo hi))) outs
theorem at3_0 {a b c : PyData} : atI [a, b, c] 0 = some a := rfl
theorem at3_1 {a b c : PyData} : atI [a, b, c] 1 = some b := rfl
theorem at3_2 {a b c : PyData} : atI [a, b, c] 2 = some c := rfl
theorem wp_box : ∀ ds K', sp_box ds K' → W_box { nx := fun ρ => K' (.dat .none) (outsOf ds ρ), rt := fun r ρ => K' r (outsOf ds ρ) } (startD N_box ds) := by
  rintro ds K' ⟨⟨x0, y0, z0⟩, ⟨x1, y1, z1⟩, rfl, q⟩
  unfold W_box
  have no : ¬ (x0 < x1 ∧ y0 < y1 ∧ z0 < z1) → ∀ outs, K' (.dat (.tuple [])) outs := fun h outs => by
    have e : boxS (x0, y0, z0) (x1, y1, z1) = [] := if_neg h
    rw [e] at q
    exact q outs
  walk_at "evs"
  refine ev_kOr (fun h => ?_) (fun h1 => ?_)
  · have h : x1 ≤ x0 := of_decide_eq_true h
    walk_at "evs"
    exact no (by omega) _
  have h1 : ¬ x1 ≤ x0 := of_decide_eq_false h1
  walk_at "evs"
  refine ev_kOr (fun h => ?_) (fun h2 => ?_)
  · have h : y1 ≤ y0 := of_decide_eq_true h
    walk_at "evs"
    exact no (by omega) _
  have h2 : ¬ y1 ≤ y0 := of_decide_eq_false h2
  walk_at "evs"
  refine ev_kIfS (fun h => ?_) (fun h3 => ?_)
  · have h : z1 ≤ z0 := of_decide_eq_true h
    walk_at "evs"
    exact no (by omega) _
  have h3 : ¬ z1 ≤ z0 := of_decide_eq_false h3
  walk_at "evs"
  have e : boxS (x0, y0, z0) (x1, y1, z1) = [(z0, z1, [(y0, y1, [(x0, x1, ())])])] := if_pos (by dsimp only; omega)
  rw [e] at q
  exact q _
theorem few_mem : ∀ l m : List Int, m.Nodup → (∀ x ∈ m, x ∈ l) → m.length ≤ l.length
  | [], m, _, h => by
    cases m with
    | nil => exact Nat.le_refl _
    | cons x r => exact absurd (h x List.mem_cons_self) (by simp)
  | a :: l, m, nd, h => by
    have := few_mem l (m.erase a) (nd.erase a) fun x hx => by
      have h2 := (List.Nodup.mem_erase_iff nd).mp hx
      rcases List.mem_cons.mp (h x h2.2) with e | e
      · exact absurd e h2.1
      · exact e
    have h3 := List.length_erase (a := a) (l := m)
    rw [List.length_cons]
    split at h3 <;> omega
theorem few_of (l : List Int) : Few (· ∈ l) l.length := fun m hp hm => few_mem l m (hp.imp fun h => by omega) hm
def ptL (p : Pt) : List Int := [p.1, p.2.1, p.2.2]
def coords (bs : List (Pt × Pt)) : List Int := bs.flatMap fun b => ptL b.1 ++ ptL b.2
theorem coords_len (bs : List (Pt × Pt)) : (coords bs).length = 6 * bs.length := by
  unfold coords
  induction bs with
  | nil => rfl
  | cons b bs ih => rw [List.flatMap_cons, List.length_append, ih, List.length_append]; simp [ptL]; omega
theorem coords_in {bs : List (Pt × Pt)} {b : Pt × Pt} (h : b ∈ bs) : ptIn (· ∈ coords bs) b.1 ∧ ptIn (· ∈ coords bs) b.2 := by
  have g : ∀ x ∈ ptL b.1 ++ ptL b.2, x ∈ coords bs := fun x hx => List.mem_flatMap.mpr ⟨b, h, hx⟩
  exact ⟨⟨g _ (by simp [ptL]), g _ (by simp [ptL]), g _ (by simp [ptL])⟩, ⟨g _ (by simp [ptL]), g _ (by simp [ptL]), g _ (by simp [ptL])⟩⟩

end K41
end
section
set_option Elab.async false
set_option linter.all false
set_option maxRecDepth 100000
set_option maxHeartbeats 1000000
namespace K41
open PySem L2 DL SM
local macro_rules | `(tactic| walk_at "ev") => `(tactic| first
  | (with_reducible refine ev_seq ?_)
  | (with_reducible refine ev_next ?_)
  | (with_reducible refine ev_break ?_)
  | (with_reducible refine ev_cont ?_)
  | (with_reducible refine ev_expr ?_)
  | (with_reducible refine ev_kExpr ?_)
  | (with_reducible refine ev_ret ?_)
  | (with_reducible refine ev_retN ?_)
  | (with_reducible refine ev_kRet_dat ?_)
  | (with_reducible refine ev_kRet_lst ?_)
  | (with_reducible refine ev_ifS ?_)
  | (with_reducible refine ev_kIfS_t ?_)
  | (with_reducible refine ev_kIfS_f ?_)
  | (with_reducible refine ev_set ?_)
  | (with_reducible refine ev_par ?_)
  | (with_reducible refine ev_asg ?_)
  | (with_reducible refine ev_put ?_)
  | (with_reducible refine ev_kPut1 ?_)
  | (with_reducible refine ev_kPut2 ?_)
  | (with_reducible refine ev_for ?_)
  | (with_reducible refine ev_kFor ?_)
  | (with_reducible refine ev_seqI ?_)
  | (with_reducible refine ev_kSeqI_l ?_)
  | (with_reducible refine ev_kSeqI_t ?_)
  | (with_reducible refine ev_kSeqI_n ?_)
  | (with_reducible refine ev_rng1 ?_)
  | (with_reducible refine ev_rng2 ?_)
  | (with_reducible refine ev_rng3 ?_)
  | (with_reducible refine ev_c ?_)
  | (with_reducible refine ev_fn ?_)
  | (with_reducible refine ev_bin ?_)
  | (with_reducible refine ev_kBin1 ?_)
  | (with_reducible refine ev_intT ?_)
  | (with_reducible refine ev_eqI ?_)
  | (with_reducible refine ev_neI ?_)
  | (with_reducible refine ev_isN ?_)
  | (with_reducible refine ev_neg ?_)
  | (with_reducible refine ev_kNeg ?_)
  | (with_reducible refine ev_not ?_)
  | (with_reducible refine ev_kNot ?_)
  | (with_reducible refine ev_test ?_)
  | (with_reducible refine ev_kTest ?_)
  | (with_reducible refine ev_tru ?_)
  | (with_reducible refine ev_and ?_)
  | (with_reducible refine ev_or ?_)
  | (with_reducible refine ev_kAnd_t ?_)
  | (with_reducible refine ev_kAnd_f ?_)
  | (with_reducible refine ev_kOr_t ?_)
  | (with_reducible refine ev_kOr_f ?_)
  | (with_reducible refine ev_if ?_)
  | (with_reducible refine ev_kIf_t ?_)
  | (with_reducible refine ev_kIf_f ?_)
  | (with_reducible refine ev_andV ?_)
  | (with_reducible refine ev_orV ?_)
  | (with_reducible refine ev_kAndV_t ?_)
  | (with_reducible refine ev_kAndV_f ?_)
  | (with_reducible refine ev_kOrV_t ?_)
  | (with_reducible refine ev_kOrV_f ?_)
  | (with_reducible refine ev_notV ?_)
  | (with_reducible refine ev_kNotV ?_)
  | (with_reducible refine ev_isi ?_)
  | (with_reducible refine ev_nil ?_)
  | (with_reducible refine ev_kCons2 ?_)
  | (with_reducible refine ev_cons ?_)
  | (with_reducible refine ev_kCons1_dat ?_)
  | (with_reducible refine ev_kCons1_fn ?_)
  | (with_reducible refine ev_kCons1_own ?_)
  | (with_reducible refine ev_kCons1_lst ?_)
  | (with_reducible refine ev_star ?_)
  | (with_reducible refine ev_kStar2 ?_)
  | (with_reducible refine ev_tup ?_)
  | (with_reducible refine ev_lst ?_)
  | (with_reducible refine ev_noPart ?_)
  | (with_reducible refine ev_part ?_)
  | (with_reducible refine ev_kPart ?_)
  | (with_reducible refine ev_sl ?_)
  | (with_reducible refine ev_kSl1 ?_)
  | (with_reducible refine ev_kSl2 ?_)
  | (with_reducible refine ev_rev ?_)
  | (with_reducible refine ev_call ?_)
  | (with_reducible refine ev_max2 ?_)
  | (with_reducible refine ev_min2 ?_)
  | (with_reducible refine ev_int1 ?_)
  | (with_reducible refine ev_user ?_)
  | (with_reducible refine ev_app ?_)
  | (with_reducible refine ev_ext ?_)
  | (with_reducible refine ev_lc ?_)
  | ((with_reducible refine' ev_name ?k0 ?k1 ?_); (case k0 => rfl); (case k1 => rfl))
  | ((with_reducible refine' ev_nameO ?k0 ?k1 ?_); (case k0 => rfl); (case k1 => rfl))
  | ((with_reducible refine' ev_nameF_dat ?k0 ?_); (case k0 => rfl))
  | ((with_reducible refine' ev_nameF_fn ?k0 ?_); (case k0 => rfl))
  | ((with_reducible refine' ev_nameF_arg ?k0 ?_); (case k0 => rfl))
  | ((with_reducible refine' ev_nameF_lst ?k0 ?_); (case k0 => rfl))
  | ((with_reducible refine' ev_kSet_dat ?k0 ?_); (case k0 => rfl))
  | ((with_reducible refine' ev_kSet_lst ?k0 ?_); (case k0 => rfl))
  | ((with_reducible refine' ev_kSet_fn ?k0 ?_); (case k0 => rfl))
  | ((with_reducible refine' ev_kPar ?k0 ?k1 ?k2 ?k3 ?_); (case k0 => rfl); (case k1 => rfl); (case k2 => rfl); (case k3 => rfl))
  | ((with_reducible refine' ev_kAsg ?k0 ?_); (case k0 => rfl))
  | ((with_reducible refine' ev_aug ?k0 ?_); (case k0 => rfl))
  | ((with_reducible refine' ev_kAug ?k0 ?_); (case k0 => rfl))
  | ((with_reducible refine' ev_kPut3 ?k0 ?k1 ?_); (case k0 => rfl); (case k1 => rfl))
  | ((with_reducible refine' ev_ix ?k0 ?k1 ?_); (case k0 => rfl); (case k1 => rfl))
  | ((with_reducible refine' ev_kTru ?k0 ?_); (case k0 => rfl))
  | ((with_reducible refine' ev_kIsi ?k0 ?k1 ?_); (case k0 => rfl); (case k1 => rfl))
  | ((with_reducible refine' ev_kStar1 ?k0 ?_); (case k0 => rfl))
  | ((with_reducible refine' ev_kSl3_t ?k0 ?_); (case k0 => rfl))
  | ((with_reducible refine' ev_kSl3_l ?k0 ?_); (case k0 => rfl))
  | ((with_reducible refine' ev_kRev_t ?k0 ?_); (case k0 => rfl))
  | ((with_reducible refine' ev_kRev_l ?k0 ?_); (case k0 => rfl))
  | ((with_reducible refine' ev_len ?k0 ?_); (case k0 => rfl))
  | ((with_reducible refine' ev_tuple ?k0 ?_); (case k0 => rfl))
  | ((with_reducible refine' ev_list ?k0 ?_); (case k0 => rfl))
  | ((with_reducible refine' ev_kApp1 ?k0 ?_); (case k0 => rfl))
  | ((with_reducible refine' ev_kExt1 ?k0 ?_); (case k0 => rfl))
  | ((with_reducible refine' ev_kRet_own ?k0 ?_); (case k0 => rfl))
  | ((with_reducible refine' ev_kTup ?k0 ?k1 ?_); (case k0 => rfl); (case k1 => simp [sizeLine]))
  | ((with_reducible refine' ev_kLst ?k0 ?k1 ?_); (case k0 => rfl); (case k1 => simp [sizeLine]))
  | (with_reducible refine ev_nx ?_)
  | (with_reducible refine ev_rt ?_)
  | (with_reducible refine ev_bk ?_)
  | (with_reducible refine ev_ct ?_)
)
local macro_rules | `(tactic| walk_at "evs") => `(tactic| repeat (walk_at "ev"))
theorem lift_one' {β γ : Type} {C : β → γ → Bool} {s : Slab β} {z : Int} {p : γ} : lift C (at' [s] z) p = (decide (s.1 ≤ z ∧ z < s.2.1) && C s.2.2 p) := by
  unfold at'
  by_cases h : s.1 ≤ z ∧ z < s.2.1
  · rw [if_pos h, decide_eq_true h]; rfl
  · rw [if_neg h, decide_eq_false h]; rfl
/-- a cell of one of the slabs -/
def anyS {β γ : Type} (C : β → γ → Bool) (xs : List (Slab β)) (z : Int) (p : γ) : Bool := xs.any fun s => decide (s.1 ≤ z ∧ z < s.2.1) && C s.2.2 p
def sp_stk (S : Addr → Option DSpec) (n : Nat) : DSpec := fun ds K' => ∃ (β γ : Type) (_ : DecidableEq β) (enc : β → PyData) (isE : β → Bool) (E : Int → Prop) (G : β → Prop) (rule : β → β → β) (M : Nat) (C : β → γ → Bool) (xs : List (Slab β)) (f : Addr) (sp : DSpec),
  ds = [.dat (.list (xs.map (eS enc))), .fn (.ref f)] ∧ S f = some sp ∧ RuleOk enc G rule sp ∧ CombOk enc isE E G rule M ∧ (∀ x y, G x → G y → ∀ p, C (rule x y) p = (C x p || C y p)) ∧ (∀ x, isE x = true → ∀ p, C x p = false) ∧
  (∀ s ∈ xs, Ok E G s) ∧ xs.length ≤ 2 ^ n ∧ n ≤ 20 ∧ ∀ R, Form E G R → (∀ z p, lift C (at' R z) p = anyS C xs z p) → ∀ outs, K' (.dat (eSl enc R)) outs
/-- the spec that its own calls may use -/
def stkRec (S : Addr → Option DSpec) : Nat → DSpec
  | 0 => fun _ _ => False
  | n + 1 => sp_stk S n
theorem wp_stacked (S : Addr → Option DSpec) (n : Nat) : ∀ ds K', sp_stk S n ds K' → W_stacked (sp_combined S) (stkRec S n) { nx := fun ρ => K' (.dat .none) (outsOf ds ρ), rt := fun r ρ => K' r (outsOf ds ρ) } (startD N_stacked ds) := by
  rintro ds K' ⟨β, γ, dec, enc, isE, E, G, rule, M, C, xs, f, sp, rfl, hS, hR, ok, hC, hE, hx, hl, hn, q⟩
  have szl : sizeLine = 16777216 := rfl
  have hl2 : xs.length ≤ 2 ^ 20 := Nat.le_trans hl (Nat.pow_le_pow_right (by decide) hn)
  have hl3 : xs.length ≤ 1048576 := hl2
  unfold W_stacked
  walk_at "evs"
  refine ev_kIfS (fun h => ?_) (fun h => ?_)
  · walk_at "evs"
    have h : xs.length < 2 := by have := of_decide_eq_true h; rw [List.length_map] at this; omega
    match xs, h, hx with
    | [], _, _ => exact q [] trivial (fun z p => rfl) _
    | [s], _, hx => exact q [s] (form_one (hx s List.mem_cons_self)) (fun z p => by rw [lift_one']; unfold anyS; simp) _
    | _ :: _ :: _, h, _ => exact absurd h (by simp only [List.length_cons]; omega)
  · have h : 2 ≤ xs.length := by have := of_decide_eq_false h; rw [List.length_map] at this; omega
    obtain ⟨m, rfl⟩ : ∃ m, n = m + 1 := by
      cases n with
      | zero => simp at hl; omega
      | succ m => exact ⟨m, rfl⟩
    walk_at "evs"
    refine ev_int ⟨by decide, by decide⟩ ?_
    rw [List.length_map, show ((xs.length : Int) / 2) = ((xs.length / 2 : Nat) : Int) by omega]
    walk_at "evs"
    have e1 : cutD (xs.map (eS enc)) none (some ((xs.length / 2 : Nat) : Int)) = (xs.take (xs.length / 2)).map (eS enc) := by
      rw [cut_hi, List.map_take]
    have e2 : cutD (xs.map (eS enc)) (some ((xs.length / 2 : Nat) : Int)) none = (xs.drop (xs.length / 2)).map (eS enc) := by
      rw [cut_lo, List.map_drop]
    have p2 : 2 ^ (m + 1) = 2 ^ m + 2 ^ m := by rw [Nat.pow_succ]; omega
    rw [e1]
    refine ev_kUser0 rfl rfl ⟨β, γ, dec, enc, isE, E, G, rule, M, C, _, f, sp, rfl, hS, hR, ok, hC, hE, fun s hs => hx s (List.mem_of_mem_take hs), by rw [List.length_take]; omega, by omega, fun R1 f1 c1 outs => ?_⟩
    walk_at "evs"
    rw [e2]
    refine ev_kUser0 rfl rfl ⟨β, γ, dec, enc, isE, E, G, rule, M, C, _, f, sp, rfl, hS, hR, ok, hC, hE, fun s hs => hx s (List.mem_of_mem_drop hs), by rw [List.length_drop]; omega, by omega, fun R2 f2 c2 outs => ?_⟩
    walk_at "evs"
    refine ev_kUser0 rfl rfl ⟨β, dec, enc, isE, E, G, rule, M, R1, R2, f, sp, true, true, rfl, hS, hR, ok, f1, f2, fun R f3 f4 outs => ?_⟩
    walk_at "evs"
    refine q R f3 (fun z p => ?_) _
    rw [f4, SM.comb_cells (op := fun a b => a || b) rfl rfl rfl hC hE (fun u e => at_good f1 e) (fun u e => at_good f2 e), c1, c2]
    show (anyS C (xs.take (xs.length / 2)) z p || anyS C (xs.drop (xs.length / 2)) z p) = _
    unfold anyS
    rw [← List.any_append, List.take_append_drop]

end K41
end
section
set_option Elab.async false
set_option linter.all false
set_option maxRecDepth 100000
set_option maxHeartbeats 1000000
namespace K41
open PySem L2 DL SM
local macro_rules | `(tactic| walk_at "ev") => `(tactic| first
  | (with_reducible refine ev_seq ?_)
  | (with_reducible refine ev_next ?_)
  | (with_reducible refine ev_break ?_)
  | (with_reducible refine ev_cont ?_)
  | (with_reducible refine ev_expr ?_)
  | (with_reducible refine ev_kExpr ?_)
  | (with_reducible refine ev_ret ?_)
  | (with_reducible refine ev_retN ?_)
  | (with_reducible refine ev_kRet_dat ?_)
  | (with_reducible refine ev_kRet_lst ?_)
  | (with_reducible refine ev_ifS ?_)
  | (with_reducible refine ev_kIfS_t ?_)
  | (with_reducible refine ev_kIfS_f ?_)
  | (with_reducible refine ev_set ?_)
  | (with_reducible refine ev_par ?_)
  | (with_reducible refine ev_asg ?_)
  | (with_reducible refine ev_put ?_)
  | (with_reducible refine ev_kPut1 ?_)
  | (with_reducible refine ev_kPut2 ?_)
  | (with_reducible refine ev_for ?_)
  | (with_reducible refine ev_kFor ?_)
  | (with_reducible refine ev_seqI ?_)
  | (with_reducible refine ev_kSeqI_l ?_)
  | (with_reducible refine ev_kSeqI_t ?_)
  | (with_reducible refine ev_kSeqI_n ?_)
  | (with_reducible refine ev_rng1 ?_)
  | (with_reducible refine ev_rng2 ?_)
  | (with_reducible refine ev_rng3 ?_)
  | (with_reducible refine ev_c ?_)
  | (with_reducible refine ev_fn ?_)
  | (with_reducible refine ev_bin ?_)
  | (with_reducible refine ev_kBin1 ?_)
  | (with_reducible refine ev_intT ?_)
  | (with_reducible refine ev_eqI ?_)
  | (with_reducible refine ev_neI ?_)
  | (with_reducible refine ev_isN ?_)
  | (with_reducible refine ev_neg ?_)
  | (with_reducible refine ev_kNeg ?_)
  | (with_reducible refine ev_not ?_)
  | (with_reducible refine ev_kNot ?_)
  | (with_reducible refine ev_test ?_)
  | (with_reducible refine ev_kTest ?_)
  | (with_reducible refine ev_tru ?_)
  | (with_reducible refine ev_and ?_)
  | (with_reducible refine ev_or ?_)
  | (with_reducible refine ev_kAnd_t ?_)
  | (with_reducible refine ev_kAnd_f ?_)
  | (with_reducible refine ev_kOr_t ?_)
  | (with_reducible refine ev_kOr_f ?_)
  | (with_reducible refine ev_if ?_)
  | (with_reducible refine ev_kIf_t ?_)
  | (with_reducible refine ev_kIf_f ?_)
  | (with_reducible refine ev_andV ?_)
  | (with_reducible refine ev_orV ?_)
  | (with_reducible refine ev_kAndV_t ?_)
  | (with_reducible refine ev_kAndV_f ?_)
  | (with_reducible refine ev_kOrV_t ?_)
  | (with_reducible refine ev_kOrV_f ?_)
  | (with_reducible refine ev_notV ?_)
  | (with_reducible refine ev_kNotV ?_)
  | (with_reducible refine ev_isi ?_)
  | (with_reducible refine ev_nil ?_)
  | (with_reducible refine ev_kCons2 ?_)
  | (with_reducible refine ev_cons ?_)
  | (with_reducible refine ev_kCons1_dat ?_)
  | (with_reducible refine ev_kCons1_fn ?_)
  | (with_reducible refine ev_kCons1_own ?_)
  | (with_reducible refine ev_kCons1_lst ?_)
  | (with_reducible refine ev_star ?_)
  | (with_reducible refine ev_kStar2 ?_)
  | (with_reducible refine ev_tup ?_)
  | (with_reducible refine ev_lst ?_)
  | (with_reducible refine ev_noPart ?_)
  | (with_reducible refine ev_part ?_)
  | (with_reducible refine ev_kPart ?_)
  | (with_reducible refine ev_sl ?_)
  | (with_reducible refine ev_kSl1 ?_)
  | (with_reducible refine ev_kSl2 ?_)
  | (with_reducible refine ev_rev ?_)
  | (with_reducible refine ev_call ?_)
  | (with_reducible refine ev_max2 ?_)
  | (with_reducible refine ev_min2 ?_)
  | (with_reducible refine ev_int1 ?_)
  | (with_reducible refine ev_user ?_)
  | (with_reducible refine ev_app ?_)
  | (with_reducible refine ev_ext ?_)
  | (with_reducible refine ev_lc ?_)
  | ((with_reducible refine' ev_name ?k0 ?k1 ?_); (case k0 => rfl); (case k1 => rfl))
  | ((with_reducible refine' ev_nameO ?k0 ?k1 ?_); (case k0 => rfl); (case k1 => rfl))
  | ((with_reducible refine' ev_nameF_dat ?k0 ?_); (case k0 => rfl))
  | ((with_reducible refine' ev_nameF_fn ?k0 ?_); (case k0 => rfl))
  | ((with_reducible refine' ev_nameF_arg ?k0 ?_); (case k0 => rfl))
  | ((with_reducible refine' ev_nameF_lst ?k0 ?_); (case k0 => rfl))
  | ((with_reducible refine' ev_kSet_dat ?k0 ?_); (case k0 => rfl))
  | ((with_reducible refine' ev_kSet_lst ?k0 ?_); (case k0 => rfl))
  | ((with_reducible refine' ev_kSet_fn ?k0 ?_); (case k0 => rfl))
  | ((with_reducible refine' ev_kPar ?k0 ?k1 ?k2 ?k3 ?_); (case k0 => rfl); (case k1 => rfl); (case k2 => rfl); (case k3 => rfl))
  | ((with_reducible refine' ev_kAsg ?k0 ?_); (case k0 => rfl))
  | ((with_reducible refine' ev_aug ?k0 ?_); (case k0 => rfl))
  | ((with_reducible refine' ev_kAug ?k0 ?_); (case k0 => rfl))
  | ((with_reducible refine' ev_kPut3 ?k0 ?k1 ?_); (case k0 => rfl); (case k1 => rfl))
  | ((with_reducible refine' ev_ix ?k0 ?k1 ?_); (case k0 => rfl); (case k1 => rfl))
  | ((with_reducible refine' ev_kTru ?k0 ?_); (case k0 => rfl))
  | ((with_reducible refine' ev_kIsi ?k0 ?k1 ?_); (case k0 => rfl); (case k1 => rfl))
  | ((with_reducible refine' ev_kStar1 ?k0 ?_); (case k0 => rfl))
  | ((with_reducible refine' ev_kSl3_t ?k0 ?_); (case k0 => rfl))
  | ((with_reducible refine' ev_kSl3_l ?k0 ?_); (case k0 => rfl))
  | ((with_reducible refine' ev_kRev_t ?k0 ?_); (case k0 => rfl))
  | ((with_reducible refine' ev_kRev_l ?k0 ?_); (case k0 => rfl))
  | ((with_reducible refine' ev_len ?k0 ?_); (case k0 => rfl))
  | ((with_reducible refine' ev_tuple ?k0 ?_); (case k0 => rfl))
  | ((with_reducible refine' ev_list ?k0 ?_); (case k0 => rfl))
  | ((with_reducible refine' ev_kApp1 ?k0 ?_); (case k0 => rfl))
  | ((with_reducible refine' ev_kExt1 ?k0 ?_); (case k0 => rfl))
  | ((with_reducible refine' ev_kRet_own ?k0 ?_); (case k0 => rfl))
  | ((with_reducible refine' ev_kTup ?k0 ?k1 ?_); (case k0 => rfl); (case k1 => simp [sizeLine]))
  | ((with_reducible refine' ev_kLst ?k0 ?k1 ?_); (case k0 => rfl); (case k1 => simp [sizeLine]))
  | (with_reducible refine ev_nx ?_)
  | (with_reducible refine ev_rt ?_)
  | (with_reducible refine ev_bk ?_)
  | (with_reducible refine ev_ct ?_)
)
local macro_rules | `(tactic| walk_at "evs") => `(tactic| repeat (walk_at "ev"))
def EB (B : Nat) : Int → Prop := fun z => -(B : Int) ≤ z ∧ z ≤ B
theorem few_span : ∀ (l : List Int) (a b : Int), l.Pairwise (· < ·) → (∀ x ∈ l, a ≤ x ∧ x ≤ b) → l.length ≤ (b + 1 - a).toNat
  | [], _, _, _, _ => Nat.zero_le _
  | x :: l, a, b, hp, h => by
    have h1 := h x List.mem_cons_self
    have hp := List.pairwise_cons.mp hp
    have := few_span l (x + 1) b hp.2 fun y m => ⟨by have := hp.1 y m; omega, (h y (List.mem_cons_of_mem _ m)).2⟩
    rw [List.length_cons]
    omega
theorem few_EB (B : Nat) : Few (EB B) (2 * B + 1) := fun l hp h => by
  have := few_span l (-(B : Int)) B hp h
  omega
def ptB (B : Nat) (p : Pt) : Prop := ptIn (EB B) p
/-- the widened row is what merged makes of it -/
theorem row_wide {lo hi : Pt} (h : leP lo hi) (hl : ptB 15 lo) (hh : ptB 15 hi) {r : Row} (hr : FRow (EB 15) r) :
    wideR lo hi r ≠ [] ∧ (∀ s ∈ wideR lo hi r, s.1 < s.2.1 ∧ EB 30 s.1 ∧ EB 30 s.2.1) ∧ (wideR lo hi r).Pairwise (fun s t => s.1 ≤ t.1) ∧ (wideR lo hi r).length ≤ 31 := by
  refine ⟨fun e => hr.2 (List.map_eq_nil_iff.mp e), fun s m => ?_, ?_, ?_⟩
  · obtain ⟨t, mt, rfl⟩ := List.mem_map.mp m
    have o := Form.mem hr.1 t mt
    have a1 := o.lt
    have a2 : -15 ≤ t.1 ∧ t.1 ≤ 15 := o.e1
    have a3 : -15 ≤ t.2.1 ∧ t.2.1 ≤ 15 := o.e2
    have a4 : -15 ≤ lo.1 ∧ lo.1 ≤ 15 := hl.1
    have a5 : -15 ≤ hi.1 ∧ hi.1 ≤ 15 := hh.1
    have a6 := h.1
    exact ⟨by dsimp only; omega, ⟨by dsimp only; omega, by dsimp only; omega⟩, ⟨by dsimp only; omega, by dsimp only; omega⟩⟩
  · unfold wideR
    rw [List.pairwise_map]
    have := Form.starts hr.1
    rw [List.pairwise_map] at this
    exact this.imp fun a => by dsimp only at a ⊢; omega
  · unfold wideR
    rw [List.length_map]
    exact Form.few (few_EB 15) hr.1
theorem row_cells {lo hi : Pt} (h : leP lo hi) {r R : Row} (hr : FRow (EB 15) r) (f1 : Form (EB 30) AnyU R) (f3 : ∀ z, at' R z = at' (wideR lo hi r) z) : growR lo hi r = R ∧ ∀ x, cR (growR lo hi r) x = true ↔ gR lo hi r x := by
  have g := row_grown h hr.1 f3
  have e : growR lo hi r = R := theR_eq f1 g
  exact ⟨e, by rw [e]; exact g⟩
def sp_grown_layer : DSpec := fun ds K' => ∃ (lo hi : Pt) (l : Lay), ds = [.dat (eLay l), .dat (eP lo), .dat (eP hi)] ∧ leP lo hi ∧ ptB 15 lo ∧ ptB 15 hi ∧ FLay (EB 15) l ∧
  (FLay (EB 30) (growL lo hi l) → (∀ p, cL (growL lo hi l) p = true ↔ gL lo hi l p) → ∀ outs, K' (.dat (eLay (growL lo hi l))) outs)
theorem wp_grown_layer (aR : Addr) : ∀ ds K', sp_grown_layer ds K' → W_grown_layer sp_merged (sp_stk (only aR sp_joined_rows) 5) aR { nx := fun ρ => K' (.dat .none) (outsOf ds ρ), rt := fun r ρ => K' r (outsOf ds ρ) } (startD N_grown_layer ds) := by
  rintro ds K' ⟨lo, hi, l, rfl, hle, hl, hh, hf, q⟩
  have szl : sizeLine = 16777216 := rfl
  have ll : l.length ≤ 31 := Form.few (few_EB 15) hf.1
  unfold W_grown_layer
  walk_at "evs"
  refine ev_kSeqI_t (xs := l.map (eS eRow)) ?_
  walk_at "evs"
  refine forGo_ind (I := fun left ρ => ∃ (done todo : Lay) (y4 y5 y6 y7 : Option DV), l = done ++ todo ∧ left = todo.map (eS eRow) ∧ (∀ s ∈ done, FRow (EB 30) (growR lo hi s.2.2) ∧ ∀ x, cR (growR lo hi s.2.2) x = true ↔ gR lo hi s.2.2 x) ∧
    ρ = [some (.dat (eLay l)), some (.dat (eP lo)), some (.dat (eP hi)), some (.lst ((wideL lo hi done).map (eS eRow))), y4, y5, y6, y7, none, none] ∧ notArgB (some y4) = true ∧ notArgB (some y5) = true ∧ notArgB (some y6) = true ∧ notArgB (some y7) = true) ?_ ?_ _ _ ⟨[], l, none, none, none, none, rfl, rfl, (fun s m => nomatch m), rfl, rfl, rfl, rfl, rfl⟩
  · rintro ρ ⟨done, todo, y4, y5, y6, y7, e, h1, hg, rfl, n4, n5, n6, n7⟩
    have : todo = [] := by
      cases todo with
      | nil => rfl
      | cons _ _ => cases h1
    subst this
    rw [List.append_nil] at e
    subst e
    walk_at "evs"
    refine ev_kUser0 rfl rfl ⟨Row, Int, SM.decRow, eRow, List.isEmpty, EB 30, FRow (EB 30), joinR, 61, cR, wideL lo hi l, aR, sp_joined_rows, rfl, only_self, rule_rows (few_EB 30) (by decide), comb_rows (few_EB 30) (by decide), fun x y gx gy p => (joinR_rule x y gx.1 gy.1).2 p, fun x h p => emptyR h p, fun s m => ?_, by unfold wideL; rw [List.length_map]; omega, by decide, fun R f1 f2 outs => ?_⟩
    · obtain ⟨t, mt, rfl⟩ := List.mem_map.mp m
      have o := Form.mem hf.1 t mt
      have a1 := o.lt
      have a2 : -15 ≤ t.1 ∧ t.1 ≤ 15 := o.e1
      have a3 : -15 ≤ t.2.1 ∧ t.2.1 ≤ 15 := o.e2
      have a4 : -15 ≤ lo.2.1 ∧ lo.2.1 ≤ 15 := hl.2.1
      have a5 : -15 ≤ hi.2.1 ∧ hi.2.1 ≤ 15 := hh.2.1
      have a6 := hle.2.1
      exact ⟨by dsimp only; omega, ⟨by dsimp only; omega, by dsimp only; omega⟩, ⟨by dsimp only; omega, by dsimp only; omega⟩, (hg t mt).1⟩
    · have g := lay_grown hle hf.1 (fun s m => (hg s m).2) f2
      have e : growL lo hi l = R := theL_eq f1 g
      walk_at "evs"
      rw [← e] at g f1 ⊢
      refine q ⟨f1, fun z => ?_⟩ g _
      obtain ⟨p, hp⟩ := lay_ne hf
      have := (g (p.1 + lo.2.1, p.2 + lo.1)).mpr ⟨p, ⟨by dsimp only; omega, by have := hle.2.1; dsimp only; omega⟩, ⟨by dsimp only; omega, by have := hle.1; dsimp only; omega⟩, hp⟩
      rw [z] at this
      cases this
  · rintro x xs ρ ⟨done, todo, y4, y5, y6, y7, e, h1, hg, rfl, n4, n5, n6, n7⟩
    cases todo with
    | nil => cases h1
    | cons s todo =>
    obtain ⟨rfl, rfl⟩ := List.cons.inj h1
    have fs : FRow (EB 15) s.2.2 := (Form.mem hf.1 s (by rw [e]; simp)).g
    have ld : done.length ≤ 31 := by have := congrArg List.length e; simp at this; omega
    refine ⟨[some (.dat (eLay l)), some (.dat (eP lo)), some (.dat (eP hi)), some (.lst ((wideL lo hi done).map (eS eRow))), some (.dat (.int s.1)), some (.dat (.int s.2.1)), some (.dat (eRow s.2.2)), y7, none, none], by simp [fTup, fCons, fName, fNil, eS, n4, n5, n6], fun N hN => ?_⟩
    walk_at "evs"
    refine ev_kSeqI_t (xs := s.2.2.map eU) ?_
    walk_at "evs"
    obtain ⟨r1, r2, r3, r4⟩ := row_wide hle hl hh fs
    refine lcGo_ind (I := fun acc left ρ => ∃ d3 t3 : Row, s.2.2 = d3 ++ t3 ∧ left = t3.map eU ∧ acc = (wideR lo hi d3).map eU ∧ ρ = [some (.dat (eLay l)), some (.dat (eP lo)), some (.dat (eP hi)), some (.lst ((wideL lo hi done).map (eS eRow))), some (.dat (.int s.1)), some (.dat (.int s.2.1)), some (.dat (eRow s.2.2)), y7, none, none]) ?_ ?_ _ _ _ ⟨[], s.2.2, rfl, rfl, rfl, rfl⟩
    · rintro acc ρ ⟨d3, t3, e3, h3, rfl, rfl⟩
      have : t3 = [] := by
        cases t3 with
        | nil => rfl
        | cons _ _ => cases h3
      subst this
      rw [List.append_nil] at e3
      rw [← e3]
      walk_at "evs"
      refine ev_kUser0 rfl rfl ⟨wideR lo hi s.2.2, EB 30, rfl, r1, r2, r3, by omega, fun R f1 f2 f3 outs => ?_⟩
      obtain ⟨e4, g4⟩ := row_cells hle fs f1 f3
      refine ev_kSet_dat n7 ?_
      walk_at "evs"
      refine ev_kApp2 rfl (by unfold wideL; rw [List.length_map, List.length_map]; omega) ?_
      refine hN _ ⟨done ++ [s], todo, some (.dat (.int s.1)), some (.dat (.int s.2.1)), some (.dat (eRow s.2.2)), some (.dat (eRow R)), by rw [e]; simp, rfl, fun t m => ?_, ?_, rfl, rfl, rfl, rfl⟩
      · rcases List.mem_append.mp m with m | m
        · exact hg t m
        · have : t = s := by simpa using m
          rw [this]
          exact ⟨by rw [e4]; exact ⟨f1, f2⟩, g4⟩
      · unfold wideL
        rw [List.map_append, List.map_append, ← e4]
        rfl
    · rintro acc x xs ρ ⟨d3, t3, e3, h3, rfl, rfl⟩
      cases t3 with
      | nil => cases h3
      | cons u t3 =>
      obtain ⟨rfl, rfl⟩ := List.cons.inj h3
      have l3 : d3.length < 31 := by
        have : (wideR lo hi s.2.2).length = d3.length + (t3.length + 1) := by unfold wideR; rw [List.length_map, e3, List.length_append, List.length_cons]
        omega
      refine ⟨rfl, _, rfl, fun Gn hG => ?_⟩
      walk_at "evs"
      refine hG _ _ (by unfold wideR; rw [List.length_map, List.length_map]; omega) ⟨d3 ++ [u], t3, by rw [e3]; simp, rfl, by unfold wideR; simp [eU], rfl⟩

end K41
end
section
set_option Elab.async false
set_option linter.all false
set_option maxRecDepth 100000
set_option maxHeartbeats 1000000
namespace K41
open PySem L2 DL SM
local macro_rules | `(tactic| walk_at "ev") => `(tactic| first
  | (with_reducible refine ev_seq ?_)
  | (with_reducible refine ev_next ?_)
  | (with_reducible refine ev_break ?_)
  | (with_reducible refine ev_cont ?_)
  | (with_reducible refine ev_expr ?_)
  | (with_reducible refine ev_kExpr ?_)
  | (with_reducible refine ev_ret ?_)
  | (with_reducible refine ev_retN ?_)
  | (with_reducible refine ev_kRet_dat ?_)
  | (with_reducible refine ev_kRet_lst ?_)
  | (with_reducible refine ev_ifS ?_)
  | (with_reducible refine ev_kIfS_t ?_)
  | (with_reducible refine ev_kIfS_f ?_)
  | (with_reducible refine ev_set ?_)
  | (with_reducible refine ev_par ?_)
  | (with_reducible refine ev_asg ?_)
  | (with_reducible refine ev_put ?_)
  | (with_reducible refine ev_kPut1 ?_)
  | (with_reducible refine ev_kPut2 ?_)
  | (with_reducible refine ev_for ?_)
  | (with_reducible refine ev_kFor ?_)
  | (with_reducible refine ev_seqI ?_)
  | (with_reducible refine ev_kSeqI_l ?_)
  | (with_reducible refine ev_kSeqI_t ?_)
  | (with_reducible refine ev_kSeqI_n ?_)
  | (with_reducible refine ev_rng1 ?_)
  | (with_reducible refine ev_rng2 ?_)
  | (with_reducible refine ev_rng3 ?_)
  | (with_reducible refine ev_c ?_)
  | (with_reducible refine ev_fn ?_)
  | (with_reducible refine ev_bin ?_)
  | (with_reducible refine ev_kBin1 ?_)
  | (with_reducible refine ev_intT ?_)
  | (with_reducible refine ev_eqI ?_)
  | (with_reducible refine ev_neI ?_)
  | (with_reducible refine ev_isN ?_)
  | (with_reducible refine ev_neg ?_)
  | (with_reducible refine ev_kNeg ?_)
  | (with_reducible refine ev_not ?_)
  | (with_reducible refine ev_kNot ?_)
  | (with_reducible refine ev_test ?_)
  | (with_reducible refine ev_kTest ?_)
  | (with_reducible refine ev_tru ?_)
  | (with_reducible refine ev_and ?_)
  | (with_reducible refine ev_or ?_)
  | (with_reducible refine ev_kAnd_t ?_)
  | (with_reducible refine ev_kAnd_f ?_)
  | (with_reducible refine ev_kOr_t ?_)
  | (with_reducible refine ev_kOr_f ?_)
  | (with_reducible refine ev_if ?_)
  | (with_reducible refine ev_kIf_t ?_)
  | (with_reducible refine ev_kIf_f ?_)
  | (with_reducible refine ev_andV ?_)
  | (with_reducible refine ev_orV ?_)
  | (with_reducible refine ev_kAndV_t ?_)
  | (with_reducible refine ev_kAndV_f ?_)
  | (with_reducible refine ev_kOrV_t ?_)
  | (with_reducible refine ev_kOrV_f ?_)
  | (with_reducible refine ev_notV ?_)
  | (with_reducible refine ev_kNotV ?_)
  | (with_reducible refine ev_isi ?_)
  | (with_reducible refine ev_nil ?_)
  | (with_reducible refine ev_kCons2 ?_)
  | (with_reducible refine ev_cons ?_)
  | (with_reducible refine ev_kCons1_dat ?_)
  | (with_reducible refine ev_kCons1_fn ?_)
  | (with_reducible refine ev_kCons1_own ?_)
  | (with_reducible refine ev_kCons1_lst ?_)
  | (with_reducible refine ev_star ?_)
  | (with_reducible refine ev_kStar2 ?_)
  | (with_reducible refine ev_tup ?_)
  | (with_reducible refine ev_lst ?_)
  | (with_reducible refine ev_noPart ?_)
  | (with_reducible refine ev_part ?_)
  | (with_reducible refine ev_kPart ?_)
  | (with_reducible refine ev_sl ?_)
  | (with_reducible refine ev_kSl1 ?_)
  | (with_reducible refine ev_kSl2 ?_)
  | (with_reducible refine ev_rev ?_)
  | (with_reducible refine ev_call ?_)
  | (with_reducible refine ev_max2 ?_)
  | (with_reducible refine ev_min2 ?_)
  | (with_reducible refine ev_int1 ?_)
  | (with_reducible refine ev_user ?_)
  | (with_reducible refine ev_app ?_)
  | (with_reducible refine ev_ext ?_)
  | (with_reducible refine ev_lc ?_)
  | ((with_reducible refine' ev_name ?k0 ?k1 ?_); (case k0 => rfl); (case k1 => rfl))
  | ((with_reducible refine' ev_nameO ?k0 ?k1 ?_); (case k0 => rfl); (case k1 => rfl))
  | ((with_reducible refine' ev_nameF_dat ?k0 ?_); (case k0 => rfl))
  | ((with_reducible refine' ev_nameF_fn ?k0 ?_); (case k0 => rfl))
  | ((with_reducible refine' ev_nameF_arg ?k0 ?_); (case k0 => rfl))
  | ((with_reducible refine' ev_nameF_lst ?k0 ?_); (case k0 => rfl))
  | ((with_reducible refine' ev_kSet_dat ?k0 ?_); (case k0 => rfl))
  | ((with_reducible refine' ev_kSet_lst ?k0 ?_); (case k0 => rfl))
  | ((with_reducible refine' ev_kSet_fn ?k0 ?_); (case k0 => rfl))
  | ((with_reducible refine' ev_kPar ?k0 ?k1 ?k2 ?k3 ?_); (case k0 => rfl); (case k1 => rfl); (case k2 => rfl); (case k3 => rfl))
  | ((with_reducible refine' ev_kAsg ?k0 ?_); (case k0 => rfl))
  | ((with_reducible refine' ev_aug ?k0 ?_); (case k0 => rfl))
  | ((with_reducible refine' ev_kAug ?k0 ?_); (case k0 => rfl))
  | ((with_reducible refine' ev_kPut3 ?k0 ?k1 ?_); (case k0 => rfl); (case k1 => rfl))
  | ((with_reducible refine' ev_ix ?k0 ?k1 ?_); (case k0 => rfl); (case k1 => rfl))
  | ((with_reducible refine' ev_kTru ?k0 ?_); (case k0 => rfl))
  | ((with_reducible refine' ev_kIsi ?k0 ?k1 ?_); (case k0 => rfl); (case k1 => rfl))
  | ((with_reducible refine' ev_kStar1 ?k0 ?_); (case k0 => rfl))
  | ((with_reducible refine' ev_kSl3_t ?k0 ?_); (case k0 => rfl))
  | ((with_reducible refine' ev_kSl3_l ?k0 ?_); (case k0 => rfl))
  | ((with_reducible refine' ev_kRev_t ?k0 ?_); (case k0 => rfl))
  | ((with_reducible refine' ev_kRev_l ?k0 ?_); (case k0 => rfl))
  | ((with_reducible refine' ev_len ?k0 ?_); (case k0 => rfl))
  | ((with_reducible refine' ev_tuple ?k0 ?_); (case k0 => rfl))
  | ((with_reducible refine' ev_list ?k0 ?_); (case k0 => rfl))
  | ((with_reducible refine' ev_kApp1 ?k0 ?_); (case k0 => rfl))
  | ((with_reducible refine' ev_kExt1 ?k0 ?_); (case k0 => rfl))
  | ((with_reducible refine' ev_kRet_own ?k0 ?_); (case k0 => rfl))
  | ((with_reducible refine' ev_kTup ?k0 ?k1 ?_); (case k0 => rfl); (case k1 => simp [sizeLine]))
  | ((with_reducible refine' ev_kLst ?k0 ?k1 ?_); (case k0 => rfl); (case k1 => simp [sizeLine]))
  | (with_reducible refine ev_nx ?_)
  | (with_reducible refine ev_rt ?_)
  | (with_reducible refine ev_bk ?_)
  | (with_reducible refine ev_ct ?_)
)
local macro_rules | `(tactic| walk_at "evs") => `(tactic| repeat (walk_at "ev"))
def sp_grown : DSpec := fun ds K' => ∃ (lo hi : Pt) (l : Sol), ds = [.dat (eSol l), .dat (eP lo), .dat (eP hi)] ∧ leP lo hi ∧ ptB 15 lo ∧ ptB 15 hi ∧ FSol (EB 15) l ∧
  (FSol (EB 30) (growS lo hi l) → (∀ p, cS (growS lo hi l) p = true ↔ gS lo hi l p) → ∀ outs, K' (.dat (eSol (growS lo hi l))) outs)
theorem wp_grown (aL : Addr) : ∀ ds K', sp_grown ds K' → W_grown (sp_stk (only aL sp_joined_layers) 5) sp_grown_layer aL { nx := fun ρ => K' (.dat .none) (outsOf ds ρ), rt := fun r ρ => K' r (outsOf ds ρ) } (startD N_grown ds) := by
  rintro ds K' ⟨lo, hi, l, rfl, hle, hl, hh, hf, q⟩
  have szl : sizeLine = 16777216 := rfl
  have ll : l.length ≤ 31 := Form.few (few_EB 15) hf
  unfold W_grown
  walk_at "evs"
  refine ev_kSeqI_t (xs := l.map (eS eLay)) ?_
  walk_at "evs"
  refine lcGo_ind (I := fun acc left ρ => ∃ done todo : Sol, l = done ++ todo ∧ left = todo.map (eS eLay) ∧ acc = (wideS lo hi done).map (eS eLay) ∧ (∀ s ∈ done, FLay (EB 30) (growL lo hi s.2.2) ∧ ∀ x, cL (growL lo hi s.2.2) x = true ↔ gL lo hi s.2.2 x) ∧
    ρ = [some (.dat (eSol l)), some (.dat (eP lo)), some (.dat (eP hi)), none, none, none, none]) ?_ ?_ _ _ _ ⟨[], l, rfl, rfl, rfl, (fun s m => nomatch m), rfl⟩
  · rintro acc ρ ⟨done, todo, e, h1, rfl, hg, rfl⟩
    have : todo = [] := by
      cases todo with
      | nil => rfl
      | cons _ _ => cases h1
    subst this
    rw [List.append_nil] at e
    subst e
    walk_at "evs"
    refine ev_kUser0 rfl rfl ⟨Lay, Int × Int, SM.decLay, eLay, List.isEmpty, EB 30, FLay (EB 30), joinL, 61, cL, wideS lo hi l, aL, sp_joined_layers, rfl, only_self, rule_lays (few_EB 30) (by decide), comb_lays (few_EB 30) (by decide), fun x y gx gy p => (combL_ok op_or joinR_rule gx.1 gy.1).2.2 p, fun x h p => emptyL h p, fun s m => ?_, by unfold wideS; rw [List.length_map]; omega, by decide, fun R f1 f2 outs => ?_⟩
    · obtain ⟨t, mt, rfl⟩ := List.mem_map.mp m
      have o := Form.mem hf t mt
      have a1 := o.lt
      have a2 : -15 ≤ t.1 ∧ t.1 ≤ 15 := o.e1
      have a3 : -15 ≤ t.2.1 ∧ t.2.1 ≤ 15 := o.e2
      have a4 : -15 ≤ lo.2.2 ∧ lo.2.2 ≤ 15 := hl.2.2
      have a5 : -15 ≤ hi.2.2 ∧ hi.2.2 ≤ 15 := hh.2.2
      have a6 := hle.2.2
      exact ⟨by dsimp only; omega, ⟨by dsimp only; omega, by dsimp only; omega⟩, ⟨by dsimp only; omega, by dsimp only; omega⟩, (hg t mt).1⟩
    · have g := sol_grown hle hf (fun s m => (hg s m).2) f2
      have e : growS lo hi l = R := theS_eq f1 g
      walk_at "evs"
      rw [← e] at g f1 ⊢
      exact q f1 g _
  · rintro acc x xs ρ ⟨done, todo, e, h1, rfl, hg, rfl⟩
    cases todo with
    | nil => cases h1
    | cons s todo =>
    obtain ⟨rfl, rfl⟩ := List.cons.inj h1
    have fs : FLay (EB 15) s.2.2 := (Form.mem hf s (by rw [e]; simp)).g
    have ld : done.length ≤ 31 := by have := congrArg List.length e; simp at this; omega
    refine ⟨rfl, _, rfl, fun Gn hG => ?_⟩
    walk_at "evs"
    refine ev_kUser0 rfl rfl ⟨lo, hi, s.2.2, rfl, hle, hl, hh, fs, fun f1 g1 outs => ?_⟩
    walk_at "evs"
    refine hG _ _ (by unfold wideS; rw [List.length_map, List.length_map]; omega) ⟨done ++ [s], todo, by rw [e]; simp, rfl, by unfold wideS; simp [eS], fun t m => ?_, rfl⟩
    rcases List.mem_append.mp m with m | m
    · exact hg t m
    · have : t = s := by simpa using m
      rw [this]
      exact ⟨f1, g1⟩

end K41
end
section
set_option Elab.async false
set_option linter.all false
set_option maxRecDepth 100000
set_option maxHeartbeats 1000000
namespace K41
open PySem L2 DL SM
local macro_rules | `(tactic| walk_at "ev") => `(tactic| first
  | (with_reducible refine ev_seq ?_)
  | (with_reducible refine ev_next ?_)
  | (with_reducible refine ev_break ?_)
  | (with_reducible refine ev_cont ?_)
  | (with_reducible refine ev_expr ?_)
  | (with_reducible refine ev_kExpr ?_)
  | (with_reducible refine ev_ret ?_)
  | (with_reducible refine ev_retN ?_)
  | (with_reducible refine ev_kRet_dat ?_)
  | (with_reducible refine ev_kRet_lst ?_)
  | (with_reducible refine ev_ifS ?_)
  | (with_reducible refine ev_kIfS_t ?_)
  | (with_reducible refine ev_kIfS_f ?_)
  | (with_reducible refine ev_set ?_)
  | (with_reducible refine ev_par ?_)
  | (with_reducible refine ev_asg ?_)
  | (with_reducible refine ev_put ?_)
  | (with_reducible refine ev_kPut1 ?_)
  | (with_reducible refine ev_kPut2 ?_)
  | (with_reducible refine ev_for ?_)
  | (with_reducible refine ev_kFor ?_)
  | (with_reducible refine ev_seqI ?_)
  | (with_reducible refine ev_kSeqI_l ?_)
  | (with_reducible refine ev_kSeqI_t ?_)
  | (with_reducible refine ev_kSeqI_n ?_)
  | (with_reducible refine ev_rng1 ?_)
  | (with_reducible refine ev_rng2 ?_)
  | (with_reducible refine ev_rng3 ?_)
  | (with_reducible refine ev_c ?_)
  | (with_reducible refine ev_fn ?_)
  | (with_reducible refine ev_bin ?_)
  | (with_reducible refine ev_kBin1 ?_)
  | (with_reducible refine ev_intT ?_)
  | (with_reducible refine ev_eqI ?_)
  | (with_reducible refine ev_neI ?_)
  | (with_reducible refine ev_isN ?_)
  | (with_reducible refine ev_neg ?_)
  | (with_reducible refine ev_kNeg ?_)
  | (with_reducible refine ev_not ?_)
  | (with_reducible refine ev_kNot ?_)
  | (with_reducible refine ev_test ?_)
  | (with_reducible refine ev_kTest ?_)
  | (with_reducible refine ev_tru ?_)
  | (with_reducible refine ev_and ?_)
  | (with_reducible refine ev_or ?_)
  | (with_reducible refine ev_kAnd_t ?_)
  | (with_reducible refine ev_kAnd_f ?_)
  | (with_reducible refine ev_kOr_t ?_)
  | (with_reducible refine ev_kOr_f ?_)
  | (with_reducible refine ev_if ?_)
  | (with_reducible refine ev_kIf_t ?_)
  | (with_reducible refine ev_kIf_f ?_)
  | (with_reducible refine ev_andV ?_)
  | (with_reducible refine ev_orV ?_)
  | (with_reducible refine ev_kAndV_t ?_)
  | (with_reducible refine ev_kAndV_f ?_)
  | (with_reducible refine ev_kOrV_t ?_)
  | (with_reducible refine ev_kOrV_f ?_)
  | (with_reducible refine ev_notV ?_)
  | (with_reducible refine ev_kNotV ?_)
  | (with_reducible refine ev_isi ?_)
  | (with_reducible refine ev_nil ?_)
  | (with_reducible refine ev_kCons2 ?_)
  | (with_reducible refine ev_cons ?_)
  | (with_reducible refine ev_kCons1_dat ?_)
  | (with_reducible refine ev_kCons1_fn ?_)
  | (with_reducible refine ev_kCons1_own ?_)
  | (with_reducible refine ev_kCons1_lst ?_)
  | (with_reducible refine ev_star ?_)
  | (with_reducible refine ev_kStar2 ?_)
  | (with_reducible refine ev_tup ?_)
  | (with_reducible refine ev_lst ?_)
  | (with_reducible refine ev_noPart ?_)
  | (with_reducible refine ev_part ?_)
  | (with_reducible refine ev_kPart ?_)
  | (with_reducible refine ev_sl ?_)
  | (with_reducible refine ev_kSl1 ?_)
  | (with_reducible refine ev_kSl2 ?_)
  | (with_reducible refine ev_rev ?_)
  | (with_reducible refine ev_call ?_)
  | (with_reducible refine ev_max2 ?_)
  | (with_reducible refine ev_min2 ?_)
  | (with_reducible refine ev_int1 ?_)
  | (with_reducible refine ev_user ?_)
  | (with_reducible refine ev_app ?_)
  | (with_reducible refine ev_ext ?_)
  | (with_reducible refine ev_lc ?_)
  | ((with_reducible refine' ev_name ?k0 ?k1 ?_); (case k0 => rfl); (case k1 => rfl))
  | ((with_reducible refine' ev_nameO ?k0 ?k1 ?_); (case k0 => rfl); (case k1 => rfl))
  | ((with_reducible refine' ev_nameF_dat ?k0 ?_); (case k0 => rfl))
  | ((with_reducible refine' ev_nameF_fn ?k0 ?_); (case k0 => rfl))
  | ((with_reducible refine' ev_nameF_arg ?k0 ?_); (case k0 => rfl))
  | ((with_reducible refine' ev_nameF_lst ?k0 ?_); (case k0 => rfl))
  | ((with_reducible refine' ev_kSet_dat ?k0 ?_); (case k0 => rfl))
  | ((with_reducible refine' ev_kSet_lst ?k0 ?_); (case k0 => rfl))
  | ((with_reducible refine' ev_kSet_fn ?k0 ?_); (case k0 => rfl))
  | ((with_reducible refine' ev_kPar ?k0 ?k1 ?k2 ?k3 ?_); (case k0 => rfl); (case k1 => rfl); (case k2 => rfl); (case k3 => rfl))
  | ((with_reducible refine' ev_kAsg ?k0 ?_); (case k0 => rfl))
  | ((with_reducible refine' ev_aug ?k0 ?_); (case k0 => rfl))
  | ((with_reducible refine' ev_kAug ?k0 ?_); (case k0 => rfl))
  | ((with_reducible refine' ev_kPut3 ?k0 ?k1 ?_); (case k0 => rfl); (case k1 => rfl))
  | ((with_reducible refine' ev_ix ?k0 ?k1 ?_); (case k0 => rfl); (case k1 => rfl))
  | ((with_reducible refine' ev_kTru ?k0 ?_); (case k0 => rfl))
  | ((with_reducible refine' ev_kIsi ?k0 ?k1 ?_); (case k0 => rfl); (case k1 => rfl))
  | ((with_reducible refine' ev_kStar1 ?k0 ?_); (case k0 => rfl))
  | ((with_reducible refine' ev_kSl3_t ?k0 ?_); (case k0 => rfl))
  | ((with_reducible refine' ev_kSl3_l ?k0 ?_); (case k0 => rfl))
  | ((with_reducible refine' ev_kRev_t ?k0 ?_); (case k0 => rfl))
  | ((with_reducible refine' ev_kRev_l ?k0 ?_); (case k0 => rfl))
  | ((with_reducible refine' ev_len ?k0 ?_); (case k0 => rfl))
  | ((with_reducible refine' ev_tuple ?k0 ?_); (case k0 => rfl))
  | ((with_reducible refine' ev_list ?k0 ?_); (case k0 => rfl))
  | ((with_reducible refine' ev_kApp1 ?k0 ?_); (case k0 => rfl))
  | ((with_reducible refine' ev_kExt1 ?k0 ?_); (case k0 => rfl))
  | ((with_reducible refine' ev_kRet_own ?k0 ?_); (case k0 => rfl))
  | ((with_reducible refine' ev_kTup ?k0 ?k1 ?_); (case k0 => rfl); (case k1 => simp [sizeLine]))
  | ((with_reducible refine' ev_kLst ?k0 ?k1 ?_); (case k0 => rfl); (case k1 => simp [sizeLine]))
  | (with_reducible refine ev_nx ?_)
  | (with_reducible refine ev_rt ?_)
  | (with_reducible refine ev_bk ?_)
  | (with_reducible refine ev_ct ?_)
)
local macro_rules | `(tactic| walk_at "evs") => `(tactic| repeat (walk_at "ev"))
def addP (p q : Pt) : Pt := (p.1 + q.1, p.2.1 + q.2.1, p.2.2 + q.2.2)
def sp_added : DSpec := fun ds K' => ∃ p q : Pt, ds = [.dat (eP p), .dat (eP q)] ∧ ∀ outs, K' (.dat (eP (addP p q))) outs
theorem wp_added : ∀ ds K', sp_added ds K' → W_added { nx := fun ρ => K' (.dat .none) (outsOf ds ρ), rt := fun r ρ => K' r (outsOf ds ρ) } (startD N_added ds) := by
  rintro ds K' ⟨⟨x0, y0, z0⟩, ⟨x1, y1, z1⟩, rfl, q⟩
  unfold W_added
  walk_at "evs"
  exact q _
def oneP : Pt := (1, 1, 1)
def sp_cube_at : DSpec := fun ds K' => ∃ p : Pt, ds = [.dat (eP p)] ∧ ∀ outs, K' (.dat (eSol (boxS p (addP p oneP)))) outs
theorem wp_cube_at : ∀ ds K', sp_cube_at ds K' → W_cube_at sp_added sp_box { nx := fun ρ => K' (.dat .none) (outsOf ds ρ), rt := fun r ρ => K' r (outsOf ds ρ) } (startD N_cube_at ds) := by
  rintro ds K' ⟨p, rfl, q⟩
  unfold W_cube_at
  walk_at "evs"
  refine ev_kUser0 rfl rfl ⟨p, oneP, rfl, fun outs => ?_⟩
  walk_at "evs"
  refine ev_kUser0 rfl rfl ⟨p, addP p oneP, rfl, fun outs => ?_⟩
  walk_at "evs"
  exact q _
def sp_travel_lot : DSpec := fun ds K' => ∃ (p q r : Pt) (a b c : Int), ds = [.dat (.tuple [eP p, eP q, eP r, .int a, .int b, .int c])] ∧ ∀ outs, K' (.dat (eSol (boxS p (addP q oneP)))) outs
theorem wp_travel_lot : ∀ ds K', sp_travel_lot ds K' → W_travel_lot sp_added sp_box { nx := fun ρ => K' (.dat .none) (outsOf ds ρ), rt := fun r ρ => K' r (outsOf ds ρ) } (startD N_travel_lot ds) := by
  rintro ds K' ⟨p, q2, r, a, b, c, rfl, q⟩
  unfold W_travel_lot
  walk_at "evs"
  refine ev_kUser0 rfl rfl ⟨q2, oneP, rfl, fun outs => ?_⟩
  walk_at "evs"
  refine ev_kUser0 rfl rfl ⟨p, addP q2 oneP, rfl, fun outs => ?_⟩
  walk_at "evs"
  exact q _
def setP (p : Pt) (a n : Int) : Pt := if a = 0 then (n, p.2.1, p.2.2) else if a = 1 then (p.1, n, p.2.2) else (p.1, p.2.1, n)
def sp_with_number : DSpec := fun ds K' => ∃ (p : Pt) (a n : Int), ds = [.dat (eP p), .dat (.int a), .dat (.int n)] ∧ 0 ≤ a ∧ a < 3 ∧ ∀ outs, K' (.dat (eP (setP p a n))) outs
theorem wp_with_number : ∀ ds K', sp_with_number ds K' → W_with_number { nx := fun ρ => K' (.dat .none) (outsOf ds ρ), rt := fun r ρ => K' r (outsOf ds ρ) } (startD N_with_number ds) := by
  rintro ds K' ⟨⟨x, y, z⟩, a, n, rfl, h0, h3, q⟩
  unfold W_with_number
  have : a = 0 ∨ a = 1 ∨ a = 2 := by omega
  rcases this with rfl | rfl | rfl
  · walk_at "evs"
    exact q _
  · walk_at "evs"
    exact q _
  · walk_at "evs"
    exact q _
theorem lcGo_three {f : PyData → Den → Option Den} {we : WE} {vs : List Nat} {Q : DV → Den → Prop} {x y z a b c : PyData} {ρ : Den} (ok : vsOk ρ vs = true)
    (hx : ∃ ρ2, f x (wipeD ρ vs) = some ρ2 ∧ ∀ G : DV → Den → Prop, (∀ ρ4, restD ρ ρ4 vs = ρ → G (.dat a) ρ4) → we ρ2 G)
    (hy : ∃ ρ2, f y (wipeD ρ vs) = some ρ2 ∧ ∀ G : DV → Den → Prop, (∀ ρ4, restD ρ ρ4 vs = ρ → G (.dat b) ρ4) → we ρ2 G)
    (hz : ∃ ρ2, f z (wipeD ρ vs) = some ρ2 ∧ ∀ G : DV → Den → Prop, (∀ ρ4, restD ρ ρ4 vs = ρ → G (.dat c) ρ4) → we ρ2 G)
    (h : Q (.lst [a, b, c]) ρ) : lcGo f wYes we vs Q [x, y, z] [] ρ := by
  have sz : ∀ n : Nat, n ≤ 3 → n < sizeLine := fun n h => by have : sizeLine = 16777216 := rfl; omega
  obtain ⟨ρ2, e2, k2⟩ := hx
  obtain ⟨ρ3, e3, k3⟩ := hy
  obtain ⟨ρ4, e4, k4⟩ := hz
  refine ev_lcCons ok e2 (k2 _ fun _ r2 => ⟨sz _ (by simp), ?_⟩)
  rw [r2]
  refine ev_lcCons ok e3 (k3 _ fun _ r3 => ⟨sz _ (by simp), ?_⟩)
  rw [r3]
  refine ev_lcCons ok e4 (k4 _ fun _ r4 => ⟨sz _ (by simp), ?_⟩)
  rw [r4]
  exact h
def minP (p q : Pt) : Pt := (min p.1 q.1, min p.2.1 q.2.1, min p.2.2 q.2.2)
def maxP (p q : Pt) : Pt := (max p.1 q.1, max p.2.1 q.2.1, max p.2.2 q.2.2)
def sp_sorted_corners : DSpec := fun ds K' => ∃ p q : Pt, ds = [.dat (eP p), .dat (eP q)] ∧ ∀ outs, K' (.dat (.tuple [eP (minP p q), eP (maxP p q)])) outs
theorem wp_sorted_corners : ∀ ds K', sp_sorted_corners ds K' → W_sorted_corners { nx := fun ρ => K' (.dat .none) (outsOf ds ρ), rt := fun r ρ => K' r (outsOf ds ρ) } (startD N_sorted_corners ds) := by
  rintro ds K' ⟨⟨x0, y0, z0⟩, ⟨x1, y1, z1⟩, rfl, q⟩
  unfold W_sorted_corners
  walk_at "evs"
  refine ev_kRng1 (by decide) (by decide) ?_
  refine lcGo_three (a := .tuple [.int (min x0 x1), .int (max x0 x1)]) (b := .tuple [.int (min y0 y1), .int (max y0 y1)]) (c := .tuple [.int (min z0 z1), .int (max z0 z1)]) rfl ⟨_, rfl, fun G hG => ?_⟩ ⟨_, rfl, fun G hG => ?_⟩ ⟨_, rfl, fun G hG => ?_⟩ ?_
  · walk_at "evs"
    exact hG _ rfl
  · walk_at "evs"
    exact hG _ rfl
  · walk_at "evs"
    exact hG _ rfl
  walk_at "evs"
  refine lcGo_three (a := .int (min x0 x1)) (b := .int (min y0 y1)) (c := .int (min z0 z1)) rfl ⟨_, rfl, fun G hG => ?_⟩ ⟨_, rfl, fun G hG => ?_⟩ ⟨_, rfl, fun G hG => ?_⟩ ?_
  · walk_at "evs"
    exact hG _ rfl
  · walk_at "evs"
    exact hG _ rfl
  · walk_at "evs"
    exact hG _ rfl
  walk_at "evs"
  refine lcGo_three (a := .int (max x0 x1)) (b := .int (max y0 y1)) (c := .int (max z0 z1)) rfl ⟨_, rfl, fun G hG => ?_⟩ ⟨_, rfl, fun G hG => ?_⟩ ⟨_, rfl, fun G hG => ?_⟩ ?_
  · walk_at "evs"
    exact hG _ rfl
  · walk_at "evs"
    exact hG _ rfl
  · walk_at "evs"
    exact hG _ rfl
  walk_at "evs"
  exact q _
def sp_line_lot : DSpec := fun ds K' => ∃ (p : Pt) (a n : Int), ds = [.dat (eP p), .dat (.int a), .dat (.int n)] ∧ 0 ≤ a ∧ a < 3 ∧ ∀ outs, K' (.dat (eSol (boxS (minP p (setP p a n)) (addP (maxP p (setP p a n)) oneP)))) outs
theorem wp_line_lot : ∀ ds K', sp_line_lot ds K' → W_line_lot sp_added sp_sorted_corners sp_with_number sp_box { nx := fun ρ => K' (.dat .none) (outsOf ds ρ), rt := fun r ρ => K' r (outsOf ds ρ) } (startD N_line_lot ds) := by
  rintro ds K' ⟨p, a, n, rfl, h0, h3, q⟩
  unfold W_line_lot
  walk_at "evs"
  refine ev_kUser0 rfl rfl ⟨p, a, n, rfl, h0, h3, fun outs => ?_⟩
  walk_at "evs"
  refine ev_kUser0 rfl rfl ⟨p, _, rfl, fun outs => ?_⟩
  walk_at "evs"
  refine ev_kUser0 rfl rfl ⟨_, oneP, rfl, fun outs => ?_⟩
  walk_at "evs"
  refine ev_kUser0 rfl rfl ⟨_, _, rfl, fun outs => ?_⟩
  walk_at "evs"
  exact q _

end K41
end
section
set_option Elab.async false
set_option linter.all false
set_option maxRecDepth 100000
set_option maxHeartbeats 1000000
namespace K41
open PySem L2 DL SM
local macro_rules | `(tactic| walk_at "ev") => `(tactic| first
  | (with_reducible refine ev_seq ?_)
  | (with_reducible refine ev_next ?_)
  | (with_reducible refine ev_break ?_)
  | (with_reducible refine ev_cont ?_)
  | (with_reducible refine ev_expr ?_)
  | (with_reducible refine ev_kExpr ?_)
  | (with_reducible refine ev_ret ?_)
  | (with_reducible refine ev_retN ?_)
  | (with_reducible refine ev_kRet_dat ?_)
  | (with_reducible refine ev_kRet_lst ?_)
  | (with_reducible refine ev_ifS ?_)
  | (with_reducible refine ev_kIfS_t ?_)
  | (with_reducible refine ev_kIfS_f ?_)
  | (with_reducible refine ev_set ?_)
  | (with_reducible refine ev_par ?_)
  | (with_reducible refine ev_asg ?_)
  | (with_reducible refine ev_put ?_)
  | (with_reducible refine ev_kPut1 ?_)
  | (with_reducible refine ev_kPut2 ?_)
  | (with_reducible refine ev_for ?_)
  | (with_reducible refine ev_kFor ?_)
  | (with_reducible refine ev_seqI ?_)
  | (with_reducible refine ev_kSeqI_l ?_)
  | (with_reducible refine ev_kSeqI_t ?_)
  | (with_reducible refine ev_kSeqI_n ?_)
  | (with_reducible refine ev_rng1 ?_)
  | (with_reducible refine ev_rng2 ?_)
  | (with_reducible refine ev_rng3 ?_)
  | (with_reducible refine ev_c ?_)
  | (with_reducible refine ev_fn ?_)
  | (with_reducible refine ev_bin ?_)
  | (with_reducible refine ev_kBin1 ?_)
  | (with_reducible refine ev_intT ?_)
  | (with_reducible refine ev_eqI ?_)
  | (with_reducible refine ev_neI ?_)
  | (with_reducible refine ev_isN ?_)
  | (with_reducible refine ev_neg ?_)
  | (with_reducible refine ev_kNeg ?_)
  | (with_reducible refine ev_not ?_)
  | (with_reducible refine ev_kNot ?_)
  | (with_reducible refine ev_test ?_)
  | (with_reducible refine ev_kTest ?_)
  | (with_reducible refine ev_tru ?_)
  | (with_reducible refine ev_and ?_)
  | (with_reducible refine ev_or ?_)
  | (with_reducible refine ev_kAnd_t ?_)
  | (with_reducible refine ev_kAnd_f ?_)
  | (with_reducible refine ev_kOr_t ?_)
  | (with_reducible refine ev_kOr_f ?_)
  | (with_reducible refine ev_if ?_)
  | (with_reducible refine ev_kIf_t ?_)
  | (with_reducible refine ev_kIf_f ?_)
  | (with_reducible refine ev_andV ?_)
  | (with_reducible refine ev_orV ?_)
  | (with_reducible refine ev_kAndV_t ?_)
  | (with_reducible refine ev_kAndV_f ?_)
  | (with_reducible refine ev_kOrV_t ?_)
  | (with_reducible refine ev_kOrV_f ?_)
  | (with_reducible refine ev_notV ?_)
  | (with_reducible refine ev_kNotV ?_)
  | (with_reducible refine ev_isi ?_)
  | (with_reducible refine ev_nil ?_)
  | (with_reducible refine ev_kCons2 ?_)
  | (with_reducible refine ev_cons ?_)
  | (with_reducible refine ev_kCons1_dat ?_)
  | (with_reducible refine ev_kCons1_fn ?_)
  | (with_reducible refine ev_kCons1_own ?_)
  | (with_reducible refine ev_kCons1_lst ?_)
  | (with_reducible refine ev_star ?_)
  | (with_reducible refine ev_kStar2 ?_)
  | (with_reducible refine ev_tup ?_)
  | (with_reducible refine ev_lst ?_)
  | (with_reducible refine ev_noPart ?_)
  | (with_reducible refine ev_part ?_)
  | (with_reducible refine ev_kPart ?_)
  | (with_reducible refine ev_sl ?_)
  | (with_reducible refine ev_kSl1 ?_)
  | (with_reducible refine ev_kSl2 ?_)
  | (with_reducible refine ev_rev ?_)
  | (with_reducible refine ev_call ?_)
  | (with_reducible refine ev_max2 ?_)
  | (with_reducible refine ev_min2 ?_)
  | (with_reducible refine ev_int1 ?_)
  | (with_reducible refine ev_user ?_)
  | (with_reducible refine ev_app ?_)
  | (with_reducible refine ev_ext ?_)
  | (with_reducible refine ev_lc ?_)
  | ((with_reducible refine' ev_name ?k0 ?k1 ?_); (case k0 => rfl); (case k1 => rfl))
  | ((with_reducible refine' ev_nameO ?k0 ?k1 ?_); (case k0 => rfl); (case k1 => rfl))
  | ((with_reducible refine' ev_nameF_dat ?k0 ?_); (case k0 => rfl))
  | ((with_reducible refine' ev_nameF_fn ?k0 ?_); (case k0 => rfl))
  | ((with_reducible refine' ev_nameF_arg ?k0 ?_); (case k0 => rfl))
  | ((with_reducible refine' ev_nameF_lst ?k0 ?_); (case k0 => rfl))
  | ((with_reducible refine' ev_kSet_dat ?k0 ?_); (case k0 => rfl))
  | ((with_reducible refine' ev_kSet_lst ?k0 ?_); (case k0 => rfl))
  | ((with_reducible refine' ev_kSet_fn ?k0 ?_); (case k0 => rfl))
  | ((with_reducible refine' ev_kPar ?k0 ?k1 ?k2 ?k3 ?_); (case k0 => rfl); (case k1 => rfl); (case k2 => rfl); (case k3 => rfl))
  | ((with_reducible refine' ev_kAsg ?k0 ?_); (case k0 => rfl))
  | ((with_reducible refine' ev_aug ?k0 ?_); (case k0 => rfl))
  | ((with_reducible refine' ev_kAug ?k0 ?_); (case k0 => rfl))
  | ((with_reducible refine' ev_kPut3 ?k0 ?k1 ?_); (case k0 => rfl); (case k1 => rfl))
  | ((with_reducible refine' ev_ix ?k0 ?k1 ?_); (case k0 => rfl); (case k1 => rfl))
  | ((with_reducible refine' ev_kTru ?k0 ?_); (case k0 => rfl))
  | ((with_reducible refine' ev_kIsi ?k0 ?k1 ?_); (case k0 => rfl); (case k1 => rfl))
  | ((with_reducible refine' ev_kStar1 ?k0 ?_); (case k0 => rfl))
  | ((with_reducible refine' ev_kSl3_t ?k0 ?_); (case k0 => rfl))
  | ((with_reducible refine' ev_kSl3_l ?k0 ?_); (case k0 => rfl))
  | ((with_reducible refine' ev_kRev_t ?k0 ?_); (case k0 => rfl))
  | ((with_reducible refine' ev_kRev_l ?k0 ?_); (case k0 => rfl))
  | ((with_reducible refine' ev_len ?k0 ?_); (case k0 => rfl))
  | ((with_reducible refine' ev_tuple ?k0 ?_); (case k0 => rfl))
  | ((with_reducible refine' ev_list ?k0 ?_); (case k0 => rfl))
  | ((with_reducible refine' ev_kApp1 ?k0 ?_); (case k0 => rfl))
  | ((with_reducible refine' ev_kExt1 ?k0 ?_); (case k0 => rfl))
  | ((with_reducible refine' ev_kRet_own ?k0 ?_); (case k0 => rfl))
  | ((with_reducible refine' ev_kTup ?k0 ?k1 ?_); (case k0 => rfl); (case k1 => simp [sizeLine]))
  | ((with_reducible refine' ev_kLst ?k0 ?k1 ?_); (case k0 => rfl); (case k1 => simp [sizeLine]))
  | (with_reducible refine ev_nx ?_)
  | (with_reducible refine ev_rt ?_)
  | (with_reducible refine ev_bk ?_)
  | (with_reducible refine ev_ct ?_)
)
local macro_rules | `(tactic| walk_at "evs") => `(tactic| repeat (walk_at "ev"))
theorem nil_of_map {α β : Type} {f : α → β} {l : List α} (h : [] = l.map f) : l = [] := List.map_eq_nil_iff.mp h.symm
def sp_moved_layer : DSpec := fun ds K' => ∃ (d : Pt) (l : Lay), ds = [.dat (eLay l), .dat (eP d)] ∧ FLay (EB 15) l ∧ ∀ outs, K' (.dat (eLay (moveL d l))) outs
theorem wp_moved_layer : ∀ ds K', sp_moved_layer ds K' → W_moved_layer { nx := fun ρ => K' (.dat .none) (outsOf ds ρ), rt := fun r ρ => K' r (outsOf ds ρ) } (startD N_moved_layer ds) := by
  rintro ds K' ⟨d, l, rfl, hf, q⟩
  have szl : sizeLine = 16777216 := rfl
  have ll : l.length ≤ 31 := Form.few (few_EB 15) hf.1
  unfold W_moved_layer
  walk_at "evs"
  refine ev_kSeqI_t (xs := l.map (eS eRow)) ?_
  walk_at "evs"
  refine lcGo_ind (I := fun acc left ρ => ∃ done todo : Lay, l = done ++ todo ∧ left = todo.map (eS eRow) ∧ acc = (moveL d done).map (eS eRow) ∧ ρ = [some (.dat (eLay l)), some (.dat (eP d)), none, none, none, none, none]) ?_ ?_ _ _ _ ⟨[], l, rfl, rfl, rfl, rfl⟩
  · rintro acc ρ ⟨done, todo, e, h1, rfl, rfl⟩
    have := nil_of_map h1
    subst this
    rw [List.append_nil] at e
    subst e
    walk_at "evs"
    exact q _
  · rintro acc x xs ρ ⟨done, todo, e, h1, rfl, rfl⟩
    cases todo with
    | nil => cases h1
    | cons s todo =>
    obtain ⟨rfl, rfl⟩ := List.cons.inj h1
    have ld : done.length ≤ 31 := by have := congrArg List.length e; simp at this; omega
    have fs : FRow (EB 15) s.2.2 := (Form.mem hf.1 s (by rw [e]; simp)).g
    have lr : s.2.2.length ≤ 31 := Form.few (few_EB 15) fs.1
    refine ⟨rfl, _, rfl, fun Gn hG => ?_⟩
    walk_at "evs"
    refine ev_kSeqI_t (xs := s.2.2.map eU) ?_
    walk_at "evs"
    refine lcGo_ind (I := fun acc left ρ => ∃ d3 t3 : Row, s.2.2 = d3 ++ t3 ∧ left = t3.map eU ∧ acc = (moveR d d3).map eU ∧ ρ = [some (.dat (eLay l)), some (.dat (eP d)), some (.dat (.int s.1)), some (.dat (.int s.2.1)), some (.dat (eRow s.2.2)), none, none]) ?_ ?_ _ _ _ ⟨[], s.2.2, rfl, rfl, rfl, rfl⟩
    · rintro acc ρ ⟨d3, t3, e3, h3, rfl, rfl⟩
      have := nil_of_map h3
      subst this
      rw [List.append_nil] at e3
      walk_at "evs"
      refine hG _ _ (by rw [List.length_map]; unfold moveL; rw [shift_len]; omega) ⟨done ++ [s], todo, by rw [e]; simp, rfl, ?_, rfl⟩
      rw [← e3]
      unfold moveL shift
      rw [List.map_append, List.map_append]
      rfl
    · rintro acc x xs ρ ⟨d3, t3, e3, h3, rfl, rfl⟩
      cases t3 with
      | nil => cases h3
      | cons u t3 =>
      obtain ⟨rfl, rfl⟩ := List.cons.inj h3
      have l3 : d3.length ≤ 31 := by have := congrArg List.length e3; simp at this; omega
      refine ⟨rfl, _, rfl, fun Gn hG => ?_⟩
      walk_at "evs"
      refine hG _ _ (by rw [List.length_map]; unfold moveR; rw [shift_len]; omega) ⟨d3 ++ [u], t3, by rw [e3]; simp, rfl, by unfold moveR shift; simp [eU], rfl⟩
def sp_moved : DSpec := fun ds K' => ∃ (d : Pt) (l : Sol), ds = [.dat (eSol l), .dat (eP d)] ∧ FSol (EB 15) l ∧ ∀ outs, K' (.dat (eSol (moveS d l))) outs
theorem wp_moved : ∀ ds K', sp_moved ds K' → W_moved sp_moved_layer { nx := fun ρ => K' (.dat .none) (outsOf ds ρ), rt := fun r ρ => K' r (outsOf ds ρ) } (startD N_moved ds) := by
  rintro ds K' ⟨d, l, rfl, hf, q⟩
  have szl : sizeLine = 16777216 := rfl
  have ll : l.length ≤ 31 := Form.few (few_EB 15) hf
  unfold W_moved
  walk_at "evs"
  refine ev_kSeqI_t (xs := l.map (eS eLay)) ?_
  walk_at "evs"
  refine lcGo_ind (I := fun acc left ρ => ∃ done todo : Sol, l = done ++ todo ∧ left = todo.map (eS eLay) ∧ acc = (moveS d done).map (eS eLay) ∧ ρ = [some (.dat (eSol l)), some (.dat (eP d)), none, none, none]) ?_ ?_ _ _ _ ⟨[], l, rfl, rfl, rfl, rfl⟩
  · rintro acc ρ ⟨done, todo, e, h1, rfl, rfl⟩
    have := nil_of_map h1
    subst this
    rw [List.append_nil] at e
    subst e
    walk_at "evs"
    exact q _
  · rintro acc x xs ρ ⟨done, todo, e, h1, rfl, rfl⟩
    cases todo with
    | nil => cases h1
    | cons s todo =>
    obtain ⟨rfl, rfl⟩ := List.cons.inj h1
    have ld : done.length ≤ 31 := by have := congrArg List.length e; simp at this; omega
    have fs : FLay (EB 15) s.2.2 := (Form.mem hf s (by rw [e]; simp)).g
    refine ⟨rfl, _, rfl, fun Gn hG => ?_⟩
    walk_at "evs"
    refine ev_kUser0 rfl rfl ⟨d, s.2.2, rfl, fs, fun outs => ?_⟩
    walk_at "evs"
    refine hG _ _ (by rw [List.length_map]; unfold moveS; rw [shift_len]; omega) ⟨done ++ [s], todo, by rw [e]; simp, rfl, ?_, rfl⟩
    unfold moveS shift
    rw [List.map_append, List.map_append]
    rfl

end K41
end
section
set_option Elab.async false
set_option linter.all false
set_option maxRecDepth 100000
set_option maxHeartbeats 1000000
namespace K41
open PySem L2 DL SM
local macro_rules | `(tactic| walk_at "ev") => `(tactic| first
  | (with_reducible refine ev_seq ?_)
  | (with_reducible refine ev_next ?_)
  | (with_reducible refine ev_break ?_)
  | (with_reducible refine ev_cont ?_)
  | (with_reducible refine ev_expr ?_)
  | (with_reducible refine ev_kExpr ?_)
  | (with_reducible refine ev_ret ?_)
  | (with_reducible refine ev_retN ?_)
  | (with_reducible refine ev_kRet_dat ?_)
  | (with_reducible refine ev_kRet_lst ?_)
  | (with_reducible refine ev_ifS ?_)
  | (with_reducible refine ev_kIfS_t ?_)
  | (with_reducible refine ev_kIfS_f ?_)
  | (with_reducible refine ev_set ?_)
  | (with_reducible refine ev_par ?_)
  | (with_reducible refine ev_asg ?_)
  | (with_reducible refine ev_put ?_)
  | (with_reducible refine ev_kPut1 ?_)
  | (with_reducible refine ev_kPut2 ?_)
  | (with_reducible refine ev_for ?_)
  | (with_reducible refine ev_kFor ?_)
  | (with_reducible refine ev_seqI ?_)
  | (with_reducible refine ev_kSeqI_l ?_)
  | (with_reducible refine ev_kSeqI_t ?_)
  | (with_reducible refine ev_kSeqI_n ?_)
  | (with_reducible refine ev_rng1 ?_)
  | (with_reducible refine ev_rng2 ?_)
  | (with_reducible refine ev_rng3 ?_)
  | (with_reducible refine ev_c ?_)
  | (with_reducible refine ev_fn ?_)
  | (with_reducible refine ev_bin ?_)
  | (with_reducible refine ev_kBin1 ?_)
  | (with_reducible refine ev_intT ?_)
  | (with_reducible refine ev_eqI ?_)
  | (with_reducible refine ev_neI ?_)
  | (with_reducible refine ev_isN ?_)
  | (with_reducible refine ev_neg ?_)
  | (with_reducible refine ev_kNeg ?_)
  | (with_reducible refine ev_not ?_)
  | (with_reducible refine ev_kNot ?_)
  | (with_reducible refine ev_test ?_)
  | (with_reducible refine ev_kTest ?_)
  | (with_reducible refine ev_tru ?_)
  | (with_reducible refine ev_and ?_)
  | (with_reducible refine ev_or ?_)
  | (with_reducible refine ev_kAnd_t ?_)
  | (with_reducible refine ev_kAnd_f ?_)
  | (with_reducible refine ev_kOr_t ?_)
  | (with_reducible refine ev_kOr_f ?_)
  | (with_reducible refine ev_if ?_)
  | (with_reducible refine ev_kIf_t ?_)
  | (with_reducible refine ev_kIf_f ?_)
  | (with_reducible refine ev_andV ?_)
  | (with_reducible refine ev_orV ?_)
  | (with_reducible refine ev_kAndV_t ?_)
  | (with_reducible refine ev_kAndV_f ?_)
  | (with_reducible refine ev_kOrV_t ?_)
  | (with_reducible refine ev_kOrV_f ?_)
  | (with_reducible refine ev_notV ?_)
  | (with_reducible refine ev_kNotV ?_)
  | (with_reducible refine ev_isi ?_)
  | (with_reducible refine ev_nil ?_)
  | (with_reducible refine ev_kCons2 ?_)
  | (with_reducible refine ev_cons ?_)
  | (with_reducible refine ev_kCons1_dat ?_)
  | (with_reducible refine ev_kCons1_fn ?_)
  | (with_reducible refine ev_kCons1_own ?_)
  | (with_reducible refine ev_kCons1_lst ?_)
  | (with_reducible refine ev_star ?_)
  | (with_reducible refine ev_kStar2 ?_)
  | (with_reducible refine ev_tup ?_)
  | (with_reducible refine ev_lst ?_)
  | (with_reducible refine ev_noPart ?_)
  | (with_reducible refine ev_part ?_)
  | (with_reducible refine ev_kPart ?_)
  | (with_reducible refine ev_sl ?_)
  | (with_reducible refine ev_kSl1 ?_)
  | (with_reducible refine ev_kSl2 ?_)
  | (with_reducible refine ev_rev ?_)
  | (with_reducible refine ev_call ?_)
  | (with_reducible refine ev_max2 ?_)
  | (with_reducible refine ev_min2 ?_)
  | (with_reducible refine ev_int1 ?_)
  | (with_reducible refine ev_user ?_)
  | (with_reducible refine ev_app ?_)
  | (with_reducible refine ev_ext ?_)
  | (with_reducible refine ev_lc ?_)
  | ((with_reducible refine' ev_name ?k0 ?k1 ?_); (case k0 => rfl); (case k1 => rfl))
  | ((with_reducible refine' ev_nameO ?k0 ?k1 ?_); (case k0 => rfl); (case k1 => rfl))
  | ((with_reducible refine' ev_nameF_dat ?k0 ?_); (case k0 => rfl))
  | ((with_reducible refine' ev_nameF_fn ?k0 ?_); (case k0 => rfl))
  | ((with_reducible refine' ev_nameF_arg ?k0 ?_); (case k0 => rfl))
  | ((with_reducible refine' ev_nameF_lst ?k0 ?_); (case k0 => rfl))
  | ((with_reducible refine' ev_kSet_dat ?k0 ?_); (case k0 => rfl))
  | ((with_reducible refine' ev_kSet_lst ?k0 ?_); (case k0 => rfl))
  | ((with_reducible refine' ev_kSet_fn ?k0 ?_); (case k0 => rfl))
  | ((with_reducible refine' ev_kPar ?k0 ?k1 ?k2 ?k3 ?_); (case k0 => rfl); (case k1 => rfl); (case k2 => rfl); (case k3 => rfl))
  | ((with_reducible refine' ev_kAsg ?k0 ?_); (case k0 => rfl))
  | ((with_reducible refine' ev_aug ?k0 ?_); (case k0 => rfl))
  | ((with_reducible refine' ev_kAug ?k0 ?_); (case k0 => rfl))
  | ((with_reducible refine' ev_kPut3 ?k0 ?k1 ?_); (case k0 => rfl); (case k1 => rfl))
  | ((with_reducible refine' ev_ix ?k0 ?k1 ?_); (case k0 => rfl); (case k1 => rfl))
  | ((with_reducible refine' ev_kTru ?k0 ?_); (case k0 => rfl))
  | ((with_reducible refine' ev_kIsi ?k0 ?k1 ?_); (case k0 => rfl); (case k1 => rfl))
  | ((with_reducible refine' ev_kStar1 ?k0 ?_); (case k0 => rfl))
  | ((with_reducible refine' ev_kSl3_t ?k0 ?_); (case k0 => rfl))
  | ((with_reducible refine' ev_kSl3_l ?k0 ?_); (case k0 => rfl))
  | ((with_reducible refine' ev_kRev_t ?k0 ?_); (case k0 => rfl))
  | ((with_reducible refine' ev_kRev_l ?k0 ?_); (case k0 => rfl))
  | ((with_reducible refine' ev_len ?k0 ?_); (case k0 => rfl))
  | ((with_reducible refine' ev_tuple ?k0 ?_); (case k0 => rfl))
  | ((with_reducible refine' ev_list ?k0 ?_); (case k0 => rfl))
  | ((with_reducible refine' ev_kApp1 ?k0 ?_); (case k0 => rfl))
  | ((with_reducible refine' ev_kExt1 ?k0 ?_); (case k0 => rfl))
  | ((with_reducible refine' ev_kRet_own ?k0 ?_); (case k0 => rfl))
  | ((with_reducible refine' ev_kTup ?k0 ?k1 ?_); (case k0 => rfl); (case k1 => simp [sizeLine]))
  | ((with_reducible refine' ev_kLst ?k0 ?k1 ?_); (case k0 => rfl); (case k1 => simp [sizeLine]))
  | (with_reducible refine ev_nx ?_)
  | (with_reducible refine ev_rt ?_)
  | (with_reducible refine ev_bk ?_)
  | (with_reducible refine ev_ct ?_)
)
local macro_rules | `(tactic| walk_at "evs") => `(tactic| repeat (walk_at "ev"))
def sp_boxes_of : DSpec := fun ds K' => ∃ P : Sol, ds = [.dat (eSol P)] ∧ (boxesOf P).length ≤ 100000 ∧ ∀ outs, K' (.lst ((boxesOf P).map eB)) outs
theorem wp_boxes_of : ∀ ds K', sp_boxes_of ds K' → W_boxes_of { nx := fun ρ => K' (.dat .none) (outsOf ds ρ), rt := fun r ρ => K' r (outsOf ds ρ) } (startD N_boxes_of ds) := by
  rintro ds K' ⟨P, rfl, hl, q⟩
  have szl : sizeLine = 16777216 := rfl
  unfold W_boxes_of
  walk_at "evs"
  refine ev_kSeqI_t (xs := P.map (eS eLay)) ?_
  walk_at "evs"
  refine forGo_ind (I := fun left ρ => ∃ (done todo : Sol) (y2 y3 y4 y5 y6 y7 y8 y9 : Option DV), P = done ++ todo ∧ left = todo.map (eS eLay) ∧ ρ = [some (.dat (eSol P)), some (.lst ((boxesOf done).map eB)), y2, y3, y4, y5, y6, y7, y8, y9] ∧ notArgB (some y2) = true ∧ notArgB (some y3) = true ∧ notArgB (some y4) = true ∧ notArgB (some y5) = true ∧ notArgB (some y6) = true ∧ notArgB (some y7) = true ∧ notArgB (some y8) = true ∧ notArgB (some y9) = true) ?_ ?_ _ _ ⟨[], P, none, none, none, none, none, none, none, none, rfl, rfl, rfl, rfl, rfl, rfl, rfl, rfl, rfl, rfl, rfl⟩
  · rintro ρ ⟨done, todo, y2, y3, y4, y5, y6, y7, y8, y9, e, h1, rfl, _⟩
    have := nil_of_map h1
    subst this
    rw [List.append_nil] at e
    subst e
    walk_at "evs"
    exact q _
  · rintro x xs ρ ⟨done, todo, y2, y3, y4, y5, y6, y7, y8, y9, e, h1, rfl, n2, n3, n4, n5, n6, n7, n8, n9⟩
    cases todo with
    | nil => cases h1
    | cons z todo =>
    obtain ⟨rfl, rfl⟩ := List.cons.inj h1
    have lz : (boxesOf done).length + (boxesZ z).length ≤ 100000 := by
      have e2 : (boxesOf P).length = (boxesOf done).length + ((boxesZ z).length + (boxesOf todo).length) := by
        rw [e]; unfold boxesOf; rw [List.flatMap_append, List.length_append, List.flatMap_cons, List.length_append]
      omega
    refine ⟨[some (.dat (eSol P)), some (.lst ((boxesOf done).map eB)), some (.dat (.int z.1)), some (.dat (.int z.2.1)), some (.dat (eLay z.2.2)), y5, y6, y7, y8, y9], by simp [fTup, fCons, fName, fNil, eS, n2, n3, n4], fun N hN => ?_⟩
    walk_at "evs"
    refine ev_kSeqI_t (xs := z.2.2.map (eS eRow)) ?_
    walk_at "evs"
    refine forGo_ind (I := fun left ρ => ∃ (done2 todo2 : Lay) (y5 y6 y7 y8 y9 : Option DV), z.2.2 = done2 ++ todo2 ∧ left = todo2.map (eS eRow) ∧ ρ = [some (.dat (eSol P)), some (.lst ((boxesOf done ++ done2.flatMap (boxesY z)).map eB)), some (.dat (.int z.1)), some (.dat (.int z.2.1)), some (.dat (eLay z.2.2)), y5, y6, y7, y8, y9] ∧ notArgB (some y5) = true ∧ notArgB (some y6) = true ∧ notArgB (some y7) = true ∧ notArgB (some y8) = true ∧ notArgB (some y9) = true) ?_ ?_ _ _ ⟨[], z.2.2, y5, y6, y7, y8, y9, rfl, rfl, by simp, n5, n6, n7, n8, n9⟩
    · rintro ρ ⟨done2, todo2, y5, y6, y7, y8, y9, e2, h2, rfl, n5, n6, n7, n8, n9⟩
      have := nil_of_map h2
      subst this
      rw [List.append_nil] at e2
      refine hN _ ⟨done ++ [z], todo, some (.dat (.int z.1)), some (.dat (.int z.2.1)), some (.dat (eLay z.2.2)), y5, y6, y7, y8, y9, by rw [e]; simp, rfl, ?_, rfl, rfl, rfl, n5, n6, n7, n8, n9⟩
      have e3 : boxesOf (done ++ [z]) = boxesOf done ++ done2.flatMap (boxesY z) := by
        unfold boxesOf
        rw [List.flatMap_append, List.flatMap_cons, List.flatMap_nil, List.append_nil]
        unfold boxesZ
        rw [e2]
      rw [e3]
    · rintro x xs ρ ⟨done2, todo2, y5, y6, y7, y8, y9, e2, h2, rfl, n5, n6, n7, n8, n9⟩
      cases todo2 with
      | nil => cases h2
      | cons y todo2 =>
      obtain ⟨rfl, rfl⟩ := List.cons.inj h2
      have ly : (boxesOf done).length + ((done2.flatMap (boxesY z)).length + (boxesY z y).length) ≤ 100000 := by
        have e3 : (boxesZ z).length = (done2.flatMap (boxesY z)).length + ((boxesY z y).length + (todo2.flatMap (boxesY z)).length) := by
          unfold boxesZ; rw [e2, List.flatMap_append, List.length_append, List.flatMap_cons, List.length_append]
        omega
      refine ⟨[some (.dat (eSol P)), some (.lst ((boxesOf done ++ done2.flatMap (boxesY z)).map eB)), some (.dat (.int z.1)), some (.dat (.int z.2.1)), some (.dat (eLay z.2.2)), some (.dat (.int y.1)), some (.dat (.int y.2.1)), some (.dat (eRow y.2.2)), y8, y9], by simp [fTup, fCons, fName, fNil, eS, n5, n6, n7], fun N2 hN2 => ?_⟩
      walk_at "evs"
      refine ev_kSeqI_t (xs := y.2.2.map eU) ?_
      walk_at "evs"
      refine forGo_ind (I := fun left ρ => ∃ (d3 t3 : Row) (y8 y9 : Option DV), y.2.2 = d3 ++ t3 ∧ left = t3.map eU ∧ ρ = [some (.dat (eSol P)), some (.lst ((boxesOf done ++ done2.flatMap (boxesY z) ++ d3.map (boxY z y)).map eB)), some (.dat (.int z.1)), some (.dat (.int z.2.1)), some (.dat (eLay z.2.2)), some (.dat (.int y.1)), some (.dat (.int y.2.1)), some (.dat (eRow y.2.2)), y8, y9] ∧ notArgB (some y8) = true ∧ notArgB (some y9) = true) ?_ ?_ _ _ ⟨[], y.2.2, y8, y9, rfl, rfl, by simp, n8, n9⟩
      · rintro ρ ⟨d3, t3, y8, y9, e3, h3, rfl, n8, n9⟩
        have := nil_of_map h3
        subst this
        rw [List.append_nil] at e3
        refine hN2 _ ⟨done2 ++ [y], todo2, some (.dat (.int y.1)), some (.dat (.int y.2.1)), some (.dat (eRow y.2.2)), y8, y9, by rw [e2]; simp, rfl, ?_, rfl, rfl, rfl, n8, n9⟩
        rw [List.flatMap_append, List.flatMap_cons, List.flatMap_nil, List.append_nil, ← List.append_assoc]
        unfold boxesY
        rw [e3]
      · rintro x xs ρ ⟨d3, t3, y8, y9, e3, h3, rfl, n8, n9⟩
        cases t3 with
        | nil => cases h3
        | cons u t3 =>
        obtain ⟨rfl, rfl⟩ := List.cons.inj h3
        have ld : d3.length < (boxesY z y).length := by unfold boxesY; rw [List.length_map, e3]; simp
        refine ⟨[some (.dat (eSol P)), some (.lst ((boxesOf done ++ done2.flatMap (boxesY z) ++ d3.map (boxY z y)).map eB)), some (.dat (.int z.1)), some (.dat (.int z.2.1)), some (.dat (eLay z.2.2)), some (.dat (.int y.1)), some (.dat (.int y.2.1)), some (.dat (eRow y.2.2)), some (.dat (.int u.1)), some (.dat (.int u.2.1))], by simp [fTup, fCons, fName, fNil, eU, n8, n9], fun N3 hN3 => ?_⟩
        walk_at "evs"
        refine ev_kApp2 rfl (by rw [List.length_map, List.length_append, List.length_append, List.length_map]; omega) ?_
        walk_at "evs"
        refine hN3 _ ⟨d3 ++ [u], t3, some (.dat (.int u.1)), some (.dat (.int u.2.1)), by rw [e3]; simp, rfl, ?_, rfl, rfl⟩
        have e5 : (boxesOf done ++ done2.flatMap (boxesY z) ++ (d3 ++ [u]).map (boxY z y)).map eB = (boxesOf done ++ done2.flatMap (boxesY z) ++ d3.map (boxY z y)).map eB ++ [eB (boxY z y u)] := by simp
        rw [e5]
        rfl
def sp_count_of : DSpec := fun ds K' => ∃ P : Sol, ds = [.dat (eSol P)] ∧ FSol (EB 15) P ∧ ∀ (n : Int) outs, K' (.dat (.int n)) outs
theorem wp_count_of : ∀ ds K', sp_count_of ds K' → W_count_of { nx := fun ρ => K' (.dat .none) (outsOf ds ρ), rt := fun r ρ => K' r (outsOf ds ρ) } (startD N_count_of ds) := by
  rintro ds K' ⟨P, rfl, hf, q⟩
  have szl : sizeLine = 16777216 := rfl
  have ll : P.length ≤ 31 := Form.few (few_EB 15) hf
  unfold W_count_of
  walk_at "evs"
  refine ev_lc2 ?_
  walk_at "evs"
  refine ev_kSeqI_t (xs := P.map (eS eLay)) ?_
  refine lc2Go_ind (I := fun acc left ρ => ∃ (ns : List Int) (done todo : Sol), P = done ++ todo ∧ left = todo.map (eS eLay) ∧ acc = ns.map PyData.int ∧ ns.length ≤ done.length * 31 ∧ ρ = [some (.dat (eSol P)), none, none, none]) ?_ ?_ _ _ _ ⟨[], [], P, rfl, rfl, rfl, Nat.zero_le _, rfl⟩
  · rintro acc ρ ⟨ns, done, todo, e, h1, rfl, hn, rfl⟩
    walk_at "evs"
    refine ev_sum (ns := ns) ?_ ?_
    · exact intsOf_map ns
    walk_at "evs"
    exact q _ _
  · rintro acc x xs ρ ⟨ns, done, todo, e, h1, rfl, hn, rfl⟩
    cases todo with
    | nil => cases h1
    | cons s todo =>
    obtain ⟨rfl, rfl⟩ := List.cons.inj h1
    have ld : done.length + 1 ≤ 31 := by have := congrArg List.length e; simp at this; omega
    have fs : FLay (EB 15) s.2.2 := (Form.mem hf s (by rw [e]; simp)).g
    have lr : s.2.2.length ≤ 31 := Form.few (few_EB 15) fs.1
    refine ⟨rfl, _, rfl, fun Gn hG => ?_⟩
    walk_at "evs"
    refine ev_kSeqI_t (xs := s.2.2.map (eS eRow)) ?_
    refine lc2In_ind (I := fun acc left ρ => ∃ (ns : List Int) (d2 t2 : Lay), s.2.2 = d2 ++ t2 ∧ left = t2.map (eS eRow) ∧ acc = ns.map PyData.int ∧ ns.length ≤ done.length * 31 + d2.length ∧ ρ = [some (.dat (eSol P)), some (.dat (.int s.2.1)), some (.dat (eLay s.2.2)), none]) ?_ ?_ _ _ _ ⟨ns, [], s.2.2, rfl, rfl, rfl, hn, rfl⟩
    · rintro acc ρ ⟨ns, d2, t2, e2, h2, rfl, hn, rfl⟩
      have l2 : d2.length ≤ 31 := by have := congrArg List.length e2; simp at this; omega
      exact hG _ _ ⟨ns, done ++ [s], todo, by rw [e]; simp, rfl, rfl, by rw [List.length_append, List.length_singleton]; omega, rfl⟩
    · rintro acc x xs ρ ⟨ns, d2, t2, e2, h2, rfl, hn, rfl⟩
      cases t2 with
      | nil => cases h2
      | cons y t2 =>
      obtain ⟨rfl, rfl⟩ := List.cons.inj h2
      have l2 : d2.length + 1 ≤ 31 := by have := congrArg List.length e2; simp at this; omega
      refine ⟨rfl, _, rfl, fun G2 hG2 => ?_⟩
      walk_at "evs"
      refine hG2 _ _ (by rw [List.length_map]; omega) ⟨ns ++ [_], d2 ++ [y], t2, by rw [e2]; simp, rfl, by rw [List.map_append]; rfl, by rw [List.length_append, List.length_append, List.length_singleton, List.length_singleton]; omega, rfl⟩
theorem cS_any {P : Int × Int × Int → Prop} {rows : List Sol} {U : Sol} {p : Int × Int × Int} (h : cS U p = rows.any (cS · p)) : cS U p = true ↔ ∃ s ∈ rows, cS s p = true := by
  rw [h, List.any_eq_true]
def sp_swept : DSpec := fun ds K' => ∃ lot tool : Sol, ds = [.dat (eSol lot), .dat (eSol tool)] ∧ FSol (EB 15) lot ∧ FSol (EB 15) tool ∧ ∀ R, FSol (EB 30) R → (∀ p, cS R p = true ↔ sweepP lot tool p) → ∀ outs, K' (.dat (eSol R)) outs
theorem wp_swept : ∀ ds K', sp_swept ds K' → W_swept sp_grown sp_count_of sp_union_of sp_boxes_of { nx := fun ρ => K' (.dat .none) (outsOf ds ρ), rt := fun r ρ => K' r (outsOf ds ρ) } (startD N_swept ds) := by
  rintro ds K' ⟨lot, tool, rfl, hl, ht, q⟩
  have szl : sizeLine = 16777216 := rfl
  -- behind the choice
  have rest : ∀ (many few : Sol), FSol (EB 15) many → FSol (EB 15) few → (∀ p, sweepP many few p ↔ sweepP lot tool p) → wRet (wUser sp_union_of (wCons (wLc (wSeqI (wUser sp_boxes_of (wCons (wNameF 3) wNil))) (fTup 2 (fCons (fName 4) (fCons (fName 5) fNil))) wYes (wUser sp_grown (wCons (wNameF 2) (wCons (wNameF 4) (wCons (wTup (wCons (wBin oSub (wBin oIx (wName 5) (wC (.int 0))) (wC (.int 1))) (wCons (wBin oSub (wBin oIx (wName 5) (wC (.int 1))) (wC (.int 1))) (wCons (wBin oSub (wBin oIx (wName 5) (wC (.int 2))) (wC (.int 1))) wNil)))) wNil)))) [4, 5]) wNil))
      { nx := fun ρ => K' (.dat .none) (outsOf [.dat (eSol lot), .dat (eSol tool)] ρ), rt := fun r ρ => K' r (outsOf [.dat (eSol lot), .dat (eSol tool)] ρ) } [some (.dat (eSol lot)), some (.dat (eSol tool)), some (.dat (eSol many)), some (.dat (eSol few)), none, none] := by
    intro many few hm hf hc
    have lb : (boxesOf few).length ≤ 31 * (31 * 31) := boxes_len (few_EB 15) hf
    walk_at "evs"
    refine ev_kUser0 rfl rfl ⟨few, rfl, by omega, fun outs => ?_⟩
    walk_at "evs"
    refine lcGo_ind (I := fun acc left ρ => ∃ done todo : List (Pt × Pt), boxesOf few = done ++ todo ∧ left = todo.map eB ∧ acc = (done.map fun b => growS b.1 (lessOne b.2) many).map eSol ∧ (∀ b ∈ done, FSol (EB 30) (growS b.1 (lessOne b.2) many) ∧ ∀ p, cS (growS b.1 (lessOne b.2) many) p = true ↔ gS b.1 (lessOne b.2) many p) ∧
      ρ = [some (.dat (eSol lot)), some (.dat (eSol tool)), some (.dat (eSol many)), some (.dat (eSol few)), none, none]) ?_ ?_ _ _ _ ⟨[], boxesOf few, rfl, rfl, rfl, (fun b m => nomatch m), rfl⟩
    · rintro acc ρ ⟨done, todo, e, h1, rfl, hg, rfl⟩
      have := nil_of_map h1
      subst this
      rw [List.append_nil] at e
      walk_at "evs"
      refine ev_kUser0 rfl rfl ⟨EB 30, 61, _, rfl, few_EB 30, by decide, fun s m => ?_, by rw [List.length_map, ← e]; omega, fun U h2 h3 outs => ?_⟩
      · obtain ⟨b, mb, rfl⟩ := List.mem_map.mp m
        exact (hg b mb).1
      · walk_at "evs"
        refine q U h2 (fun p => ?_) _
        rw [cS_any (P := fun _ => True) (h3 p), ← hc p, ← sweep_boxes hf, e]
        constructor
        · rintro ⟨s, m, c⟩
          obtain ⟨b, mb, rfl⟩ := List.mem_map.mp m
          exact ⟨b, mb, ((hg b mb).2 p).mp c⟩
        · rintro ⟨b, mb, c⟩
          exact ⟨_, List.mem_map_of_mem mb, ((hg b mb).2 p).mpr c⟩
    · rintro acc x xs ρ ⟨done, todo, e, h1, rfl, hg, rfl⟩
      cases todo with
      | nil => cases h1
      | cons b todo =>
      obtain ⟨rfl, rfl⟩ := List.cons.inj h1
      have ld : done.length ≤ 31 * (31 * 31) := by have := congrArg List.length e; simp at this; omega
      obtain ⟨⟨a1, a2, a3⟩, ⟨b1, b2, b3⟩, c1, c2, c3⟩ := boxes_ok hf (show b ∈ boxesOf few by rw [e]; simp)
      have a1 : -15 ≤ b.1.1 ∧ b.1.1 ≤ 15 := a1
      have a2 : -15 ≤ b.1.2.1 ∧ b.1.2.1 ≤ 15 := a2
      have a3 : -15 ≤ b.1.2.2 ∧ b.1.2.2 ≤ 15 := a3
      have b1 : -15 ≤ b.2.1 ∧ b.2.1 ≤ 15 := b1
      have b2 : -15 ≤ b.2.2.1 ∧ b.2.2.1 ≤ 15 := b2
      have b3 : -15 ≤ b.2.2.2 ∧ b.2.2.2 ≤ 15 := b3
      refine ⟨rfl, _, rfl, fun Gn hG => ?_⟩
      walk_at "evs"
      refine ev_kUser0 rfl rfl ⟨b.1, lessOne b.2, many, rfl, ⟨?_, ?_, ?_⟩, ⟨a1, a2, a3⟩, ⟨⟨?_, ?_⟩, ⟨?_, ?_⟩, ⟨?_, ?_⟩⟩, hm, fun f1 g1 outs => ?_⟩
      · show _ ≤ b.2.1 - 1; omega
      · show _ ≤ b.2.2.1 - 1; omega
      · show _ ≤ b.2.2.2 - 1; omega
      · show -15 ≤ b.2.1 - 1; omega
      · show b.2.1 - 1 ≤ 15; omega
      · show -15 ≤ b.2.2.1 - 1; omega
      · show b.2.2.1 - 1 ≤ 15; omega
      · show -15 ≤ b.2.2.2 - 1; omega
      · show b.2.2.2 - 1 ≤ 15; omega
      walk_at "evs"
      refine hG _ _ (by rw [List.length_map, List.length_map]; omega) ⟨done ++ [b], todo, by rw [e]; simp, rfl, by rw [List.map_append, List.map_append]; rfl, fun t m => ?_, rfl⟩
      rcases List.mem_append.mp m with m | m
      · exact hg t m
      · have : t = b := by simpa using m
        rw [this]
        exact ⟨f1, g1⟩
  unfold W_swept
  refine ev_seq_cut (fun ρ => ∃ many few : Sol, FSol (EB 15) many ∧ FSol (EB 15) few ∧ (∀ p, sweepP many few p ↔ sweepP lot tool p) ∧ ρ = [some (.dat (eSol lot)), some (.dat (eSol tool)), some (.dat (eSol many)), some (.dat (eSol few)), none, none]) ?_ ?_
  · rintro ρ ⟨many, few, hm, hf, hc, rfl⟩
    exact rest many few hm hf hc
  · intro N hN
    walk_at "evs"
    refine ev_kUser0 rfl rfl ⟨tool, rfl, ht, fun n1 outs => ?_⟩
    walk_at "evs"
    refine ev_kUser0 rfl rfl ⟨lot, rfl, hl, fun n2 outs => ?_⟩
    walk_at "evs"
    refine ev_kIf (fun h => ?_) (fun h => ?_)
    · walk_at "evs"
      exact hN _ ⟨lot, tool, hl, ht, fun p => Iff.rfl, rfl⟩
    · walk_at "evs"
      exact hN _ ⟨tool, lot, ht, hl, fun p => sweep_comm, rfl⟩

end K41
end
section
set_option Elab.async false
set_option linter.all false
set_option maxRecDepth 100000
set_option maxHeartbeats 1000000
namespace K41
open PySem L2 DL SM
local macro_rules | `(tactic| walk_at "ev") => `(tactic| first
  | (with_reducible refine ev_seq ?_)
  | (with_reducible refine ev_next ?_)
  | (with_reducible refine ev_break ?_)
  | (with_reducible refine ev_cont ?_)
  | (with_reducible refine ev_expr ?_)
  | (with_reducible refine ev_kExpr ?_)
  | (with_reducible refine ev_ret ?_)
  | (with_reducible refine ev_retN ?_)
  | (with_reducible refine ev_kRet_dat ?_)
  | (with_reducible refine ev_kRet_lst ?_)
  | (with_reducible refine ev_ifS ?_)
  | (with_reducible refine ev_kIfS_t ?_)
  | (with_reducible refine ev_kIfS_f ?_)
  | (with_reducible refine ev_set ?_)
  | (with_reducible refine ev_par ?_)
  | (with_reducible refine ev_asg ?_)
  | (with_reducible refine ev_put ?_)
  | (with_reducible refine ev_kPut1 ?_)
  | (with_reducible refine ev_kPut2 ?_)
  | (with_reducible refine ev_for ?_)
  | (with_reducible refine ev_kFor ?_)
  | (with_reducible refine ev_seqI ?_)
  | (with_reducible refine ev_kSeqI_l ?_)
  | (with_reducible refine ev_kSeqI_t ?_)
  | (with_reducible refine ev_kSeqI_n ?_)
  | (with_reducible refine ev_rng1 ?_)
  | (with_reducible refine ev_rng2 ?_)
  | (with_reducible refine ev_rng3 ?_)
  | (with_reducible refine ev_c ?_)
  | (with_reducible refine ev_fn ?_)
  | (with_reducible refine ev_bin ?_)
  | (with_reducible refine ev_kBin1 ?_)
  | (with_reducible refine ev_intT ?_)
  | (with_reducible refine ev_eqI ?_)
  | (with_reducible refine ev_neI ?_)
  | (with_reducible refine ev_isN ?_)
  | (with_reducible refine ev_neg ?_)
  | (with_reducible refine ev_kNeg ?_)
  | (with_reducible refine ev_not ?_)
  | (with_reducible refine ev_kNot ?_)
  | (with_reducible refine ev_test ?_)
  | (with_reducible refine ev_kTest ?_)
  | (with_reducible refine ev_tru ?_)
  | (with_reducible refine ev_and ?_)
  | (with_reducible refine ev_or ?_)
  | (with_reducible refine ev_kAnd_t ?_)
  | (with_reducible refine ev_kAnd_f ?_)
  | (with_reducible refine ev_kOr_t ?_)
  | (with_reducible refine ev_kOr_f ?_)
  | (with_reducible refine ev_if ?_)
  | (with_reducible refine ev_kIf_t ?_)
  | (with_reducible refine ev_kIf_f ?_)
  | (with_reducible refine ev_andV ?_)
  | (with_reducible refine ev_orV ?_)
  | (with_reducible refine ev_kAndV_t ?_)
  | (with_reducible refine ev_kAndV_f ?_)
  | (with_reducible refine ev_kOrV_t ?_)
  | (with_reducible refine ev_kOrV_f ?_)
  | (with_reducible refine ev_notV ?_)
  | (with_reducible refine ev_kNotV ?_)
  | (with_reducible refine ev_isi ?_)
  | (with_reducible refine ev_nil ?_)
  | (with_reducible refine ev_kCons2 ?_)
  | (with_reducible refine ev_cons ?_)
  | (with_reducible refine ev_kCons1_dat ?_)
  | (with_reducible refine ev_kCons1_fn ?_)
  | (with_reducible refine ev_kCons1_own ?_)
  | (with_reducible refine ev_kCons1_lst ?_)
  | (with_reducible refine ev_star ?_)
  | (with_reducible refine ev_kStar2 ?_)
  | (with_reducible refine ev_tup ?_)
  | (with_reducible refine ev_lst ?_)
  | (with_reducible refine ev_noPart ?_)
  | (with_reducible refine ev_part ?_)
  | (with_reducible refine ev_kPart ?_)
  | (with_reducible refine ev_sl ?_)
  | (with_reducible refine ev_kSl1 ?_)
  | (with_reducible refine ev_kSl2 ?_)
  | (with_reducible refine ev_rev ?_)
  | (with_reducible refine ev_call ?_)
  | (with_reducible refine ev_max2 ?_)
  | (with_reducible refine ev_min2 ?_)
  | (with_reducible refine ev_int1 ?_)
  | (with_reducible refine ev_user ?_)
  | (with_reducible refine ev_app ?_)
  | (with_reducible refine ev_ext ?_)
  | (with_reducible refine ev_lc ?_)
  | ((with_reducible refine' ev_name ?k0 ?k1 ?_); (case k0 => rfl); (case k1 => rfl))
  | ((with_reducible refine' ev_nameO ?k0 ?k1 ?_); (case k0 => rfl); (case k1 => rfl))
  | ((with_reducible refine' ev_nameF_dat ?k0 ?_); (case k0 => rfl))
  | ((with_reducible refine' ev_nameF_fn ?k0 ?_); (case k0 => rfl))
  | ((with_reducible refine' ev_nameF_arg ?k0 ?_); (case k0 => rfl))
  | ((with_reducible refine' ev_nameF_lst ?k0 ?_); (case k0 => rfl))
  | ((with_reducible refine' ev_kSet_dat ?k0 ?_); (case k0 => rfl))
  | ((with_reducible refine' ev_kSet_lst ?k0 ?_); (case k0 => rfl))
  | ((with_reducible refine' ev_kSet_fn ?k0 ?_); (case k0 => rfl))
  | ((with_reducible refine' ev_kPar ?k0 ?k1 ?k2 ?k3 ?_); (case k0 => rfl); (case k1 => rfl); (case k2 => rfl); (case k3 => rfl))
  | ((with_reducible refine' ev_kAsg ?k0 ?_); (case k0 => rfl))
  | ((with_reducible refine' ev_aug ?k0 ?_); (case k0 => rfl))
  | ((with_reducible refine' ev_kAug ?k0 ?_); (case k0 => rfl))
  | ((with_reducible refine' ev_kPut3 ?k0 ?k1 ?_); (case k0 => rfl); (case k1 => rfl))
  | ((with_reducible refine' ev_ix ?k0 ?k1 ?_); (case k0 => rfl); (case k1 => rfl))
  | ((with_reducible refine' ev_kTru ?k0 ?_); (case k0 => rfl))
  | ((with_reducible refine' ev_kIsi ?k0 ?k1 ?_); (case k0 => rfl); (case k1 => rfl))
  | ((with_reducible refine' ev_kStar1 ?k0 ?_); (case k0 => rfl))
  | ((with_reducible refine' ev_kSl3_t ?k0 ?_); (case k0 => rfl))
  | ((with_reducible refine' ev_kSl3_l ?k0 ?_); (case k0 => rfl))
  | ((with_reducible refine' ev_kRev_t ?k0 ?_); (case k0 => rfl))
  | ((with_reducible refine' ev_kRev_l ?k0 ?_); (case k0 => rfl))
  | ((with_reducible refine' ev_len ?k0 ?_); (case k0 => rfl))
  | ((with_reducible refine' ev_tuple ?k0 ?_); (case k0 => rfl))
  | ((with_reducible refine' ev_list ?k0 ?_); (case k0 => rfl))
  | ((with_reducible refine' ev_kApp1 ?k0 ?_); (case k0 => rfl))
  | ((with_reducible refine' ev_kExt1 ?k0 ?_); (case k0 => rfl))
  | ((with_reducible refine' ev_kRet_own ?k0 ?_); (case k0 => rfl))
  | ((with_reducible refine' ev_kTup ?k0 ?k1 ?_); (case k0 => rfl); (case k1 => simp [sizeLine]))
  | ((with_reducible refine' ev_kLst ?k0 ?k1 ?_); (case k0 => rfl); (case k1 => simp [sizeLine]))
  | (with_reducible refine ev_nx ?_)
  | (with_reducible refine ev_rt ?_)
  | (with_reducible refine ev_bk ?_)
  | (with_reducible refine ev_ct ?_)
)
local macro_rules | `(tactic| walk_at "evs") => `(tactic| repeat (walk_at "ev"))
/-! ### the cubes of a box -/
theorem forGo_rng {f : PyData → Den → Option Den} {wb : WS} {D : DE} {lo : Int} {n : Nat} {ρ : Den} (I : Nat → Den → Prop) (hn : ∀ ρ, I n ρ → D.nx ρ)
    (hs : ∀ k ρ, k < n → I k ρ → ∃ ρ1, f (.int (lo + (k : Nat))) ρ = some ρ1 ∧ ∀ G : Den → Prop, (∀ ρ, I (k + 1) ρ → G ρ) → wb { D with nx := G, ct := G, bk := D.nx } ρ1) (h : I 0 ρ) : forGo f wb D (rangeD lo n) ρ := by
  refine forGo_ind (I := fun left ρ => ∃ k, k ≤ n ∧ left = (rangeD lo n).drop k ∧ I k ρ) ?_ ?_ _ _ ⟨0, Nat.zero_le _, rfl, h⟩
  · rintro ρ ⟨k, hk, e, i⟩
    have := congrArg List.length e
    rw [List.length_drop, rangeD_len, List.length_nil] at this
    have : k = n := by omega
    exact hn _ (this ▸ i)
  · rintro x xs ρ ⟨k, hk, e, i⟩
    have hlt : k < n := by
      have := congrArg List.length e
      rw [List.length_drop, rangeD_len, List.length_cons] at this
      omega
    have hx : (rangeD lo n)[k]? = some x := by rw [← List.head?_drop, ← e]; rfl
    obtain ⟨_, rfl⟩ := rangeD_get hx
    have hxs : xs = (rangeD lo n).drop (k + 1) := by rw [← List.tail_drop, ← e]; rfl
    obtain ⟨ρ1, e1, k1⟩ := hs k ρ hlt i
    exact ⟨ρ1, e1, fun G hG => k1 G fun ρ i => hG ρ ⟨k + 1, hlt, hxs, i⟩⟩
theorem forGo_one {f : PyData → Den → Option Den} {wb : WS} {D : DE} {x : PyData} {ρ ρ1 : Den} (e : f x ρ = some ρ1) (h : wb { D with nx := D.nx, ct := D.nx, bk := D.nx } ρ1) : forGo f wb D [x] ρ := by
  show match f x ρ with
    | some ρ1 => wb { D with nx := forGo f wb D [], ct := forGo f wb D [], bk := D.nx } ρ1
    | none => False
  rw [e]
  exact h
def iv (a : Int) (n : Nat) : List Int := (List.range n).map fun k => a + (k : Nat)
theorem iv_succ {a : Int} {n : Nat} : iv a (n + 1) = iv a n ++ [a + (n : Nat)] := by unfold iv; rw [List.range_succ, List.map_append]; rfl
theorem iv_mem {a x : Int} {n : Nat} : x ∈ iv a n ↔ a ≤ x ∧ x < a + (n : Nat) := by
  unfold iv
  rw [List.mem_map]
  constructor
  · rintro ⟨k, m, rfl⟩
    have := List.mem_range.mp m
    exact ⟨by omega, by omega⟩
  · rintro ⟨h1, h2⟩
    exact ⟨(x - a).toNat, List.mem_range.mpr (by omega), by omega⟩
theorem iv_len {a : Int} {n : Nat} : (iv a n).length = n := by simp [iv]
def ptsX (a : Int) (n : Nat) (y z : Int) : List Pt := (iv a n).map fun x => (x, y, z)
def ptsY (a : Int) (n : Nat) (b : Int) (m : Nat) (z : Int) : List Pt := (iv b m).flatMap fun y => ptsX a n y z
def ptsZ (a : Int) (n : Nat) (b : Int) (m : Nat) (c : Int) (l : Nat) : List Pt := (iv c l).flatMap fun z => ptsY a n b m z
theorem ptsX_mem {a : Int} {n : Nat} {y z : Int} {p : Pt} : p ∈ ptsX a n y z ↔ (a ≤ p.1 ∧ p.1 < a + (n : Nat)) ∧ p.2.1 = y ∧ p.2.2 = z := by
  unfold ptsX
  rw [List.mem_map]
  constructor
  · rintro ⟨x, m, rfl⟩; exact ⟨iv_mem.mp m, rfl, rfl⟩
  · rintro ⟨h, h2, h3⟩
    obtain ⟨p1, p2, p3⟩ := p
    exact ⟨p1, iv_mem.mpr h, by rw [← h2, ← h3]⟩
theorem ptsY_mem {a : Int} {n : Nat} {b : Int} {m : Nat} {z : Int} {p : Pt} : p ∈ ptsY a n b m z ↔ (a ≤ p.1 ∧ p.1 < a + (n : Nat)) ∧ (b ≤ p.2.1 ∧ p.2.1 < b + (m : Nat)) ∧ p.2.2 = z := by
  unfold ptsY
  rw [List.mem_flatMap]
  constructor
  · rintro ⟨y, hy, h⟩
    obtain ⟨h1, rfl, h3⟩ := ptsX_mem.mp h
    exact ⟨h1, iv_mem.mp hy, h3⟩
  · rintro ⟨h1, h2, h3⟩
    exact ⟨p.2.1, iv_mem.mpr h2, ptsX_mem.mpr ⟨h1, rfl, h3⟩⟩
theorem ptsZ_mem {a : Int} {n : Nat} {b : Int} {m : Nat} {c : Int} {l : Nat} {p : Pt} : p ∈ ptsZ a n b m c l ↔ (a ≤ p.1 ∧ p.1 < a + (n : Nat)) ∧ (b ≤ p.2.1 ∧ p.2.1 < b + (m : Nat)) ∧ (c ≤ p.2.2 ∧ p.2.2 < c + (l : Nat)) := by
  unfold ptsZ
  rw [List.mem_flatMap]
  constructor
  · rintro ⟨z, hz, h⟩
    obtain ⟨h1, h2, rfl⟩ := ptsY_mem.mp h
    exact ⟨h1, h2, iv_mem.mp hz⟩
  · rintro ⟨h1, h2, h3⟩
    exact ⟨p.2.2, iv_mem.mpr h3, ptsY_mem.mpr ⟨h1, h2, rfl⟩⟩
theorem flat_len_eq {α δ : Type} {f : α → List δ} {k : Nat} : ∀ {l : List α}, (∀ x ∈ l, (f x).length = k) → (l.flatMap f).length = l.length * k
  | [], _ => by simp
  | x :: l, h => by
    rw [List.flatMap_cons, List.length_append, List.length_cons, Nat.succ_mul, h x List.mem_cons_self, flat_len_eq fun y m => h y (List.mem_cons_of_mem _ m)]
    omega
theorem ptsX_len {a : Int} {n : Nat} {y z : Int} : (ptsX a n y z).length = n := by unfold ptsX; rw [List.length_map, iv_len]
theorem ptsY_len {a : Int} {n : Nat} {b : Int} {m : Nat} {z : Int} : (ptsY a n b m z).length = m * n := by unfold ptsY; rw [flat_len_eq (k := n) fun _ _ => ptsX_len, iv_len]
theorem ptsZ_len {a : Int} {n : Nat} {b : Int} {m : Nat} {c : Int} {l : Nat} : (ptsZ a n b m c l).length = l * (m * n) := by unfold ptsZ; rw [flat_len_eq (k := m * n) fun _ _ => ptsY_len, iv_len]
theorem ptsX_succ {a : Int} {n : Nat} {y z : Int} : ptsX a (n + 1) y z = ptsX a n y z ++ [(a + (n : Nat), y, z)] := by unfold ptsX; rw [iv_succ, List.map_append]; rfl
theorem ptsY_succ {a : Int} {n : Nat} {b : Int} {m : Nat} {z : Int} : ptsY a n b (m + 1) z = ptsY a n b m z ++ ptsX a n (b + (m : Nat)) z := by unfold ptsY; rw [iv_succ, List.flatMap_append]; simp
theorem ptsZ_succ {a : Int} {n : Nat} {b : Int} {m : Nat} {c : Int} {l : Nat} : ptsZ a n b m c (l + 1) = ptsZ a n b m c l ++ ptsY a n b m (c + (l : Nat)) := by unfold ptsZ; rw [iv_succ, List.flatMap_append]; simp
def kP (p : Pt) : List Key := [.inl p.1, .inl p.2.1, .inl p.2.2]
theorem kP_inj {p q : Pt} (h : kP p = kP q) : p = q := by
  obtain ⟨a, b, c⟩ := p
  obtain ⟨d, e, f⟩ := q
  simp [kP] at h
  simp [h]
def dP (l : List Pt) : List (List Key × PyData) := l.map fun p => (kP p, .bool true)
theorem put_new {l : List Pt} {p : Pt} (h : p ∉ l) : putG (dP l) (kP p) (.bool true) = dP (l ++ [p]) := by
  unfold putG
  have : ¬ ((dP l).any fun q => decide (q.1 = kP p)) = true := by
    rw [List.any_eq_true]
    rintro ⟨q, m, e⟩
    obtain ⟨r, mr, rfl⟩ := List.mem_map.mp m
    have e := kP_inj (of_decide_eq_true e)
    exact h (e ▸ mr)
  rw [if_neg this]
  unfold dP
  rw [List.map_append]
  rfl
/-- how many numbers an axis of a box has -/
def spanN (a b : Int) : Nat := (b - a).toNat
def ptsB (lo hi : Pt) : List Pt := ptsZ lo.1 (spanN lo.1 hi.1) lo.2.1 (spanN lo.2.1 hi.2.1) lo.2.2 (spanN lo.2.2 hi.2.2)
def sp__law_cubes : DSpec := fun ds K' => ∃ lo hi : Pt, ds = [.dat (eSol (boxS lo hi))] ∧ lo.1 < hi.1 ∧ lo.2.1 < hi.2.1 ∧ lo.2.2 < hi.2.2 ∧ ptB 40 lo ∧ ptB 40 hi ∧ ∀ outs, K' (.dic (dP (ptsB lo hi))) outs
theorem wp__law_cubes : ∀ ds K', sp__law_cubes ds K' → W__law_cubes { nx := fun ρ => K' (.dat .none) (outsOf ds ρ), rt := fun r ρ => K' r (outsOf ds ρ) } (startD N__law_cubes ds) := by
  rintro ds K' ⟨⟨x0, y0, z0⟩, ⟨x1, y1, z1⟩, rfl, hx, hy, hz, ⟨⟨a1, a2⟩, ⟨a3, a4⟩, a5, a6⟩, ⟨⟨b1, b2⟩, ⟨b3, b4⟩, b5, b6⟩, q⟩
  have szl : sizeLine = 16777216 := rfl
  dsimp only at hx hy hz a1 a2 a3 a4 a5 a6 b1 b2 b3 b4 b5 b6
  have e : boxS (x0, y0, z0) (x1, y1, z1) = [(z0, z1, [(y0, y1, [(x0, x1, ())])])] := if_pos ⟨hx, hy, hz⟩
  rw [e] at *
  unfold W__law_cubes
  walk_at "evs"
  refine ev_dnew ?_
  refine ev_kSet_dic rfl ?_
  walk_at "evs"
  refine ev_kSeqI_t (xs := [eS eLay (z0, z1, [(y0, y1, [(x0, x1, ())])])]) ?_
  refine ev_kFor ?_
  refine forGo_one (ρ1 := [some (.dat (eSol [(z0, z1, [(y0, y1, [(x0, x1, ())])])])), some (.dic (dP [])), some (.dat (.int z0)), some (.dat (.int z1)), some (.dat (eLay [(y0, y1, [(x0, x1, ())])])), none, none, none, none, none, none, none, none]) rfl ?_
  walk_at "evs"
  refine ev_kSeqI_t (xs := [eS eRow (y0, y1, [(x0, x1, ())])]) ?_
  refine ev_kFor ?_
  refine forGo_one (ρ1 := [some (.dat (eSol [(z0, z1, [(y0, y1, [(x0, x1, ())])])])), some (.dic (dP [])), some (.dat (.int z0)), some (.dat (.int z1)), some (.dat (eLay [(y0, y1, [(x0, x1, ())])])), some (.dat (.int y0)), some (.dat (.int y1)), some (.dat (eRow [(x0, x1, ())])), none, none, none, none, none]) rfl ?_
  walk_at "evs"
  refine ev_kSeqI_t (xs := [eU (x0, x1, ())]) ?_
  refine ev_kFor ?_
  refine forGo_one (ρ1 := [some (.dat (eSol [(z0, z1, [(y0, y1, [(x0, x1, ())])])])), some (.dic (dP [])), some (.dat (.int z0)), some (.dat (.int z1)), some (.dat (eLay [(y0, y1, [(x0, x1, ())])])), some (.dat (.int y0)), some (.dat (.int y1)), some (.dat (eRow [(x0, x1, ())])), some (.dat (.int x0)), some (.dat (.int x1)), none, none, none]) rfl ?_
  walk_at "evs"
  have nx : spanN x0 x1 ≤ 80 := by unfold spanN; omega
  have ny : spanN y0 y1 ≤ 80 := by unfold spanN; omega
  have nz : spanN z0 z1 ≤ 80 := by unfold spanN; omega
  refine ev_kRng2 ⟨by omega, by omega, by omega, by omega⟩ ?_
  refine forGo_rng (I := fun k ρ => ∃ w10 w11 w12 : Option DV, notArgB (some w10) = true ∧ notArgB (some w11) = true ∧ notArgB (some w12) = true ∧ ρ = [some (.dat (eSol [(z0, z1, [(y0, y1, [(x0, x1, ())])])])), some (.dic (dP (ptsZ x0 (spanN x0 x1) y0 (spanN y0 y1) z0 k))), some (.dat (.int z0)), some (.dat (.int z1)), some (.dat (eLay [(y0, y1, [(x0, x1, ())])])), some (.dat (.int y0)), some (.dat (.int y1)), some (.dat (eRow [(x0, x1, ())])), some (.dat (.int x0)), some (.dat (.int x1)), w10, w11, w12]) ?_ ?_ ⟨none, none, none, rfl, rfl, rfl, rfl⟩
  · rintro ρ ⟨w10, w11, w12, n10, n11, n12, rfl⟩
    walk_at "evs"
    refine ev_kRet_ownD rfl ?_
    exact q _
  · rintro k ρ hk ⟨w10, w11, w12, n10, n11, n12, rfl⟩
    have hk : k < spanN z0 z1 := hk
    refine ⟨[some (.dat (eSol [(z0, z1, [(y0, y1, [(x0, x1, ())])])])), some (.dic (dP (ptsZ x0 (spanN x0 x1) y0 (spanN y0 y1) z0 k))), some (.dat (.int z0)), some (.dat (.int z1)), some (.dat (eLay [(y0, y1, [(x0, x1, ())])])), some (.dat (.int y0)), some (.dat (.int y1)), some (.dat (eRow [(x0, x1, ())])), some (.dat (.int x0)), some (.dat (.int x1)), some (.dat (.int (z0 + (k : Nat)))), w11, w12], by simp [fName, n10], fun N hN => ?_⟩
    walk_at "evs"
    refine ev_kRng2 ⟨by omega, by omega, by omega, by omega⟩ ?_
    refine forGo_rng (I := fun j ρ => ∃ w11 w12 : Option DV, notArgB (some w11) = true ∧ notArgB (some w12) = true ∧ ρ = [some (.dat (eSol [(z0, z1, [(y0, y1, [(x0, x1, ())])])])), some (.dic (dP (ptsZ x0 (spanN x0 x1) y0 (spanN y0 y1) z0 k ++ ptsY x0 (spanN x0 x1) y0 j (z0 + (k : Nat))))), some (.dat (.int z0)), some (.dat (.int z1)), some (.dat (eLay [(y0, y1, [(x0, x1, ())])])), some (.dat (.int y0)), some (.dat (.int y1)), some (.dat (eRow [(x0, x1, ())])), some (.dat (.int x0)), some (.dat (.int x1)), some (.dat (.int (z0 + (k : Nat)))), w11, w12]) ?_ ?_ ⟨w11, w12, n11, n12, by simp [ptsY, iv]⟩
    · rintro ρ ⟨w11, w12, n11, n12, rfl⟩
      exact hN _ ⟨_, w11, w12, rfl, n11, n12, by rw [ptsZ_succ]; rfl⟩
    · rintro j ρ hj ⟨w11, w12, n11, n12, rfl⟩
      have hj : j < spanN y0 y1 := hj
      refine ⟨[some (.dat (eSol [(z0, z1, [(y0, y1, [(x0, x1, ())])])])), some (.dic (dP (ptsZ x0 (spanN x0 x1) y0 (spanN y0 y1) z0 k ++ ptsY x0 (spanN x0 x1) y0 j (z0 + (k : Nat))))), some (.dat (.int z0)), some (.dat (.int z1)), some (.dat (eLay [(y0, y1, [(x0, x1, ())])])), some (.dat (.int y0)), some (.dat (.int y1)), some (.dat (eRow [(x0, x1, ())])), some (.dat (.int x0)), some (.dat (.int x1)), some (.dat (.int (z0 + (k : Nat)))), some (.dat (.int (y0 + (j : Nat)))), w12], by simp [fName, n11], fun N2 hN2 => ?_⟩
      walk_at "evs"
      refine ev_kRng2 ⟨by omega, by omega, by omega, by omega⟩ ?_
      refine forGo_rng (I := fun i ρ => ∃ w12 : Option DV, notArgB (some w12) = true ∧ ρ = [some (.dat (eSol [(z0, z1, [(y0, y1, [(x0, x1, ())])])])), some (.dic (dP (ptsZ x0 (spanN x0 x1) y0 (spanN y0 y1) z0 k ++ ptsY x0 (spanN x0 x1) y0 j (z0 + (k : Nat)) ++ ptsX x0 i (y0 + (j : Nat)) (z0 + (k : Nat))))), some (.dat (.int z0)), some (.dat (.int z1)), some (.dat (eLay [(y0, y1, [(x0, x1, ())])])), some (.dat (.int y0)), some (.dat (.int y1)), some (.dat (eRow [(x0, x1, ())])), some (.dat (.int x0)), some (.dat (.int x1)), some (.dat (.int (z0 + (k : Nat)))), some (.dat (.int (y0 + (j : Nat)))), w12]) ?_ ?_ ⟨w12, n12, by simp [ptsX, iv]⟩
      · rintro ρ ⟨w12, n12, rfl⟩
        exact hN2 _ ⟨_, w12, rfl, n12, by rw [ptsY_succ, ← List.append_assoc]; rfl⟩
      · rintro i ρ hi ⟨w12, n12, rfl⟩
        have hi : i < spanN x0 x1 := hi
        refine ⟨[some (.dat (eSol [(z0, z1, [(y0, y1, [(x0, x1, ())])])])), some (.dic (dP (ptsZ x0 (spanN x0 x1) y0 (spanN y0 y1) z0 k ++ ptsY x0 (spanN x0 x1) y0 j (z0 + (k : Nat)) ++ ptsX x0 i (y0 + (j : Nat)) (z0 + (k : Nat))))), some (.dat (.int z0)), some (.dat (.int z1)), some (.dat (eLay [(y0, y1, [(x0, x1, ())])])), some (.dat (.int y0)), some (.dat (.int y1)), some (.dat (eRow [(x0, x1, ())])), some (.dat (.int x0)), some (.dat (.int x1)), some (.dat (.int (z0 + (k : Nat)))), some (.dat (.int (y0 + (j : Nat)))), some (.dat (.int (x0 + (i : Nat))))], by simp [fName, n12], fun N3 hN3 => ?_⟩
        refine ev_dput ?_
        walk_at "evs"
        refine ev_kDPut1 ?_
        walk_at "evs"
        refine ev_kDPut2 ?_
        walk_at "evs"
        have ln : (ptsZ x0 (spanN x0 x1) y0 (spanN y0 y1) z0 k).length + (ptsY x0 (spanN x0 x1) y0 j (z0 + (k : Nat))).length + (ptsX x0 i (y0 + (j : Nat)) (z0 + (k : Nat))).length < sizeLine := by
          rw [ptsZ_len, ptsY_len, ptsX_len]
          have m1 : spanN y0 y1 * spanN x0 x1 ≤ 80 * 80 := Nat.mul_le_mul ny nx
          have m2 : k * (spanN y0 y1 * spanN x0 x1) ≤ 80 * (80 * 80) := Nat.mul_le_mul (by omega) m1
          have m3 : j * spanN x0 x1 ≤ 80 * 80 := Nat.mul_le_mul (by omega) nx
          omega
        refine ev_kDPut3 (k := kP (x0 + (i : Nat), y0 + (j : Nat), z0 + (k : Nat))) rfl rfl (by unfold dP; rw [List.length_map, List.length_append, List.length_append]; exact ln) ?_
        rw [put_new ?_]
        · exact hN3 _ ⟨_, rfl, by rw [ptsX_succ, ← List.append_assoc]; rfl⟩
        · intro m
          rcases List.mem_append.mp m with m | m
          · rcases List.mem_append.mp m with m | m
            · have := (ptsZ_mem.mp m).2.2.2
              dsimp only at this
              omega
            · have := (ptsY_mem.mp m).2.1.2
              dsimp only at this
              omega
          · have := (ptsX_mem.mp m).1.2
            dsimp only at this
            omega

end K41
end
section
set_option Elab.async false
set_option linter.all false
set_option maxRecDepth 100000
set_option maxHeartbeats 1000000
namespace K41
open PySem L2 DL SM
local macro_rules | `(tactic| walk_at "ev") => `(tactic| first
  | (with_reducible refine ev_seq ?_)
  | (with_reducible refine ev_next ?_)
  | (with_reducible refine ev_break ?_)
  | (with_reducible refine ev_cont ?_)
  | (with_reducible refine ev_expr ?_)
  | (with_reducible refine ev_kExpr ?_)
  | (with_reducible refine ev_ret ?_)
  | (with_reducible refine ev_retN ?_)
  | (with_reducible refine ev_kRet_dat ?_)
  | (with_reducible refine ev_kRet_lst ?_)
  | (with_reducible refine ev_ifS ?_)
  | (with_reducible refine ev_kIfS_t ?_)
  | (with_reducible refine ev_kIfS_f ?_)
  | (with_reducible refine ev_set ?_)
  | (with_reducible refine ev_par ?_)
  | (with_reducible refine ev_asg ?_)
  | (with_reducible refine ev_put ?_)
  | (with_reducible refine ev_kPut1 ?_)
  | (with_reducible refine ev_kPut2 ?_)
  | (with_reducible refine ev_for ?_)
  | (with_reducible refine ev_kFor ?_)
  | (with_reducible refine ev_seqI ?_)
  | (with_reducible refine ev_kSeqI_l ?_)
  | (with_reducible refine ev_kSeqI_t ?_)
  | (with_reducible refine ev_kSeqI_n ?_)
  | (with_reducible refine ev_rng1 ?_)
  | (with_reducible refine ev_rng2 ?_)
  | (with_reducible refine ev_rng3 ?_)
  | (with_reducible refine ev_c ?_)
  | (with_reducible refine ev_fn ?_)
  | (with_reducible refine ev_bin ?_)
  | (with_reducible refine ev_kBin1 ?_)
  | (with_reducible refine ev_intT ?_)
  | (with_reducible refine ev_eqI ?_)
  | (with_reducible refine ev_neI ?_)
  | (with_reducible refine ev_isN ?_)
  | (with_reducible refine ev_neg ?_)
  | (with_reducible refine ev_kNeg ?_)
  | (with_reducible refine ev_not ?_)
  | (with_reducible refine ev_kNot ?_)
  | (with_reducible refine ev_test ?_)
  | (with_reducible refine ev_kTest ?_)
  | (with_reducible refine ev_tru ?_)
  | (with_reducible refine ev_and ?_)
  | (with_reducible refine ev_or ?_)
  | (with_reducible refine ev_kAnd_t ?_)
  | (with_reducible refine ev_kAnd_f ?_)
  | (with_reducible refine ev_kOr_t ?_)
  | (with_reducible refine ev_kOr_f ?_)
  | (with_reducible refine ev_if ?_)
  | (with_reducible refine ev_kIf_t ?_)
  | (with_reducible refine ev_kIf_f ?_)
  | (with_reducible refine ev_andV ?_)
  | (with_reducible refine ev_orV ?_)
  | (with_reducible refine ev_kAndV_t ?_)
  | (with_reducible refine ev_kAndV_f ?_)
  | (with_reducible refine ev_kOrV_t ?_)
  | (with_reducible refine ev_kOrV_f ?_)
  | (with_reducible refine ev_notV ?_)
  | (with_reducible refine ev_kNotV ?_)
  | (with_reducible refine ev_isi ?_)
  | (with_reducible refine ev_nil ?_)
  | (with_reducible refine ev_kCons2 ?_)
  | (with_reducible refine ev_cons ?_)
  | (with_reducible refine ev_kCons1_dat ?_)
  | (with_reducible refine ev_kCons1_fn ?_)
  | (with_reducible refine ev_kCons1_own ?_)
  | (with_reducible refine ev_kCons1_lst ?_)
  | (with_reducible refine ev_star ?_)
  | (with_reducible refine ev_kStar2 ?_)
  | (with_reducible refine ev_tup ?_)
  | (with_reducible refine ev_lst ?_)
  | (with_reducible refine ev_noPart ?_)
  | (with_reducible refine ev_part ?_)
  | (with_reducible refine ev_kPart ?_)
  | (with_reducible refine ev_sl ?_)
  | (with_reducible refine ev_kSl1 ?_)
  | (with_reducible refine ev_kSl2 ?_)
  | (with_reducible refine ev_rev ?_)
  | (with_reducible refine ev_call ?_)
  | (with_reducible refine ev_max2 ?_)
  | (with_reducible refine ev_min2 ?_)
  | (with_reducible refine ev_int1 ?_)
  | (with_reducible refine ev_user ?_)
  | (with_reducible refine ev_app ?_)
  | (with_reducible refine ev_ext ?_)
  | (with_reducible refine ev_lc ?_)
  | ((with_reducible refine' ev_name ?k0 ?k1 ?_); (case k0 => rfl); (case k1 => rfl))
  | ((with_reducible refine' ev_nameO ?k0 ?k1 ?_); (case k0 => rfl); (case k1 => rfl))
  | ((with_reducible refine' ev_nameF_dat ?k0 ?_); (case k0 => rfl))
  | ((with_reducible refine' ev_nameF_fn ?k0 ?_); (case k0 => rfl))
  | ((with_reducible refine' ev_nameF_arg ?k0 ?_); (case k0 => rfl))
  | ((with_reducible refine' ev_nameF_lst ?k0 ?_); (case k0 => rfl))
  | ((with_reducible refine' ev_kSet_dat ?k0 ?_); (case k0 => rfl))
  | ((with_reducible refine' ev_kSet_lst ?k0 ?_); (case k0 => rfl))
  | ((with_reducible refine' ev_kSet_fn ?k0 ?_); (case k0 => rfl))
  | ((with_reducible refine' ev_kPar ?k0 ?k1 ?k2 ?k3 ?_); (case k0 => rfl); (case k1 => rfl); (case k2 => rfl); (case k3 => rfl))
  | ((with_reducible refine' ev_kAsg ?k0 ?_); (case k0 => rfl))
  | ((with_reducible refine' ev_aug ?k0 ?_); (case k0 => rfl))
  | ((with_reducible refine' ev_kAug ?k0 ?_); (case k0 => rfl))
  | ((with_reducible refine' ev_kPut3 ?k0 ?k1 ?_); (case k0 => rfl); (case k1 => rfl))
  | ((with_reducible refine' ev_ix ?k0 ?k1 ?_); (case k0 => rfl); (case k1 => rfl))
  | ((with_reducible refine' ev_kTru ?k0 ?_); (case k0 => rfl))
  | ((with_reducible refine' ev_kIsi ?k0 ?k1 ?_); (case k0 => rfl); (case k1 => rfl))
  | ((with_reducible refine' ev_kStar1 ?k0 ?_); (case k0 => rfl))
  | ((with_reducible refine' ev_kSl3_t ?k0 ?_); (case k0 => rfl))
  | ((with_reducible refine' ev_kSl3_l ?k0 ?_); (case k0 => rfl))
  | ((with_reducible refine' ev_kRev_t ?k0 ?_); (case k0 => rfl))
  | ((with_reducible refine' ev_kRev_l ?k0 ?_); (case k0 => rfl))
  | ((with_reducible refine' ev_len ?k0 ?_); (case k0 => rfl))
  | ((with_reducible refine' ev_tuple ?k0 ?_); (case k0 => rfl))
  | ((with_reducible refine' ev_list ?k0 ?_); (case k0 => rfl))
  | ((with_reducible refine' ev_kApp1 ?k0 ?_); (case k0 => rfl))
  | ((with_reducible refine' ev_kExt1 ?k0 ?_); (case k0 => rfl))
  | ((with_reducible refine' ev_kRet_own ?k0 ?_); (case k0 => rfl))
  | ((with_reducible refine' ev_kTup ?k0 ?k1 ?_); (case k0 => rfl); (case k1 => simp [sizeLine]))
  | ((with_reducible refine' ev_kLst ?k0 ?k1 ?_); (case k0 => rfl); (case k1 => simp [sizeLine]))
  | (with_reducible refine ev_nx ?_)
  | (with_reducible refine ev_rt ?_)
  | (with_reducible refine ev_bk ?_)
  | (with_reducible refine ev_ct ?_)
)
local macro_rules | `(tactic| walk_at "evs") => `(tactic| repeat (walk_at "ev"))
theorem putBack_one {i : Nat} {own : Bool} {xs ys : List PyData} {rest os : List DV} {ρ : Den} (h : ρ[i]? = some (some (mkO own xs))) (hr : owns rest = []) : putBack (.own i :: rest) (.arg ys :: os) ρ = ρ.set i (some (mkO own ys)) := by
  apply List.ext_getElem?
  intro j
  rw [show putBack (.own i :: rest) (.arg ys :: os) ρ = pbGo 0 (.own i :: rest) (.arg ys :: os) ρ from rfl, pbGo_get, Nat.zero_add]
  by_cases hj : i = j
  · subst hj
    have e : findOut i (.own i :: rest) (.arg ys :: os) = some ys := by
      show (if i = i then _ else _) = _
      rw [if_pos rfl]
    rw [e, List.getElem?_set_self (List.getElem?_eq_some_iff.mp h).1, h]
    cases own <;> rfl
  · have e : findOut j (.own i :: rest) (.arg ys :: os) = none := by
      show (if i = j then _ else findOut j rest os) = _
      rw [if_neg hj]
      exact findOut_none fun k => owns_nil_at hr _ k
    rw [e, List.getElem?_set_ne hj]
    cases ρ[j]? with
    | none => rfl
    | some d => rw [Option.map_some, pb1_none]
theorem mkO_arg {ρ : Den} {i : Nat} {own : Bool} {xs : List PyData} (h : ρ[i]? = some (some (mkO own xs))) : toArg ρ (.own i) = some (.arg xs) := by
  unfold toArg
  dsimp only
  rw [h]
  cases own <;> rfl
theorem ev_draw {ρ : Den} {Q : DV → Den → Prop} {i : Nat} {own : Bool} {ns : List Int} {k b : Int} (h : ρ[i]? = some (some (mkO own (eDr ns k)))) (h1 : 0 ≤ k) (h2 : k ≤ 1000000) (hb : 0 < b)
    (q : ∀ r, 0 ≤ r → r < b → Q (.dat (.int r)) (ρ.set i (some (mkO own (eDr ns (k + 1)))))) : kUser sp__law_next Q [.own i, .dat (.int b)] ρ := by
  refine ev_kUser (ds := [.arg (eDr ns k), .dat (.int b)]) (by simp [owns]) ?_ ⟨ns, k, b, rfl, h1, h2, hb, fun r g0 g1 => ?_⟩
  · show (toArg ρ (.own i)).bind _ = _
    rw [mkO_arg h]; rfl
  · show Q (.dat (.int r)) (putBack [.own i, .dat (.int b)] [.arg (eDr ns (k + 1)), .dat (.int b)] ρ)
    rw [putBack_one h rfl]
    exact q r g0 g1
def sp__law_tool : DSpec := fun ds K' => ∃ (ns : List Int) (k : Int) (nm : PyData), ds = [.arg (eDr ns k), .dat nm] ∧ 0 ≤ k ∧ k ≤ 1000 ∧
  ∀ (C : Sol) (hd rt : PyData) k', k ≤ k' → k' ≤ k + 20 → FSol (EB 15) C → K' (.dat (.tuple [nm, eSol C, hd, rt])) [.arg (eDr ns k'), .dat nm]
theorem ptB_mk {B : Nat} {x y z : Int} (h1 : -(B : Int) ≤ x ∧ x ≤ B) (h2 : -(B : Int) ≤ y ∧ y ≤ B) (h3 : -(B : Int) ≤ z ∧ z ≤ B) : ptIn (EB B) (x, y, z) := ⟨h1, h2, h3⟩
theorem wp__law_tool : ∀ ds K', sp__law_tool ds K' → W__law_tool sp_box sp_union sp__law_next { nx := fun ρ => K' (.dat .none) (outsOf ds ρ), rt := fun r ρ => K' r (outsOf ds ρ) } (startD N__law_tool ds) := by
  rintro ds K' ⟨ns, k, nm, rfl, hk, hk2, q⟩
  have szl : sizeLine = 16777216 := rfl
  unfold W__law_tool
  walk_at "evs"
  refine ev_draw (own := true) rfl hk (by omega) (by decide) fun a a0 a1 => ?_
  walk_at "evs"
  refine ev_draw (own := true) rfl (by omega) (by omega) (by decide) fun b b0 b1 => ?_
  walk_at "evs"
  refine ev_draw (own := true) rfl (by omega) (by omega) (by decide) fun h h0 h1 => ?_
  walk_at "evs"
  refine ev_kUser0 rfl rfl ⟨(0, 0, 0), (1 + a, 1 + h, 1 + b), rfl, fun outs => ?_⟩
  refine ev_kSet_dat rfl ?_
  refine ev_nx ?_
  have f1 : FSol (EB 15) (boxS (0, 0, 0) (1 + a, 1 + h, 1 + b)) := box_form (ptB_mk (by omega) (by omega) (by omega)) (ptB_mk (by omega) (by omega) (by omega))
  have f2 : FSol (EB 15) (boxS (-1, 0, 0) (1 + a + 1, 1, 1)) := box_form (ptB_mk (by omega) (by omega) (by omega)) (ptB_mk (by omega) (by omega) (by omega))
  refine ev_seq_cut (fun ρ => ∃ (C : Sol) (k' : Int), k ≤ k' ∧ k' ≤ k + 10 ∧ FSol (EB 15) C ∧ ρ = [some (.arg (eDr ns k')), some (.dat nm), some (.dat (.int (1 + a))), some (.dat (.int (1 + b))), some (.dat (eSol C)), none, none]) ?_ ?_
  · rintro ρ ⟨C, k', g1, g2, fC, rfl⟩
    walk_at "evs"
    refine ev_draw (own := true) rfl (by omega) (by omega) (by decide) fun c1 c1a c1b => ?_
    walk_at "evs"
    refine ev_draw (own := true) rfl (by omega) (by omega) (by decide) fun c2 c2a c2b => ?_
    walk_at "evs"
    refine ev_draw (own := true) rfl (by omega) (by omega) (by decide) fun c3 c3a c3b => ?_
    walk_at "evs"
    refine ev_draw (own := true) rfl (by omega) (by omega) (by decide) fun c4 c4a c4b => ?_
    walk_at "evs"
    refine ev_draw (own := true) rfl (by omega) (by omega) (by decide) fun c5 c5a c5b => ?_
    walk_at "evs"
    refine ev_kIf (fun z => ?_) (fun z => ?_)
    · walk_at "evs"
      refine ev_kUser0 rfl rfl ⟨(-c1, -c2, 1 + b), (1 + a + c3, 2 + c4, 1 + b + 2), rfl, fun outs => ?_⟩
      walk_at "evs"
      refine ev_draw (own := true) rfl (by omega) (by omega) (by decide) fun c6 c6a c6b => ?_
      walk_at "evs"
      exact q C _ _ _ (by omega) (by omega) fC
    · walk_at "evs"
      refine ev_draw (own := true) rfl (by omega) (by omega) (by decide) fun c6 c6a c6b => ?_
      walk_at "evs"
      exact q C _ _ _ (by omega) (by omega) fC
  · intro N hN
    walk_at "evs"
    refine ev_draw (own := true) rfl (by omega) (by omega) (by decide) fun c1 c1a c1b => ?_
    walk_at "evs"
    refine ev_kIfS (fun z => ?_) (fun z => ?_)
    · walk_at "evs"
      refine ev_kUser0 rfl rfl ⟨(-1, 0, 0), (1 + a + 1, 1, 1), rfl, fun outs => ?_⟩
      walk_at "evs"
      refine ev_kUser0 rfl rfl ⟨EB 15, 31, _, _, rfl, few_EB 15, by decide, f1, f2, fun outs => ?_⟩
      refine ev_kSet_dat rfl ?_
      exact hN _ ⟨_, _, by omega, by omega, (combS_ok op_or joinR_rule f1 f2).1, rfl⟩
    · exact hN _ ⟨_, _, by omega, by omega, f1, rfl⟩

end K41
end
section
set_option Elab.async false
set_option linter.all false
set_option maxRecDepth 100000
set_option maxHeartbeats 1000000
namespace K41
open PySem L2 DL SM
local macro_rules | `(tactic| walk_at "ev") => `(tactic| first
  | (with_reducible refine ev_seq ?_)
  | (with_reducible refine ev_next ?_)
  | (with_reducible refine ev_break ?_)
  | (with_reducible refine ev_cont ?_)
  | (with_reducible refine ev_expr ?_)
  | (with_reducible refine ev_kExpr ?_)
  | (with_reducible refine ev_ret ?_)
  | (with_reducible refine ev_retN ?_)
  | (with_reducible refine ev_kRet_dat ?_)
  | (with_reducible refine ev_kRet_lst ?_)
  | (with_reducible refine ev_ifS ?_)
  | (with_reducible refine ev_kIfS_t ?_)
  | (with_reducible refine ev_kIfS_f ?_)
  | (with_reducible refine ev_set ?_)
  | (with_reducible refine ev_par ?_)
  | (with_reducible refine ev_asg ?_)
  | (with_reducible refine ev_put ?_)
  | (with_reducible refine ev_kPut1 ?_)
  | (with_reducible refine ev_kPut2 ?_)
  | (with_reducible refine ev_for ?_)
  | (with_reducible refine ev_kFor ?_)
  | (with_reducible refine ev_seqI ?_)
  | (with_reducible refine ev_kSeqI_l ?_)
  | (with_reducible refine ev_kSeqI_t ?_)
  | (with_reducible refine ev_kSeqI_n ?_)
  | (with_reducible refine ev_rng1 ?_)
  | (with_reducible refine ev_rng2 ?_)
  | (with_reducible refine ev_rng3 ?_)
  | (with_reducible refine ev_c ?_)
  | (with_reducible refine ev_fn ?_)
  | (with_reducible refine ev_bin ?_)
  | (with_reducible refine ev_kBin1 ?_)
  | (with_reducible refine ev_intT ?_)
  | (with_reducible refine ev_eqI ?_)
  | (with_reducible refine ev_neI ?_)
  | (with_reducible refine ev_isN ?_)
  | (with_reducible refine ev_neg ?_)
  | (with_reducible refine ev_kNeg ?_)
  | (with_reducible refine ev_not ?_)
  | (with_reducible refine ev_kNot ?_)
  | (with_reducible refine ev_test ?_)
  | (with_reducible refine ev_kTest ?_)
  | (with_reducible refine ev_tru ?_)
  | (with_reducible refine ev_and ?_)
  | (with_reducible refine ev_or ?_)
  | (with_reducible refine ev_kAnd_t ?_)
  | (with_reducible refine ev_kAnd_f ?_)
  | (with_reducible refine ev_kOr_t ?_)
  | (with_reducible refine ev_kOr_f ?_)
  | (with_reducible refine ev_if ?_)
  | (with_reducible refine ev_kIf_t ?_)
  | (with_reducible refine ev_kIf_f ?_)
  | (with_reducible refine ev_andV ?_)
  | (with_reducible refine ev_orV ?_)
  | (with_reducible refine ev_kAndV_t ?_)
  | (with_reducible refine ev_kAndV_f ?_)
  | (with_reducible refine ev_kOrV_t ?_)
  | (with_reducible refine ev_kOrV_f ?_)
  | (with_reducible refine ev_notV ?_)
  | (with_reducible refine ev_kNotV ?_)
  | (with_reducible refine ev_isi ?_)
  | (with_reducible refine ev_nil ?_)
  | (with_reducible refine ev_kCons2 ?_)
  | (with_reducible refine ev_cons ?_)
  | (with_reducible refine ev_kCons1_dat ?_)
  | (with_reducible refine ev_kCons1_fn ?_)
  | (with_reducible refine ev_kCons1_own ?_)
  | (with_reducible refine ev_kCons1_lst ?_)
  | (with_reducible refine ev_star ?_)
  | (with_reducible refine ev_kStar2 ?_)
  | (with_reducible refine ev_tup ?_)
  | (with_reducible refine ev_lst ?_)
  | (with_reducible refine ev_noPart ?_)
  | (with_reducible refine ev_part ?_)
  | (with_reducible refine ev_kPart ?_)
  | (with_reducible refine ev_sl ?_)
  | (with_reducible refine ev_kSl1 ?_)
  | (with_reducible refine ev_kSl2 ?_)
  | (with_reducible refine ev_rev ?_)
  | (with_reducible refine ev_call ?_)
  | (with_reducible refine ev_max2 ?_)
  | (with_reducible refine ev_min2 ?_)
  | (with_reducible refine ev_int1 ?_)
  | (with_reducible refine ev_user ?_)
  | (with_reducible refine ev_app ?_)
  | (with_reducible refine ev_ext ?_)
  | (with_reducible refine ev_lc ?_)
  | ((with_reducible refine' ev_name ?k0 ?k1 ?_); (case k0 => rfl); (case k1 => rfl))
  | ((with_reducible refine' ev_nameO ?k0 ?k1 ?_); (case k0 => rfl); (case k1 => rfl))
  | ((with_reducible refine' ev_nameF_dat ?k0 ?_); (case k0 => rfl))
  | ((with_reducible refine' ev_nameF_fn ?k0 ?_); (case k0 => rfl))
  | ((with_reducible refine' ev_nameF_arg ?k0 ?_); (case k0 => rfl))
  | ((with_reducible refine' ev_nameF_lst ?k0 ?_); (case k0 => rfl))
  | ((with_reducible refine' ev_kSet_dat ?k0 ?_); (case k0 => rfl))
  | ((with_reducible refine' ev_kSet_lst ?k0 ?_); (case k0 => rfl))
  | ((with_reducible refine' ev_kSet_fn ?k0 ?_); (case k0 => rfl))
  | ((with_reducible refine' ev_kPar ?k0 ?k1 ?k2 ?k3 ?_); (case k0 => rfl); (case k1 => rfl); (case k2 => rfl); (case k3 => rfl))
  | ((with_reducible refine' ev_kAsg ?k0 ?_); (case k0 => rfl))
  | ((with_reducible refine' ev_aug ?k0 ?_); (case k0 => rfl))
  | ((with_reducible refine' ev_kAug ?k0 ?_); (case k0 => rfl))
  | ((with_reducible refine' ev_kPut3 ?k0 ?k1 ?_); (case k0 => rfl); (case k1 => rfl))
  | ((with_reducible refine' ev_ix ?k0 ?k1 ?_); (case k0 => rfl); (case k1 => rfl))
  | ((with_reducible refine' ev_kTru ?k0 ?_); (case k0 => rfl))
  | ((with_reducible refine' ev_kIsi ?k0 ?k1 ?_); (case k0 => rfl); (case k1 => rfl))
  | ((with_reducible refine' ev_kStar1 ?k0 ?_); (case k0 => rfl))
  | ((with_reducible refine' ev_kSl3_t ?k0 ?_); (case k0 => rfl))
  | ((with_reducible refine' ev_kSl3_l ?k0 ?_); (case k0 => rfl))
  | ((with_reducible refine' ev_kRev_t ?k0 ?_); (case k0 => rfl))
  | ((with_reducible refine' ev_kRev_l ?k0 ?_); (case k0 => rfl))
  | ((with_reducible refine' ev_len ?k0 ?_); (case k0 => rfl))
  | ((with_reducible refine' ev_tuple ?k0 ?_); (case k0 => rfl))
  | ((with_reducible refine' ev_list ?k0 ?_); (case k0 => rfl))
  | ((with_reducible refine' ev_kApp1 ?k0 ?_); (case k0 => rfl))
  | ((with_reducible refine' ev_kExt1 ?k0 ?_); (case k0 => rfl))
  | ((with_reducible refine' ev_kRet_own ?k0 ?_); (case k0 => rfl))
  | ((with_reducible refine' ev_kTup ?k0 ?k1 ?_); (case k0 => rfl); (case k1 => simp [sizeLine]))
  | ((with_reducible refine' ev_kLst ?k0 ?k1 ?_); (case k0 => rfl); (case k1 => simp [sizeLine]))
  | (with_reducible refine ev_nx ?_)
  | (with_reducible refine ev_rt ?_)
  | (with_reducible refine ev_bk ?_)
  | (with_reducible refine ev_ct ?_)
)
local macro_rules | `(tactic| walk_at "evs") => `(tactic| repeat (walk_at "ev"))
def getP (p : Pt) (a : Int) : Int := if a = 0 then p.1 else if a = 1 then p.2.1 else p.2.2
theorem atI_P {p : Pt} {a : Int} (h0 : 0 ≤ a) (h3 : a < 3) : atI [PyData.int p.1, .int p.2.1, .int p.2.2] a = some (PyData.int (getP p a)) := by
  have : a = 0 ∨ a = 1 ∨ a = 2 := by omega
  rcases this with rfl | rfl | rfl <;> rfl
/-- the points along an axis -/
def lineP (p : Pt) (a n : Int) : List Pt := (iv (min n (getP p a)) (max n (getP p a) + 1 - min n (getP p a)).toNat).map (setP p a)
theorem iv_one (a : Int) : iv a 1 = [a] := by unfold iv; simp
theorem iv_same {a b : Int} (h : b = a + 1) : iv a (spanN a b) = [a] := by
  have : spanN a b = 1 := by unfold spanN; omega
  rw [this, iv_one]
theorem iv_eq {a b c d : Int} (h1 : a = b) (h2 : c - a = d - b) : iv a (spanN a c) = iv b (d - b).toNat := by subst h1; unfold spanN; rw [h2]
theorem flat_single {α δ : Type} (f : α → δ) : ∀ l : List α, (l.flatMap fun x => [f x]) = l.map f
  | [] => rfl
  | x :: l => by rw [List.flatMap_cons, flat_single f l]; rfl
theorem line_pts {p : Pt} {a n : Int} (h0 : 0 ≤ a) (h3 : a < 3) : ptsB (minP p (setP p a n)) (addP (maxP p (setP p a n)) oneP) = lineP p a n := by
  obtain ⟨x, y, z⟩ := p
  have : a = 0 ∨ a = 1 ∨ a = 2 := by omega
  rcases this with rfl | rfl | rfl
  · show ptsZ (min x n) (spanN (min x n) (max x n + 1)) (min y y) (spanN (min y y) (max y y + 1)) (min z z) (spanN (min z z) (max z z + 1)) = (iv (min n x) (max n x + 1 - min n x).toNat).map fun k => (k, y, z)
    unfold ptsZ ptsY ptsX
    rw [iv_same (a := min z z) (by omega), iv_same (a := min y y) (by omega), iv_eq (a := min x n) (b := min n x) (d := max n x + 1) (by omega) (by omega), Int.min_self, Int.min_self]
    simp
  · show ptsZ (min x x) (spanN (min x x) (max x x + 1)) (min y n) (spanN (min y n) (max y n + 1)) (min z z) (spanN (min z z) (max z z + 1)) = (iv (min n y) (max n y + 1 - min n y).toNat).map fun k => (x, k, z)
    unfold ptsZ ptsY ptsX
    rw [iv_same (a := min z z) (by omega), iv_same (a := min x x) (by omega), iv_eq (a := min y n) (b := min n y) (d := max n y + 1) (by omega) (by omega), Int.min_self, Int.min_self]
    simp [flat_single]
  · show ptsZ (min x x) (spanN (min x x) (max x x + 1)) (min y y) (spanN (min y y) (max y y + 1)) (min z n) (spanN (min z n) (max z n + 1)) = (iv (min n z) (max n z + 1 - min n z).toNat).map fun k => (x, y, k)
    unfold ptsZ ptsY ptsX
    rw [iv_same (a := min y y) (by omega), iv_same (a := min x x) (by omega), iv_eq (a := min z n) (b := min n z) (d := max n z + 1) (by omega) (by omega), Int.min_self, Int.min_self]
    simp [flat_single]
theorem ptsB_mem {lo hi : Pt} (h1 : lo.1 ≤ hi.1) (h2 : lo.2.1 ≤ hi.2.1) (h3 : lo.2.2 ≤ hi.2.2) {p : Pt} : p ∈ ptsB lo hi ↔ (lo.1 ≤ p.1 ∧ p.1 < hi.1) ∧ (lo.2.1 ≤ p.2.1 ∧ p.2.1 < hi.2.1) ∧ (lo.2.2 ≤ p.2.2 ∧ p.2.2 < hi.2.2) := by
  unfold ptsB
  rw [ptsZ_mem]
  have e1 : lo.1 + ((spanN lo.1 hi.1 : Nat) : Int) = hi.1 := by unfold spanN; omega
  have e2 : lo.2.1 + ((spanN lo.2.1 hi.2.1 : Nat) : Int) = hi.2.1 := by unfold spanN; omega
  have e3 : lo.2.2 + ((spanN lo.2.2 hi.2.2 : Nat) : Int) = hi.2.2 := by unfold spanN; omega
  rw [e1, e2, e3]
/-- the cells of a box are its points -/
theorem box_pts {lo hi : Pt} (h1 : lo.1 ≤ hi.1) (h2 : lo.2.1 ≤ hi.2.1) (h3 : lo.2.2 ≤ hi.2.2) {c : Int × Int × Int} : cS (boxS lo hi) c = true ↔ (c.2.2, c.2.1, c.1) ∈ ptsB lo hi := by
  rw [ptsB_mem h1 h2 h3, show cS (boxS lo hi) c = inB (lo, hi) c from box_cells (lo, hi) c]
  unfold inB
  simp only [Bool.and_eq_true, decide_eq_true_eq]
  constructor
  · rintro ⟨a, b, c⟩; exact ⟨c, b, a⟩
  · rintro ⟨a, b, c⟩; exact ⟨c, b, a⟩
theorem keyT_P (p : Pt) : keyT (kP p) = eP p := rfl
theorem keys_dP (l : List Pt) : (dP l).map (fun p => keyT p.1) = l.map eP := by
  unfold dP
  rw [List.map_map]
  rfl
theorem dP_len (l : List Pt) : (dP l).length = l.length := by unfold dP; rw [List.length_map]
theorem get_dP {l : List Pt} {p : Pt} (h : p ∈ l) : (getG (dP l) (kP p)).isSome = true := by
  unfold getG dP
  rw [Option.isSome_map, List.find?_isSome]
  exact ⟨_, List.mem_map_of_mem h, by simp⟩
theorem pd_eP (p : Pt) : Pd 1 (eP p) := .tup 0 _ fun x m => by
  simp at m
  rcases m with rfl | rfl | rfl <;> exact .int _ _
theorem pd_sort (l : List Pt) : Pd 2 (.list (sortD (l.map eP))) := .lst 1 _ fun x m => by
  unfold sortD at m
  rw [List.mem_mergeSort] at m
  obtain ⟨p, _, rfl⟩ := List.mem_map.mp m
  exact pd_eP p
theorem same_sort (l : List Pt) : PyData.eqv (.list (sortD (l.map eP))) (.list (sortD (l.map eP))) = true := (Pd.eqv (pd_sort l) (pd_sort l)).mpr rfl
theorem shaped_dP (l : List Pt) : shapedAll (dP l) := fun p m => by
  obtain ⟨q, _, rfl⟩ := List.mem_map.mp m
  rfl
theorem cube_pt (p : Pt) : ptsB p (addP p oneP) = [p] := by
  obtain ⟨x, y, z⟩ := p
  show ptsZ x (spanN x (x + 1)) y (spanN y (y + 1)) z (spanN z (z + 1)) = [(x, y, z)]
  unfold ptsZ ptsY ptsX
  rw [iv_same rfl, iv_same rfl, iv_same rfl]
  simp
theorem eq_one (p : Pt) : eqPairs (dP [p]) [(kP p, .bool true)] = true := by
  show (decide (1 = 1) && [(kP p, PyData.bool true)].all _) = true
  simp [getG, dP, PyData.eqv]
/-- where the tool has been: the cutter at each of the points -/
def atPts (l : List Pt) (C : Sol) (c : Int × Int × Int) : Prop := ∃ p ∈ l, cS (moveS p C) c = true
theorem at_sweep {lo hi : Pt} (h1 : lo.1 ≤ hi.1) (h2 : lo.2.1 ≤ hi.2.1) (h3 : lo.2.2 ≤ hi.2.2) {C : Sol} {c : Int × Int × Int} : atPts (ptsB lo hi) C c ↔ sweepP (boxS lo hi) C c := by
  constructor
  · rintro ⟨p, m, h⟩
    rw [moveS_cells] at h
    exact ⟨(p.2.2, p.2.1, p.1), (box_pts h1 h2 h3).mpr m, h⟩
  · rintro ⟨q, h, e⟩
    refine ⟨(q.2.2, q.2.1, q.1), (box_pts h1 h2 h3).mp h, ?_⟩
    rw [moveS_cells]
    exact e

end K41
end
section
set_option Elab.async false
set_option linter.all false
set_option maxRecDepth 100000
set_option maxHeartbeats 1000000
namespace K41
open PySem L2 DL SM
local macro_rules | `(tactic| walk_at "ev") => `(tactic| first
  | (with_reducible refine ev_seq ?_)
  | (with_reducible refine ev_next ?_)
  | (with_reducible refine ev_break ?_)
  | (with_reducible refine ev_cont ?_)
  | (with_reducible refine ev_expr ?_)
  | (with_reducible refine ev_kExpr ?_)
  | (with_reducible refine ev_ret ?_)
  | (with_reducible refine ev_retN ?_)
  | (with_reducible refine ev_kRet_dat ?_)
  | (with_reducible refine ev_kRet_lst ?_)
  | (with_reducible refine ev_ifS ?_)
  | (with_reducible refine ev_kIfS_t ?_)
  | (with_reducible refine ev_kIfS_f ?_)
  | (with_reducible refine ev_set ?_)
  | (with_reducible refine ev_par ?_)
  | (with_reducible refine ev_asg ?_)
  | (with_reducible refine ev_put ?_)
  | (with_reducible refine ev_kPut1 ?_)
  | (with_reducible refine ev_kPut2 ?_)
  | (with_reducible refine ev_for ?_)
  | (with_reducible refine ev_kFor ?_)
  | (with_reducible refine ev_seqI ?_)
  | (with_reducible refine ev_kSeqI_l ?_)
  | (with_reducible refine ev_kSeqI_t ?_)
  | (with_reducible refine ev_kSeqI_n ?_)
  | (with_reducible refine ev_rng1 ?_)
  | (with_reducible refine ev_rng2 ?_)
  | (with_reducible refine ev_rng3 ?_)
  | (with_reducible refine ev_c ?_)
  | (with_reducible refine ev_fn ?_)
  | (with_reducible refine ev_bin ?_)
  | (with_reducible refine ev_kBin1 ?_)
  | (with_reducible refine ev_intT ?_)
  | (with_reducible refine ev_eqI ?_)
  | (with_reducible refine ev_neI ?_)
  | (with_reducible refine ev_isN ?_)
  | (with_reducible refine ev_neg ?_)
  | (with_reducible refine ev_kNeg ?_)
  | (with_reducible refine ev_not ?_)
  | (with_reducible refine ev_kNot ?_)
  | (with_reducible refine ev_test ?_)
  | (with_reducible refine ev_kTest ?_)
  | (with_reducible refine ev_tru ?_)
  | (with_reducible refine ev_and ?_)
  | (with_reducible refine ev_or ?_)
  | (with_reducible refine ev_kAnd_t ?_)
  | (with_reducible refine ev_kAnd_f ?_)
  | (with_reducible refine ev_kOr_t ?_)
  | (with_reducible refine ev_kOr_f ?_)
  | (with_reducible refine ev_if ?_)
  | (with_reducible refine ev_kIf_t ?_)
  | (with_reducible refine ev_kIf_f ?_)
  | (with_reducible refine ev_andV ?_)
  | (with_reducible refine ev_orV ?_)
  | (with_reducible refine ev_kAndV_t ?_)
  | (with_reducible refine ev_kAndV_f ?_)
  | (with_reducible refine ev_kOrV_t ?_)
  | (with_reducible refine ev_kOrV_f ?_)
  | (with_reducible refine ev_notV ?_)
  | (with_reducible refine ev_kNotV ?_)
  | (with_reducible refine ev_isi ?_)
  | (with_reducible refine ev_nil ?_)
  | (with_reducible refine ev_kCons2 ?_)
  | (with_reducible refine ev_cons ?_)
  | (with_reducible refine ev_kCons1_dat ?_)
  | (with_reducible refine ev_kCons1_fn ?_)
  | (with_reducible refine ev_kCons1_own ?_)
  | (with_reducible refine ev_kCons1_lst ?_)
  | (with_reducible refine ev_star ?_)
  | (with_reducible refine ev_kStar2 ?_)
  | (with_reducible refine ev_tup ?_)
  | (with_reducible refine ev_lst ?_)
  | (with_reducible refine ev_noPart ?_)
  | (with_reducible refine ev_part ?_)
  | (with_reducible refine ev_kPart ?_)
  | (with_reducible refine ev_sl ?_)
  | (with_reducible refine ev_kSl1 ?_)
  | (with_reducible refine ev_kSl2 ?_)
  | (with_reducible refine ev_rev ?_)
  | (with_reducible refine ev_call ?_)
  | (with_reducible refine ev_max2 ?_)
  | (with_reducible refine ev_min2 ?_)
  | (with_reducible refine ev_int1 ?_)
  | (with_reducible refine ev_user ?_)
  | (with_reducible refine ev_app ?_)
  | (with_reducible refine ev_ext ?_)
  | (with_reducible refine ev_lc ?_)
  | ((with_reducible refine' ev_name ?k0 ?k1 ?_); (case k0 => rfl); (case k1 => rfl))
  | ((with_reducible refine' ev_nameO ?k0 ?k1 ?_); (case k0 => rfl); (case k1 => rfl))
  | ((with_reducible refine' ev_nameF_dat ?k0 ?_); (case k0 => rfl))
  | ((with_reducible refine' ev_nameF_fn ?k0 ?_); (case k0 => rfl))
  | ((with_reducible refine' ev_nameF_arg ?k0 ?_); (case k0 => rfl))
  | ((with_reducible refine' ev_nameF_lst ?k0 ?_); (case k0 => rfl))
  | ((with_reducible refine' ev_kSet_dat ?k0 ?_); (case k0 => rfl))
  | ((with_reducible refine' ev_kSet_lst ?k0 ?_); (case k0 => rfl))
  | ((with_reducible refine' ev_kSet_fn ?k0 ?_); (case k0 => rfl))
  | ((with_reducible refine' ev_kPar ?k0 ?k1 ?k2 ?k3 ?_); (case k0 => rfl); (case k1 => rfl); (case k2 => rfl); (case k3 => rfl))
  | ((with_reducible refine' ev_kAsg ?k0 ?_); (case k0 => rfl))
  | ((with_reducible refine' ev_aug ?k0 ?_); (case k0 => rfl))
  | ((with_reducible refine' ev_kAug ?k0 ?_); (case k0 => rfl))
  | ((with_reducible refine' ev_kPut3 ?k0 ?k1 ?_); (case k0 => rfl); (case k1 => rfl))
  | ((with_reducible refine' ev_ix ?k0 ?k1 ?_); (case k0 => rfl); (case k1 => rfl))
  | ((with_reducible refine' ev_kTru ?k0 ?_); (case k0 => rfl))
  | ((with_reducible refine' ev_kIsi ?k0 ?k1 ?_); (case k0 => rfl); (case k1 => rfl))
  | ((with_reducible refine' ev_kStar1 ?k0 ?_); (case k0 => rfl))
  | ((with_reducible refine' ev_kSl3_t ?k0 ?_); (case k0 => rfl))
  | ((with_reducible refine' ev_kSl3_l ?k0 ?_); (case k0 => rfl))
  | ((with_reducible refine' ev_kRev_t ?k0 ?_); (case k0 => rfl))
  | ((with_reducible refine' ev_kRev_l ?k0 ?_); (case k0 => rfl))
  | ((with_reducible refine' ev_len ?k0 ?_); (case k0 => rfl))
  | ((with_reducible refine' ev_tuple ?k0 ?_); (case k0 => rfl))
  | ((with_reducible refine' ev_list ?k0 ?_); (case k0 => rfl))
  | ((with_reducible refine' ev_kApp1 ?k0 ?_); (case k0 => rfl))
  | ((with_reducible refine' ev_kExt1 ?k0 ?_); (case k0 => rfl))
  | ((with_reducible refine' ev_kRet_own ?k0 ?_); (case k0 => rfl))
  | ((with_reducible refine' ev_kTup ?k0 ?k1 ?_); (case k0 => rfl); (case k1 => simp [sizeLine]))
  | ((with_reducible refine' ev_kLst ?k0 ?k1 ?_); (case k0 => rfl); (case k1 => simp [sizeLine]))
  | (with_reducible refine ev_nx ?_)
  | (with_reducible refine ev_rt ?_)
  | (with_reducible refine ev_bk ?_)
  | (with_reducible refine ev_ct ?_)
)
local macro_rules | `(tactic| walk_at "evs") => `(tactic| repeat (walk_at "ev"))
abbrev W_fin (sp_travel_lot sp__law_next sp__law_cubes : DSpec) : WS := (wSeq (wSet 15 (wCall oTuple (wCons (wLc (wRng1 (wCons (wC (.int 3)) wNil)) (fName 8) wYes (wBin oSub (wUser sp__law_next (wCons (wName 1) (wCons (wC (.int 5)) wNil))) (wC (.int 4))) [8]) wNil))) (wSeq (wSet 16 (wCall oTuple (wCons (wLc (wSeqI (wNameF 15)) (fName 20) wYes (wBin oAdd (wName 20) (wUser sp__law_next (wCons (wName 1) (wCons (wC (.int 3)) wNil)))) [20]) wNil))) (wSeq (wSet 17 (wUser sp__law_cubes (wCons (wUser sp_travel_lot (wCons (wTup (wCons (wName 15) (wCons (wName 16) (wCons (wName 15) (wCons (wC (.int 1)) (wCons (wC (.int 1)) (wCons (wC (.int 1)) wNil))))))) wNil)) wNil))) (wSeq (wSet 18 (wC (.int 1))) (wSeq (wFor (wRng1 (wCons (wC (.int 3)) wNil)) (fName 8) (wSet 18 (wBin oMul (wName 18) (wBin oAdd (wBin oSub (wBin oIx (wName 16) (wName 8)) (wBin oIx (wName 15) (wName 8))) (wC (.int 1)))))) (wRet (wAndV (wBin (oEq false) (wCall oLenD (wCons (wName 17) wNil)) (wName 18)) (wAndV (wBin (oIn false) (wName 15) (wName 17)) (wBin (oIn false) (wName 16) (wName 17))))))))))
theorem ev_seq_cut' {a b : WS} {D : DE} {ρ : Den} (P : Den → Prop) (h2 : ∀ ρ, P ρ → b D ρ) (h1 : ∀ N : Den → Prop, (∀ ρ, P ρ → N ρ) → a { D with nx := N } ρ) : wSeq a b D ρ := h1 _ h2
def mulP (p h : Pt) : Nat → Int
  | 0 => 1
  | j + 1 => mulP p h j * (getP h j - getP p j + 1)
theorem law_fin {K' : DV → List DV → Prop} {ns0 ns : List Int} {nm hd rt : PyData} {C : Sol} {k : Int} {y6 y7 y8 y9 y10 y11 y12 y13 y14 : Option DV} {D : DE} (hk0 : 0 ≤ k) (hk1 : k ≤ 100) (n8 : y8 = none ∨ ∃ i, y8 = some (.dat (.int i)))
    (q : ∀ ρ, D.rt (.dat (.bool true)) ρ) :
    W_fin sp_travel_lot sp__law_next sp__law_cubes D [some (.dat (.list (ns0.map PyData.int))), some (.lst (eDr ns (k))), some (.dat nm), some (.dat (eSol C)), some (.dat hd), some (.dat rt), y6, y7, y8, y9, y10, y11, y12, y13, y14, none, none, none, none, none, none] := by
  have szl : sizeLine = 16777216 := rfl
  have n8' : notArgB (some y8) = true := by rcases n8 with rfl | ⟨i, rfl⟩ <;> rfl
  refine ev_seq_cut (fun ρ => ∃ (p : Pt) (k' : Int), k' = k + 3 ∧ (-4 ≤ p.1 ∧ p.1 ≤ 4) ∧ (-4 ≤ p.2.1 ∧ p.2.1 ≤ 4) ∧ (-4 ≤ p.2.2 ∧ p.2.2 ≤ 4) ∧ ρ = [some (.dat (.list (ns0.map PyData.int))), some (.lst (eDr ns (k'))), some (.dat nm), some (.dat (eSol C)), some (.dat hd), some (.dat rt), y6, y7, y8, y9, y10, y11, y12, y13, y14, some (.dat (eP p)), none, none, none, none, none]) ?_ ?_
  · rintro ρ ⟨p, k', ek, hp1, hp2, hp3, rfl⟩
    refine ev_seq_cut (fun ρ => ∃ (h : Pt) (k2 : Int), (p.1 ≤ h.1 ∧ h.1 ≤ p.1 + 2) ∧ (p.2.1 ≤ h.2.1 ∧ h.2.1 ≤ p.2.1 + 2) ∧ (p.2.2 ≤ h.2.2 ∧ h.2.2 ≤ p.2.2 + 2) ∧ ρ = [some (.dat (.list (ns0.map PyData.int))), some (.lst (eDr ns (k2))), some (.dat nm), some (.dat (eSol C)), some (.dat hd), some (.dat rt), y6, y7, y8, y9, y10, y11, y12, y13, y14, some (.dat (eP p)), some (.dat (eP h)), none, none, none, none]) ?_ ?_
    · rintro ρ ⟨h, k2, hh1, hh2, hh3, rfl⟩
      walk_at "evs"
      refine ev_kUser0 rfl rfl ⟨p, h, p, 1, 1, 1, rfl, fun outs => ?_⟩
      walk_at "evs"
      refine ev_kUser0 rfl rfl ⟨p, addP h oneP, rfl, show p.1 < h.1 + 1 by omega, show p.2.1 < h.2.1 + 1 by omega, show p.2.2 < h.2.2 + 1 by omega, ⟨⟨by omega, by omega⟩, ⟨by omega, by omega⟩, ⟨by omega, by omega⟩⟩, ptB_mk (show -40 ≤ h.1 + 1 ∧ h.1 + 1 ≤ 40 by omega) (show -40 ≤ h.2.1 + 1 ∧ h.2.1 + 1 ≤ 40 by omega) (show -40 ≤ h.2.2 + 1 ∧ h.2.2 + 1 ≤ 40 by omega), fun outs => ?_⟩
      refine ev_kSet_dic rfl ?_
      refine ev_nx ?_
      refine ev_seq_cut (fun ρ => ρ = [some (.dat (.list (ns0.map PyData.int))), some (.lst (eDr ns (k2))), some (.dat nm), some (.dat (eSol C)), some (.dat hd), some (.dat rt), y6, y7, y8, y9, y10, y11, y12, y13, y14, some (.dat (eP p)), some (.dat (eP h)), some (.dic (dP (ptsB p (addP h oneP)))), some (.dat (PyData.int (1))), none, none]) ?_ (fun N hN => by walk_at "evs"; exact hN _ rfl)
      rintro ρ rfl
      refine ev_seq_cut (fun ρ => ∃ y8 : Option DV, ρ = [some (.dat (.list (ns0.map PyData.int))), some (.lst (eDr ns (k2))), some (.dat nm), some (.dat (eSol C)), some (.dat hd), some (.dat rt), y6, y7, y8, y9, y10, y11, y12, y13, y14, some (.dat (eP p)), some (.dat (eP h)), some (.dic (dP (ptsB p (addP h oneP)))), some (.dat (PyData.int (mulP p h 3))), none, none]) ?_ ?_
      · rintro ρ ⟨y8, rfl⟩
        have el : ((dP (ptsB p (addP h oneP))).length : Int) = mulP p h 3 := by
          rw [dP_len]
          unfold ptsB
          rw [ptsZ_len]
          have e1 : ((spanN p.1 (addP h oneP).1 : Nat) : Int) = h.1 - p.1 + 1 := by unfold spanN; show (((h.1 + 1 - p.1).toNat : Nat) : Int) = _; omega
          have e2 : ((spanN p.2.1 (addP h oneP).2.1 : Nat) : Int) = h.2.1 - p.2.1 + 1 := by unfold spanN; show (((h.2.1 + 1 - p.2.1).toNat : Nat) : Int) = _; omega
          have e3 : ((spanN p.2.2 (addP h oneP).2.2 : Nat) : Int) = h.2.2 - p.2.2 + 1 := by unfold spanN; show (((h.2.2 + 1 - p.2.2).toNat : Nat) : Int) = _; omega
          rw [Int.natCast_mul, Int.natCast_mul, e1, e2, e3]
          show _ = ((1 * (h.1 - p.1 + 1)) * (h.2.1 - p.2.1 + 1)) * (h.2.2 - p.2.2 + 1)
          rw [Int.one_mul, Int.mul_comm (h.2.2 - p.2.2 + 1), Int.mul_comm (h.2.1 - p.2.1 + 1)]
        have mem : ∀ r : Pt, (p.1 ≤ r.1 ∧ r.1 ≤ h.1) → (p.2.1 ≤ r.2.1 ∧ r.2.1 ≤ h.2.1) → (p.2.2 ≤ r.2.2 ∧ r.2.2 ≤ h.2.2) → r ∈ ptsB p (addP h oneP) := fun r a b c =>
          (ptsB_mem (show p.1 ≤ h.1 + 1 by omega) (show p.2.1 ≤ h.2.1 + 1 by omega) (show p.2.2 ≤ h.2.2 + 1 by omega)).mpr ⟨⟨a.1, show r.1 < h.1 + 1 by omega⟩, ⟨b.1, show r.2.1 < h.2.1 + 1 by omega⟩, ⟨c.1, show r.2.2 < h.2.2 + 1 by omega⟩⟩
        have g1 := get_dP (mem p (by omega) (by omega) (by omega))
        have g2 := get_dP (mem h (by omega) (by omega) (by omega))
        clear mem
        generalize dP (ptsB p (addP h oneP)) = kvs at *
        generalize mulP p h 3 = M at *
        walk_at "evs"
        refine ev_lenD (kvs := kvs) rfl ?_
        walk_at "evs"
        rw [decide_eq_true el]
        refine ev_kAndV_t ?_
        walk_at "evs"
        refine ev_in (neg := false) (kvs := kvs) (k := kP p) rfl rfl ?_
        rw [g1]
        refine ev_kAndV_t ?_
        walk_at "evs"
        refine ev_in (neg := false) (kvs := kvs) (k := kP h) rfl rfl ?_
        rw [g2]
        exact ev_kRet_dat (q _)
      · intro N hN
        walk_at "evs"
        refine ev_kRng1 (by decide) (by decide) ?_
        refine ev_kFor ?_
        refine forGo_rng (I := fun j ρ => ∃ y8 : Option DV, notArgB (some y8) = true ∧ ρ = [some (.dat (.list (ns0.map PyData.int))), some (.lst (eDr ns (k2))), some (.dat nm), some (.dat (eSol C)), some (.dat hd), some (.dat rt), y6, y7, y8, y9, y10, y11, y12, y13, y14, some (.dat (eP p)), some (.dat (eP h)), some (.dic (dP (ptsB p (addP h oneP)))), some (.dat (PyData.int (mulP p h j))), none, none]) ?_ ?_ ⟨y8, n8', rfl⟩
        · rintro ρ ⟨y8, n8', rfl⟩
          exact hN _ ⟨y8, rfl⟩
        · rintro j ρ hj ⟨y8, n8', rfl⟩
          have hj : j < 3 := hj
          refine ⟨[some (.dat (.list (ns0.map PyData.int))), some (.lst (eDr ns (k2))), some (.dat nm), some (.dat (eSol C)), some (.dat hd), some (.dat rt), y6, y7, some (.dat (PyData.int ((j : Int)))), y9, y10, y11, y12, y13, y14, some (.dat (eP p)), some (.dat (eP h)), some (.dic (dP (ptsB p (addP h oneP)))), some (.dat (PyData.int (mulP p h j))), none, none], by simp [fName, n8'], fun N2 hN2 => ?_⟩
          have hd1 : 0 ≤ getP h j - getP p j ∧ getP h j - getP p j ≤ 2 := by
            unfold getP
            split
            · omega
            · split <;> omega
          walk_at "evs"
          refine ev_ix (b := true) rfl (atI_P (by omega) (by omega)) ?_
          walk_at "evs"
          refine ev_ix (b := true) rfl (atI_P (by omega) (by omega)) ?_
          walk_at "evs"
          refine ev_int (.inr ⟨by omega, by omega⟩) ?_
          walk_at "evs"
          exact hN2 _ ⟨_, rfl, rfl⟩
    · intro N hN
      walk_at "evs"
      refine lcGo_ind (I := fun acc left ρ => ∃ k2 : Int, ρ = [some (.dat (.list (ns0.map PyData.int))), some (.lst (eDr ns (k2))), some (.dat nm), some (.dat (eSol C)), some (.dat hd), some (.dat rt), y6, y7, y8, y9, y10, y11, y12, y13, y14, some (.dat (eP p)), none, none, none, none, none] ∧ k' ≤ k2 ∧ k2 ≤ k' + acc.length ∧ ((acc = [] ∧ left = [.int p.1, .int p.2.1, .int p.2.2]) ∨ (∃ a, (p.1 ≤ a ∧ a ≤ p.1 + 2) ∧ acc = [.int a] ∧ left = [.int p.2.1, .int p.2.2])
        ∨ (∃ a b, (p.1 ≤ a ∧ a ≤ p.1 + 2) ∧ (p.2.1 ≤ b ∧ b ≤ p.2.1 + 2) ∧ acc = [.int a, .int b] ∧ left = [.int p.2.2]) ∨ (∃ a b c, (p.1 ≤ a ∧ a ≤ p.1 + 2) ∧ (p.2.1 ≤ b ∧ b ≤ p.2.1 + 2) ∧ (p.2.2 ≤ c ∧ c ≤ p.2.2 + 2) ∧ acc = [.int a, .int b, .int c] ∧ left = []))) ?_ ?_ _ _ _ ⟨k', rfl, by omega, by simp, .inl ⟨rfl, rfl⟩⟩
      · rintro acc ρ ⟨k2, rfl, _, _, ⟨_, z⟩ | ⟨_, _, _, z⟩ | ⟨_, _, _, _, _, z⟩ | ⟨a, b, c, ha, hb, hc, rfl, _⟩⟩
        · cases z
        · cases z
        · cases z
        walk_at "evs"
        exact hN _ ⟨(a, b, c), k2, ha, hb, hc, rfl⟩
      · rintro acc x xs ρ ⟨k2, rfl, u1, u2, ⟨rfl, z⟩ | ⟨a, ha, rfl, z⟩ | ⟨a, b, ha, hb, rfl, z⟩ | ⟨_, _, _, _, _, _, _, z⟩⟩
        · obtain ⟨rfl, rfl⟩ := List.cons.inj z
          simp only [List.length_nil] at u2
          refine ⟨rfl, _, rfl, fun Gn hG => ?_⟩
          walk_at "evs"
          refine ev_draw (own := false) rfl (by omega) (by omega) (by decide) fun d d0 d1 => ?_
          walk_at "evs"
          exact hG _ _ (by rw [szl]; decide) ⟨k2 + 1, rfl, by omega, by simp; omega, .inr (.inl ⟨_, by omega, rfl, rfl⟩)⟩
        · obtain ⟨rfl, rfl⟩ := List.cons.inj z
          simp only [List.length_cons, List.length_nil] at u2
          refine ⟨rfl, _, rfl, fun Gn hG => ?_⟩
          walk_at "evs"
          refine ev_draw (own := false) rfl (by omega) (by omega) (by decide) fun d d0 d1 => ?_
          walk_at "evs"
          exact hG _ _ (by rw [szl]; simp) ⟨k2 + 1, rfl, by omega, by simp; omega, .inr (.inr (.inl ⟨_, _, ha, (show p.2.1 ≤ p.2.1 + d ∧ p.2.1 + d ≤ p.2.1 + 2 by omega), rfl, rfl⟩))⟩
        · obtain ⟨rfl, rfl⟩ := List.cons.inj z
          simp only [List.length_cons, List.length_nil] at u2
          refine ⟨rfl, _, rfl, fun Gn hG => ?_⟩
          walk_at "evs"
          refine ev_draw (own := false) rfl (by omega) (by omega) (by decide) fun d d0 d1 => ?_
          walk_at "evs"
          exact hG _ _ (by rw [szl]; simp) ⟨k2 + 1, rfl, by omega, by simp; omega, .inr (.inr (.inr ⟨_, _, _, ha, hb, (show p.2.2 ≤ p.2.2 + d ∧ p.2.2 + d ≤ p.2.2 + 2 by omega), rfl, rfl⟩))⟩
        · cases z
  · intro N2 hN2
    have v8 : ∀ k : Int, vsOk [some (.dat (.list (ns0.map PyData.int))), some (.lst (eDr ns (k))), some (.dat nm), some (.dat (eSol C)), some (.dat hd), some (.dat rt), y6, y7, y8, y9, y10, y11, y12, y13, y14, none, none, none, none, none, none] [8] = true := fun k => by
      rcases n8 with rfl | ⟨i, rfl⟩ <;> rfl
    walk_at "evs"
    refine ev_kRng1 (by decide) (by decide) ?_
    refine lcGo_ind (I := fun acc left ρ => ∃ (is : List Int) (k2 : Int), ρ = [some (.dat (.list (ns0.map PyData.int))), some (.lst (eDr ns (k2))), some (.dat nm), some (.dat (eSol C)), some (.dat hd), some (.dat rt), y6, y7, y8, y9, y10, y11, y12, y13, y14, none, none, none, none, none, none] ∧ acc = is.map PyData.int ∧ is.length + left.length = 3 ∧ k2 = k + is.length ∧ ∀ i ∈ is, -4 ≤ i ∧ i ≤ 4) ?_ ?_ _ _ _ ⟨[], k, rfl, rfl, rfl, by simp, (fun i m => nomatch m)⟩
    · rintro acc ρ ⟨is, k2, rfl, rfl, hl, hk2, hi⟩
      match is, hl, hk2, hi with
      | [a, b, c], _, hk2, hi =>
        walk_at "evs"
        exact hN2 _ ⟨(a, b, c), k2, by rw [hk2]; rfl, hi a (by simp), hi b (by simp), hi c (by simp), rfl⟩
      | [], hl, _, _ => exact absurd hl (by simp)
      | [_], hl, _, _ => exact absurd hl (by simp)
      | [_, _], hl, _, _ => exact absurd hl (by simp)
      | _ :: _ :: _ :: _ :: _, hl, _, _ => exact absurd hl (by simp only [List.length_cons, List.length_nil]; omega)
    · rintro acc x xs ρ ⟨is, k2, rfl, rfl, hl, hk2, hi⟩
      simp only [List.length_cons] at hl
      refine ⟨v8 k2, _, rfl, fun Gn hG => ?_⟩
      walk_at "evs"
      refine ev_draw (own := false) rfl (by omega) (by omega) (by decide) fun d d0 d1 => ?_
      walk_at "evs"
      refine hG _ _ (by rw [List.length_map]; omega) ⟨is ++ [d - 4], k2 + 1, rfl, by simp, by rw [List.length_append, List.length_singleton]; omega, by rw [List.length_append, List.length_singleton]; omega, fun i m => ?_⟩
      rcases List.mem_append.mp m with m | m
      · exact hi i m
      · have : i = d - 4 := by simpa using m
        omega

end K41
end
section
set_option Elab.async false
set_option linter.all false
set_option maxRecDepth 100000
set_option maxHeartbeats 1000000
namespace K41
open PySem L2 DL SM
local macro_rules | `(tactic| walk_at "ev") => `(tactic| first
  | (with_reducible refine ev_seq ?_)
  | (with_reducible refine ev_next ?_)
  | (with_reducible refine ev_break ?_)
  | (with_reducible refine ev_cont ?_)
  | (with_reducible refine ev_expr ?_)
  | (with_reducible refine ev_kExpr ?_)
  | (with_reducible refine ev_ret ?_)
  | (with_reducible refine ev_retN ?_)
  | (with_reducible refine ev_kRet_dat ?_)
  | (with_reducible refine ev_kRet_lst ?_)
  | (with_reducible refine ev_ifS ?_)
  | (with_reducible refine ev_kIfS_t ?_)
  | (with_reducible refine ev_kIfS_f ?_)
  | (with_reducible refine ev_set ?_)
  | (with_reducible refine ev_par ?_)
  | (with_reducible refine ev_asg ?_)
  | (with_reducible refine ev_put ?_)
  | (with_reducible refine ev_kPut1 ?_)
  | (with_reducible refine ev_kPut2 ?_)
  | (with_reducible refine ev_for ?_)
  | (with_reducible refine ev_kFor ?_)
  | (with_reducible refine ev_seqI ?_)
  | (with_reducible refine ev_kSeqI_l ?_)
  | (with_reducible refine ev_kSeqI_t ?_)
  | (with_reducible refine ev_kSeqI_n ?_)
  | (with_reducible refine ev_rng1 ?_)
  | (with_reducible refine ev_rng2 ?_)
  | (with_reducible refine ev_rng3 ?_)
  | (with_reducible refine ev_c ?_)
  | (with_reducible refine ev_fn ?_)
  | (with_reducible refine ev_bin ?_)
  | (with_reducible refine ev_kBin1 ?_)
  | (with_reducible refine ev_intT ?_)
  | (with_reducible refine ev_eqI ?_)
  | (with_reducible refine ev_neI ?_)
  | (with_reducible refine ev_isN ?_)
  | (with_reducible refine ev_neg ?_)
  | (with_reducible refine ev_kNeg ?_)
  | (with_reducible refine ev_not ?_)
  | (with_reducible refine ev_kNot ?_)
  | (with_reducible refine ev_test ?_)
  | (with_reducible refine ev_kTest ?_)
  | (with_reducible refine ev_tru ?_)
  | (with_reducible refine ev_and ?_)
  | (with_reducible refine ev_or ?_)
  | (with_reducible refine ev_kAnd_t ?_)
  | (with_reducible refine ev_kAnd_f ?_)
  | (with_reducible refine ev_kOr_t ?_)
  | (with_reducible refine ev_kOr_f ?_)
  | (with_reducible refine ev_if ?_)
  | (with_reducible refine ev_kIf_t ?_)
  | (with_reducible refine ev_kIf_f ?_)
  | (with_reducible refine ev_andV ?_)
  | (with_reducible refine ev_orV ?_)
  | (with_reducible refine ev_kAndV_t ?_)
  | (with_reducible refine ev_kAndV_f ?_)
  | (with_reducible refine ev_kOrV_t ?_)
  | (with_reducible refine ev_kOrV_f ?_)
  | (with_reducible refine ev_notV ?_)
  | (with_reducible refine ev_kNotV ?_)
  | (with_reducible refine ev_isi ?_)
  | (with_reducible refine ev_nil ?_)
  | (with_reducible refine ev_kCons2 ?_)
  | (with_reducible refine ev_cons ?_)
  | (with_reducible refine ev_kCons1_dat ?_)
  | (with_reducible refine ev_kCons1_fn ?_)
  | (with_reducible refine ev_kCons1_own ?_)
  | (with_reducible refine ev_kCons1_lst ?_)
  | (with_reducible refine ev_star ?_)
  | (with_reducible refine ev_kStar2 ?_)
  | (with_reducible refine ev_tup ?_)
  | (with_reducible refine ev_lst ?_)
  | (with_reducible refine ev_noPart ?_)
  | (with_reducible refine ev_part ?_)
  | (with_reducible refine ev_kPart ?_)
  | (with_reducible refine ev_sl ?_)
  | (with_reducible refine ev_kSl1 ?_)
  | (with_reducible refine ev_kSl2 ?_)
  | (with_reducible refine ev_rev ?_)
  | (with_reducible refine ev_call ?_)
  | (with_reducible refine ev_max2 ?_)
  | (with_reducible refine ev_min2 ?_)
  | (with_reducible refine ev_int1 ?_)
  | (with_reducible refine ev_user ?_)
  | (with_reducible refine ev_app ?_)
  | (with_reducible refine ev_ext ?_)
  | (with_reducible refine ev_lc ?_)
  | ((with_reducible refine' ev_name ?k0 ?k1 ?_); (case k0 => rfl); (case k1 => rfl))
  | ((with_reducible refine' ev_nameO ?k0 ?k1 ?_); (case k0 => rfl); (case k1 => rfl))
  | ((with_reducible refine' ev_nameF_dat ?k0 ?_); (case k0 => rfl))
  | ((with_reducible refine' ev_nameF_fn ?k0 ?_); (case k0 => rfl))
  | ((with_reducible refine' ev_nameF_arg ?k0 ?_); (case k0 => rfl))
  | ((with_reducible refine' ev_nameF_lst ?k0 ?_); (case k0 => rfl))
  | ((with_reducible refine' ev_kSet_dat ?k0 ?_); (case k0 => rfl))
  | ((with_reducible refine' ev_kSet_lst ?k0 ?_); (case k0 => rfl))
  | ((with_reducible refine' ev_kSet_fn ?k0 ?_); (case k0 => rfl))
  | ((with_reducible refine' ev_kPar ?k0 ?k1 ?k2 ?k3 ?_); (case k0 => rfl); (case k1 => rfl); (case k2 => rfl); (case k3 => rfl))
  | ((with_reducible refine' ev_kAsg ?k0 ?_); (case k0 => rfl))
  | ((with_reducible refine' ev_aug ?k0 ?_); (case k0 => rfl))
  | ((with_reducible refine' ev_kAug ?k0 ?_); (case k0 => rfl))
  | ((with_reducible refine' ev_kPut3 ?k0 ?k1 ?_); (case k0 => rfl); (case k1 => rfl))
  | ((with_reducible refine' ev_ix ?k0 ?k1 ?_); (case k0 => rfl); (case k1 => rfl))
  | ((with_reducible refine' ev_kTru ?k0 ?_); (case k0 => rfl))
  | ((with_reducible refine' ev_kIsi ?k0 ?k1 ?_); (case k0 => rfl); (case k1 => rfl))
  | ((with_reducible refine' ev_kStar1 ?k0 ?_); (case k0 => rfl))
  | ((with_reducible refine' ev_kSl3_t ?k0 ?_); (case k0 => rfl))
  | ((with_reducible refine' ev_kSl3_l ?k0 ?_); (case k0 => rfl))
  | ((with_reducible refine' ev_kRev_t ?k0 ?_); (case k0 => rfl))
  | ((with_reducible refine' ev_kRev_l ?k0 ?_); (case k0 => rfl))
  | ((with_reducible refine' ev_len ?k0 ?_); (case k0 => rfl))
  | ((with_reducible refine' ev_tuple ?k0 ?_); (case k0 => rfl))
  | ((with_reducible refine' ev_list ?k0 ?_); (case k0 => rfl))
  | ((with_reducible refine' ev_kApp1 ?k0 ?_); (case k0 => rfl))
  | ((with_reducible refine' ev_kExt1 ?k0 ?_); (case k0 => rfl))
  | ((with_reducible refine' ev_kRet_own ?k0 ?_); (case k0 => rfl))
  | ((with_reducible refine' ev_kTup ?k0 ?k1 ?_); (case k0 => rfl); (case k1 => simp [sizeLine]))
  | ((with_reducible refine' ev_kLst ?k0 ?k1 ?_); (case k0 => rfl); (case k1 => simp [sizeLine]))
  | (with_reducible refine ev_nx ?_)
  | (with_reducible refine ev_rt ?_)
  | (with_reducible refine ev_bk ?_)
  | (with_reducible refine ev_ct ?_)
)
local macro_rules | `(tactic| walk_at "evs") => `(tactic| repeat (walk_at "ev"))
theorem wp_law : ∀ ds K', lawSpec 63 ds K' → W_law sp_union sp_moved sp_swept sp_cube_at sp_line_lot sp_travel_lot sp__law_next sp__law_tool sp__law_cubes { nx := fun ρ => K' (.dat .none) (outsOf ds ρ), rt := fun r ρ => K' r (outsOf ds ρ) } (startD N_law ds) := by
  rintro ds K' ⟨ns0, rfl, hl, q⟩
  have szl : sizeLine = 16777216 := rfl
  unfold W_law
  walk_at "evs"
  obtain ⟨ns, ens⟩ : ∃ ns : List Int, cutD (ns0.map PyData.int) none (some 63) = ns.map PyData.int := ⟨ns0.take 63, (cut_hi _ 63).trans List.map_take.symm⟩
  rw [ens]
  obtain ⟨nm, enm⟩ : ∃ nm : PyData, nm = .str "t" := ⟨_, rfl⟩
  rw [← enm]
  refine ev_kUser (ds := [.arg (eDr ns 0), .dat nm]) (by simp [owns]) rfl ⟨ns, 0, nm, rfl, by decide, by decide, fun C hd rt k0 g1 g2 fC => ?_⟩
  refine ev_kAsg (ρ2 := [some (.dat (.list (ns0.map PyData.int))), some (.lst (eDr ns (k0))), some (.dat nm), some (.dat (eSol C)), some (.dat hd), some (.dat rt), none, none, none, none, none, none, none, none, none, none, none, none, none, none, none]) rfl ?_
  refine ev_nx ?_
  refine ev_seq_cut (fun ρ => ∃ (k : Int) (y6 y7 y8 y9 y10 y11 y12 y13 y14 : Option DV), 0 ≤ k ∧ k ≤ 100 ∧ (y8 = none ∨ ∃ i, y8 = some (.dat (.int i))) ∧ notArgB (some y6) = true ∧ notArgB (some y7) = true ∧ notArgB (some y9) = true ∧ notArgB (some y10) = true ∧ notArgB (some y11) = true ∧ notArgB (some y12) = true ∧ notArgB (some y13) = true ∧ notArgB (some y14) = true ∧ ρ = [some (.dat (.list (ns0.map PyData.int))), some (.lst (eDr ns (k))), some (.dat nm), some (.dat (eSol C)), some (.dat hd), some (.dat rt), y6, y7, y8, y9, y10, y11, y12, y13, y14, none, none, none, none, none, none]) ?_ ?_
  · rintro ρ ⟨k, y6, y7, y8, y9, y10, y11, y12, y13, y14, hk0, hk1, n8, n6, n7, n9, n10, n11, n12, n13, n14, rfl⟩
    exact law_fin (K' := K') hk0 hk1 n8 (fun _ => q _)
  · intro N hN
    walk_at "evs"
    refine ev_kRng1 (by decide) (by decide) ?_
    refine ev_kFor ?_
    refine forGo_rng (I := fun t ρ => ∃ (k : Int) (y6 y7 y8 y9 y10 y11 y12 y13 y14 : Option DV), 0 ≤ k ∧ k ≤ 20 + 5 * t ∧ (y8 = none ∨ ∃ i, y8 = some (.dat (.int i))) ∧ notArgB (some y6) = true ∧ notArgB (some y7) = true ∧ notArgB (some y9) = true ∧ notArgB (some y10) = true ∧ notArgB (some y11) = true ∧ notArgB (some y12) = true ∧ notArgB (some y13) = true ∧ notArgB (some y14) = true ∧ ρ = [some (.dat (.list (ns0.map PyData.int))), some (.lst (eDr ns (k))), some (.dat nm), some (.dat (eSol C)), some (.dat hd), some (.dat rt), y6, y7, y8, y9, y10, y11, y12, y13, y14, none, none, none, none, none, none]) ?_ ?_ ⟨k0, none, none, none, none, none, none, none, none, none, by omega, by omega, .inl rfl, rfl, rfl, rfl, rfl, rfl, rfl, rfl, rfl, rfl⟩
    · rintro ρ ⟨k, y6, y7, y8, y9, y10, y11, y12, y13, y14, hk0, hk1, n8, n6, n7, n9, n10, n11, n12, n13, n14, rfl⟩
      exact hN _ ⟨k, y6, y7, y8, y9, y10, y11, y12, y13, y14, hk0, by simp at hk1; omega, n8, n6, n7, n9, n10, n11, n12, n13, n14, rfl⟩
    · rintro t ρ ht ⟨k, y6, y7, y8, y9, y10, y11, y12, y13, y14, hk0, hk1, n8, n6, n7, n9, n10, n11, n12, n13, n14, rfl⟩
      have ht : t < 3 := ht
      refine ⟨[some (.dat (.list (ns0.map PyData.int))), some (.lst (eDr ns (k))), some (.dat nm), some (.dat (eSol C)), some (.dat hd), some (.dat rt), some (.dat (PyData.int (0 + (t : Int)))), y7, y8, y9, y10, y11, y12, y13, y14, none, none, none, none, none, none], by simp [fName, n6], fun G hG => ?_⟩
      -- the start
      refine ev_seq_cut (fun ρ => ∃ (p : Pt) (k' : Int), k' = k + 3 ∧ (-4 ≤ p.1 ∧ p.1 ≤ 4) ∧ (-4 ≤ p.2.1 ∧ p.2.1 ≤ 4) ∧ (-4 ≤ p.2.2 ∧ p.2.2 ≤ 4) ∧ ρ = [some (.dat (.list (ns0.map PyData.int))), some (.lst (eDr ns (k'))), some (.dat nm), some (.dat (eSol C)), some (.dat hd), some (.dat rt), some (.dat (PyData.int (0 + (t : Int)))), some (.dat (eP p)), y8, y9, y10, y11, y12, y13, y14, none, none, none, none, none, none]) ?_ ?_
      · rintro ρ ⟨p, k', ek, hp1, hp2, hp3, rfl⟩
        have n8' : notArgB (some y8) = true := by rcases n8 with rfl | ⟨i, rfl⟩ <;> rfl
        have hk' : k' ≤ 40 := by omega
        walk_at "evs"
        refine ev_draw (own := false) rfl (by omega) (by omega) (by decide) fun a a0 a3 => ?_
        walk_at "evs"
        refine ev_draw (own := false) rfl (by omega) (by omega) (by decide) fun d d0 d9 => ?_
        walk_at "evs"
        obtain ⟨n, en⟩ : ∃ n : Int, n = d - 4 := ⟨_, rfl⟩
        rw [← en]
        have hgp : -4 ≤ getP p a ∧ getP p a ≤ 4 := by
          unfold getP
          split
          · exact hp1
          · split
            · exact hp2
            · exact hp3
        refine ev_kAsg (ρ2 := [some (.dat (.list (ns0.map PyData.int))), some (.lst (eDr ns (k' + 1 + 1))), some (.dat nm), some (.dat (eSol C)), some (.dat hd), some (.dat rt), some (.dat (PyData.int (0 + (t : Int)))), some (.dat (eP p)), some (.dat (PyData.int (a))), some (.dat (PyData.int (n))), y10, y11, y12, y13, y14, none, none, none, none, none, none]) (by simp [fTup, fCons, fName, fNil, n8', n9, mkO]) ?_
        refine ev_nx ?_
        walk_at "evs"
        refine ev_kSet_lst n10 ?_
        refine ev_nx ?_
        refine ev_seq_cut (fun ρ => ∃ y11 : Option DV, notArgB (some y11) = true ∧ ρ = [some (.dat (.list (ns0.map PyData.int))), some (.lst (eDr ns (k' + 1 + 1))), some (.dat nm), some (.dat (eSol C)), some (.dat hd), some (.dat rt), some (.dat (PyData.int (0 + (t : Int)))), some (.dat (eP p)), some (.dat (PyData.int (a))), some (.dat (PyData.int (n))), some (.lst ((lineP p a n).map eP)), y11, y12, y13, y14, none, none, none, none, none, none]) ?_ ?_
        · rintro ρ ⟨y11, n11, rfl⟩
          walk_at "evs"
          refine ev_kUser0 rfl rfl ⟨p, a, n, rfl, a0, a3, fun outs => ?_⟩
          have hpts := line_pts (p := p) (n := n) a0 a3
          have hsp : (-4 ≤ (setP p a n).1 ∧ (setP p a n).1 ≤ 4) ∧ (-4 ≤ (setP p a n).2.1 ∧ (setP p a n).2.1 ≤ 4) ∧ (-4 ≤ (setP p a n).2.2 ∧ (setP p a n).2.2 ≤ 4) := by
            unfold setP
            split
            · exact ⟨by dsimp only; omega, hp2, hp3⟩
            · split
              · exact ⟨hp1, by dsimp only; omega, hp3⟩
              · exact ⟨hp1, hp2, by dsimp only; omega⟩
          obtain ⟨lo, elo⟩ : ∃ lo, lo = minP p (setP p a n) := ⟨_, rfl⟩
          obtain ⟨hi, ehi⟩ : ∃ hi, hi = addP (maxP p (setP p a n)) oneP := ⟨_, rfl⟩
          rw [← elo, ← ehi] at hpts ⊢
          have l1 : -4 ≤ lo.1 ∧ lo.1 < hi.1 ∧ hi.1 ≤ 5 := by rw [elo, ehi]; unfold minP addP maxP oneP; dsimp only; omega
          have l2 : -4 ≤ lo.2.1 ∧ lo.2.1 < hi.2.1 ∧ hi.2.1 ≤ 5 := by rw [elo, ehi]; unfold minP addP maxP oneP; dsimp only; omega
          have l3 : -4 ≤ lo.2.2 ∧ lo.2.2 < hi.2.2 ∧ hi.2.2 ≤ 5 := by rw [elo, ehi]; unfold minP addP maxP oneP; dsimp only; omega
          refine ev_kSet_dat n12 ?_
          refine ev_nx ?_
          refine ev_seq_cut (fun ρ => ρ = [some (.dat (.list (ns0.map PyData.int))), some (.lst (eDr ns (k' + 1 + 1))), some (.dat nm), some (.dat (eSol C)), some (.dat hd), some (.dat rt), some (.dat (PyData.int (0 + (t : Int)))), some (.dat (eP p)), some (.dat (PyData.int (a))), some (.dat (PyData.int (n))), some (.lst ((lineP p a n).map eP)), y11, some (.dat (eSol (boxS lo hi))), y13, y14, none, none, none, none, none, none]) ?_ ?_
          · rintro ρ rfl
            have mline : ∀ r ∈ lineP p a n, (-4 ≤ r.1 ∧ r.1 ≤ 5) ∧ (-4 ≤ r.2.1 ∧ r.2.1 ≤ 5) ∧ (-4 ≤ r.2.2 ∧ r.2.2 ≤ 5) := fun r m => by
              rw [← hpts, ptsB_mem (by omega) (by omega) (by omega)] at m
              omega
            walk_at "evs"
            refine ev_kSet_dat n13 ?_
            refine ev_nx ?_
            refine ev_seq_cut (fun ρ => ∃ (U : Sol) (y14 : Option DV), FSol (EB 30) U ∧ (∀ c, cS U c = true ↔ atPts (lineP p a n) C c) ∧ notArgB (some y14) = true ∧ ρ = [some (.dat (.list (ns0.map PyData.int))), some (.lst (eDr ns (k' + 1 + 1))), some (.dat nm), some (.dat (eSol C)), some (.dat hd), some (.dat rt), some (.dat (PyData.int (0 + (t : Int)))), some (.dat (eP p)), some (.dat (PyData.int (a))), some (.dat (PyData.int (n))), some (.dat (.list ((lineP p a n).map eP))), y11, some (.dat (eSol (boxS lo hi))), some (.dat (eSol U)), y14, none, none, none, none, none, none]) ?_ ?_
            · rintro ρ ⟨U, y14, fU, cU, n14, rfl⟩
              have fl : FSol (EB 15) (boxS lo hi) := box_form ⟨⟨by omega, by omega⟩, ⟨by omega, by omega⟩, ⟨by omega, by omega⟩⟩ ⟨⟨by omega, by omega⟩, ⟨by omega, by omega⟩, ⟨by omega, by omega⟩⟩
              walk_at "evs"
              refine ev_kUser0 rfl rfl ⟨boxS lo hi, C, rfl, fl, fC, fun R fR cR outs => ?_⟩
              have eR : R = U := sol_ext fR fU fun c => bool_iff ((cR c).trans ((at_sweep (by omega) (by omega) (by omega)).symm.trans (by rw [hpts]; exact (cU c).symm)))
              rw [eR]
              walk_at "evs"
              refine ev_eq rfl rfl (Pd.shaped (pd_eSol 0 U)) (Pd.shaped (pd_eSol 0 U)) ?_
              rw [(Pd.eqv (pd_eSol 0 U) (pd_eSol 0 U)).mpr rfl]
              refine ev_kTest ?_
              refine ev_kIfS_f ?_
              walk_at "evs"
              exact hG _ ⟨k' + 1 + 1, some (.dat (.int (0 + (t : Int)))), some (.dat (eP p)), some (.dat (.int a)), some (.dat (.int n)), some (.dat (.list ((lineP p a n).map eP))), y11, some (.dat (eSol (boxS lo hi))), some (.dat (eSol U)), y14, by omega, by omega, .inr ⟨a, rfl⟩, rfl, rfl, rfl, rfl, n11, rfl, rfl, n14, rfl⟩
            · intro N3 hN3
              walk_at "evs"
              refine ev_kSeqI_l (xs := (lineP p a n).map eP) ?_
              refine ev_kFor ?_
              refine forGo_ind (I := fun left ρ => ∃ (done todo : List Pt) (U : Sol) (y14 : Option DV), lineP p a n = done ++ todo ∧ left = todo.map eP ∧ FSol (EB 30) U ∧ (∀ c, cS U c = true ↔ atPts done C c) ∧ notArgB (some y14) = true ∧ ρ = [some (.dat (.list (ns0.map PyData.int))), some (.lst (eDr ns (k' + 1 + 1))), some (.dat nm), some (.dat (eSol C)), some (.dat hd), some (.dat rt), some (.dat (PyData.int (0 + (t : Int)))), some (.dat (eP p)), some (.dat (PyData.int (a))), some (.dat (PyData.int (n))), some (.dat (.list ((lineP p a n).map eP))), y11, some (.dat (eSol (boxS lo hi))), some (.dat (eSol U)), y14, none, none, none, none, none, none]) ?_ ?_ _ _ ⟨[], lineP p a n, [], y14, rfl, rfl, trivial, (fun c => ⟨(fun z => nomatch z), (fun ⟨_, z, _⟩ => nomatch z)⟩), n14, rfl⟩
              · rintro ρ ⟨done, todo, U, y14, e, h1, fU, cU, n14, rfl⟩
                have := nil_of_map h1
                subst this
                rw [List.append_nil] at e
                exact hN3 _ ⟨U, y14, fU, by rw [e]; exact cU, n14, rfl⟩
              · rintro x xs ρ ⟨done, todo, U, y14, e, h1, fU, cU, n14, rfl⟩
                cases todo with
                | nil => cases h1
                | cons r todo =>
                obtain ⟨rfl, rfl⟩ := List.cons.inj h1
                obtain ⟨b1, b2, b3⟩ := mline r (by rw [e]; simp)
                have fm : FSol (EB 30) (moveS r C) := moveS_form (fun x h => ⟨by have := h.1; omega, by have := h.2; omega⟩) (fun x h => ⟨by have := h.1; omega, by have := h.2; omega⟩) (fun x h => ⟨by have := h.1; omega, by have := h.2; omega⟩) fC
                obtain ⟨j1, _, j3⟩ := combS_ok op_or joinR_rule fU fm
                refine ⟨[some (.dat (.list (ns0.map PyData.int))), some (.lst (eDr ns (k' + 1 + 1))), some (.dat nm), some (.dat (eSol C)), some (.dat hd), some (.dat rt), some (.dat (PyData.int (0 + (t : Int)))), some (.dat (eP p)), some (.dat (PyData.int (a))), some (.dat (PyData.int (n))), some (.dat (.list ((lineP p a n).map eP))), y11, some (.dat (eSol (boxS lo hi))), some (.dat (eSol U)), some (.dat (eP r)), none, none, none, none, none, none], by simp [fName, n14], fun N4 hN4 => ?_⟩
                walk_at "evs"
                refine ev_kUser0 rfl rfl ⟨r, C, rfl, fC, fun outs => ?_⟩
                walk_at "evs"
                refine ev_kUser0 rfl rfl ⟨EB 30, 61, U, moveS r C, rfl, few_EB 30, by decide, fU, fm, fun outs => ?_⟩
                refine ev_kSet_dat rfl ?_
                refine hN4 _ ⟨done ++ [r], todo, joinS U (moveS r C), some (.dat (eP r)), by rw [e]; simp, rfl, j1, fun c => ?_, rfl, rfl⟩
                rw [show cS (joinS U (moveS r C)) c = _ from j3 c]
                simp only [Bool.or_eq_true]
                constructor
                · rintro (z | z)
                  · obtain ⟨s, m, g⟩ := (cU c).mp z
                    exact ⟨s, List.mem_append_left _ m, g⟩
                  · exact ⟨r, by simp, z⟩
                · rintro ⟨s, m, g⟩
                  rcases List.mem_append.mp m with m | m
                  · exact .inl ((cU c).mpr ⟨s, m, g⟩)
                  · have : s = r := by simpa using m
                    rw [this] at g
                    exact .inr g
          · intro N3 hN3
            walk_at "evs"
            refine ev_frz ?_
            walk_at "evs"
            refine ev_kUser0 rfl rfl ⟨lo, hi, rfl, by omega, by omega, by omega, ⟨⟨by omega, by omega⟩, ⟨by omega, by omega⟩, ⟨by omega, by omega⟩⟩, ⟨⟨by omega, by omega⟩, ⟨by omega, by omega⟩, ⟨by omega, by omega⟩⟩, fun outs => ?_⟩
            refine ev_kFrz_dic ?_
            walk_at "evs"
            refine ev_sortedD (kvs := dP (ptsB lo hi)) (unDic_dicD _) ?_ ?_ ?_
            · rw [keys_dP]; exact PySem.W.AllAlike.of fun _ _ => rfl
            · rw [keys_dP]; exact PySem.W.Sortable.tuples fun s => ⟨_, _, rfl⟩
            rw [keys_dP, hpts]
            walk_at "evs"
            refine ev_sorted (b := false) (ds := (lineP p a n).map eP) rfl (PySem.W.AllAlike.of fun _ _ => rfl) (PySem.W.Sortable.tuples fun s => ⟨_, _, rfl⟩) (fun d m => ?_) ?_
            · obtain ⟨s, _, rfl⟩ := List.mem_map.mp m
              exact Nat.le_trans (pd_eP s).can.2 (by decide)
            refine ev_eq rfl rfl (Pd.shaped (pd_sort _)) (Pd.shaped (pd_sort _)) ?_
            rw [same_sort]
            refine ev_kTest ?_
            refine ev_kOr_f ?_
            walk_at "evs"
            refine ev_kUser0 rfl rfl ⟨p, rfl, fun outs => ?_⟩
            walk_at "evs"
            refine ev_kUser0 rfl rfl ⟨p, addP p oneP, rfl, show p.1 < p.1 + 1 by omega, show p.2.1 < p.2.1 + 1 by omega, show p.2.2 < p.2.2 + 1 by omega, ⟨⟨by omega, by omega⟩, ⟨by omega, by omega⟩, ⟨by omega, by omega⟩⟩, ptB_mk (show -40 ≤ p.1 + 1 ∧ p.1 + 1 ≤ 40 by omega) (show -40 ≤ p.2.1 + 1 ∧ p.2.1 + 1 ≤ 40 by omega) (show -40 ≤ p.2.2 + 1 ∧ p.2.2 + 1 ≤ 40 by omega), fun outs => ?_⟩
            rw [cube_pt]
            walk_at "evs"
            refine ev_disp1 ?_
            walk_at "evs"
            refine ev_kDisp1 ?_
            walk_at "evs"
            refine ev_kDisp2 (k := kP p) rfl ?_
            refine ev_eqDic (ks := dP [p]) (ls := dP [p]) rfl rfl (shaped_dP _) (shaped_dP _) ?_
            rw [show eqPairs (dP [p]) (dP [p]) = true from eq_one p]
            refine ev_kTest ?_
            refine ev_kIfS_f ?_
            walk_at "evs"
            exact hN3 _ rfl
        · intro N3 hN3
          walk_at "evs"
          refine ev_ix (b := true) rfl (atI_P a0 a3) ?_
          walk_at "evs"
          refine ev_minL (ns := [n, getP p a]) rfl (by simp) (fun m hm hle => ?_)
          obtain rfl : m = min n (getP p a) := by
            have h1 := hle n (by simp)
            have h2 := hle (getP p a) (by simp)
            simp at hm
            omega
          walk_at "evs"
          refine ev_ix (b := true) rfl (atI_P a0 a3) ?_
          walk_at "evs"
          refine ev_maxL (ns := [n, getP p a]) rfl (by simp) (fun m hm2 hle2 => ?_)
          obtain rfl : m = max n (getP p a) := by
            have h1 := hle2 n (by simp)
            have h2 := hle2 (getP p a) (by simp)
            simp at hm2
            omega
          walk_at "evs"
          refine ev_kRng2 ⟨by omega, by omega, by omega, by omega⟩ ?_
          refine ev_kFor ?_
          refine forGo_rng (I := fun j ρ => ∃ y11 : Option DV, notArgB (some y11) = true ∧ ρ = [some (.dat (.list (ns0.map PyData.int))), some (.lst (eDr ns (k' + 1 + 1))), some (.dat nm), some (.dat (eSol C)), some (.dat hd), some (.dat rt), some (.dat (PyData.int (0 + (t : Int)))), some (.dat (eP p)), some (.dat (PyData.int (a))), some (.dat (PyData.int (n))), some (.lst (((iv (min n (getP p a)) j).map (setP p a)).map eP)), y11, y12, y13, y14, none, none, none, none, none, none]) ?_ ?_ ⟨y11, n11, rfl⟩
          · rintro ρ ⟨y11, n11, rfl⟩
            exact hN3 _ ⟨y11, n11, rfl⟩
          · rintro j ρ hj ⟨y11, n11, rfl⟩
            obtain ⟨x, ex⟩ : ∃ x : Int, x = min n (getP p a) + (j : Int) := ⟨_, rfl⟩
            rw [← ex]
            refine ⟨[some (.dat (.list (ns0.map PyData.int))), some (.lst (eDr ns (k' + 1 + 1))), some (.dat nm), some (.dat (eSol C)), some (.dat hd), some (.dat rt), some (.dat (PyData.int (0 + (t : Int)))), some (.dat (eP p)), some (.dat (PyData.int (a))), some (.dat (PyData.int (n))), some (.lst (((iv (min n (getP p a)) j).map (setP p a)).map eP)), some (.dat (PyData.int (x))), y12, y13, y14, none, none, none, none, none, none], by simp [fName, n11], fun N4 hN4 => ?_⟩
            walk_at "evs"
            refine ev_enum ?_
            walk_at "evs"
            refine ev_kEnum_t (ds := [.int p.1, .int p.2.1, .int p.2.2]) ?_
            refine lcGo_three (x := .tuple [.int 0, .int p.1]) (y := .tuple [.int 1, .int p.2.1]) (z := .tuple [.int 2, .int p.2.2]) (a := .int (setP p a x).1) (b := .int (setP p a x).2.1) (c := .int (setP p a x).2.2) rfl ⟨_, rfl, fun Q1 hQ1 => ?_⟩ ⟨_, rfl, fun Q1 hQ1 => ?_⟩ ⟨_, rfl, fun Q1 hQ1 => ?_⟩ ?_
            · walk_at "evs"
              refine ev_kIf (fun z => ?_) (fun z => ?_)
              · have z : 0 = a := of_decide_eq_true z
                rw [show (setP p a x).1 = x by subst z; rfl] at hQ1
                walk_at "evs"
                exact hQ1 _ rfl
              · have z : ¬ 0 = a := of_decide_eq_false z
                rw [show (setP p a x).1 = p.1 by unfold setP; rw [if_neg (by omega)]; split <;> rfl] at hQ1
                walk_at "evs"
                exact hQ1 _ rfl
            · walk_at "evs"
              refine ev_kIf (fun z => ?_) (fun z => ?_)
              · have z : 1 = a := of_decide_eq_true z
                rw [show (setP p a x).2.1 = x by subst z; rfl] at hQ1
                walk_at "evs"
                exact hQ1 _ rfl
              · have z : ¬ 1 = a := of_decide_eq_false z
                rw [show (setP p a x).2.1 = p.2.1 by unfold setP; split; rfl; rw [if_neg (by omega)]] at hQ1
                walk_at "evs"
                exact hQ1 _ rfl
            · walk_at "evs"
              refine ev_kIf (fun z => ?_) (fun z => ?_)
              · have z : 2 = a := of_decide_eq_true z
                rw [show (setP p a x).2.2 = x by subst z; rfl] at hQ1
                walk_at "evs"
                exact hQ1 _ rfl
              · have z : ¬ 2 = a := of_decide_eq_false z
                rw [show (setP p a x).2.2 = p.2.2 by unfold setP; split; rfl; rw [if_pos (by omega)]] at hQ1
                walk_at "evs"
                exact hQ1 _ rfl
            walk_at "evs"
            refine ev_kApp2 rfl (by rw [List.length_map, List.length_map, iv_len]; omega) ?_
            walk_at "evs"
            refine hN4 _ ⟨some (.dat (.int x)), rfl, ?_⟩
            rw [iv_succ, List.map_append, List.map_append, ← ex]
            rfl
      · intro N2 hN2
        have v8 : ∀ k : Int, vsOk [some (.dat (.list (ns0.map PyData.int))), some (.lst (eDr ns (k))), some (.dat nm), some (.dat (eSol C)), some (.dat hd), some (.dat rt), some (.dat (PyData.int (0 + (t : Int)))), y7, y8, y9, y10, y11, y12, y13, y14, none, none, none, none, none, none] [8] = true := fun k => by
          rcases n8 with rfl | ⟨i, rfl⟩ <;> rfl
        walk_at "evs"
        refine ev_kRng1 (by decide) (by decide) ?_
        refine lcGo_ind (I := fun acc left ρ => ∃ (is : List Int) (k2 : Int), ρ = [some (.dat (.list (ns0.map PyData.int))), some (.lst (eDr ns (k2))), some (.dat nm), some (.dat (eSol C)), some (.dat hd), some (.dat rt), some (.dat (PyData.int (0 + (t : Int)))), y7, y8, y9, y10, y11, y12, y13, y14, none, none, none, none, none, none] ∧ acc = is.map PyData.int ∧ is.length + left.length = 3 ∧ k2 = k + is.length ∧ ∀ i ∈ is, -4 ≤ i ∧ i ≤ 4) ?_ ?_ _ _ _ ⟨[], k, rfl, rfl, rfl, by simp, (fun i m => nomatch m)⟩
        · rintro acc ρ ⟨is, k2, rfl, rfl, hl, hk2, hi⟩
          match is, hl, hk2, hi with
          | [a, b, c], _, hk2, hi =>
            walk_at "evs"
            refine ev_kSet_dat n7 ?_
            exact hN2 _ ⟨(a, b, c), k2, by rw [hk2]; rfl, hi a (by simp), hi b (by simp), hi c (by simp), rfl⟩
          | [], hl, _, _ => exact absurd hl (by simp)
          | [_], hl, _, _ => exact absurd hl (by simp)
          | [_, _], hl, _, _ => exact absurd hl (by simp)
          | _ :: _ :: _ :: _ :: _, hl, _, _ => exact absurd hl (by simp only [List.length_cons, List.length_nil]; omega)
        · rintro acc x xs ρ ⟨is, k2, rfl, rfl, hl, hk2, hi⟩
          simp only [List.length_cons] at hl
          refine ⟨v8 k2, _, rfl, fun Gn hG => ?_⟩
          walk_at "evs"
          refine ev_draw (own := false) rfl (by omega) (by omega) (by decide) fun d d0 d1 => ?_
          walk_at "evs"
          refine hG _ _ (by rw [List.length_map]; omega) ⟨is ++ [d - 4], k2 + 1, rfl, by simp, by rw [List.length_append, List.length_singleton]; omega, by rw [List.length_append, List.length_singleton]; omega, fun i m => ?_⟩
          rcases List.mem_append.mp m with m | m
          · exact hi i m
          · have : i = d - 4 := by simpa using m
            omega

end K41
end
set_option Elab.async false
set_option linter.all false
set_option maxRecDepth 100000
set_option maxHeartbeats 1000000
namespace K41
open PySem L2 DL SM
theorem fn_false {P : Program} {w : World} {K : PySem.W.Frag} {mg : Str → Option Value} {base : Heap} {k : Nat} {f : Addr} {fd : FuncData} {ps : List Str} : FnOk P w K mg base CX0 k f fd ps (spD K fun _ _ => False) := ⟨fun _ _ _ _ ⟨_, _, _, _, _, h, _⟩ => h.elim, fun _ _ _ _ _ _ _ _ _ _ _ _ _ ⟨_, _, _, _, _, h, _⟩ => h.elim⟩
theorem hl_added : ∀ ds K', sp_added ds K' → ds.length = 2 := by first | (rintro _ _ ⟨rfl, _⟩; rfl) | (rintro _ _ ⟨_, rfl, _⟩; rfl) | (rintro _ _ ⟨_, _, rfl, _⟩; rfl) | (rintro _ _ ⟨_, _, _, rfl, _⟩; rfl) | (rintro _ _ ⟨_, _, _, _, rfl, _⟩; rfl) | (rintro _ _ ⟨_, _, _, _, _, rfl, _⟩; rfl) | (rintro _ _ ⟨_, _, _, _, _, _, rfl, _⟩; rfl) | (rintro _ _ ⟨_, _, _, _, _, _, _, rfl, _⟩; rfl) | (rintro _ _ ⟨_, _, _, _, _, _, _, _, rfl, _⟩; rfl) | (rintro _ _ ⟨_, _, _, _, _, _, _, _, _, rfl, _⟩; rfl) | (rintro _ _ ⟨_, _, _, _, _, _, _, _, _, _, rfl, _⟩; rfl) | (rintro _ _ ⟨_, _, _, _, _, _, _, _, _, _, _, rfl, _⟩; rfl) | (rintro _ _ ⟨_, _, _, _, _, _, _, _, _, _, _, _, rfl, _⟩; rfl) | (rintro _ _ ⟨_, _, _, _, _, _, _, _, _, _, _, _, _, rfl, _⟩; rfl) | (rintro _ _ ⟨_, _, _, _, _, _, _, _, _, _, _, _, _, _, rfl, _⟩; rfl) | (rintro _ _ ⟨_, _, _, _, _, _, _, _, _, _, _, _, _, _, _, rfl, _⟩; rfl) | (rintro _ _ ⟨_, _, _, _, _, _, _, _, _, _, _, _, _, _, _, _, rfl, _⟩; rfl) | (rintro _ _ ⟨_, _, _, _, _, _, _, _, _, _, _, _, _, _, _, _, _, rfl, _⟩; rfl) | (rintro _ _ ⟨_, _, _, _, _, _, _, _, _, _, _, _, _, _, _, _, _, _, rfl, _⟩; rfl) | (rintro _ _ ⟨_, _, _, _, _, _, _, _, _, _, _, _, _, _, _, _, _, _, _, rfl, _⟩; rfl) | (rintro _ _ ⟨_, _, _, _, _, _, _, _, _, _, _, _, _, _, _, _, _, _, _, _, rfl, _⟩; rfl) | (rintro _ _ ⟨_, _, _, _, _, _, _, _, _, _, _, _, _, _, _, _, _, _, _, _, _, rfl, _⟩; rfl)
theorem hl_sorted_corners : ∀ ds K', sp_sorted_corners ds K' → ds.length = 2 := by first | (rintro _ _ ⟨rfl, _⟩; rfl) | (rintro _ _ ⟨_, rfl, _⟩; rfl) | (rintro _ _ ⟨_, _, rfl, _⟩; rfl) | (rintro _ _ ⟨_, _, _, rfl, _⟩; rfl) | (rintro _ _ ⟨_, _, _, _, rfl, _⟩; rfl) | (rintro _ _ ⟨_, _, _, _, _, rfl, _⟩; rfl) | (rintro _ _ ⟨_, _, _, _, _, _, rfl, _⟩; rfl) | (rintro _ _ ⟨_, _, _, _, _, _, _, rfl, _⟩; rfl) | (rintro _ _ ⟨_, _, _, _, _, _, _, _, rfl, _⟩; rfl) | (rintro _ _ ⟨_, _, _, _, _, _, _, _, _, rfl, _⟩; rfl) | (rintro _ _ ⟨_, _, _, _, _, _, _, _, _, _, rfl, _⟩; rfl) | (rintro _ _ ⟨_, _, _, _, _, _, _, _, _, _, _, rfl, _⟩; rfl) | (rintro _ _ ⟨_, _, _, _, _, _, _, _, _, _, _, _, rfl, _⟩; rfl) | (rintro _ _ ⟨_, _, _, _, _, _, _, _, _, _, _, _, _, rfl, _⟩; rfl) | (rintro _ _ ⟨_, _, _, _, _, _, _, _, _, _, _, _, _, _, rfl, _⟩; rfl) | (rintro _ _ ⟨_, _, _, _, _, _, _, _, _, _, _, _, _, _, _, rfl, _⟩; rfl) | (rintro _ _ ⟨_, _, _, _, _, _, _, _, _, _, _, _, _, _, _, _, rfl, _⟩; rfl) | (rintro _ _ ⟨_, _, _, _, _, _, _, _, _, _, _, _, _, _, _, _, _, rfl, _⟩; rfl) | (rintro _ _ ⟨_, _, _, _, _, _, _, _, _, _, _, _, _, _, _, _, _, _, rfl, _⟩; rfl) | (rintro _ _ ⟨_, _, _, _, _, _, _, _, _, _, _, _, _, _, _, _, _, _, _, rfl, _⟩; rfl) | (rintro _ _ ⟨_, _, _, _, _, _, _, _, _, _, _, _, _, _, _, _, _, _, _, _, rfl, _⟩; rfl) | (rintro _ _ ⟨_, _, _, _, _, _, _, _, _, _, _, _, _, _, _, _, _, _, _, _, _, rfl, _⟩; rfl)
theorem hl_with_number : ∀ ds K', sp_with_number ds K' → ds.length = 3 := by first | (rintro _ _ ⟨rfl, _⟩; rfl) | (rintro _ _ ⟨_, rfl, _⟩; rfl) | (rintro _ _ ⟨_, _, rfl, _⟩; rfl) | (rintro _ _ ⟨_, _, _, rfl, _⟩; rfl) | (rintro _ _ ⟨_, _, _, _, rfl, _⟩; rfl) | (rintro _ _ ⟨_, _, _, _, _, rfl, _⟩; rfl) | (rintro _ _ ⟨_, _, _, _, _, _, rfl, _⟩; rfl) | (rintro _ _ ⟨_, _, _, _, _, _, _, rfl, _⟩; rfl) | (rintro _ _ ⟨_, _, _, _, _, _, _, _, rfl, _⟩; rfl) | (rintro _ _ ⟨_, _, _, _, _, _, _, _, _, rfl, _⟩; rfl) | (rintro _ _ ⟨_, _, _, _, _, _, _, _, _, _, rfl, _⟩; rfl) | (rintro _ _ ⟨_, _, _, _, _, _, _, _, _, _, _, rfl, _⟩; rfl) | (rintro _ _ ⟨_, _, _, _, _, _, _, _, _, _, _, _, rfl, _⟩; rfl) | (rintro _ _ ⟨_, _, _, _, _, _, _, _, _, _, _, _, _, rfl, _⟩; rfl) | (rintro _ _ ⟨_, _, _, _, _, _, _, _, _, _, _, _, _, _, rfl, _⟩; rfl) | (rintro _ _ ⟨_, _, _, _, _, _, _, _, _, _, _, _, _, _, _, rfl, _⟩; rfl) | (rintro _ _ ⟨_, _, _, _, _, _, _, _, _, _, _, _, _, _, _, _, rfl, _⟩; rfl) | (rintro _ _ ⟨_, _, _, _, _, _, _, _, _, _, _, _, _, _, _, _, _, rfl, _⟩; rfl) | (rintro _ _ ⟨_, _, _, _, _, _, _, _, _, _, _, _, _, _, _, _, _, _, rfl, _⟩; rfl) | (rintro _ _ ⟨_, _, _, _, _, _, _, _, _, _, _, _, _, _, _, _, _, _, _, rfl, _⟩; rfl) | (rintro _ _ ⟨_, _, _, _, _, _, _, _, _, _, _, _, _, _, _, _, _, _, _, _, rfl, _⟩; rfl) | (rintro _ _ ⟨_, _, _, _, _, _, _, _, _, _, _, _, _, _, _, _, _, _, _, _, _, rfl, _⟩; rfl)
theorem hl_first_ending_beyond : ∀ ds K', sp_first_ending_beyond ds K' → ds.length = 2 := by first | (rintro _ _ ⟨rfl, _⟩; rfl) | (rintro _ _ ⟨_, rfl, _⟩; rfl) | (rintro _ _ ⟨_, _, rfl, _⟩; rfl) | (rintro _ _ ⟨_, _, _, rfl, _⟩; rfl) | (rintro _ _ ⟨_, _, _, _, rfl, _⟩; rfl) | (rintro _ _ ⟨_, _, _, _, _, rfl, _⟩; rfl) | (rintro _ _ ⟨_, _, _, _, _, _, rfl, _⟩; rfl) | (rintro _ _ ⟨_, _, _, _, _, _, _, rfl, _⟩; rfl) | (rintro _ _ ⟨_, _, _, _, _, _, _, _, rfl, _⟩; rfl) | (rintro _ _ ⟨_, _, _, _, _, _, _, _, _, rfl, _⟩; rfl) | (rintro _ _ ⟨_, _, _, _, _, _, _, _, _, _, rfl, _⟩; rfl) | (rintro _ _ ⟨_, _, _, _, _, _, _, _, _, _, _, rfl, _⟩; rfl) | (rintro _ _ ⟨_, _, _, _, _, _, _, _, _, _, _, _, rfl, _⟩; rfl) | (rintro _ _ ⟨_, _, _, _, _, _, _, _, _, _, _, _, _, rfl, _⟩; rfl) | (rintro _ _ ⟨_, _, _, _, _, _, _, _, _, _, _, _, _, _, rfl, _⟩; rfl) | (rintro _ _ ⟨_, _, _, _, _, _, _, _, _, _, _, _, _, _, _, rfl, _⟩; rfl) | (rintro _ _ ⟨_, _, _, _, _, _, _, _, _, _, _, _, _, _, _, _, rfl, _⟩; rfl) | (rintro _ _ ⟨_, _, _, _, _, _, _, _, _, _, _, _, _, _, _, _, _, rfl, _⟩; rfl) | (rintro _ _ ⟨_, _, _, _, _, _, _, _, _, _, _, _, _, _, _, _, _, _, rfl, _⟩; rfl) | (rintro _ _ ⟨_, _, _, _, _, _, _, _, _, _, _, _, _, _, _, _, _, _, _, rfl, _⟩; rfl) | (rintro _ _ ⟨_, _, _, _, _, _, _, _, _, _, _, _, _, _, _, _, _, _, _, _, rfl, _⟩; rfl) | (rintro _ _ ⟨_, _, _, _, _, _, _, _, _, _, _, _, _, _, _, _, _, _, _, _, _, rfl, _⟩; rfl)
theorem hl_first_beginning_from : ∀ ds K', sp_first_beginning_from ds K' → ds.length = 2 := by first | (rintro _ _ ⟨rfl, _⟩; rfl) | (rintro _ _ ⟨_, rfl, _⟩; rfl) | (rintro _ _ ⟨_, _, rfl, _⟩; rfl) | (rintro _ _ ⟨_, _, _, rfl, _⟩; rfl) | (rintro _ _ ⟨_, _, _, _, rfl, _⟩; rfl) | (rintro _ _ ⟨_, _, _, _, _, rfl, _⟩; rfl) | (rintro _ _ ⟨_, _, _, _, _, _, rfl, _⟩; rfl) | (rintro _ _ ⟨_, _, _, _, _, _, _, rfl, _⟩; rfl) | (rintro _ _ ⟨_, _, _, _, _, _, _, _, rfl, _⟩; rfl) | (rintro _ _ ⟨_, _, _, _, _, _, _, _, _, rfl, _⟩; rfl) | (rintro _ _ ⟨_, _, _, _, _, _, _, _, _, _, rfl, _⟩; rfl) | (rintro _ _ ⟨_, _, _, _, _, _, _, _, _, _, _, rfl, _⟩; rfl) | (rintro _ _ ⟨_, _, _, _, _, _, _, _, _, _, _, _, rfl, _⟩; rfl) | (rintro _ _ ⟨_, _, _, _, _, _, _, _, _, _, _, _, _, rfl, _⟩; rfl) | (rintro _ _ ⟨_, _, _, _, _, _, _, _, _, _, _, _, _, _, rfl, _⟩; rfl) | (rintro _ _ ⟨_, _, _, _, _, _, _, _, _, _, _, _, _, _, _, rfl, _⟩; rfl) | (rintro _ _ ⟨_, _, _, _, _, _, _, _, _, _, _, _, _, _, _, _, rfl, _⟩; rfl) | (rintro _ _ ⟨_, _, _, _, _, _, _, _, _, _, _, _, _, _, _, _, _, rfl, _⟩; rfl) | (rintro _ _ ⟨_, _, _, _, _, _, _, _, _, _, _, _, _, _, _, _, _, _, rfl, _⟩; rfl) | (rintro _ _ ⟨_, _, _, _, _, _, _, _, _, _, _, _, _, _, _, _, _, _, _, rfl, _⟩; rfl) | (rintro _ _ ⟨_, _, _, _, _, _, _, _, _, _, _, _, _, _, _, _, _, _, _, _, rfl, _⟩; rfl) | (rintro _ _ ⟨_, _, _, _, _, _, _, _, _, _, _, _, _, _, _, _, _, _, _, _, _, rfl, _⟩; rfl)
theorem hl_merged : ∀ ds K', sp_merged ds K' → ds.length = 1 := by first | (rintro _ _ ⟨rfl, _⟩; rfl) | (rintro _ _ ⟨_, rfl, _⟩; rfl) | (rintro _ _ ⟨_, _, rfl, _⟩; rfl) | (rintro _ _ ⟨_, _, _, rfl, _⟩; rfl) | (rintro _ _ ⟨_, _, _, _, rfl, _⟩; rfl) | (rintro _ _ ⟨_, _, _, _, _, rfl, _⟩; rfl) | (rintro _ _ ⟨_, _, _, _, _, _, rfl, _⟩; rfl) | (rintro _ _ ⟨_, _, _, _, _, _, _, rfl, _⟩; rfl) | (rintro _ _ ⟨_, _, _, _, _, _, _, _, rfl, _⟩; rfl) | (rintro _ _ ⟨_, _, _, _, _, _, _, _, _, rfl, _⟩; rfl) | (rintro _ _ ⟨_, _, _, _, _, _, _, _, _, _, rfl, _⟩; rfl) | (rintro _ _ ⟨_, _, _, _, _, _, _, _, _, _, _, rfl, _⟩; rfl) | (rintro _ _ ⟨_, _, _, _, _, _, _, _, _, _, _, _, rfl, _⟩; rfl) | (rintro _ _ ⟨_, _, _, _, _, _, _, _, _, _, _, _, _, rfl, _⟩; rfl) | (rintro _ _ ⟨_, _, _, _, _, _, _, _, _, _, _, _, _, _, rfl, _⟩; rfl) | (rintro _ _ ⟨_, _, _, _, _, _, _, _, _, _, _, _, _, _, _, rfl, _⟩; rfl) | (rintro _ _ ⟨_, _, _, _, _, _, _, _, _, _, _, _, _, _, _, _, rfl, _⟩; rfl) | (rintro _ _ ⟨_, _, _, _, _, _, _, _, _, _, _, _, _, _, _, _, _, rfl, _⟩; rfl) | (rintro _ _ ⟨_, _, _, _, _, _, _, _, _, _, _, _, _, _, _, _, _, _, rfl, _⟩; rfl) | (rintro _ _ ⟨_, _, _, _, _, _, _, _, _, _, _, _, _, _, _, _, _, _, _, rfl, _⟩; rfl) | (rintro _ _ ⟨_, _, _, _, _, _, _, _, _, _, _, _, _, _, _, _, _, _, _, _, rfl, _⟩; rfl) | (rintro _ _ ⟨_, _, _, _, _, _, _, _, _, _, _, _, _, _, _, _, _, _, _, _, _, rfl, _⟩; rfl)
theorem hl_joined_rows : ∀ ds K', sp_joined_rows ds K' → ds.length = 2 := by first | (rintro _ _ ⟨rfl, _⟩; rfl) | (rintro _ _ ⟨_, rfl, _⟩; rfl) | (rintro _ _ ⟨_, _, rfl, _⟩; rfl) | (rintro _ _ ⟨_, _, _, rfl, _⟩; rfl) | (rintro _ _ ⟨_, _, _, _, rfl, _⟩; rfl) | (rintro _ _ ⟨_, _, _, _, _, rfl, _⟩; rfl) | (rintro _ _ ⟨_, _, _, _, _, _, rfl, _⟩; rfl) | (rintro _ _ ⟨_, _, _, _, _, _, _, rfl, _⟩; rfl) | (rintro _ _ ⟨_, _, _, _, _, _, _, _, rfl, _⟩; rfl) | (rintro _ _ ⟨_, _, _, _, _, _, _, _, _, rfl, _⟩; rfl) | (rintro _ _ ⟨_, _, _, _, _, _, _, _, _, _, rfl, _⟩; rfl) | (rintro _ _ ⟨_, _, _, _, _, _, _, _, _, _, _, rfl, _⟩; rfl) | (rintro _ _ ⟨_, _, _, _, _, _, _, _, _, _, _, _, rfl, _⟩; rfl) | (rintro _ _ ⟨_, _, _, _, _, _, _, _, _, _, _, _, _, rfl, _⟩; rfl) | (rintro _ _ ⟨_, _, _, _, _, _, _, _, _, _, _, _, _, _, rfl, _⟩; rfl) | (rintro _ _ ⟨_, _, _, _, _, _, _, _, _, _, _, _, _, _, _, rfl, _⟩; rfl) | (rintro _ _ ⟨_, _, _, _, _, _, _, _, _, _, _, _, _, _, _, _, rfl, _⟩; rfl) | (rintro _ _ ⟨_, _, _, _, _, _, _, _, _, _, _, _, _, _, _, _, _, rfl, _⟩; rfl) | (rintro _ _ ⟨_, _, _, _, _, _, _, _, _, _, _, _, _, _, _, _, _, _, rfl, _⟩; rfl) | (rintro _ _ ⟨_, _, _, _, _, _, _, _, _, _, _, _, _, _, _, _, _, _, _, rfl, _⟩; rfl) | (rintro _ _ ⟨_, _, _, _, _, _, _, _, _, _, _, _, _, _, _, _, _, _, _, _, rfl, _⟩; rfl) | (rintro _ _ ⟨_, _, _, _, _, _, _, _, _, _, _, _, _, _, _, _, _, _, _, _, _, rfl, _⟩; rfl)
theorem hl_put : ∀ ds K', sp_put ds K' → ds.length = 4 := by first | (rintro _ _ ⟨rfl, _⟩; rfl) | (rintro _ _ ⟨_, rfl, _⟩; rfl) | (rintro _ _ ⟨_, _, rfl, _⟩; rfl) | (rintro _ _ ⟨_, _, _, rfl, _⟩; rfl) | (rintro _ _ ⟨_, _, _, _, rfl, _⟩; rfl) | (rintro _ _ ⟨_, _, _, _, _, rfl, _⟩; rfl) | (rintro _ _ ⟨_, _, _, _, _, _, rfl, _⟩; rfl) | (rintro _ _ ⟨_, _, _, _, _, _, _, rfl, _⟩; rfl) | (rintro _ _ ⟨_, _, _, _, _, _, _, _, rfl, _⟩; rfl) | (rintro _ _ ⟨_, _, _, _, _, _, _, _, _, rfl, _⟩; rfl) | (rintro _ _ ⟨_, _, _, _, _, _, _, _, _, _, rfl, _⟩; rfl) | (rintro _ _ ⟨_, _, _, _, _, _, _, _, _, _, _, rfl, _⟩; rfl) | (rintro _ _ ⟨_, _, _, _, _, _, _, _, _, _, _, _, rfl, _⟩; rfl) | (rintro _ _ ⟨_, _, _, _, _, _, _, _, _, _, _, _, _, rfl, _⟩; rfl) | (rintro _ _ ⟨_, _, _, _, _, _, _, _, _, _, _, _, _, _, rfl, _⟩; rfl) | (rintro _ _ ⟨_, _, _, _, _, _, _, _, _, _, _, _, _, _, _, rfl, _⟩; rfl) | (rintro _ _ ⟨_, _, _, _, _, _, _, _, _, _, _, _, _, _, _, _, rfl, _⟩; rfl) | (rintro _ _ ⟨_, _, _, _, _, _, _, _, _, _, _, _, _, _, _, _, _, rfl, _⟩; rfl) | (rintro _ _ ⟨_, _, _, _, _, _, _, _, _, _, _, _, _, _, _, _, _, _, rfl, _⟩; rfl) | (rintro _ _ ⟨_, _, _, _, _, _, _, _, _, _, _, _, _, _, _, _, _, _, _, rfl, _⟩; rfl) | (rintro _ _ ⟨_, _, _, _, _, _, _, _, _, _, _, _, _, _, _, _, _, _, _, _, rfl, _⟩; rfl) | (rintro _ _ ⟨_, _, _, _, _, _, _, _, _, _, _, _, _, _, _, _, _, _, _, _, _, rfl, _⟩; rfl)
theorem hl_put_all : ∀ ds K', sp_put_all ds K' → ds.length = 3 := by first | (rintro _ _ ⟨rfl, _⟩; rfl) | (rintro _ _ ⟨_, rfl, _⟩; rfl) | (rintro _ _ ⟨_, _, rfl, _⟩; rfl) | (rintro _ _ ⟨_, _, _, rfl, _⟩; rfl) | (rintro _ _ ⟨_, _, _, _, rfl, _⟩; rfl) | (rintro _ _ ⟨_, _, _, _, _, rfl, _⟩; rfl) | (rintro _ _ ⟨_, _, _, _, _, _, rfl, _⟩; rfl) | (rintro _ _ ⟨_, _, _, _, _, _, _, rfl, _⟩; rfl) | (rintro _ _ ⟨_, _, _, _, _, _, _, _, rfl, _⟩; rfl) | (rintro _ _ ⟨_, _, _, _, _, _, _, _, _, rfl, _⟩; rfl) | (rintro _ _ ⟨_, _, _, _, _, _, _, _, _, _, rfl, _⟩; rfl) | (rintro _ _ ⟨_, _, _, _, _, _, _, _, _, _, _, rfl, _⟩; rfl) | (rintro _ _ ⟨_, _, _, _, _, _, _, _, _, _, _, _, rfl, _⟩; rfl) | (rintro _ _ ⟨_, _, _, _, _, _, _, _, _, _, _, _, _, rfl, _⟩; rfl) | (rintro _ _ ⟨_, _, _, _, _, _, _, _, _, _, _, _, _, _, rfl, _⟩; rfl) | (rintro _ _ ⟨_, _, _, _, _, _, _, _, _, _, _, _, _, _, _, rfl, _⟩; rfl) | (rintro _ _ ⟨_, _, _, _, _, _, _, _, _, _, _, _, _, _, _, _, rfl, _⟩; rfl) | (rintro _ _ ⟨_, _, _, _, _, _, _, _, _, _, _, _, _, _, _, _, _, rfl, _⟩; rfl) | (rintro _ _ ⟨_, _, _, _, _, _, _, _, _, _, _, _, _, _, _, _, _, _, rfl, _⟩; rfl) | (rintro _ _ ⟨_, _, _, _, _, _, _, _, _, _, _, _, _, _, _, _, _, _, _, rfl, _⟩; rfl) | (rintro _ _ ⟨_, _, _, _, _, _, _, _, _, _, _, _, _, _, _, _, _, _, _, _, rfl, _⟩; rfl) | (rintro _ _ ⟨_, _, _, _, _, _, _, _, _, _, _, _, _, _, _, _, _, _, _, _, _, rfl, _⟩; rfl)
theorem hl_lay_over (S : Addr → Option DSpec) : ∀ ds K', (sp_lay_over S) ds K' → ds.length = 5 := by first | (rintro _ _ ⟨rfl, _⟩; rfl) | (rintro _ _ ⟨_, rfl, _⟩; rfl) | (rintro _ _ ⟨_, _, rfl, _⟩; rfl) | (rintro _ _ ⟨_, _, _, rfl, _⟩; rfl) | (rintro _ _ ⟨_, _, _, _, rfl, _⟩; rfl) | (rintro _ _ ⟨_, _, _, _, _, rfl, _⟩; rfl) | (rintro _ _ ⟨_, _, _, _, _, _, rfl, _⟩; rfl) | (rintro _ _ ⟨_, _, _, _, _, _, _, rfl, _⟩; rfl) | (rintro _ _ ⟨_, _, _, _, _, _, _, _, rfl, _⟩; rfl) | (rintro _ _ ⟨_, _, _, _, _, _, _, _, _, rfl, _⟩; rfl) | (rintro _ _ ⟨_, _, _, _, _, _, _, _, _, _, rfl, _⟩; rfl) | (rintro _ _ ⟨_, _, _, _, _, _, _, _, _, _, _, rfl, _⟩; rfl) | (rintro _ _ ⟨_, _, _, _, _, _, _, _, _, _, _, _, rfl, _⟩; rfl) | (rintro _ _ ⟨_, _, _, _, _, _, _, _, _, _, _, _, _, rfl, _⟩; rfl) | (rintro _ _ ⟨_, _, _, _, _, _, _, _, _, _, _, _, _, _, rfl, _⟩; rfl) | (rintro _ _ ⟨_, _, _, _, _, _, _, _, _, _, _, _, _, _, _, rfl, _⟩; rfl) | (rintro _ _ ⟨_, _, _, _, _, _, _, _, _, _, _, _, _, _, _, _, rfl, _⟩; rfl) | (rintro _ _ ⟨_, _, _, _, _, _, _, _, _, _, _, _, _, _, _, _, _, rfl, _⟩; rfl) | (rintro _ _ ⟨_, _, _, _, _, _, _, _, _, _, _, _, _, _, _, _, _, _, rfl, _⟩; rfl) | (rintro _ _ ⟨_, _, _, _, _, _, _, _, _, _, _, _, _, _, _, _, _, _, _, rfl, _⟩; rfl) | (rintro _ _ ⟨_, _, _, _, _, _, _, _, _, _, _, _, _, _, _, _, _, _, _, _, rfl, _⟩; rfl) | (rintro _ _ ⟨_, _, _, _, _, _, _, _, _, _, _, _, _, _, _, _, _, _, _, _, _, rfl, _⟩; rfl)
theorem hl_combined (S : Addr → Option DSpec) : ∀ ds K', (sp_combined S) ds K' → ds.length = 4 := by first | (rintro _ _ ⟨rfl, _⟩; rfl) | (rintro _ _ ⟨_, rfl, _⟩; rfl) | (rintro _ _ ⟨_, _, rfl, _⟩; rfl) | (rintro _ _ ⟨_, _, _, rfl, _⟩; rfl) | (rintro _ _ ⟨_, _, _, _, rfl, _⟩; rfl) | (rintro _ _ ⟨_, _, _, _, _, rfl, _⟩; rfl) | (rintro _ _ ⟨_, _, _, _, _, _, rfl, _⟩; rfl) | (rintro _ _ ⟨_, _, _, _, _, _, _, rfl, _⟩; rfl) | (rintro _ _ ⟨_, _, _, _, _, _, _, _, rfl, _⟩; rfl) | (rintro _ _ ⟨_, _, _, _, _, _, _, _, _, rfl, _⟩; rfl) | (rintro _ _ ⟨_, _, _, _, _, _, _, _, _, _, rfl, _⟩; rfl) | (rintro _ _ ⟨_, _, _, _, _, _, _, _, _, _, _, rfl, _⟩; rfl) | (rintro _ _ ⟨_, _, _, _, _, _, _, _, _, _, _, _, rfl, _⟩; rfl) | (rintro _ _ ⟨_, _, _, _, _, _, _, _, _, _, _, _, _, rfl, _⟩; rfl) | (rintro _ _ ⟨_, _, _, _, _, _, _, _, _, _, _, _, _, _, rfl, _⟩; rfl) | (rintro _ _ ⟨_, _, _, _, _, _, _, _, _, _, _, _, _, _, _, rfl, _⟩; rfl) | (rintro _ _ ⟨_, _, _, _, _, _, _, _, _, _, _, _, _, _, _, _, rfl, _⟩; rfl) | (rintro _ _ ⟨_, _, _, _, _, _, _, _, _, _, _, _, _, _, _, _, _, rfl, _⟩; rfl) | (rintro _ _ ⟨_, _, _, _, _, _, _, _, _, _, _, _, _, _, _, _, _, _, rfl, _⟩; rfl) | (rintro _ _ ⟨_, _, _, _, _, _, _, _, _, _, _, _, _, _, _, _, _, _, _, rfl, _⟩; rfl) | (rintro _ _ ⟨_, _, _, _, _, _, _, _, _, _, _, _, _, _, _, _, _, _, _, _, rfl, _⟩; rfl) | (rintro _ _ ⟨_, _, _, _, _, _, _, _, _, _, _, _, _, _, _, _, _, _, _, _, _, rfl, _⟩; rfl)
theorem hl_joined_layers : ∀ ds K', sp_joined_layers ds K' → ds.length = 2 := by first | (rintro _ _ ⟨rfl, _⟩; rfl) | (rintro _ _ ⟨_, rfl, _⟩; rfl) | (rintro _ _ ⟨_, _, rfl, _⟩; rfl) | (rintro _ _ ⟨_, _, _, rfl, _⟩; rfl) | (rintro _ _ ⟨_, _, _, _, rfl, _⟩; rfl) | (rintro _ _ ⟨_, _, _, _, _, rfl, _⟩; rfl) | (rintro _ _ ⟨_, _, _, _, _, _, rfl, _⟩; rfl) | (rintro _ _ ⟨_, _, _, _, _, _, _, rfl, _⟩; rfl) | (rintro _ _ ⟨_, _, _, _, _, _, _, _, rfl, _⟩; rfl) | (rintro _ _ ⟨_, _, _, _, _, _, _, _, _, rfl, _⟩; rfl) | (rintro _ _ ⟨_, _, _, _, _, _, _, _, _, _, rfl, _⟩; rfl) | (rintro _ _ ⟨_, _, _, _, _, _, _, _, _, _, _, rfl, _⟩; rfl) | (rintro _ _ ⟨_, _, _, _, _, _, _, _, _, _, _, _, rfl, _⟩; rfl) | (rintro _ _ ⟨_, _, _, _, _, _, _, _, _, _, _, _, _, rfl, _⟩; rfl) | (rintro _ _ ⟨_, _, _, _, _, _, _, _, _, _, _, _, _, _, rfl, _⟩; rfl) | (rintro _ _ ⟨_, _, _, _, _, _, _, _, _, _, _, _, _, _, _, rfl, _⟩; rfl) | (rintro _ _ ⟨_, _, _, _, _, _, _, _, _, _, _, _, _, _, _, _, rfl, _⟩; rfl) | (rintro _ _ ⟨_, _, _, _, _, _, _, _, _, _, _, _, _, _, _, _, _, rfl, _⟩; rfl) | (rintro _ _ ⟨_, _, _, _, _, _, _, _, _, _, _, _, _, _, _, _, _, _, rfl, _⟩; rfl) | (rintro _ _ ⟨_, _, _, _, _, _, _, _, _, _, _, _, _, _, _, _, _, _, _, rfl, _⟩; rfl) | (rintro _ _ ⟨_, _, _, _, _, _, _, _, _, _, _, _, _, _, _, _, _, _, _, _, rfl, _⟩; rfl) | (rintro _ _ ⟨_, _, _, _, _, _, _, _, _, _, _, _, _, _, _, _, _, _, _, _, _, rfl, _⟩; rfl)
theorem hl_stacked(S : Addr → Option DSpec) (n : Nat) : ∀ ds K', (sp_stk S n) ds K' → ds.length = 2 := by first | (rintro _ _ ⟨rfl, _⟩; rfl) | (rintro _ _ ⟨_, rfl, _⟩; rfl) | (rintro _ _ ⟨_, _, rfl, _⟩; rfl) | (rintro _ _ ⟨_, _, _, rfl, _⟩; rfl) | (rintro _ _ ⟨_, _, _, _, rfl, _⟩; rfl) | (rintro _ _ ⟨_, _, _, _, _, rfl, _⟩; rfl) | (rintro _ _ ⟨_, _, _, _, _, _, rfl, _⟩; rfl) | (rintro _ _ ⟨_, _, _, _, _, _, _, rfl, _⟩; rfl) | (rintro _ _ ⟨_, _, _, _, _, _, _, _, rfl, _⟩; rfl) | (rintro _ _ ⟨_, _, _, _, _, _, _, _, _, rfl, _⟩; rfl) | (rintro _ _ ⟨_, _, _, _, _, _, _, _, _, _, rfl, _⟩; rfl) | (rintro _ _ ⟨_, _, _, _, _, _, _, _, _, _, _, rfl, _⟩; rfl) | (rintro _ _ ⟨_, _, _, _, _, _, _, _, _, _, _, _, rfl, _⟩; rfl) | (rintro _ _ ⟨_, _, _, _, _, _, _, _, _, _, _, _, _, rfl, _⟩; rfl) | (rintro _ _ ⟨_, _, _, _, _, _, _, _, _, _, _, _, _, _, rfl, _⟩; rfl) | (rintro _ _ ⟨_, _, _, _, _, _, _, _, _, _, _, _, _, _, _, rfl, _⟩; rfl) | (rintro _ _ ⟨_, _, _, _, _, _, _, _, _, _, _, _, _, _, _, _, rfl, _⟩; rfl) | (rintro _ _ ⟨_, _, _, _, _, _, _, _, _, _, _, _, _, _, _, _, _, rfl, _⟩; rfl) | (rintro _ _ ⟨_, _, _, _, _, _, _, _, _, _, _, _, _, _, _, _, _, _, rfl, _⟩; rfl) | (rintro _ _ ⟨_, _, _, _, _, _, _, _, _, _, _, _, _, _, _, _, _, _, _, rfl, _⟩; rfl) | (rintro _ _ ⟨_, _, _, _, _, _, _, _, _, _, _, _, _, _, _, _, _, _, _, _, rfl, _⟩; rfl) | (rintro _ _ ⟨_, _, _, _, _, _, _, _, _, _, _, _, _, _, _, _, _, _, _, _, _, rfl, _⟩; rfl)
theorem hl_grown_layer : ∀ ds K', sp_grown_layer ds K' → ds.length = 3 := by first | (rintro _ _ ⟨rfl, _⟩; rfl) | (rintro _ _ ⟨_, rfl, _⟩; rfl) | (rintro _ _ ⟨_, _, rfl, _⟩; rfl) | (rintro _ _ ⟨_, _, _, rfl, _⟩; rfl) | (rintro _ _ ⟨_, _, _, _, rfl, _⟩; rfl) | (rintro _ _ ⟨_, _, _, _, _, rfl, _⟩; rfl) | (rintro _ _ ⟨_, _, _, _, _, _, rfl, _⟩; rfl) | (rintro _ _ ⟨_, _, _, _, _, _, _, rfl, _⟩; rfl) | (rintro _ _ ⟨_, _, _, _, _, _, _, _, rfl, _⟩; rfl) | (rintro _ _ ⟨_, _, _, _, _, _, _, _, _, rfl, _⟩; rfl) | (rintro _ _ ⟨_, _, _, _, _, _, _, _, _, _, rfl, _⟩; rfl) | (rintro _ _ ⟨_, _, _, _, _, _, _, _, _, _, _, rfl, _⟩; rfl) | (rintro _ _ ⟨_, _, _, _, _, _, _, _, _, _, _, _, rfl, _⟩; rfl) | (rintro _ _ ⟨_, _, _, _, _, _, _, _, _, _, _, _, _, rfl, _⟩; rfl) | (rintro _ _ ⟨_, _, _, _, _, _, _, _, _, _, _, _, _, _, rfl, _⟩; rfl) | (rintro _ _ ⟨_, _, _, _, _, _, _, _, _, _, _, _, _, _, _, rfl, _⟩; rfl) | (rintro _ _ ⟨_, _, _, _, _, _, _, _, _, _, _, _, _, _, _, _, rfl, _⟩; rfl) | (rintro _ _ ⟨_, _, _, _, _, _, _, _, _, _, _, _, _, _, _, _, _, rfl, _⟩; rfl) | (rintro _ _ ⟨_, _, _, _, _, _, _, _, _, _, _, _, _, _, _, _, _, _, rfl, _⟩; rfl) | (rintro _ _ ⟨_, _, _, _, _, _, _, _, _, _, _, _, _, _, _, _, _, _, _, rfl, _⟩; rfl) | (rintro _ _ ⟨_, _, _, _, _, _, _, _, _, _, _, _, _, _, _, _, _, _, _, _, rfl, _⟩; rfl) | (rintro _ _ ⟨_, _, _, _, _, _, _, _, _, _, _, _, _, _, _, _, _, _, _, _, _, rfl, _⟩; rfl)
theorem hl_grown : ∀ ds K', sp_grown ds K' → ds.length = 3 := by first | (rintro _ _ ⟨rfl, _⟩; rfl) | (rintro _ _ ⟨_, rfl, _⟩; rfl) | (rintro _ _ ⟨_, _, rfl, _⟩; rfl) | (rintro _ _ ⟨_, _, _, rfl, _⟩; rfl) | (rintro _ _ ⟨_, _, _, _, rfl, _⟩; rfl) | (rintro _ _ ⟨_, _, _, _, _, rfl, _⟩; rfl) | (rintro _ _ ⟨_, _, _, _, _, _, rfl, _⟩; rfl) | (rintro _ _ ⟨_, _, _, _, _, _, _, rfl, _⟩; rfl) | (rintro _ _ ⟨_, _, _, _, _, _, _, _, rfl, _⟩; rfl) | (rintro _ _ ⟨_, _, _, _, _, _, _, _, _, rfl, _⟩; rfl) | (rintro _ _ ⟨_, _, _, _, _, _, _, _, _, _, rfl, _⟩; rfl) | (rintro _ _ ⟨_, _, _, _, _, _, _, _, _, _, _, rfl, _⟩; rfl) | (rintro _ _ ⟨_, _, _, _, _, _, _, _, _, _, _, _, rfl, _⟩; rfl) | (rintro _ _ ⟨_, _, _, _, _, _, _, _, _, _, _, _, _, rfl, _⟩; rfl) | (rintro _ _ ⟨_, _, _, _, _, _, _, _, _, _, _, _, _, _, rfl, _⟩; rfl) | (rintro _ _ ⟨_, _, _, _, _, _, _, _, _, _, _, _, _, _, _, rfl, _⟩; rfl) | (rintro _ _ ⟨_, _, _, _, _, _, _, _, _, _, _, _, _, _, _, _, rfl, _⟩; rfl) | (rintro _ _ ⟨_, _, _, _, _, _, _, _, _, _, _, _, _, _, _, _, _, rfl, _⟩; rfl) | (rintro _ _ ⟨_, _, _, _, _, _, _, _, _, _, _, _, _, _, _, _, _, _, rfl, _⟩; rfl) | (rintro _ _ ⟨_, _, _, _, _, _, _, _, _, _, _, _, _, _, _, _, _, _, _, rfl, _⟩; rfl) | (rintro _ _ ⟨_, _, _, _, _, _, _, _, _, _, _, _, _, _, _, _, _, _, _, _, rfl, _⟩; rfl) | (rintro _ _ ⟨_, _, _, _, _, _, _, _, _, _, _, _, _, _, _, _, _, _, _, _, _, rfl, _⟩; rfl)
theorem hl_count_of : ∀ ds K', sp_count_of ds K' → ds.length = 1 := by first | (rintro _ _ ⟨rfl, _⟩; rfl) | (rintro _ _ ⟨_, rfl, _⟩; rfl) | (rintro _ _ ⟨_, _, rfl, _⟩; rfl) | (rintro _ _ ⟨_, _, _, rfl, _⟩; rfl) | (rintro _ _ ⟨_, _, _, _, rfl, _⟩; rfl) | (rintro _ _ ⟨_, _, _, _, _, rfl, _⟩; rfl) | (rintro _ _ ⟨_, _, _, _, _, _, rfl, _⟩; rfl) | (rintro _ _ ⟨_, _, _, _, _, _, _, rfl, _⟩; rfl) | (rintro _ _ ⟨_, _, _, _, _, _, _, _, rfl, _⟩; rfl) | (rintro _ _ ⟨_, _, _, _, _, _, _, _, _, rfl, _⟩; rfl) | (rintro _ _ ⟨_, _, _, _, _, _, _, _, _, _, rfl, _⟩; rfl) | (rintro _ _ ⟨_, _, _, _, _, _, _, _, _, _, _, rfl, _⟩; rfl) | (rintro _ _ ⟨_, _, _, _, _, _, _, _, _, _, _, _, rfl, _⟩; rfl) | (rintro _ _ ⟨_, _, _, _, _, _, _, _, _, _, _, _, _, rfl, _⟩; rfl) | (rintro _ _ ⟨_, _, _, _, _, _, _, _, _, _, _, _, _, _, rfl, _⟩; rfl) | (rintro _ _ ⟨_, _, _, _, _, _, _, _, _, _, _, _, _, _, _, rfl, _⟩; rfl) | (rintro _ _ ⟨_, _, _, _, _, _, _, _, _, _, _, _, _, _, _, _, rfl, _⟩; rfl) | (rintro _ _ ⟨_, _, _, _, _, _, _, _, _, _, _, _, _, _, _, _, _, rfl, _⟩; rfl) | (rintro _ _ ⟨_, _, _, _, _, _, _, _, _, _, _, _, _, _, _, _, _, _, rfl, _⟩; rfl) | (rintro _ _ ⟨_, _, _, _, _, _, _, _, _, _, _, _, _, _, _, _, _, _, _, rfl, _⟩; rfl) | (rintro _ _ ⟨_, _, _, _, _, _, _, _, _, _, _, _, _, _, _, _, _, _, _, _, rfl, _⟩; rfl) | (rintro _ _ ⟨_, _, _, _, _, _, _, _, _, _, _, _, _, _, _, _, _, _, _, _, _, rfl, _⟩; rfl)
theorem hl_box : ∀ ds K', sp_box ds K' → ds.length = 2 := by first | (rintro _ _ ⟨rfl, _⟩; rfl) | (rintro _ _ ⟨_, rfl, _⟩; rfl) | (rintro _ _ ⟨_, _, rfl, _⟩; rfl) | (rintro _ _ ⟨_, _, _, rfl, _⟩; rfl) | (rintro _ _ ⟨_, _, _, _, rfl, _⟩; rfl) | (rintro _ _ ⟨_, _, _, _, _, rfl, _⟩; rfl) | (rintro _ _ ⟨_, _, _, _, _, _, rfl, _⟩; rfl) | (rintro _ _ ⟨_, _, _, _, _, _, _, rfl, _⟩; rfl) | (rintro _ _ ⟨_, _, _, _, _, _, _, _, rfl, _⟩; rfl) | (rintro _ _ ⟨_, _, _, _, _, _, _, _, _, rfl, _⟩; rfl) | (rintro _ _ ⟨_, _, _, _, _, _, _, _, _, _, rfl, _⟩; rfl) | (rintro _ _ ⟨_, _, _, _, _, _, _, _, _, _, _, rfl, _⟩; rfl) | (rintro _ _ ⟨_, _, _, _, _, _, _, _, _, _, _, _, rfl, _⟩; rfl) | (rintro _ _ ⟨_, _, _, _, _, _, _, _, _, _, _, _, _, rfl, _⟩; rfl) | (rintro _ _ ⟨_, _, _, _, _, _, _, _, _, _, _, _, _, _, rfl, _⟩; rfl) | (rintro _ _ ⟨_, _, _, _, _, _, _, _, _, _, _, _, _, _, _, rfl, _⟩; rfl) | (rintro _ _ ⟨_, _, _, _, _, _, _, _, _, _, _, _, _, _, _, _, rfl, _⟩; rfl) | (rintro _ _ ⟨_, _, _, _, _, _, _, _, _, _, _, _, _, _, _, _, _, rfl, _⟩; rfl) | (rintro _ _ ⟨_, _, _, _, _, _, _, _, _, _, _, _, _, _, _, _, _, _, rfl, _⟩; rfl) | (rintro _ _ ⟨_, _, _, _, _, _, _, _, _, _, _, _, _, _, _, _, _, _, _, rfl, _⟩; rfl) | (rintro _ _ ⟨_, _, _, _, _, _, _, _, _, _, _, _, _, _, _, _, _, _, _, _, rfl, _⟩; rfl) | (rintro _ _ ⟨_, _, _, _, _, _, _, _, _, _, _, _, _, _, _, _, _, _, _, _, _, rfl, _⟩; rfl)
theorem hl_union : ∀ ds K', sp_union ds K' → ds.length = 2 := by first | (rintro _ _ ⟨rfl, _⟩; rfl) | (rintro _ _ ⟨_, rfl, _⟩; rfl) | (rintro _ _ ⟨_, _, rfl, _⟩; rfl) | (rintro _ _ ⟨_, _, _, rfl, _⟩; rfl) | (rintro _ _ ⟨_, _, _, _, rfl, _⟩; rfl) | (rintro _ _ ⟨_, _, _, _, _, rfl, _⟩; rfl) | (rintro _ _ ⟨_, _, _, _, _, _, rfl, _⟩; rfl) | (rintro _ _ ⟨_, _, _, _, _, _, _, rfl, _⟩; rfl) | (rintro _ _ ⟨_, _, _, _, _, _, _, _, rfl, _⟩; rfl) | (rintro _ _ ⟨_, _, _, _, _, _, _, _, _, rfl, _⟩; rfl) | (rintro _ _ ⟨_, _, _, _, _, _, _, _, _, _, rfl, _⟩; rfl) | (rintro _ _ ⟨_, _, _, _, _, _, _, _, _, _, _, rfl, _⟩; rfl) | (rintro _ _ ⟨_, _, _, _, _, _, _, _, _, _, _, _, rfl, _⟩; rfl) | (rintro _ _ ⟨_, _, _, _, _, _, _, _, _, _, _, _, _, rfl, _⟩; rfl) | (rintro _ _ ⟨_, _, _, _, _, _, _, _, _, _, _, _, _, _, rfl, _⟩; rfl) | (rintro _ _ ⟨_, _, _, _, _, _, _, _, _, _, _, _, _, _, _, rfl, _⟩; rfl) | (rintro _ _ ⟨_, _, _, _, _, _, _, _, _, _, _, _, _, _, _, _, rfl, _⟩; rfl) | (rintro _ _ ⟨_, _, _, _, _, _, _, _, _, _, _, _, _, _, _, _, _, rfl, _⟩; rfl) | (rintro _ _ ⟨_, _, _, _, _, _, _, _, _, _, _, _, _, _, _, _, _, _, rfl, _⟩; rfl) | (rintro _ _ ⟨_, _, _, _, _, _, _, _, _, _, _, _, _, _, _, _, _, _, _, rfl, _⟩; rfl) | (rintro _ _ ⟨_, _, _, _, _, _, _, _, _, _, _, _, _, _, _, _, _, _, _, _, rfl, _⟩; rfl) | (rintro _ _ ⟨_, _, _, _, _, _, _, _, _, _, _, _, _, _, _, _, _, _, _, _, _, rfl, _⟩; rfl)
theorem hl_union_of : ∀ ds K', sp_union_of ds K' → ds.length = 1 := by first | (rintro _ _ ⟨rfl, _⟩; rfl) | (rintro _ _ ⟨_, rfl, _⟩; rfl) | (rintro _ _ ⟨_, _, rfl, _⟩; rfl) | (rintro _ _ ⟨_, _, _, rfl, _⟩; rfl) | (rintro _ _ ⟨_, _, _, _, rfl, _⟩; rfl) | (rintro _ _ ⟨_, _, _, _, _, rfl, _⟩; rfl) | (rintro _ _ ⟨_, _, _, _, _, _, rfl, _⟩; rfl) | (rintro _ _ ⟨_, _, _, _, _, _, _, rfl, _⟩; rfl) | (rintro _ _ ⟨_, _, _, _, _, _, _, _, rfl, _⟩; rfl) | (rintro _ _ ⟨_, _, _, _, _, _, _, _, _, rfl, _⟩; rfl) | (rintro _ _ ⟨_, _, _, _, _, _, _, _, _, _, rfl, _⟩; rfl) | (rintro _ _ ⟨_, _, _, _, _, _, _, _, _, _, _, rfl, _⟩; rfl) | (rintro _ _ ⟨_, _, _, _, _, _, _, _, _, _, _, _, rfl, _⟩; rfl) | (rintro _ _ ⟨_, _, _, _, _, _, _, _, _, _, _, _, _, rfl, _⟩; rfl) | (rintro _ _ ⟨_, _, _, _, _, _, _, _, _, _, _, _, _, _, rfl, _⟩; rfl) | (rintro _ _ ⟨_, _, _, _, _, _, _, _, _, _, _, _, _, _, _, rfl, _⟩; rfl) | (rintro _ _ ⟨_, _, _, _, _, _, _, _, _, _, _, _, _, _, _, _, rfl, _⟩; rfl) | (rintro _ _ ⟨_, _, _, _, _, _, _, _, _, _, _, _, _, _, _, _, _, rfl, _⟩; rfl) | (rintro _ _ ⟨_, _, _, _, _, _, _, _, _, _, _, _, _, _, _, _, _, _, rfl, _⟩; rfl) | (rintro _ _ ⟨_, _, _, _, _, _, _, _, _, _, _, _, _, _, _, _, _, _, _, rfl, _⟩; rfl) | (rintro _ _ ⟨_, _, _, _, _, _, _, _, _, _, _, _, _, _, _, _, _, _, _, _, rfl, _⟩; rfl) | (rintro _ _ ⟨_, _, _, _, _, _, _, _, _, _, _, _, _, _, _, _, _, _, _, _, _, rfl, _⟩; rfl)
theorem hl_boxes_of : ∀ ds K', sp_boxes_of ds K' → ds.length = 1 := by first | (rintro _ _ ⟨rfl, _⟩; rfl) | (rintro _ _ ⟨_, rfl, _⟩; rfl) | (rintro _ _ ⟨_, _, rfl, _⟩; rfl) | (rintro _ _ ⟨_, _, _, rfl, _⟩; rfl) | (rintro _ _ ⟨_, _, _, _, rfl, _⟩; rfl) | (rintro _ _ ⟨_, _, _, _, _, rfl, _⟩; rfl) | (rintro _ _ ⟨_, _, _, _, _, _, rfl, _⟩; rfl) | (rintro _ _ ⟨_, _, _, _, _, _, _, rfl, _⟩; rfl) | (rintro _ _ ⟨_, _, _, _, _, _, _, _, rfl, _⟩; rfl) | (rintro _ _ ⟨_, _, _, _, _, _, _, _, _, rfl, _⟩; rfl) | (rintro _ _ ⟨_, _, _, _, _, _, _, _, _, _, rfl, _⟩; rfl) | (rintro _ _ ⟨_, _, _, _, _, _, _, _, _, _, _, rfl, _⟩; rfl) | (rintro _ _ ⟨_, _, _, _, _, _, _, _, _, _, _, _, rfl, _⟩; rfl) | (rintro _ _ ⟨_, _, _, _, _, _, _, _, _, _, _, _, _, rfl, _⟩; rfl) | (rintro _ _ ⟨_, _, _, _, _, _, _, _, _, _, _, _, _, _, rfl, _⟩; rfl) | (rintro _ _ ⟨_, _, _, _, _, _, _, _, _, _, _, _, _, _, _, rfl, _⟩; rfl) | (rintro _ _ ⟨_, _, _, _, _, _, _, _, _, _, _, _, _, _, _, _, rfl, _⟩; rfl) | (rintro _ _ ⟨_, _, _, _, _, _, _, _, _, _, _, _, _, _, _, _, _, rfl, _⟩; rfl) | (rintro _ _ ⟨_, _, _, _, _, _, _, _, _, _, _, _, _, _, _, _, _, _, rfl, _⟩; rfl) | (rintro _ _ ⟨_, _, _, _, _, _, _, _, _, _, _, _, _, _, _, _, _, _, _, rfl, _⟩; rfl) | (rintro _ _ ⟨_, _, _, _, _, _, _, _, _, _, _, _, _, _, _, _, _, _, _, _, rfl, _⟩; rfl) | (rintro _ _ ⟨_, _, _, _, _, _, _, _, _, _, _, _, _, _, _, _, _, _, _, _, _, rfl, _⟩; rfl)
theorem hl_moved_layer : ∀ ds K', sp_moved_layer ds K' → ds.length = 2 := by first | (rintro _ _ ⟨rfl, _⟩; rfl) | (rintro _ _ ⟨_, rfl, _⟩; rfl) | (rintro _ _ ⟨_, _, rfl, _⟩; rfl) | (rintro _ _ ⟨_, _, _, rfl, _⟩; rfl) | (rintro _ _ ⟨_, _, _, _, rfl, _⟩; rfl) | (rintro _ _ ⟨_, _, _, _, _, rfl, _⟩; rfl) | (rintro _ _ ⟨_, _, _, _, _, _, rfl, _⟩; rfl) | (rintro _ _ ⟨_, _, _, _, _, _, _, rfl, _⟩; rfl) | (rintro _ _ ⟨_, _, _, _, _, _, _, _, rfl, _⟩; rfl) | (rintro _ _ ⟨_, _, _, _, _, _, _, _, _, rfl, _⟩; rfl) | (rintro _ _ ⟨_, _, _, _, _, _, _, _, _, _, rfl, _⟩; rfl) | (rintro _ _ ⟨_, _, _, _, _, _, _, _, _, _, _, rfl, _⟩; rfl) | (rintro _ _ ⟨_, _, _, _, _, _, _, _, _, _, _, _, rfl, _⟩; rfl) | (rintro _ _ ⟨_, _, _, _, _, _, _, _, _, _, _, _, _, rfl, _⟩; rfl) | (rintro _ _ ⟨_, _, _, _, _, _, _, _, _, _, _, _, _, _, rfl, _⟩; rfl) | (rintro _ _ ⟨_, _, _, _, _, _, _, _, _, _, _, _, _, _, _, rfl, _⟩; rfl) | (rintro _ _ ⟨_, _, _, _, _, _, _, _, _, _, _, _, _, _, _, _, rfl, _⟩; rfl) | (rintro _ _ ⟨_, _, _, _, _, _, _, _, _, _, _, _, _, _, _, _, _, rfl, _⟩; rfl) | (rintro _ _ ⟨_, _, _, _, _, _, _, _, _, _, _, _, _, _, _, _, _, _, rfl, _⟩; rfl) | (rintro _ _ ⟨_, _, _, _, _, _, _, _, _, _, _, _, _, _, _, _, _, _, _, rfl, _⟩; rfl) | (rintro _ _ ⟨_, _, _, _, _, _, _, _, _, _, _, _, _, _, _, _, _, _, _, _, rfl, _⟩; rfl) | (rintro _ _ ⟨_, _, _, _, _, _, _, _, _, _, _, _, _, _, _, _, _, _, _, _, _, rfl, _⟩; rfl)
theorem hl_moved : ∀ ds K', sp_moved ds K' → ds.length = 2 := by first | (rintro _ _ ⟨rfl, _⟩; rfl) | (rintro _ _ ⟨_, rfl, _⟩; rfl) | (rintro _ _ ⟨_, _, rfl, _⟩; rfl) | (rintro _ _ ⟨_, _, _, rfl, _⟩; rfl) | (rintro _ _ ⟨_, _, _, _, rfl, _⟩; rfl) | (rintro _ _ ⟨_, _, _, _, _, rfl, _⟩; rfl) | (rintro _ _ ⟨_, _, _, _, _, _, rfl, _⟩; rfl) | (rintro _ _ ⟨_, _, _, _, _, _, _, rfl, _⟩; rfl) | (rintro _ _ ⟨_, _, _, _, _, _, _, _, rfl, _⟩; rfl) | (rintro _ _ ⟨_, _, _, _, _, _, _, _, _, rfl, _⟩; rfl) | (rintro _ _ ⟨_, _, _, _, _, _, _, _, _, _, rfl, _⟩; rfl) | (rintro _ _ ⟨_, _, _, _, _, _, _, _, _, _, _, rfl, _⟩; rfl) | (rintro _ _ ⟨_, _, _, _, _, _, _, _, _, _, _, _, rfl, _⟩; rfl) | (rintro _ _ ⟨_, _, _, _, _, _, _, _, _, _, _, _, _, rfl, _⟩; rfl) | (rintro _ _ ⟨_, _, _, _, _, _, _, _, _, _, _, _, _, _, rfl, _⟩; rfl) | (rintro _ _ ⟨_, _, _, _, _, _, _, _, _, _, _, _, _, _, _, rfl, _⟩; rfl) | (rintro _ _ ⟨_, _, _, _, _, _, _, _, _, _, _, _, _, _, _, _, rfl, _⟩; rfl) | (rintro _ _ ⟨_, _, _, _, _, _, _, _, _, _, _, _, _, _, _, _, _, rfl, _⟩; rfl) | (rintro _ _ ⟨_, _, _, _, _, _, _, _, _, _, _, _, _, _, _, _, _, _, rfl, _⟩; rfl) | (rintro _ _ ⟨_, _, _, _, _, _, _, _, _, _, _, _, _, _, _, _, _, _, _, rfl, _⟩; rfl) | (rintro _ _ ⟨_, _, _, _, _, _, _, _, _, _, _, _, _, _, _, _, _, _, _, _, rfl, _⟩; rfl) | (rintro _ _ ⟨_, _, _, _, _, _, _, _, _, _, _, _, _, _, _, _, _, _, _, _, _, rfl, _⟩; rfl)
theorem hl_swept : ∀ ds K', sp_swept ds K' → ds.length = 2 := by first | (rintro _ _ ⟨rfl, _⟩; rfl) | (rintro _ _ ⟨_, rfl, _⟩; rfl) | (rintro _ _ ⟨_, _, rfl, _⟩; rfl) | (rintro _ _ ⟨_, _, _, rfl, _⟩; rfl) | (rintro _ _ ⟨_, _, _, _, rfl, _⟩; rfl) | (rintro _ _ ⟨_, _, _, _, _, rfl, _⟩; rfl) | (rintro _ _ ⟨_, _, _, _, _, _, rfl, _⟩; rfl) | (rintro _ _ ⟨_, _, _, _, _, _, _, rfl, _⟩; rfl) | (rintro _ _ ⟨_, _, _, _, _, _, _, _, rfl, _⟩; rfl) | (rintro _ _ ⟨_, _, _, _, _, _, _, _, _, rfl, _⟩; rfl) | (rintro _ _ ⟨_, _, _, _, _, _, _, _, _, _, rfl, _⟩; rfl) | (rintro _ _ ⟨_, _, _, _, _, _, _, _, _, _, _, rfl, _⟩; rfl) | (rintro _ _ ⟨_, _, _, _, _, _, _, _, _, _, _, _, rfl, _⟩; rfl) | (rintro _ _ ⟨_, _, _, _, _, _, _, _, _, _, _, _, _, rfl, _⟩; rfl) | (rintro _ _ ⟨_, _, _, _, _, _, _, _, _, _, _, _, _, _, rfl, _⟩; rfl) | (rintro _ _ ⟨_, _, _, _, _, _, _, _, _, _, _, _, _, _, _, rfl, _⟩; rfl) | (rintro _ _ ⟨_, _, _, _, _, _, _, _, _, _, _, _, _, _, _, _, rfl, _⟩; rfl) | (rintro _ _ ⟨_, _, _, _, _, _, _, _, _, _, _, _, _, _, _, _, _, rfl, _⟩; rfl) | (rintro _ _ ⟨_, _, _, _, _, _, _, _, _, _, _, _, _, _, _, _, _, _, rfl, _⟩; rfl) | (rintro _ _ ⟨_, _, _, _, _, _, _, _, _, _, _, _, _, _, _, _, _, _, _, rfl, _⟩; rfl) | (rintro _ _ ⟨_, _, _, _, _, _, _, _, _, _, _, _, _, _, _, _, _, _, _, _, rfl, _⟩; rfl) | (rintro _ _ ⟨_, _, _, _, _, _, _, _, _, _, _, _, _, _, _, _, _, _, _, _, _, rfl, _⟩; rfl)
theorem hl_cube_at : ∀ ds K', sp_cube_at ds K' → ds.length = 1 := by first | (rintro _ _ ⟨rfl, _⟩; rfl) | (rintro _ _ ⟨_, rfl, _⟩; rfl) | (rintro _ _ ⟨_, _, rfl, _⟩; rfl) | (rintro _ _ ⟨_, _, _, rfl, _⟩; rfl) | (rintro _ _ ⟨_, _, _, _, rfl, _⟩; rfl) | (rintro _ _ ⟨_, _, _, _, _, rfl, _⟩; rfl) | (rintro _ _ ⟨_, _, _, _, _, _, rfl, _⟩; rfl) | (rintro _ _ ⟨_, _, _, _, _, _, _, rfl, _⟩; rfl) | (rintro _ _ ⟨_, _, _, _, _, _, _, _, rfl, _⟩; rfl) | (rintro _ _ ⟨_, _, _, _, _, _, _, _, _, rfl, _⟩; rfl) | (rintro _ _ ⟨_, _, _, _, _, _, _, _, _, _, rfl, _⟩; rfl) | (rintro _ _ ⟨_, _, _, _, _, _, _, _, _, _, _, rfl, _⟩; rfl) | (rintro _ _ ⟨_, _, _, _, _, _, _, _, _, _, _, _, rfl, _⟩; rfl) | (rintro _ _ ⟨_, _, _, _, _, _, _, _, _, _, _, _, _, rfl, _⟩; rfl) | (rintro _ _ ⟨_, _, _, _, _, _, _, _, _, _, _, _, _, _, rfl, _⟩; rfl) | (rintro _ _ ⟨_, _, _, _, _, _, _, _, _, _, _, _, _, _, _, rfl, _⟩; rfl) | (rintro _ _ ⟨_, _, _, _, _, _, _, _, _, _, _, _, _, _, _, _, rfl, _⟩; rfl) | (rintro _ _ ⟨_, _, _, _, _, _, _, _, _, _, _, _, _, _, _, _, _, rfl, _⟩; rfl) | (rintro _ _ ⟨_, _, _, _, _, _, _, _, _, _, _, _, _, _, _, _, _, _, rfl, _⟩; rfl) | (rintro _ _ ⟨_, _, _, _, _, _, _, _, _, _, _, _, _, _, _, _, _, _, _, rfl, _⟩; rfl) | (rintro _ _ ⟨_, _, _, _, _, _, _, _, _, _, _, _, _, _, _, _, _, _, _, _, rfl, _⟩; rfl) | (rintro _ _ ⟨_, _, _, _, _, _, _, _, _, _, _, _, _, _, _, _, _, _, _, _, _, rfl, _⟩; rfl)
theorem hl_line_lot : ∀ ds K', sp_line_lot ds K' → ds.length = 3 := by first | (rintro _ _ ⟨rfl, _⟩; rfl) | (rintro _ _ ⟨_, rfl, _⟩; rfl) | (rintro _ _ ⟨_, _, rfl, _⟩; rfl) | (rintro _ _ ⟨_, _, _, rfl, _⟩; rfl) | (rintro _ _ ⟨_, _, _, _, rfl, _⟩; rfl) | (rintro _ _ ⟨_, _, _, _, _, rfl, _⟩; rfl) | (rintro _ _ ⟨_, _, _, _, _, _, rfl, _⟩; rfl) | (rintro _ _ ⟨_, _, _, _, _, _, _, rfl, _⟩; rfl) | (rintro _ _ ⟨_, _, _, _, _, _, _, _, rfl, _⟩; rfl) | (rintro _ _ ⟨_, _, _, _, _, _, _, _, _, rfl, _⟩; rfl) | (rintro _ _ ⟨_, _, _, _, _, _, _, _, _, _, rfl, _⟩; rfl) | (rintro _ _ ⟨_, _, _, _, _, _, _, _, _, _, _, rfl, _⟩; rfl) | (rintro _ _ ⟨_, _, _, _, _, _, _, _, _, _, _, _, rfl, _⟩; rfl) | (rintro _ _ ⟨_, _, _, _, _, _, _, _, _, _, _, _, _, rfl, _⟩; rfl) | (rintro _ _ ⟨_, _, _, _, _, _, _, _, _, _, _, _, _, _, rfl, _⟩; rfl) | (rintro _ _ ⟨_, _, _, _, _, _, _, _, _, _, _, _, _, _, _, rfl, _⟩; rfl) | (rintro _ _ ⟨_, _, _, _, _, _, _, _, _, _, _, _, _, _, _, _, rfl, _⟩; rfl) | (rintro _ _ ⟨_, _, _, _, _, _, _, _, _, _, _, _, _, _, _, _, _, rfl, _⟩; rfl) | (rintro _ _ ⟨_, _, _, _, _, _, _, _, _, _, _, _, _, _, _, _, _, _, rfl, _⟩; rfl) | (rintro _ _ ⟨_, _, _, _, _, _, _, _, _, _, _, _, _, _, _, _, _, _, _, rfl, _⟩; rfl) | (rintro _ _ ⟨_, _, _, _, _, _, _, _, _, _, _, _, _, _, _, _, _, _, _, _, rfl, _⟩; rfl) | (rintro _ _ ⟨_, _, _, _, _, _, _, _, _, _, _, _, _, _, _, _, _, _, _, _, _, rfl, _⟩; rfl)
theorem hl_travel_lot : ∀ ds K', sp_travel_lot ds K' → ds.length = 1 := by first | (rintro _ _ ⟨rfl, _⟩; rfl) | (rintro _ _ ⟨_, rfl, _⟩; rfl) | (rintro _ _ ⟨_, _, rfl, _⟩; rfl) | (rintro _ _ ⟨_, _, _, rfl, _⟩; rfl) | (rintro _ _ ⟨_, _, _, _, rfl, _⟩; rfl) | (rintro _ _ ⟨_, _, _, _, _, rfl, _⟩; rfl) | (rintro _ _ ⟨_, _, _, _, _, _, rfl, _⟩; rfl) | (rintro _ _ ⟨_, _, _, _, _, _, _, rfl, _⟩; rfl) | (rintro _ _ ⟨_, _, _, _, _, _, _, _, rfl, _⟩; rfl) | (rintro _ _ ⟨_, _, _, _, _, _, _, _, _, rfl, _⟩; rfl) | (rintro _ _ ⟨_, _, _, _, _, _, _, _, _, _, rfl, _⟩; rfl) | (rintro _ _ ⟨_, _, _, _, _, _, _, _, _, _, _, rfl, _⟩; rfl) | (rintro _ _ ⟨_, _, _, _, _, _, _, _, _, _, _, _, rfl, _⟩; rfl) | (rintro _ _ ⟨_, _, _, _, _, _, _, _, _, _, _, _, _, rfl, _⟩; rfl) | (rintro _ _ ⟨_, _, _, _, _, _, _, _, _, _, _, _, _, _, rfl, _⟩; rfl) | (rintro _ _ ⟨_, _, _, _, _, _, _, _, _, _, _, _, _, _, _, rfl, _⟩; rfl) | (rintro _ _ ⟨_, _, _, _, _, _, _, _, _, _, _, _, _, _, _, _, rfl, _⟩; rfl) | (rintro _ _ ⟨_, _, _, _, _, _, _, _, _, _, _, _, _, _, _, _, _, rfl, _⟩; rfl) | (rintro _ _ ⟨_, _, _, _, _, _, _, _, _, _, _, _, _, _, _, _, _, _, rfl, _⟩; rfl) | (rintro _ _ ⟨_, _, _, _, _, _, _, _, _, _, _, _, _, _, _, _, _, _, _, rfl, _⟩; rfl) | (rintro _ _ ⟨_, _, _, _, _, _, _, _, _, _, _, _, _, _, _, _, _, _, _, _, rfl, _⟩; rfl) | (rintro _ _ ⟨_, _, _, _, _, _, _, _, _, _, _, _, _, _, _, _, _, _, _, _, _, rfl, _⟩; rfl)
theorem hl__law_cell_at : ∀ ds K', sp__law_cell_at ds K' → ds.length = 2 := by first | (rintro _ _ ⟨rfl, _⟩; rfl) | (rintro _ _ ⟨_, rfl, _⟩; rfl) | (rintro _ _ ⟨_, _, rfl, _⟩; rfl) | (rintro _ _ ⟨_, _, _, rfl, _⟩; rfl) | (rintro _ _ ⟨_, _, _, _, rfl, _⟩; rfl) | (rintro _ _ ⟨_, _, _, _, _, rfl, _⟩; rfl) | (rintro _ _ ⟨_, _, _, _, _, _, rfl, _⟩; rfl) | (rintro _ _ ⟨_, _, _, _, _, _, _, rfl, _⟩; rfl) | (rintro _ _ ⟨_, _, _, _, _, _, _, _, rfl, _⟩; rfl) | (rintro _ _ ⟨_, _, _, _, _, _, _, _, _, rfl, _⟩; rfl) | (rintro _ _ ⟨_, _, _, _, _, _, _, _, _, _, rfl, _⟩; rfl) | (rintro _ _ ⟨_, _, _, _, _, _, _, _, _, _, _, rfl, _⟩; rfl) | (rintro _ _ ⟨_, _, _, _, _, _, _, _, _, _, _, _, rfl, _⟩; rfl) | (rintro _ _ ⟨_, _, _, _, _, _, _, _, _, _, _, _, _, rfl, _⟩; rfl) | (rintro _ _ ⟨_, _, _, _, _, _, _, _, _, _, _, _, _, _, rfl, _⟩; rfl) | (rintro _ _ ⟨_, _, _, _, _, _, _, _, _, _, _, _, _, _, _, rfl, _⟩; rfl) | (rintro _ _ ⟨_, _, _, _, _, _, _, _, _, _, _, _, _, _, _, _, rfl, _⟩; rfl) | (rintro _ _ ⟨_, _, _, _, _, _, _, _, _, _, _, _, _, _, _, _, _, rfl, _⟩; rfl) | (rintro _ _ ⟨_, _, _, _, _, _, _, _, _, _, _, _, _, _, _, _, _, _, rfl, _⟩; rfl) | (rintro _ _ ⟨_, _, _, _, _, _, _, _, _, _, _, _, _, _, _, _, _, _, _, rfl, _⟩; rfl) | (rintro _ _ ⟨_, _, _, _, _, _, _, _, _, _, _, _, _, _, _, _, _, _, _, _, rfl, _⟩; rfl) | (rintro _ _ ⟨_, _, _, _, _, _, _, _, _, _, _, _, _, _, _, _, _, _, _, _, _, rfl, _⟩; rfl)
theorem hl__law_draw : ∀ ds K', sp__law_draw ds K' → ds.length = 3 := by first | (rintro _ _ ⟨rfl, _⟩; rfl) | (rintro _ _ ⟨_, rfl, _⟩; rfl) | (rintro _ _ ⟨_, _, rfl, _⟩; rfl) | (rintro _ _ ⟨_, _, _, rfl, _⟩; rfl) | (rintro _ _ ⟨_, _, _, _, rfl, _⟩; rfl) | (rintro _ _ ⟨_, _, _, _, _, rfl, _⟩; rfl) | (rintro _ _ ⟨_, _, _, _, _, _, rfl, _⟩; rfl) | (rintro _ _ ⟨_, _, _, _, _, _, _, rfl, _⟩; rfl) | (rintro _ _ ⟨_, _, _, _, _, _, _, _, rfl, _⟩; rfl) | (rintro _ _ ⟨_, _, _, _, _, _, _, _, _, rfl, _⟩; rfl) | (rintro _ _ ⟨_, _, _, _, _, _, _, _, _, _, rfl, _⟩; rfl) | (rintro _ _ ⟨_, _, _, _, _, _, _, _, _, _, _, rfl, _⟩; rfl) | (rintro _ _ ⟨_, _, _, _, _, _, _, _, _, _, _, _, rfl, _⟩; rfl) | (rintro _ _ ⟨_, _, _, _, _, _, _, _, _, _, _, _, _, rfl, _⟩; rfl) | (rintro _ _ ⟨_, _, _, _, _, _, _, _, _, _, _, _, _, _, rfl, _⟩; rfl) | (rintro _ _ ⟨_, _, _, _, _, _, _, _, _, _, _, _, _, _, _, rfl, _⟩; rfl) | (rintro _ _ ⟨_, _, _, _, _, _, _, _, _, _, _, _, _, _, _, _, rfl, _⟩; rfl) | (rintro _ _ ⟨_, _, _, _, _, _, _, _, _, _, _, _, _, _, _, _, _, rfl, _⟩; rfl) | (rintro _ _ ⟨_, _, _, _, _, _, _, _, _, _, _, _, _, _, _, _, _, _, rfl, _⟩; rfl) | (rintro _ _ ⟨_, _, _, _, _, _, _, _, _, _, _, _, _, _, _, _, _, _, _, rfl, _⟩; rfl) | (rintro _ _ ⟨_, _, _, _, _, _, _, _, _, _, _, _, _, _, _, _, _, _, _, _, rfl, _⟩; rfl) | (rintro _ _ ⟨_, _, _, _, _, _, _, _, _, _, _, _, _, _, _, _, _, _, _, _, _, rfl, _⟩; rfl)
theorem hl__law_number : ∀ ds K', sp__law_number ds K' → ds.length = 3 := by first | (rintro _ _ ⟨rfl, _⟩; rfl) | (rintro _ _ ⟨_, rfl, _⟩; rfl) | (rintro _ _ ⟨_, _, rfl, _⟩; rfl) | (rintro _ _ ⟨_, _, _, rfl, _⟩; rfl) | (rintro _ _ ⟨_, _, _, _, rfl, _⟩; rfl) | (rintro _ _ ⟨_, _, _, _, _, rfl, _⟩; rfl) | (rintro _ _ ⟨_, _, _, _, _, _, rfl, _⟩; rfl) | (rintro _ _ ⟨_, _, _, _, _, _, _, rfl, _⟩; rfl) | (rintro _ _ ⟨_, _, _, _, _, _, _, _, rfl, _⟩; rfl) | (rintro _ _ ⟨_, _, _, _, _, _, _, _, _, rfl, _⟩; rfl) | (rintro _ _ ⟨_, _, _, _, _, _, _, _, _, _, rfl, _⟩; rfl) | (rintro _ _ ⟨_, _, _, _, _, _, _, _, _, _, _, rfl, _⟩; rfl) | (rintro _ _ ⟨_, _, _, _, _, _, _, _, _, _, _, _, rfl, _⟩; rfl) | (rintro _ _ ⟨_, _, _, _, _, _, _, _, _, _, _, _, _, rfl, _⟩; rfl) | (rintro _ _ ⟨_, _, _, _, _, _, _, _, _, _, _, _, _, _, rfl, _⟩; rfl) | (rintro _ _ ⟨_, _, _, _, _, _, _, _, _, _, _, _, _, _, _, rfl, _⟩; rfl) | (rintro _ _ ⟨_, _, _, _, _, _, _, _, _, _, _, _, _, _, _, _, rfl, _⟩; rfl) | (rintro _ _ ⟨_, _, _, _, _, _, _, _, _, _, _, _, _, _, _, _, _, rfl, _⟩; rfl) | (rintro _ _ ⟨_, _, _, _, _, _, _, _, _, _, _, _, _, _, _, _, _, _, rfl, _⟩; rfl) | (rintro _ _ ⟨_, _, _, _, _, _, _, _, _, _, _, _, _, _, _, _, _, _, _, rfl, _⟩; rfl) | (rintro _ _ ⟨_, _, _, _, _, _, _, _, _, _, _, _, _, _, _, _, _, _, _, _, rfl, _⟩; rfl) | (rintro _ _ ⟨_, _, _, _, _, _, _, _, _, _, _, _, _, _, _, _, _, _, _, _, _, rfl, _⟩; rfl)
theorem hl__law_next : ∀ ds K', sp__law_next ds K' → ds.length = 2 := by first | (rintro _ _ ⟨rfl, _⟩; rfl) | (rintro _ _ ⟨_, rfl, _⟩; rfl) | (rintro _ _ ⟨_, _, rfl, _⟩; rfl) | (rintro _ _ ⟨_, _, _, rfl, _⟩; rfl) | (rintro _ _ ⟨_, _, _, _, rfl, _⟩; rfl) | (rintro _ _ ⟨_, _, _, _, _, rfl, _⟩; rfl) | (rintro _ _ ⟨_, _, _, _, _, _, rfl, _⟩; rfl) | (rintro _ _ ⟨_, _, _, _, _, _, _, rfl, _⟩; rfl) | (rintro _ _ ⟨_, _, _, _, _, _, _, _, rfl, _⟩; rfl) | (rintro _ _ ⟨_, _, _, _, _, _, _, _, _, rfl, _⟩; rfl) | (rintro _ _ ⟨_, _, _, _, _, _, _, _, _, _, rfl, _⟩; rfl) | (rintro _ _ ⟨_, _, _, _, _, _, _, _, _, _, _, rfl, _⟩; rfl) | (rintro _ _ ⟨_, _, _, _, _, _, _, _, _, _, _, _, rfl, _⟩; rfl) | (rintro _ _ ⟨_, _, _, _, _, _, _, _, _, _, _, _, _, rfl, _⟩; rfl) | (rintro _ _ ⟨_, _, _, _, _, _, _, _, _, _, _, _, _, _, rfl, _⟩; rfl) | (rintro _ _ ⟨_, _, _, _, _, _, _, _, _, _, _, _, _, _, _, rfl, _⟩; rfl) | (rintro _ _ ⟨_, _, _, _, _, _, _, _, _, _, _, _, _, _, _, _, rfl, _⟩; rfl) | (rintro _ _ ⟨_, _, _, _, _, _, _, _, _, _, _, _, _, _, _, _, _, rfl, _⟩; rfl) | (rintro _ _ ⟨_, _, _, _, _, _, _, _, _, _, _, _, _, _, _, _, _, _, rfl, _⟩; rfl) | (rintro _ _ ⟨_, _, _, _, _, _, _, _, _, _, _, _, _, _, _, _, _, _, _, rfl, _⟩; rfl) | (rintro _ _ ⟨_, _, _, _, _, _, _, _, _, _, _, _, _, _, _, _, _, _, _, _, rfl, _⟩; rfl) | (rintro _ _ ⟨_, _, _, _, _, _, _, _, _, _, _, _, _, _, _, _, _, _, _, _, _, rfl, _⟩; rfl)
theorem hl__law_tool : ∀ ds K', sp__law_tool ds K' → ds.length = 2 := by first | (rintro _ _ ⟨rfl, _⟩; rfl) | (rintro _ _ ⟨_, rfl, _⟩; rfl) | (rintro _ _ ⟨_, _, rfl, _⟩; rfl) | (rintro _ _ ⟨_, _, _, rfl, _⟩; rfl) | (rintro _ _ ⟨_, _, _, _, rfl, _⟩; rfl) | (rintro _ _ ⟨_, _, _, _, _, rfl, _⟩; rfl) | (rintro _ _ ⟨_, _, _, _, _, _, rfl, _⟩; rfl) | (rintro _ _ ⟨_, _, _, _, _, _, _, rfl, _⟩; rfl) | (rintro _ _ ⟨_, _, _, _, _, _, _, _, rfl, _⟩; rfl) | (rintro _ _ ⟨_, _, _, _, _, _, _, _, _, rfl, _⟩; rfl) | (rintro _ _ ⟨_, _, _, _, _, _, _, _, _, _, rfl, _⟩; rfl) | (rintro _ _ ⟨_, _, _, _, _, _, _, _, _, _, _, rfl, _⟩; rfl) | (rintro _ _ ⟨_, _, _, _, _, _, _, _, _, _, _, _, rfl, _⟩; rfl) | (rintro _ _ ⟨_, _, _, _, _, _, _, _, _, _, _, _, _, rfl, _⟩; rfl) | (rintro _ _ ⟨_, _, _, _, _, _, _, _, _, _, _, _, _, _, rfl, _⟩; rfl) | (rintro _ _ ⟨_, _, _, _, _, _, _, _, _, _, _, _, _, _, _, rfl, _⟩; rfl) | (rintro _ _ ⟨_, _, _, _, _, _, _, _, _, _, _, _, _, _, _, _, rfl, _⟩; rfl) | (rintro _ _ ⟨_, _, _, _, _, _, _, _, _, _, _, _, _, _, _, _, _, rfl, _⟩; rfl) | (rintro _ _ ⟨_, _, _, _, _, _, _, _, _, _, _, _, _, _, _, _, _, _, rfl, _⟩; rfl) | (rintro _ _ ⟨_, _, _, _, _, _, _, _, _, _, _, _, _, _, _, _, _, _, _, rfl, _⟩; rfl) | (rintro _ _ ⟨_, _, _, _, _, _, _, _, _, _, _, _, _, _, _, _, _, _, _, _, rfl, _⟩; rfl) | (rintro _ _ ⟨_, _, _, _, _, _, _, _, _, _, _, _, _, _, _, _, _, _, _, _, _, rfl, _⟩; rfl)
theorem hl__law_cubes : ∀ ds K', sp__law_cubes ds K' → ds.length = 1 := by first | (rintro _ _ ⟨rfl, _⟩; rfl) | (rintro _ _ ⟨_, rfl, _⟩; rfl) | (rintro _ _ ⟨_, _, rfl, _⟩; rfl) | (rintro _ _ ⟨_, _, _, rfl, _⟩; rfl) | (rintro _ _ ⟨_, _, _, _, rfl, _⟩; rfl) | (rintro _ _ ⟨_, _, _, _, _, rfl, _⟩; rfl) | (rintro _ _ ⟨_, _, _, _, _, _, rfl, _⟩; rfl) | (rintro _ _ ⟨_, _, _, _, _, _, _, rfl, _⟩; rfl) | (rintro _ _ ⟨_, _, _, _, _, _, _, _, rfl, _⟩; rfl) | (rintro _ _ ⟨_, _, _, _, _, _, _, _, _, rfl, _⟩; rfl) | (rintro _ _ ⟨_, _, _, _, _, _, _, _, _, _, rfl, _⟩; rfl) | (rintro _ _ ⟨_, _, _, _, _, _, _, _, _, _, _, rfl, _⟩; rfl) | (rintro _ _ ⟨_, _, _, _, _, _, _, _, _, _, _, _, rfl, _⟩; rfl) | (rintro _ _ ⟨_, _, _, _, _, _, _, _, _, _, _, _, _, rfl, _⟩; rfl) | (rintro _ _ ⟨_, _, _, _, _, _, _, _, _, _, _, _, _, _, rfl, _⟩; rfl) | (rintro _ _ ⟨_, _, _, _, _, _, _, _, _, _, _, _, _, _, _, rfl, _⟩; rfl) | (rintro _ _ ⟨_, _, _, _, _, _, _, _, _, _, _, _, _, _, _, _, rfl, _⟩; rfl) | (rintro _ _ ⟨_, _, _, _, _, _, _, _, _, _, _, _, _, _, _, _, _, rfl, _⟩; rfl) | (rintro _ _ ⟨_, _, _, _, _, _, _, _, _, _, _, _, _, _, _, _, _, _, rfl, _⟩; rfl) | (rintro _ _ ⟨_, _, _, _, _, _, _, _, _, _, _, _, _, _, _, _, _, _, _, rfl, _⟩; rfl) | (rintro _ _ ⟨_, _, _, _, _, _, _, _, _, _, _, _, _, _, _, _, _, _, _, _, rfl, _⟩; rfl) | (rintro _ _ ⟨_, _, _, _, _, _, _, _, _, _, _, _, _, _, _, _, _, _, _, _, _, rfl, _⟩; rfl)
theorem hl_law : ∀ ds K', (lawSpec 63) ds K' → ds.length = 1 := by first | (rintro _ _ ⟨rfl, _⟩; rfl) | (rintro _ _ ⟨_, rfl, _⟩; rfl) | (rintro _ _ ⟨_, _, rfl, _⟩; rfl) | (rintro _ _ ⟨_, _, _, rfl, _⟩; rfl) | (rintro _ _ ⟨_, _, _, _, rfl, _⟩; rfl) | (rintro _ _ ⟨_, _, _, _, _, rfl, _⟩; rfl) | (rintro _ _ ⟨_, _, _, _, _, _, rfl, _⟩; rfl) | (rintro _ _ ⟨_, _, _, _, _, _, _, rfl, _⟩; rfl) | (rintro _ _ ⟨_, _, _, _, _, _, _, _, rfl, _⟩; rfl) | (rintro _ _ ⟨_, _, _, _, _, _, _, _, _, rfl, _⟩; rfl) | (rintro _ _ ⟨_, _, _, _, _, _, _, _, _, _, rfl, _⟩; rfl) | (rintro _ _ ⟨_, _, _, _, _, _, _, _, _, _, _, rfl, _⟩; rfl) | (rintro _ _ ⟨_, _, _, _, _, _, _, _, _, _, _, _, rfl, _⟩; rfl) | (rintro _ _ ⟨_, _, _, _, _, _, _, _, _, _, _, _, _, rfl, _⟩; rfl) | (rintro _ _ ⟨_, _, _, _, _, _, _, _, _, _, _, _, _, _, rfl, _⟩; rfl) | (rintro _ _ ⟨_, _, _, _, _, _, _, _, _, _, _, _, _, _, _, rfl, _⟩; rfl) | (rintro _ _ ⟨_, _, _, _, _, _, _, _, _, _, _, _, _, _, _, _, rfl, _⟩; rfl) | (rintro _ _ ⟨_, _, _, _, _, _, _, _, _, _, _, _, _, _, _, _, _, rfl, _⟩; rfl) | (rintro _ _ ⟨_, _, _, _, _, _, _, _, _, _, _, _, _, _, _, _, _, _, rfl, _⟩; rfl) | (rintro _ _ ⟨_, _, _, _, _, _, _, _, _, _, _, _, _, _, _, _, _, _, _, rfl, _⟩; rfl) | (rintro _ _ ⟨_, _, _, _, _, _, _, _, _, _, _, _, _, _, _, _, _, _, _, _, rfl, _⟩; rfl) | (rintro _ _ ⟨_, _, _, _, _, _, _, _, _, _, _, _, _, _, _, _, _, _, _, _, _, rfl, _⟩; rfl)
theorem all_mk {l : PySem.W.OpenLaw} {w : World} {K : PySem.W.Frag} {h : Heap} {mg : Str → Option Value} {fa : Addr} (X : K.In h) (G : h.Ns mainGlobals mg) (hfa : mg "law" = some (.ref fa))
    {f_added : Addr} {od0 an0 : Option Addr} {sl0 : Array (Option Value)} {oc0 kV0 dc0 pm0 cd0 ct0 : Value}
    {f_sorted_corners : Addr} {od1 an1 : Option Addr} {sl1 : Array (Option Value)} {oc1 kV1 dc1 pm1 cd1 ct1 : Value}
    {f_with_number : Addr} {od2 an2 : Option Addr} {sl2 : Array (Option Value)} {oc2 kV2 dc2 pm2 cd2 ct2 : Value}
    {f_first_ending_beyond : Addr} {od3 an3 : Option Addr} {sl3 : Array (Option Value)} {oc3 kV3 dc3 pm3 cd3 ct3 : Value}
    {f_first_beginning_from : Addr} {od4 an4 : Option Addr} {sl4 : Array (Option Value)} {oc4 kV4 dc4 pm4 cd4 ct4 : Value}
    {f_merged : Addr} {od5 an5 : Option Addr} {sl5 : Array (Option Value)} {oc5 kV5 dc5 pm5 cd5 ct5 : Value}
    {f_joined_rows : Addr} {od6 an6 : Option Addr} {sl6 : Array (Option Value)} {oc6 kV6 dc6 pm6 cd6 ct6 : Value}
    {f_put : Addr} {od7 an7 : Option Addr} {sl7 : Array (Option Value)} {oc7 kV7 dc7 pm7 cd7 ct7 : Value}
    {f_put_all : Addr} {od8 an8 : Option Addr} {sl8 : Array (Option Value)} {oc8 kV8 dc8 pm8 cd8 ct8 : Value}
    {f_lay_over : Addr} {od9 an9 : Option Addr} {sl9 : Array (Option Value)} {oc9 kV9 dc9 pm9 cd9 ct9 : Value}
    {f_combined : Addr} {od10 an10 : Option Addr} {sl10 : Array (Option Value)} {oc10 kV10 dc10 pm10 cd10 ct10 : Value}
    {f_joined_layers : Addr} {od11 an11 : Option Addr} {sl11 : Array (Option Value)} {oc11 kV11 dc11 pm11 cd11 ct11 : Value}
    {f_stacked : Addr} {od12 an12 : Option Addr} {sl12 : Array (Option Value)} {oc12 kV12 dc12 pm12 cd12 ct12 : Value}
    {f_grown_layer : Addr} {od13 an13 : Option Addr} {sl13 : Array (Option Value)} {oc13 kV13 dc13 pm13 cd13 ct13 : Value}
    {f_grown : Addr} {od14 an14 : Option Addr} {sl14 : Array (Option Value)} {oc14 kV14 dc14 pm14 cd14 ct14 : Value}
    {f_count_of : Addr} {od15 an15 : Option Addr} {sl15 : Array (Option Value)} {oc15 kV15 dc15 pm15 cd15 ct15 : Value}
    {f_box : Addr} {od16 an16 : Option Addr} {sl16 : Array (Option Value)} {oc16 kV16 dc16 pm16 cd16 ct16 : Value}
    {f_union : Addr} {od17 an17 : Option Addr} {sl17 : Array (Option Value)} {oc17 kV17 dc17 pm17 cd17 ct17 : Value}
    {f_union_of : Addr} {od18 an18 : Option Addr} {sl18 : Array (Option Value)} {oc18 kV18 dc18 pm18 cd18 ct18 : Value}
    {f_boxes_of : Addr} {od19 an19 : Option Addr} {sl19 : Array (Option Value)} {oc19 kV19 dc19 pm19 cd19 ct19 : Value}
    {f_moved_layer : Addr} {od20 an20 : Option Addr} {sl20 : Array (Option Value)} {oc20 kV20 dc20 pm20 cd20 ct20 : Value}
    {f_moved : Addr} {od21 an21 : Option Addr} {sl21 : Array (Option Value)} {oc21 kV21 dc21 pm21 cd21 ct21 : Value}
    {f_swept : Addr} {od22 an22 : Option Addr} {sl22 : Array (Option Value)} {oc22 kV22 dc22 pm22 cd22 ct22 : Value}
    {f_cube_at : Addr} {od23 an23 : Option Addr} {sl23 : Array (Option Value)} {oc23 kV23 dc23 pm23 cd23 ct23 : Value}
    {f_line_lot : Addr} {od24 an24 : Option Addr} {sl24 : Array (Option Value)} {oc24 kV24 dc24 pm24 cd24 ct24 : Value}
    {f_travel_lot : Addr} {od25 an25 : Option Addr} {sl25 : Array (Option Value)} {oc25 kV25 dc25 pm25 cd25 ct25 : Value}
    {f__law_cell_at : Addr} {od26 an26 : Option Addr} {sl26 : Array (Option Value)} {oc26 kV26 dc26 pm26 cd26 ct26 : Value}
    {f__law_draw : Addr} {od27 an27 : Option Addr} {sl27 : Array (Option Value)} {oc27 kV27 dc27 pm27 cd27 ct27 : Value}
    {f__law_number : Addr} {od28 an28 : Option Addr} {sl28 : Array (Option Value)} {oc28 kV28 dc28 pm28 cd28 ct28 : Value}
    {f__law_next : Addr} {od29 an29 : Option Addr} {sl29 : Array (Option Value)} {oc29 kV29 dc29 pm29 cd29 ct29 : Value}
    {f__law_tool : Addr} {od30 an30 : Option Addr} {sl30 : Array (Option Value)} {oc30 kV30 dc30 pm30 cd30 ct30 : Value}
    {f__law_cubes : Addr} {od31 an31 : Option Addr} {sl31 : Array (Option Value)} {oc31 kV31 dc31 pm31 cd31 ct31 : Value}
    {f_law : Addr} {od32 an32 : Option Addr} {sl32 : Array (Option Value)} {oc32 kV32 dc32 pm32 cd32 ct32 : Value}
    (a_added : PySem.W.nsIn K mainGlobals "added" = some (some (.ref f_added))) (l_added : K.lookup f_added = some ⟨oc0, od0, .func (PySem.W.fnOf "added" "added" (defArgs st_added) (defBody st_added) (defScope st_added) .none kV0 dc0 pm0 an0 cd0 ct0), sl0⟩) (c_added : PySem.W.codeIn K cd0 "added" = true) (k_added : PySem.W.keepIn K (.ref f_added) = true)
    (a_sorted_corners : PySem.W.nsIn K mainGlobals "sorted_corners" = some (some (.ref f_sorted_corners))) (l_sorted_corners : K.lookup f_sorted_corners = some ⟨oc1, od1, .func (PySem.W.fnOf "sorted_corners" "sorted_corners" (defArgs st_sorted_corners) (defBody st_sorted_corners) (defScope st_sorted_corners) .none kV1 dc1 pm1 an1 cd1 ct1), sl1⟩) (c_sorted_corners : PySem.W.codeIn K cd1 "sorted_corners" = true) (k_sorted_corners : PySem.W.keepIn K (.ref f_sorted_corners) = true)
    (a_with_number : PySem.W.nsIn K mainGlobals "with_number" = some (some (.ref f_with_number))) (l_with_number : K.lookup f_with_number = some ⟨oc2, od2, .func (PySem.W.fnOf "with_number" "with_number" (defArgs st_with_number) (defBody st_with_number) (defScope st_with_number) .none kV2 dc2 pm2 an2 cd2 ct2), sl2⟩) (c_with_number : PySem.W.codeIn K cd2 "with_number" = true) (k_with_number : PySem.W.keepIn K (.ref f_with_number) = true)
    (a_first_ending_beyond : PySem.W.nsIn K mainGlobals "first_ending_beyond" = some (some (.ref f_first_ending_beyond))) (l_first_ending_beyond : K.lookup f_first_ending_beyond = some ⟨oc3, od3, .func (PySem.W.fnOf "first_ending_beyond" "first_ending_beyond" (defArgs st_first_ending_beyond) (defBody st_first_ending_beyond) (defScope st_first_ending_beyond) .none kV3 dc3 pm3 an3 cd3 ct3), sl3⟩) (c_first_ending_beyond : PySem.W.codeIn K cd3 "first_ending_beyond" = true) (k_first_ending_beyond : PySem.W.keepIn K (.ref f_first_ending_beyond) = true)
    (a_first_beginning_from : PySem.W.nsIn K mainGlobals "first_beginning_from" = some (some (.ref f_first_beginning_from))) (l_first_beginning_from : K.lookup f_first_beginning_from = some ⟨oc4, od4, .func (PySem.W.fnOf "first_beginning_from" "first_beginning_from" (defArgs st_first_beginning_from) (defBody st_first_beginning_from) (defScope st_first_beginning_from) .none kV4 dc4 pm4 an4 cd4 ct4), sl4⟩) (c_first_beginning_from : PySem.W.codeIn K cd4 "first_beginning_from" = true) (k_first_beginning_from : PySem.W.keepIn K (.ref f_first_beginning_from) = true)
    (a_merged : PySem.W.nsIn K mainGlobals "merged" = some (some (.ref f_merged))) (l_merged : K.lookup f_merged = some ⟨oc5, od5, .func (PySem.W.fnOf "merged" "merged" (defArgs st_merged) (defBody st_merged) (defScope st_merged) .none kV5 dc5 pm5 an5 cd5 ct5), sl5⟩) (c_merged : PySem.W.codeIn K cd5 "merged" = true) (k_merged : PySem.W.keepIn K (.ref f_merged) = true)
    (a_joined_rows : PySem.W.nsIn K mainGlobals "joined_rows" = some (some (.ref f_joined_rows))) (l_joined_rows : K.lookup f_joined_rows = some ⟨oc6, od6, .func (PySem.W.fnOf "joined_rows" "joined_rows" (defArgs st_joined_rows) (defBody st_joined_rows) (defScope st_joined_rows) .none kV6 dc6 pm6 an6 cd6 ct6), sl6⟩) (c_joined_rows : PySem.W.codeIn K cd6 "joined_rows" = true) (k_joined_rows : PySem.W.keepIn K (.ref f_joined_rows) = true)
    (a_put : PySem.W.nsIn K mainGlobals "put" = some (some (.ref f_put))) (l_put : K.lookup f_put = some ⟨oc7, od7, .func (PySem.W.fnOf "put" "put" (defArgs st_put) (defBody st_put) (defScope st_put) .none kV7 dc7 pm7 an7 cd7 ct7), sl7⟩) (c_put : PySem.W.codeIn K cd7 "put" = true) (k_put : PySem.W.keepIn K (.ref f_put) = true)
    (a_put_all : PySem.W.nsIn K mainGlobals "put_all" = some (some (.ref f_put_all))) (l_put_all : K.lookup f_put_all = some ⟨oc8, od8, .func (PySem.W.fnOf "put_all" "put_all" (defArgs st_put_all) (defBody st_put_all) (defScope st_put_all) .none kV8 dc8 pm8 an8 cd8 ct8), sl8⟩) (c_put_all : PySem.W.codeIn K cd8 "put_all" = true) (k_put_all : PySem.W.keepIn K (.ref f_put_all) = true)
    (a_lay_over : PySem.W.nsIn K mainGlobals "lay_over" = some (some (.ref f_lay_over))) (l_lay_over : K.lookup f_lay_over = some ⟨oc9, od9, .func (PySem.W.fnOf "lay_over" "lay_over" (defArgs st_lay_over) (defBody st_lay_over) (defScope st_lay_over) .none kV9 dc9 pm9 an9 cd9 ct9), sl9⟩) (c_lay_over : PySem.W.codeIn K cd9 "lay_over" = true) (k_lay_over : PySem.W.keepIn K (.ref f_lay_over) = true)
    (a_combined : PySem.W.nsIn K mainGlobals "combined" = some (some (.ref f_combined))) (l_combined : K.lookup f_combined = some ⟨oc10, od10, .func (PySem.W.fnOf "combined" "combined" (defArgs st_combined) (defBody st_combined) (defScope st_combined) .none kV10 dc10 pm10 an10 cd10 ct10), sl10⟩) (c_combined : PySem.W.codeIn K cd10 "combined" = true) (k_combined : PySem.W.keepIn K (.ref f_combined) = true)
    (a_joined_layers : PySem.W.nsIn K mainGlobals "joined_layers" = some (some (.ref f_joined_layers))) (l_joined_layers : K.lookup f_joined_layers = some ⟨oc11, od11, .func (PySem.W.fnOf "joined_layers" "joined_layers" (defArgs st_joined_layers) (defBody st_joined_layers) (defScope st_joined_layers) .none kV11 dc11 pm11 an11 cd11 ct11), sl11⟩) (c_joined_layers : PySem.W.codeIn K cd11 "joined_layers" = true) (k_joined_layers : PySem.W.keepIn K (.ref f_joined_layers) = true)
    (a_stacked : PySem.W.nsIn K mainGlobals "stacked" = some (some (.ref f_stacked))) (l_stacked : K.lookup f_stacked = some ⟨oc12, od12, .func (PySem.W.fnOf "stacked" "stacked" (defArgs st_stacked) (defBody st_stacked) (defScope st_stacked) .none kV12 dc12 pm12 an12 cd12 ct12), sl12⟩) (c_stacked : PySem.W.codeIn K cd12 "stacked" = true) (k_stacked : PySem.W.keepIn K (.ref f_stacked) = true)
    (a_grown_layer : PySem.W.nsIn K mainGlobals "grown_layer" = some (some (.ref f_grown_layer))) (l_grown_layer : K.lookup f_grown_layer = some ⟨oc13, od13, .func (PySem.W.fnOf "grown_layer" "grown_layer" (defArgs st_grown_layer) (defBody st_grown_layer) (defScope st_grown_layer) .none kV13 dc13 pm13 an13 cd13 ct13), sl13⟩) (c_grown_layer : PySem.W.codeIn K cd13 "grown_layer" = true) (k_grown_layer : PySem.W.keepIn K (.ref f_grown_layer) = true)
    (a_grown : PySem.W.nsIn K mainGlobals "grown" = some (some (.ref f_grown))) (l_grown : K.lookup f_grown = some ⟨oc14, od14, .func (PySem.W.fnOf "grown" "grown" (defArgs st_grown) (defBody st_grown) (defScope st_grown) .none kV14 dc14 pm14 an14 cd14 ct14), sl14⟩) (c_grown : PySem.W.codeIn K cd14 "grown" = true) (k_grown : PySem.W.keepIn K (.ref f_grown) = true)
    (a_count_of : PySem.W.nsIn K mainGlobals "count_of" = some (some (.ref f_count_of))) (l_count_of : K.lookup f_count_of = some ⟨oc15, od15, .func (PySem.W.fnOf "count_of" "count_of" (defArgs st_count_of) (defBody st_count_of) (defScope st_count_of) .none kV15 dc15 pm15 an15 cd15 ct15), sl15⟩) (c_count_of : PySem.W.codeIn K cd15 "count_of" = true) (k_count_of : PySem.W.keepIn K (.ref f_count_of) = true)
    (a_box : PySem.W.nsIn K mainGlobals "box" = some (some (.ref f_box))) (l_box : K.lookup f_box = some ⟨oc16, od16, .func (PySem.W.fnOf "box" "box" (defArgs st_box) (defBody st_box) (defScope st_box) .none kV16 dc16 pm16 an16 cd16 ct16), sl16⟩) (c_box : PySem.W.codeIn K cd16 "box" = true) (k_box : PySem.W.keepIn K (.ref f_box) = true)
    (a_union : PySem.W.nsIn K mainGlobals "union" = some (some (.ref f_union))) (l_union : K.lookup f_union = some ⟨oc17, od17, .func (PySem.W.fnOf "union" "union" (defArgs st_union) (defBody st_union) (defScope st_union) .none kV17 dc17 pm17 an17 cd17 ct17), sl17⟩) (c_union : PySem.W.codeIn K cd17 "union" = true) (k_union : PySem.W.keepIn K (.ref f_union) = true)
    (a_union_of : PySem.W.nsIn K mainGlobals "union_of" = some (some (.ref f_union_of))) (l_union_of : K.lookup f_union_of = some ⟨oc18, od18, .func (PySem.W.fnOf "union_of" "union_of" (defArgs st_union_of) (defBody st_union_of) (defScope st_union_of) .none kV18 dc18 pm18 an18 cd18 ct18), sl18⟩) (c_union_of : PySem.W.codeIn K cd18 "union_of" = true) (k_union_of : PySem.W.keepIn K (.ref f_union_of) = true)
    (a_boxes_of : PySem.W.nsIn K mainGlobals "boxes_of" = some (some (.ref f_boxes_of))) (l_boxes_of : K.lookup f_boxes_of = some ⟨oc19, od19, .func (PySem.W.fnOf "boxes_of" "boxes_of" (defArgs st_boxes_of) (defBody st_boxes_of) (defScope st_boxes_of) .none kV19 dc19 pm19 an19 cd19 ct19), sl19⟩) (c_boxes_of : PySem.W.codeIn K cd19 "boxes_of" = true) (k_boxes_of : PySem.W.keepIn K (.ref f_boxes_of) = true)
    (a_moved_layer : PySem.W.nsIn K mainGlobals "moved_layer" = some (some (.ref f_moved_layer))) (l_moved_layer : K.lookup f_moved_layer = some ⟨oc20, od20, .func (PySem.W.fnOf "moved_layer" "moved_layer" (defArgs st_moved_layer) (defBody st_moved_layer) (defScope st_moved_layer) .none kV20 dc20 pm20 an20 cd20 ct20), sl20⟩) (c_moved_layer : PySem.W.codeIn K cd20 "moved_layer" = true) (k_moved_layer : PySem.W.keepIn K (.ref f_moved_layer) = true)
    (a_moved : PySem.W.nsIn K mainGlobals "moved" = some (some (.ref f_moved))) (l_moved : K.lookup f_moved = some ⟨oc21, od21, .func (PySem.W.fnOf "moved" "moved" (defArgs st_moved) (defBody st_moved) (defScope st_moved) .none kV21 dc21 pm21 an21 cd21 ct21), sl21⟩) (c_moved : PySem.W.codeIn K cd21 "moved" = true) (k_moved : PySem.W.keepIn K (.ref f_moved) = true)
    (a_swept : PySem.W.nsIn K mainGlobals "swept" = some (some (.ref f_swept))) (l_swept : K.lookup f_swept = some ⟨oc22, od22, .func (PySem.W.fnOf "swept" "swept" (defArgs st_swept) (defBody st_swept) (defScope st_swept) .none kV22 dc22 pm22 an22 cd22 ct22), sl22⟩) (c_swept : PySem.W.codeIn K cd22 "swept" = true) (k_swept : PySem.W.keepIn K (.ref f_swept) = true)
    (a_cube_at : PySem.W.nsIn K mainGlobals "cube_at" = some (some (.ref f_cube_at))) (l_cube_at : K.lookup f_cube_at = some ⟨oc23, od23, .func (PySem.W.fnOf "cube_at" "cube_at" (defArgs st_cube_at) (defBody st_cube_at) (defScope st_cube_at) .none kV23 dc23 pm23 an23 cd23 ct23), sl23⟩) (c_cube_at : PySem.W.codeIn K cd23 "cube_at" = true) (k_cube_at : PySem.W.keepIn K (.ref f_cube_at) = true)
    (a_line_lot : PySem.W.nsIn K mainGlobals "line_lot" = some (some (.ref f_line_lot))) (l_line_lot : K.lookup f_line_lot = some ⟨oc24, od24, .func (PySem.W.fnOf "line_lot" "line_lot" (defArgs st_line_lot) (defBody st_line_lot) (defScope st_line_lot) .none kV24 dc24 pm24 an24 cd24 ct24), sl24⟩) (c_line_lot : PySem.W.codeIn K cd24 "line_lot" = true) (k_line_lot : PySem.W.keepIn K (.ref f_line_lot) = true)
    (a_travel_lot : PySem.W.nsIn K mainGlobals "travel_lot" = some (some (.ref f_travel_lot))) (l_travel_lot : K.lookup f_travel_lot = some ⟨oc25, od25, .func (PySem.W.fnOf "travel_lot" "travel_lot" (defArgs st_travel_lot) (defBody st_travel_lot) (defScope st_travel_lot) .none kV25 dc25 pm25 an25 cd25 ct25), sl25⟩) (c_travel_lot : PySem.W.codeIn K cd25 "travel_lot" = true) (k_travel_lot : PySem.W.keepIn K (.ref f_travel_lot) = true)
    (a__law_cell_at : PySem.W.nsIn K mainGlobals "_law_cell_at" = some (some (.ref f__law_cell_at))) (l__law_cell_at : K.lookup f__law_cell_at = some ⟨oc26, od26, .func (PySem.W.fnOf "_law_cell_at" "_law_cell_at" (defArgs st__law_cell_at) (defBody st__law_cell_at) (defScope st__law_cell_at) .none kV26 dc26 pm26 an26 cd26 ct26), sl26⟩) (c__law_cell_at : PySem.W.codeIn K cd26 "_law_cell_at" = true) (k__law_cell_at : PySem.W.keepIn K (.ref f__law_cell_at) = true)
    (a__law_draw : PySem.W.nsIn K mainGlobals "_law_draw" = some (some (.ref f__law_draw))) (l__law_draw : K.lookup f__law_draw = some ⟨oc27, od27, .func (PySem.W.fnOf "_law_draw" "_law_draw" (defArgs st__law_draw) (defBody st__law_draw) (defScope st__law_draw) .none kV27 dc27 pm27 an27 cd27 ct27), sl27⟩) (c__law_draw : PySem.W.codeIn K cd27 "_law_draw" = true) (k__law_draw : PySem.W.keepIn K (.ref f__law_draw) = true)
    (a__law_number : PySem.W.nsIn K mainGlobals "_law_number" = some (some (.ref f__law_number))) (l__law_number : K.lookup f__law_number = some ⟨oc28, od28, .func (PySem.W.fnOf "_law_number" "_law_number" (defArgs st__law_number) (defBody st__law_number) (defScope st__law_number) .none kV28 dc28 pm28 an28 cd28 ct28), sl28⟩) (c__law_number : PySem.W.codeIn K cd28 "_law_number" = true) (k__law_number : PySem.W.keepIn K (.ref f__law_number) = true)
    (a__law_next : PySem.W.nsIn K mainGlobals "_law_next" = some (some (.ref f__law_next))) (l__law_next : K.lookup f__law_next = some ⟨oc29, od29, .func (PySem.W.fnOf "_law_next" "_law_next" (defArgs st__law_next) (defBody st__law_next) (defScope st__law_next) .none kV29 dc29 pm29 an29 cd29 ct29), sl29⟩) (c__law_next : PySem.W.codeIn K cd29 "_law_next" = true) (k__law_next : PySem.W.keepIn K (.ref f__law_next) = true)
    (a__law_tool : PySem.W.nsIn K mainGlobals "_law_tool" = some (some (.ref f__law_tool))) (l__law_tool : K.lookup f__law_tool = some ⟨oc30, od30, .func (PySem.W.fnOf "_law_tool" "_law_tool" (defArgs st__law_tool) (defBody st__law_tool) (defScope st__law_tool) .none kV30 dc30 pm30 an30 cd30 ct30), sl30⟩) (c__law_tool : PySem.W.codeIn K cd30 "_law_tool" = true) (k__law_tool : PySem.W.keepIn K (.ref f__law_tool) = true)
    (a__law_cubes : PySem.W.nsIn K mainGlobals "_law_cubes" = some (some (.ref f__law_cubes))) (l__law_cubes : K.lookup f__law_cubes = some ⟨oc31, od31, .func (PySem.W.fnOf "_law_cubes" "_law_cubes" (defArgs st__law_cubes) (defBody st__law_cubes) (defScope st__law_cubes) .none kV31 dc31 pm31 an31 cd31 ct31), sl31⟩) (c__law_cubes : PySem.W.codeIn K cd31 "_law_cubes" = true) (k__law_cubes : PySem.W.keepIn K (.ref f__law_cubes) = true)
    (a_law : PySem.W.nsIn K mainGlobals "law" = some (some (.ref f_law))) (l_law : K.lookup f_law = some ⟨oc32, od32, .func (PySem.W.fnOf "law" "law" (defArgs st_law) (defBody st_law) (defScope st_law) .none kV32 dc32 pm32 an32 cd32 ct32), sl32⟩) (c_law : PySem.W.codeIn K cd32 "law" = true) (k_law : PySem.W.keepIn K (.ref f_law) = true)
    (z_max : PySem.W.nsIn K mainGlobals "max" = some none) (z_min : PySem.W.nsIn K mainGlobals "min" = some none) (z_range : PySem.W.nsIn K mainGlobals "range" = some none) (z_tuple : PySem.W.nsIn K mainGlobals "tuple" = some none) (z_len : PySem.W.nsIn K mainGlobals "len" = some none) (z_sorted : PySem.W.nsIn K mainGlobals "sorted" = some none) (z_list : PySem.W.nsIn K mainGlobals "list" = some none) (z_sum : PySem.W.nsIn K mainGlobals "sum" = some none) (z_int : PySem.W.nsIn K mainGlobals "int" = some none) (z_enumerate : PySem.W.nsIn K mainGlobals "enumerate" = some none) :
    ∃ fd : FuncData, (∀ (s : Shared) (v : Value), BindsTo s fd ⟨[v], []⟩ [("script", v)]) ∧ ∀ base : Heap, K.In base → base.Ns mainGlobals mg → FnOk l.prog w K mg base CX0 16 fa fd ["script"] (spD K (lawSpec 63)) := by
  have e := hfa.symm.trans (PySem.W.mg_of X G a_law)
  cases e
  have D_added : Dfn K mg "added" st_added ["point", "other"] f_added _ := ⟨fun_mk (st := st_added) l_added c_added k_added, PySem.W.mg_of X G a_added, (fun_mk (st := st_added) l_added c_added k_added).binds (ps := ["point", "other"]) fun _ _ _ _ _ _ us hl => match us, hl with | [_, _], _ => rfl⟩
  have D_sorted_corners : Dfn K mg "sorted_corners" st_sorted_corners ["one", "other"] f_sorted_corners _ := ⟨fun_mk (st := st_sorted_corners) l_sorted_corners c_sorted_corners k_sorted_corners, PySem.W.mg_of X G a_sorted_corners, (fun_mk (st := st_sorted_corners) l_sorted_corners c_sorted_corners k_sorted_corners).binds (ps := ["one", "other"]) fun _ _ _ _ _ _ us hl => match us, hl with | [_, _], _ => rfl⟩
  have D_with_number : Dfn K mg "with_number" st_with_number ["point", "axis", "number"] f_with_number _ := ⟨fun_mk (st := st_with_number) l_with_number c_with_number k_with_number, PySem.W.mg_of X G a_with_number, (fun_mk (st := st_with_number) l_with_number c_with_number k_with_number).binds (ps := ["point", "axis", "number"]) fun _ _ _ _ _ _ us hl => match us, hl with | [_, _, _], _ => rfl⟩
  have D_first_ending_beyond : Dfn K mg "first_ending_beyond" st_first_ending_beyond ["stretches", "number"] f_first_ending_beyond _ := ⟨fun_mk (st := st_first_ending_beyond) l_first_ending_beyond c_first_ending_beyond k_first_ending_beyond, PySem.W.mg_of X G a_first_ending_beyond, (fun_mk (st := st_first_ending_beyond) l_first_ending_beyond c_first_ending_beyond k_first_ending_beyond).binds (ps := ["stretches", "number"]) fun _ _ _ _ _ _ us hl => match us, hl with | [_, _], _ => rfl⟩
  have D_first_beginning_from : Dfn K mg "first_beginning_from" st_first_beginning_from ["stretches", "number"] f_first_beginning_from _ := ⟨fun_mk (st := st_first_beginning_from) l_first_beginning_from c_first_beginning_from k_first_beginning_from, PySem.W.mg_of X G a_first_beginning_from, (fun_mk (st := st_first_beginning_from) l_first_beginning_from c_first_beginning_from k_first_beginning_from).binds (ps := ["stretches", "number"]) fun _ _ _ _ _ _ us hl => match us, hl with | [_, _], _ => rfl⟩
  have D_merged : Dfn K mg "merged" st_merged ["stretches"] f_merged _ := ⟨fun_mk (st := st_merged) l_merged c_merged k_merged, PySem.W.mg_of X G a_merged, (fun_mk (st := st_merged) l_merged c_merged k_merged).binds (ps := ["stretches"]) fun _ _ _ _ _ _ us hl => match us, hl with | [_], _ => rfl⟩
  have D_joined_rows : Dfn K mg "joined_rows" st_joined_rows ["a", "b"] f_joined_rows _ := ⟨fun_mk (st := st_joined_rows) l_joined_rows c_joined_rows k_joined_rows, PySem.W.mg_of X G a_joined_rows, (fun_mk (st := st_joined_rows) l_joined_rows c_joined_rows k_joined_rows).binds (ps := ["a", "b"]) fun _ _ _ _ _ _ us hl => match us, hl with | [_, _], _ => rfl⟩
  have D_put : Dfn K mg "put" st_put ["out", "low", "high", "inside"] f_put _ := ⟨fun_mk (st := st_put) l_put c_put k_put, PySem.W.mg_of X G a_put, (fun_mk (st := st_put) l_put c_put k_put).binds (ps := ["out", "low", "high", "inside"]) fun _ _ _ _ _ _ us hl => match us, hl with | [_, _, _, _], _ => rfl⟩
  have D_put_all : Dfn K mg "put_all" st_put_all ["out", "slabs", "begin"] f_put_all _ := ⟨fun_mk (st := st_put_all) l_put_all c_put_all k_put_all, PySem.W.mg_of X G a_put_all, (fun_mk (st := st_put_all) l_put_all c_put_all k_put_all).binds (ps := ["out", "slabs", "begin"]) fun _ _ _ _ _ _ us hl => match us, hl with | [_, _, _], _ => rfl⟩
  have D_lay_over : Dfn K mg "lay_over" st_lay_over ["out", "a", "b", "rule", "keeps"] f_lay_over _ := ⟨fun_mk (st := st_lay_over) l_lay_over c_lay_over k_lay_over, PySem.W.mg_of X G a_lay_over, (fun_mk (st := st_lay_over) l_lay_over c_lay_over k_lay_over).binds (ps := ["out", "a", "b", "rule", "keeps"]) fun _ _ _ _ _ _ us hl => match us, hl with | [_, _, _, _, _], _ => rfl⟩
  have D_combined : Dfn K mg "combined" st_combined ["a", "b", "rule", "keeps"] f_combined _ := ⟨fun_mk (st := st_combined) l_combined c_combined k_combined, PySem.W.mg_of X G a_combined, (fun_mk (st := st_combined) l_combined c_combined k_combined).binds (ps := ["a", "b", "rule", "keeps"]) fun _ _ _ _ _ _ us hl => match us, hl with | [_, _, _, _], _ => rfl⟩
  have D_joined_layers : Dfn K mg "joined_layers" st_joined_layers ["a", "b"] f_joined_layers _ := ⟨fun_mk (st := st_joined_layers) l_joined_layers c_joined_layers k_joined_layers, PySem.W.mg_of X G a_joined_layers, (fun_mk (st := st_joined_layers) l_joined_layers c_joined_layers k_joined_layers).binds (ps := ["a", "b"]) fun _ _ _ _ _ _ us hl => match us, hl with | [_, _], _ => rfl⟩
  have D_stacked : Dfn K mg "stacked" st_stacked ["slabs", "rule"] f_stacked _ := ⟨fun_mk (st := st_stacked) l_stacked c_stacked k_stacked, PySem.W.mg_of X G a_stacked, (fun_mk (st := st_stacked) l_stacked c_stacked k_stacked).binds (ps := ["slabs", "rule"]) fun _ _ _ _ _ _ us hl => match us, hl with | [_, _], _ => rfl⟩
  have D_grown_layer : Dfn K mg "grown_layer" st_grown_layer ["layer", "low", "high"] f_grown_layer _ := ⟨fun_mk (st := st_grown_layer) l_grown_layer c_grown_layer k_grown_layer, PySem.W.mg_of X G a_grown_layer, (fun_mk (st := st_grown_layer) l_grown_layer c_grown_layer k_grown_layer).binds (ps := ["layer", "low", "high"]) fun _ _ _ _ _ _ us hl => match us, hl with | [_, _, _], _ => rfl⟩
  have D_grown : Dfn K mg "grown" st_grown ["solid", "low", "high"] f_grown _ := ⟨fun_mk (st := st_grown) l_grown c_grown k_grown, PySem.W.mg_of X G a_grown, (fun_mk (st := st_grown) l_grown c_grown k_grown).binds (ps := ["solid", "low", "high"]) fun _ _ _ _ _ _ us hl => match us, hl with | [_, _, _], _ => rfl⟩
  have D_count_of : Dfn K mg "count_of" st_count_of ["solid"] f_count_of _ := ⟨fun_mk (st := st_count_of) l_count_of c_count_of k_count_of, PySem.W.mg_of X G a_count_of, (fun_mk (st := st_count_of) l_count_of c_count_of k_count_of).binds (ps := ["solid"]) fun _ _ _ _ _ _ us hl => match us, hl with | [_], _ => rfl⟩
  have D_box : Dfn K mg "box" st_box ["corner", "other"] f_box _ := ⟨fun_mk (st := st_box) l_box c_box k_box, PySem.W.mg_of X G a_box, (fun_mk (st := st_box) l_box c_box k_box).binds (ps := ["corner", "other"]) fun _ _ _ _ _ _ us hl => match us, hl with | [_, _], _ => rfl⟩
  have D_union : Dfn K mg "union" st_union ["a", "b"] f_union _ := ⟨fun_mk (st := st_union) l_union c_union k_union, PySem.W.mg_of X G a_union, (fun_mk (st := st_union) l_union c_union k_union).binds (ps := ["a", "b"]) fun _ _ _ _ _ _ us hl => match us, hl with | [_, _], _ => rfl⟩
  have D_union_of : Dfn K mg "union_of" st_union_of ["solids"] f_union_of _ := ⟨fun_mk (st := st_union_of) l_union_of c_union_of k_union_of, PySem.W.mg_of X G a_union_of, (fun_mk (st := st_union_of) l_union_of c_union_of k_union_of).binds (ps := ["solids"]) fun _ _ _ _ _ _ us hl => match us, hl with | [_], _ => rfl⟩
  have D_boxes_of : Dfn K mg "boxes_of" st_boxes_of ["solid"] f_boxes_of _ := ⟨fun_mk (st := st_boxes_of) l_boxes_of c_boxes_of k_boxes_of, PySem.W.mg_of X G a_boxes_of, (fun_mk (st := st_boxes_of) l_boxes_of c_boxes_of k_boxes_of).binds (ps := ["solid"]) fun _ _ _ _ _ _ us hl => match us, hl with | [_], _ => rfl⟩
  have D_moved_layer : Dfn K mg "moved_layer" st_moved_layer ["layer", "by"] f_moved_layer _ := ⟨fun_mk (st := st_moved_layer) l_moved_layer c_moved_layer k_moved_layer, PySem.W.mg_of X G a_moved_layer, (fun_mk (st := st_moved_layer) l_moved_layer c_moved_layer k_moved_layer).binds (ps := ["layer", "by"]) fun _ _ _ _ _ _ us hl => match us, hl with | [_, _], _ => rfl⟩
  have D_moved : Dfn K mg "moved" st_moved ["solid", "by"] f_moved _ := ⟨fun_mk (st := st_moved) l_moved c_moved k_moved, PySem.W.mg_of X G a_moved, (fun_mk (st := st_moved) l_moved c_moved k_moved).binds (ps := ["solid", "by"]) fun _ _ _ _ _ _ us hl => match us, hl with | [_, _], _ => rfl⟩
  have D_swept : Dfn K mg "swept" st_swept ["lot", "tool"] f_swept _ := ⟨fun_mk (st := st_swept) l_swept c_swept k_swept, PySem.W.mg_of X G a_swept, (fun_mk (st := st_swept) l_swept c_swept k_swept).binds (ps := ["lot", "tool"]) fun _ _ _ _ _ _ us hl => match us, hl with | [_, _], _ => rfl⟩
  have D_cube_at : Dfn K mg "cube_at" st_cube_at ["standing"] f_cube_at _ := ⟨fun_mk (st := st_cube_at) l_cube_at c_cube_at k_cube_at, PySem.W.mg_of X G a_cube_at, (fun_mk (st := st_cube_at) l_cube_at c_cube_at k_cube_at).binds (ps := ["standing"]) fun _ _ _ _ _ _ us hl => match us, hl with | [_], _ => rfl⟩
  have D_line_lot : Dfn K mg "line_lot" st_line_lot ["start", "axis", "to"] f_line_lot _ := ⟨fun_mk (st := st_line_lot) l_line_lot c_line_lot k_line_lot, PySem.W.mg_of X G a_line_lot, (fun_mk (st := st_line_lot) l_line_lot c_line_lot k_line_lot).binds (ps := ["start", "axis", "to"]) fun _ _ _ _ _ _ us hl => match us, hl with | [_, _, _], _ => rfl⟩
  have D_travel_lot : Dfn K mg "travel_lot" st_travel_lot ["machine"] f_travel_lot _ := ⟨fun_mk (st := st_travel_lot) l_travel_lot c_travel_lot k_travel_lot, PySem.W.mg_of X G a_travel_lot, (fun_mk (st := st_travel_lot) l_travel_lot c_travel_lot k_travel_lot).binds (ps := ["machine"]) fun _ _ _ _ _ _ us hl => match us, hl with | [_], _ => rfl⟩
  have D__law_cell_at : Dfn K mg "_law_cell_at" st__law_cell_at ["script", "k"] f__law_cell_at _ := ⟨fun_mk (st := st__law_cell_at) l__law_cell_at c__law_cell_at k__law_cell_at, PySem.W.mg_of X G a__law_cell_at, (fun_mk (st := st__law_cell_at) l__law_cell_at c__law_cell_at k__law_cell_at).binds (ps := ["script", "k"]) fun _ _ _ _ _ _ us hl => match us, hl with | [_, _], _ => rfl⟩
  have D__law_draw : Dfn K mg "_law_draw" st__law_draw ["cell", "k", "bound"] f__law_draw _ := ⟨fun_mk (st := st__law_draw) l__law_draw c__law_draw k__law_draw, PySem.W.mg_of X G a__law_draw, (fun_mk (st := st__law_draw) l__law_draw c__law_draw k__law_draw).binds (ps := ["cell", "k", "bound"]) fun _ _ _ _ _ _ us hl => match us, hl with | [_, _, _], _ => rfl⟩
  have D__law_number : Dfn K mg "_law_number" st__law_number ["cell", "k", "bound"] f__law_number _ := ⟨fun_mk (st := st__law_number) l__law_number c__law_number k__law_number, PySem.W.mg_of X G a__law_number, (fun_mk (st := st__law_number) l__law_number c__law_number k__law_number).binds (ps := ["cell", "k", "bound"]) fun _ _ _ _ _ _ us hl => match us, hl with | [_, _, _], _ => rfl⟩
  have D__law_next : Dfn K mg "_law_next" st__law_next ["draw", "bound"] f__law_next _ := ⟨fun_mk (st := st__law_next) l__law_next c__law_next k__law_next, PySem.W.mg_of X G a__law_next, (fun_mk (st := st__law_next) l__law_next c__law_next k__law_next).binds (ps := ["draw", "bound"]) fun _ _ _ _ _ _ us hl => match us, hl with | [_, _], _ => rfl⟩
  have D__law_tool : Dfn K mg "_law_tool" st__law_tool ["draw", "name"] f__law_tool _ := ⟨fun_mk (st := st__law_tool) l__law_tool c__law_tool k__law_tool, PySem.W.mg_of X G a__law_tool, (fun_mk (st := st__law_tool) l__law_tool c__law_tool k__law_tool).binds (ps := ["draw", "name"]) fun _ _ _ _ _ _ us hl => match us, hl with | [_, _], _ => rfl⟩
  have D__law_cubes : Dfn K mg "_law_cubes" st__law_cubes ["solid"] f__law_cubes _ := ⟨fun_mk (st := st__law_cubes) l__law_cubes c__law_cubes k__law_cubes, PySem.W.mg_of X G a__law_cubes, (fun_mk (st := st__law_cubes) l__law_cubes c__law_cubes k__law_cubes).binds (ps := ["solid"]) fun _ _ _ _ _ _ us hl => match us, hl with | [_], _ => rfl⟩
  have D_law : Dfn K mg "law" st_law ["script"] fa _ := ⟨fun_mk (st := st_law) l_law c_law k_law, PySem.W.mg_of X G a_law, (fun_mk (st := st_law) l_law c_law k_law).binds (ps := ["script"]) fun _ _ _ _ _ _ us hl => match us, hl with | [_], _ => rfl⟩
  have m_max := PySem.W.mg_none_of X G z_max
  have m_min := PySem.W.mg_none_of X G z_min
  have m_range := PySem.W.mg_none_of X G z_range
  have m_tuple := PySem.W.mg_none_of X G z_tuple
  have m_len := PySem.W.mg_none_of X G z_len
  have m_sorted := PySem.W.mg_none_of X G z_sorted
  have m_list := PySem.W.mg_none_of X G z_list
  have m_sum := PySem.W.mg_none_of X G z_sum
  have m_int := PySem.W.mg_none_of X G z_int
  have m_enumerate := PySem.W.mg_none_of X G z_enumerate
  refine ⟨PySem.W.fnOf "law" "law" (defArgs st_law) (defBody st_law) (defScope st_law) .none kV32 dc32 pm32 an32 cd32 ct32, fun s v => .of_eq rfl, fun base _ _ => ?_⟩
  have o_added : FnOk l.prog w K mg base CX0 1 f_added _ ["point", "other"] (spD K sp_added) := ok_added (k := 0)  D_added.F (hl_added) (wp_added)
  have C_added : Cal l.prog w K mg base 1 "added" sp_added := D_added.cal o_added
  have o_sorted_corners : FnOk l.prog w K mg base CX0 1 f_sorted_corners _ ["one", "other"] (spD K sp_sorted_corners) := ok_sorted_corners (k := 0) m_max m_min m_range m_tuple D_sorted_corners.F (hl_sorted_corners) (wp_sorted_corners)
  have C_sorted_corners : Cal l.prog w K mg base 1 "sorted_corners" sp_sorted_corners := D_sorted_corners.cal o_sorted_corners
  have o_with_number : FnOk l.prog w K mg base CX0 1 f_with_number _ ["point", "axis", "number"] (spD K sp_with_number) := ok_with_number (k := 0)  D_with_number.F (hl_with_number) (wp_with_number)
  have C_with_number : Cal l.prog w K mg base 1 "with_number" sp_with_number := D_with_number.cal o_with_number
  have o_first_ending_beyond : FnOk l.prog w K mg base CX0 1 f_first_ending_beyond _ ["stretches", "number"] (spD K sp_first_ending_beyond) := ok_first_ending_beyond (k := 0) m_len D_first_ending_beyond.F (hl_first_ending_beyond) (wp_first_ending_beyond)
  have C_first_ending_beyond : Cal l.prog w K mg base 1 "first_ending_beyond" sp_first_ending_beyond := D_first_ending_beyond.cal o_first_ending_beyond
  have o_first_beginning_from : FnOk l.prog w K mg base CX0 1 f_first_beginning_from _ ["stretches", "number"] (spD K sp_first_beginning_from) := ok_first_beginning_from (k := 0) m_len D_first_beginning_from.F (hl_first_beginning_from) (wp_first_beginning_from)
  have C_first_beginning_from : Cal l.prog w K mg base 1 "first_beginning_from" sp_first_beginning_from := D_first_beginning_from.cal o_first_beginning_from
  have o_merged : FnOk l.prog w K mg base CX0 1 f_merged _ ["stretches"] (spD K sp_merged) := ok_merged (k := 0) m_tuple D_merged.F (hl_merged) (wp_merged)
  have C_merged : Cal l.prog w K mg base 1 "merged" sp_merged := D_merged.cal o_merged
  have o_joined_rows : FnOk l.prog w K mg base CX0 2 f_joined_rows _ ["a", "b"] (spD K sp_joined_rows) := ok_joined_rows (k := 1) sp_merged m_sorted (C_merged.mono (by decide)) D_joined_rows.F (hl_joined_rows) (wp_joined_rows)
  have C_joined_rows : Cal l.prog w K mg base 2 "joined_rows" sp_joined_rows := D_joined_rows.cal o_joined_rows
  have o_put : FnOk l.prog w K mg base CX0 1 f_put _ ["out", "low", "high", "inside"] (spD K sp_put) := ok_put (k := 0)  D_put.F (hl_put) (wp_put)
  have C_put : Cal l.prog w K mg base 1 "put" sp_put := D_put.cal o_put
  have o_put_all : FnOk l.prog w K mg base CX0 2 f_put_all _ ["out", "slabs", "begin"] (spD K sp_put_all) := ok_put_all (k := 1) sp_put m_max (C_put.mono (by decide)) D_put_all.F (hl_put_all) (wp_put_all)
  have C_put_all : Cal l.prog w K mg base 2 "put_all" sp_put_all := D_put_all.cal o_put_all
  have o_lay_overR : FnOk l.prog w K mg base CX0 3 f_lay_over _ ["out", "a", "b", "rule", "keeps"] (spD K (sp_lay_over (only f_joined_rows sp_joined_rows))) := ok_lay_over (k := 2) sp_put sp_put_all (only f_joined_rows sp_joined_rows) m_len m_max m_min (C_put.mono (by decide)) (C_put_all.mono (by decide)) (held_mono (D_joined_rows.held o_joined_rows) (by decide)) D_lay_over.F (hl_lay_over _) (wp_lay_over _)
  have C_lay_overR : Cal l.prog w K mg base 3 "lay_over" (sp_lay_over (only f_joined_rows sp_joined_rows)) := D_lay_over.cal o_lay_overR
  have o_combinedR : FnOk l.prog w K mg base CX0 4 f_combined _ ["a", "b", "rule", "keeps"] (spD K (sp_combined (only f_joined_rows sp_joined_rows))) := ok_combined (k := 3) sp_first_ending_beyond sp_first_beginning_from sp_put_all (sp_lay_over (only f_joined_rows sp_joined_rows)) m_len m_list m_max m_min m_tuple (C_first_ending_beyond.mono (by decide)) (C_first_beginning_from.mono (by decide)) (C_put_all.mono (by decide)) (C_lay_overR.mono (by decide)) D_combined.F (hl_combined _) (wp_combined _)
  have C_combinedR : Cal l.prog w K mg base 4 "combined" (sp_combined (only f_joined_rows sp_joined_rows)) := D_combined.cal o_combinedR
  have o_joined_layers : FnOk l.prog w K mg base CX0 5 f_joined_layers _ ["a", "b"] (spD K sp_joined_layers) := ok_joined_layers (k := 4) (sp_combined (only f_joined_rows sp_joined_rows)) f_joined_rows (C_combinedR.mono (by decide)) D_joined_rows.g D_joined_layers.F (hl_joined_layers) (wp_joined_layers _)
  have C_joined_layers : Cal l.prog w K mg base 5 "joined_layers" sp_joined_layers := D_joined_layers.cal o_joined_layers
  have o_lay_overL : FnOk l.prog w K mg base CX0 6 f_lay_over _ ["out", "a", "b", "rule", "keeps"] (spD K (sp_lay_over (only f_joined_layers sp_joined_layers))) := ok_lay_over (k := 5) sp_put sp_put_all (only f_joined_layers sp_joined_layers) m_len m_max m_min (C_put.mono (by decide)) (C_put_all.mono (by decide)) (held_mono (D_joined_layers.held o_joined_layers) (by decide)) D_lay_over.F (hl_lay_over _) (wp_lay_over _)
  have C_lay_overL : Cal l.prog w K mg base 6 "lay_over" (sp_lay_over (only f_joined_layers sp_joined_layers)) := D_lay_over.cal o_lay_overL
  have o_combinedL : FnOk l.prog w K mg base CX0 7 f_combined _ ["a", "b", "rule", "keeps"] (spD K (sp_combined (only f_joined_layers sp_joined_layers))) := ok_combined (k := 6) sp_first_ending_beyond sp_first_beginning_from sp_put_all (sp_lay_over (only f_joined_layers sp_joined_layers)) m_len m_list m_max m_min m_tuple (C_first_ending_beyond.mono (by decide)) (C_first_beginning_from.mono (by decide)) (C_put_all.mono (by decide)) (C_lay_overL.mono (by decide)) D_combined.F (hl_combined _) (wp_combined _)
  have C_combinedL : Cal l.prog w K mg base 7 "combined" (sp_combined (only f_joined_layers sp_joined_layers)) := D_combined.cal o_combinedL
  have C_stkRm : Cal l.prog w K mg base 0 "stacked" (stkRec (only f_joined_rows sp_joined_rows) 0) := D_stacked.cal fn_false
  have o_stkR0 : FnOk l.prog w K mg base CX0 5 f_stacked _ ["slabs", "rule"] (spD K (sp_stk (only f_joined_rows sp_joined_rows) 0)) := ok_stacked (k := 4) (sp_combined (only f_joined_rows sp_joined_rows)) (stkRec (only f_joined_rows sp_joined_rows) 0) m_len m_tuple (C_combinedR.mono (by decide)) (C_stkRm.mono (by decide)) D_stacked.F (hl_stacked _ _) (wp_stacked _ 0)
  have C_stkR0 : Cal l.prog w K mg base 5 "stacked" (sp_stk (only f_joined_rows sp_joined_rows) 0) := D_stacked.cal o_stkR0
  have o_stkR1 : FnOk l.prog w K mg base CX0 6 f_stacked _ ["slabs", "rule"] (spD K (sp_stk (only f_joined_rows sp_joined_rows) 1)) := ok_stacked (k := 5) (sp_combined (only f_joined_rows sp_joined_rows)) (sp_stk (only f_joined_rows sp_joined_rows) 0) m_len m_tuple (C_combinedR.mono (by decide)) (C_stkR0.mono (by decide)) D_stacked.F (hl_stacked _ _) (wp_stacked _ 1)
  have C_stkR1 : Cal l.prog w K mg base 6 "stacked" (sp_stk (only f_joined_rows sp_joined_rows) 1) := D_stacked.cal o_stkR1
  have o_stkR2 : FnOk l.prog w K mg base CX0 7 f_stacked _ ["slabs", "rule"] (spD K (sp_stk (only f_joined_rows sp_joined_rows) 2)) := ok_stacked (k := 6) (sp_combined (only f_joined_rows sp_joined_rows)) (sp_stk (only f_joined_rows sp_joined_rows) 1) m_len m_tuple (C_combinedR.mono (by decide)) (C_stkR1.mono (by decide)) D_stacked.F (hl_stacked _ _) (wp_stacked _ 2)
  have C_stkR2 : Cal l.prog w K mg base 7 "stacked" (sp_stk (only f_joined_rows sp_joined_rows) 2) := D_stacked.cal o_stkR2
  have o_stkR3 : FnOk l.prog w K mg base CX0 8 f_stacked _ ["slabs", "rule"] (spD K (sp_stk (only f_joined_rows sp_joined_rows) 3)) := ok_stacked (k := 7) (sp_combined (only f_joined_rows sp_joined_rows)) (sp_stk (only f_joined_rows sp_joined_rows) 2) m_len m_tuple (C_combinedR.mono (by decide)) (C_stkR2.mono (by decide)) D_stacked.F (hl_stacked _ _) (wp_stacked _ 3)
  have C_stkR3 : Cal l.prog w K mg base 8 "stacked" (sp_stk (only f_joined_rows sp_joined_rows) 3) := D_stacked.cal o_stkR3
  have o_stkR4 : FnOk l.prog w K mg base CX0 9 f_stacked _ ["slabs", "rule"] (spD K (sp_stk (only f_joined_rows sp_joined_rows) 4)) := ok_stacked (k := 8) (sp_combined (only f_joined_rows sp_joined_rows)) (sp_stk (only f_joined_rows sp_joined_rows) 3) m_len m_tuple (C_combinedR.mono (by decide)) (C_stkR3.mono (by decide)) D_stacked.F (hl_stacked _ _) (wp_stacked _ 4)
  have C_stkR4 : Cal l.prog w K mg base 9 "stacked" (sp_stk (only f_joined_rows sp_joined_rows) 4) := D_stacked.cal o_stkR4
  have o_stkR5 : FnOk l.prog w K mg base CX0 10 f_stacked _ ["slabs", "rule"] (spD K (sp_stk (only f_joined_rows sp_joined_rows) 5)) := ok_stacked (k := 9) (sp_combined (only f_joined_rows sp_joined_rows)) (sp_stk (only f_joined_rows sp_joined_rows) 4) m_len m_tuple (C_combinedR.mono (by decide)) (C_stkR4.mono (by decide)) D_stacked.F (hl_stacked _ _) (wp_stacked _ 5)
  have C_stkR5 : Cal l.prog w K mg base 10 "stacked" (sp_stk (only f_joined_rows sp_joined_rows) 5) := D_stacked.cal o_stkR5
  have C_stkLm : Cal l.prog w K mg base 0 "stacked" (stkRec (only f_joined_layers sp_joined_layers) 0) := D_stacked.cal fn_false
  have o_stkL0 : FnOk l.prog w K mg base CX0 8 f_stacked _ ["slabs", "rule"] (spD K (sp_stk (only f_joined_layers sp_joined_layers) 0)) := ok_stacked (k := 7) (sp_combined (only f_joined_layers sp_joined_layers)) (stkRec (only f_joined_layers sp_joined_layers) 0) m_len m_tuple (C_combinedL.mono (by decide)) (C_stkLm.mono (by decide)) D_stacked.F (hl_stacked _ _) (wp_stacked _ 0)
  have C_stkL0 : Cal l.prog w K mg base 8 "stacked" (sp_stk (only f_joined_layers sp_joined_layers) 0) := D_stacked.cal o_stkL0
  have o_stkL1 : FnOk l.prog w K mg base CX0 9 f_stacked _ ["slabs", "rule"] (spD K (sp_stk (only f_joined_layers sp_joined_layers) 1)) := ok_stacked (k := 8) (sp_combined (only f_joined_layers sp_joined_layers)) (sp_stk (only f_joined_layers sp_joined_layers) 0) m_len m_tuple (C_combinedL.mono (by decide)) (C_stkL0.mono (by decide)) D_stacked.F (hl_stacked _ _) (wp_stacked _ 1)
  have C_stkL1 : Cal l.prog w K mg base 9 "stacked" (sp_stk (only f_joined_layers sp_joined_layers) 1) := D_stacked.cal o_stkL1
  have o_stkL2 : FnOk l.prog w K mg base CX0 10 f_stacked _ ["slabs", "rule"] (spD K (sp_stk (only f_joined_layers sp_joined_layers) 2)) := ok_stacked (k := 9) (sp_combined (only f_joined_layers sp_joined_layers)) (sp_stk (only f_joined_layers sp_joined_layers) 1) m_len m_tuple (C_combinedL.mono (by decide)) (C_stkL1.mono (by decide)) D_stacked.F (hl_stacked _ _) (wp_stacked _ 2)
  have C_stkL2 : Cal l.prog w K mg base 10 "stacked" (sp_stk (only f_joined_layers sp_joined_layers) 2) := D_stacked.cal o_stkL2
  have o_stkL3 : FnOk l.prog w K mg base CX0 11 f_stacked _ ["slabs", "rule"] (spD K (sp_stk (only f_joined_layers sp_joined_layers) 3)) := ok_stacked (k := 10) (sp_combined (only f_joined_layers sp_joined_layers)) (sp_stk (only f_joined_layers sp_joined_layers) 2) m_len m_tuple (C_combinedL.mono (by decide)) (C_stkL2.mono (by decide)) D_stacked.F (hl_stacked _ _) (wp_stacked _ 3)
  have C_stkL3 : Cal l.prog w K mg base 11 "stacked" (sp_stk (only f_joined_layers sp_joined_layers) 3) := D_stacked.cal o_stkL3
  have o_stkL4 : FnOk l.prog w K mg base CX0 12 f_stacked _ ["slabs", "rule"] (spD K (sp_stk (only f_joined_layers sp_joined_layers) 4)) := ok_stacked (k := 11) (sp_combined (only f_joined_layers sp_joined_layers)) (sp_stk (only f_joined_layers sp_joined_layers) 3) m_len m_tuple (C_combinedL.mono (by decide)) (C_stkL3.mono (by decide)) D_stacked.F (hl_stacked _ _) (wp_stacked _ 4)
  have C_stkL4 : Cal l.prog w K mg base 12 "stacked" (sp_stk (only f_joined_layers sp_joined_layers) 4) := D_stacked.cal o_stkL4
  have o_stkL5 : FnOk l.prog w K mg base CX0 13 f_stacked _ ["slabs", "rule"] (spD K (sp_stk (only f_joined_layers sp_joined_layers) 5)) := ok_stacked (k := 12) (sp_combined (only f_joined_layers sp_joined_layers)) (sp_stk (only f_joined_layers sp_joined_layers) 4) m_len m_tuple (C_combinedL.mono (by decide)) (C_stkL4.mono (by decide)) D_stacked.F (hl_stacked _ _) (wp_stacked _ 5)
  have C_stkL5 : Cal l.prog w K mg base 13 "stacked" (sp_stk (only f_joined_layers sp_joined_layers) 5) := D_stacked.cal o_stkL5
  have o_grown_layer : FnOk l.prog w K mg base CX0 11 f_grown_layer _ ["layer", "low", "high"] (spD K sp_grown_layer) := ok_grown_layer (k := 10) sp_merged (sp_stk (only f_joined_rows sp_joined_rows) 5) f_joined_rows (C_merged.mono (by decide)) (C_stkR5.mono (by decide)) D_joined_rows.g D_grown_layer.F (hl_grown_layer) (wp_grown_layer _)
  have C_grown_layer : Cal l.prog w K mg base 11 "grown_layer" sp_grown_layer := D_grown_layer.cal o_grown_layer
  have o_grown : FnOk l.prog w K mg base CX0 14 f_grown _ ["solid", "low", "high"] (spD K sp_grown) := ok_grown (k := 13) (sp_stk (only f_joined_layers sp_joined_layers) 5) sp_grown_layer f_joined_layers (C_stkL5.mono (by decide)) (C_grown_layer.mono (by decide)) D_joined_layers.g D_grown.F (hl_grown) (wp_grown _)
  have C_grown : Cal l.prog w K mg base 14 "grown" sp_grown := D_grown.cal o_grown
  have o_count_of : FnOk l.prog w K mg base CX0 1 f_count_of _ ["solid"] (spD K sp_count_of) := ok_count_of (k := 0) m_len m_sum D_count_of.F (hl_count_of) (wp_count_of)
  have C_count_of : Cal l.prog w K mg base 1 "count_of" sp_count_of := D_count_of.cal o_count_of
  have o_box : FnOk l.prog w K mg base CX0 1 f_box _ ["corner", "other"] (spD K sp_box) := ok_box (k := 0)  D_box.F (hl_box) (wp_box)
  have C_box : Cal l.prog w K mg base 1 "box" sp_box := D_box.cal o_box
  have o_union : FnOk l.prog w K mg base CX0 8 f_union _ ["a", "b"] (spD K sp_union) := ok_union (k := 7) (sp_combined (only f_joined_layers sp_joined_layers)) f_joined_layers (C_combinedL.mono (by decide)) D_joined_layers.g D_union.F (hl_union) (wp_union _)
  have C_union : Cal l.prog w K mg base 8 "union" sp_union := D_union.cal o_union
  have o_union_of : FnOk l.prog w K mg base CX0 9 f_union_of _ ["solids"] (spD K sp_union_of) := ok_union_of (k := 8) sp_union m_len m_list m_range (C_union.mono (by decide)) D_union_of.F (hl_union_of) (wp_union_of)
  have C_union_of : Cal l.prog w K mg base 9 "union_of" sp_union_of := D_union_of.cal o_union_of
  have o_boxes_of : FnOk l.prog w K mg base CX0 1 f_boxes_of _ ["solid"] (spD K sp_boxes_of) := ok_boxes_of (k := 0)  D_boxes_of.F (hl_boxes_of) (wp_boxes_of)
  have C_boxes_of : Cal l.prog w K mg base 1 "boxes_of" sp_boxes_of := D_boxes_of.cal o_boxes_of
  have o_moved_layer : FnOk l.prog w K mg base CX0 1 f_moved_layer _ ["layer", "by"] (spD K sp_moved_layer) := ok_moved_layer (k := 0) m_tuple D_moved_layer.F (hl_moved_layer) (wp_moved_layer)
  have C_moved_layer : Cal l.prog w K mg base 1 "moved_layer" sp_moved_layer := D_moved_layer.cal o_moved_layer
  have o_moved : FnOk l.prog w K mg base CX0 2 f_moved _ ["solid", "by"] (spD K sp_moved) := ok_moved (k := 1) sp_moved_layer m_tuple (C_moved_layer.mono (by decide)) D_moved.F (hl_moved) (wp_moved)
  have C_moved : Cal l.prog w K mg base 2 "moved" sp_moved := D_moved.cal o_moved
  have o_swept : FnOk l.prog w K mg base CX0 15 f_swept _ ["lot", "tool"] (spD K sp_swept) := ok_swept (k := 14) sp_grown sp_count_of sp_union_of sp_boxes_of (C_grown.mono (by decide)) (C_count_of.mono (by decide)) (C_union_of.mono (by decide)) (C_boxes_of.mono (by decide)) D_swept.F (hl_swept) (wp_swept)
  have C_swept : Cal l.prog w K mg base 15 "swept" sp_swept := D_swept.cal o_swept
  have o_cube_at : FnOk l.prog w K mg base CX0 2 f_cube_at _ ["standing"] (spD K sp_cube_at) := ok_cube_at (k := 1) sp_added sp_box (C_added.mono (by decide)) (C_box.mono (by decide)) D_cube_at.F (hl_cube_at) (wp_cube_at)
  have C_cube_at : Cal l.prog w K mg base 2 "cube_at" sp_cube_at := D_cube_at.cal o_cube_at
  have o_line_lot : FnOk l.prog w K mg base CX0 2 f_line_lot _ ["start", "axis", "to"] (spD K sp_line_lot) := ok_line_lot (k := 1) sp_added sp_sorted_corners sp_with_number sp_box (C_added.mono (by decide)) (C_sorted_corners.mono (by decide)) (C_with_number.mono (by decide)) (C_box.mono (by decide)) D_line_lot.F (hl_line_lot) (wp_line_lot)
  have C_line_lot : Cal l.prog w K mg base 2 "line_lot" sp_line_lot := D_line_lot.cal o_line_lot
  have o_travel_lot : FnOk l.prog w K mg base CX0 2 f_travel_lot _ ["machine"] (spD K sp_travel_lot) := ok_travel_lot (k := 1) sp_added sp_box (C_added.mono (by decide)) (C_box.mono (by decide)) D_travel_lot.F (hl_travel_lot) (wp_travel_lot)
  have C_travel_lot : Cal l.prog w K mg base 2 "travel_lot" sp_travel_lot := D_travel_lot.cal o_travel_lot
  have o__law_cell_at : FnOk l.prog w K mg base CX0 1 f__law_cell_at _ ["script", "k"] (spD K sp__law_cell_at) := ok__law_cell_at (k := 0) m_len D__law_cell_at.F (hl__law_cell_at) (wp__law_cell_at)
  have C__law_cell_at : Cal l.prog w K mg base 1 "_law_cell_at" sp__law_cell_at := D__law_cell_at.cal o__law_cell_at
  have o__law_draw : FnOk l.prog w K mg base CX0 1 f__law_draw _ ["cell", "k", "bound"] (spD K sp__law_draw) := ok__law_draw (k := 0) m_int D__law_draw.F (hl__law_draw) (wp__law_draw)
  have C__law_draw : Cal l.prog w K mg base 1 "_law_draw" sp__law_draw := D__law_draw.cal o__law_draw
  have o__law_number : FnOk l.prog w K mg base CX0 2 f__law_number _ ["cell", "k", "bound"] (spD K sp__law_number) := ok__law_number (k := 1) sp__law_draw m_int m_range (C__law_draw.mono (by decide)) D__law_number.F (hl__law_number) (wp__law_number)
  have C__law_number : Cal l.prog w K mg base 2 "_law_number" sp__law_number := D__law_number.cal o__law_number
  have o__law_next : FnOk l.prog w K mg base CX0 3 f__law_next _ ["draw", "bound"] (spD K sp__law_next) := ok__law_next (k := 2) sp__law_cell_at sp__law_number m_int (C__law_cell_at.mono (by decide)) (C__law_number.mono (by decide)) D__law_next.F (hl__law_next) (wp__law_next)
  have C__law_next : Cal l.prog w K mg base 3 "_law_next" sp__law_next := D__law_next.cal o__law_next
  have o__law_tool : FnOk l.prog w K mg base CX0 9 f__law_tool _ ["draw", "name"] (spD K sp__law_tool) := ok__law_tool (k := 8) sp_box sp_union sp__law_next (C_box.mono (by decide)) (C_union.mono (by decide)) (C__law_next.mono (by decide)) D__law_tool.F (hl__law_tool) (wp__law_tool)
  have C__law_tool : Cal l.prog w K mg base 9 "_law_tool" sp__law_tool := D__law_tool.cal o__law_tool
  have o__law_cubes : FnOk l.prog w K mg base CX0 1 f__law_cubes _ ["solid"] (spD K sp__law_cubes) := ok__law_cubes (k := 0) m_range D__law_cubes.F (hl__law_cubes) (wp__law_cubes)
  have C__law_cubes : Cal l.prog w K mg base 1 "_law_cubes" sp__law_cubes := D__law_cubes.cal o__law_cubes
  have o_law : FnOk l.prog w K mg base CX0 16 fa _ ["script"] (spD K (lawSpec 63)) := ok_law (k := 15) sp_union sp_moved sp_swept sp_cube_at sp_line_lot sp_travel_lot sp__law_next sp__law_tool sp__law_cubes m_enumerate m_len m_max m_min m_range m_sorted m_tuple (C_union.mono (by decide)) (C_moved.mono (by decide)) (C_swept.mono (by decide)) (C_cube_at.mono (by decide)) (C_line_lot.mono (by decide)) (C_travel_lot.mono (by decide)) (C__law_next.mono (by decide)) (C__law_tool.mono (by decide)) (C__law_cubes.mono (by decide)) D_law.F (hl_law) (wp_law)
  exact o_law
end K41
open PySem PySem.W PyProof.Rows
set_option maxHeartbeats 0 in
theorem PySem.Challenge.cw_shopwhole_k41_lots_holds : PySem.Challenge.rw_shopwhole_k41_lots.Holds := by
  w_on; o_law; k_head; (case hw => w_witness2)
  k_fill
  refine L2.walk_of (l := PySem.Challenge.rw_shopwhole_k41_lots) (n := 63) (k := 16) (x := "script") (CX := fun _ => L2.CX0) (sp := fun w => DL.spD _ (DL.lawSpec 63)) rfl (by decide) rfl ⟨rfl, by decide, by decide⟩ (fun w h Y => PySem.W.kIn_of Y) ?F (fun w H a ns hl _ hS => DL.law_end hl hS) (fun _ _ _ _ _ h => h)
  case F =>
    intro w mg fa h KX G hmg
    refine' K41.all_mk KX G hmg ?a_added ?l_added ?c_added ?k_added ?a_sorted_corners ?l_sorted_corners ?c_sorted_corners ?k_sorted_corners ?a_with_number ?l_with_number ?c_with_number ?k_with_number ?a_first_ending_beyond ?l_first_ending_beyond ?c_first_ending_beyond ?k_first_ending_beyond ?a_first_beginning_from ?l_first_beginning_from ?c_first_beginning_from ?k_first_beginning_from ?a_merged ?l_merged ?c_merged ?k_merged ?a_joined_rows ?l_joined_rows ?c_joined_rows ?k_joined_rows ?a_put ?l_put ?c_put ?k_put ?a_put_all ?l_put_all ?c_put_all ?k_put_all ?a_lay_over ?l_lay_over ?c_lay_over ?k_lay_over ?a_combined ?l_combined ?c_combined ?k_combined ?a_joined_layers ?l_joined_layers ?c_joined_layers ?k_joined_layers ?a_stacked ?l_stacked ?c_stacked ?k_stacked ?a_grown_layer ?l_grown_layer ?c_grown_layer ?k_grown_layer ?a_grown ?l_grown ?c_grown ?k_grown ?a_count_of ?l_count_of ?c_count_of ?k_count_of ?a_box ?l_box ?c_box ?k_box ?a_union ?l_union ?c_union ?k_union ?a_union_of ?l_union_of ?c_union_of ?k_union_of ?a_boxes_of ?l_boxes_of ?c_boxes_of ?k_boxes_of ?a_moved_layer ?l_moved_layer ?c_moved_layer ?k_moved_layer ?a_moved ?l_moved ?c_moved ?k_moved ?a_swept ?l_swept ?c_swept ?k_swept ?a_cube_at ?l_cube_at ?c_cube_at ?k_cube_at ?a_line_lot ?l_line_lot ?c_line_lot ?k_line_lot ?a_travel_lot ?l_travel_lot ?c_travel_lot ?k_travel_lot ?a__law_cell_at ?l__law_cell_at ?c__law_cell_at ?k__law_cell_at ?a__law_draw ?l__law_draw ?c__law_draw ?k__law_draw ?a__law_number ?l__law_number ?c__law_number ?k__law_number ?a__law_next ?l__law_next ?c__law_next ?k__law_next ?a__law_tool ?l__law_tool ?c__law_tool ?k__law_tool ?a__law_cubes ?l__law_cubes ?c__law_cubes ?k__law_cubes ?a_law ?l_law ?c_law ?k_law ?z_max ?z_min ?z_range ?z_tuple ?z_len ?z_sorted ?z_list ?z_sum ?z_int ?z_enumerate
    (case a_added => k_is); (case l_added => k_is); (case c_added => k_is); (case k_added => k_is)
    (case a_sorted_corners => k_is); (case l_sorted_corners => k_is); (case c_sorted_corners => k_is); (case k_sorted_corners => k_is)
    (case a_with_number => k_is); (case l_with_number => k_is); (case c_with_number => k_is); (case k_with_number => k_is)
    (case a_first_ending_beyond => k_is); (case l_first_ending_beyond => k_is); (case c_first_ending_beyond => k_is); (case k_first_ending_beyond => k_is)
    (case a_first_beginning_from => k_is); (case l_first_beginning_from => k_is); (case c_first_beginning_from => k_is); (case k_first_beginning_from => k_is)
    (case a_merged => k_is); (case l_merged => k_is); (case c_merged => k_is); (case k_merged => k_is)
    (case a_joined_rows => k_is); (case l_joined_rows => k_is); (case c_joined_rows => k_is); (case k_joined_rows => k_is)
    (case a_put => k_is); (case l_put => k_is); (case c_put => k_is); (case k_put => k_is)
    (case a_put_all => k_is); (case l_put_all => k_is); (case c_put_all => k_is); (case k_put_all => k_is)
    (case a_lay_over => k_is); (case l_lay_over => k_is); (case c_lay_over => k_is); (case k_lay_over => k_is)
    (case a_combined => k_is); (case l_combined => k_is); (case c_combined => k_is); (case k_combined => k_is)
    (case a_joined_layers => k_is); (case l_joined_layers => k_is); (case c_joined_layers => k_is); (case k_joined_layers => k_is)
    (case a_stacked => k_is); (case l_stacked => k_is); (case c_stacked => k_is); (case k_stacked => k_is)
    (case a_grown_layer => k_is); (case l_grown_layer => k_is); (case c_grown_layer => k_is); (case k_grown_layer => k_is)
    (case a_grown => k_is); (case l_grown => k_is); (case c_grown => k_is); (case k_grown => k_is)
    (case a_count_of => k_is); (case l_count_of => k_is); (case c_count_of => k_is); (case k_count_of => k_is)
    (case a_box => k_is); (case l_box => k_is); (case c_box => k_is); (case k_box => k_is)
    (case a_union => k_is); (case l_union => k_is); (case c_union => k_is); (case k_union => k_is)
    (case a_union_of => k_is); (case l_union_of => k_is); (case c_union_of => k_is); (case k_union_of => k_is)
    (case a_boxes_of => k_is); (case l_boxes_of => k_is); (case c_boxes_of => k_is); (case k_boxes_of => k_is)
    (case a_moved_layer => k_is); (case l_moved_layer => k_is); (case c_moved_layer => k_is); (case k_moved_layer => k_is)
    (case a_moved => k_is); (case l_moved => k_is); (case c_moved => k_is); (case k_moved => k_is)
    (case a_swept => k_is); (case l_swept => k_is); (case c_swept => k_is); (case k_swept => k_is)
    (case a_cube_at => k_is); (case l_cube_at => k_is); (case c_cube_at => k_is); (case k_cube_at => k_is)
    (case a_line_lot => k_is); (case l_line_lot => k_is); (case c_line_lot => k_is); (case k_line_lot => k_is)
    (case a_travel_lot => k_is); (case l_travel_lot => k_is); (case c_travel_lot => k_is); (case k_travel_lot => k_is)
    (case a__law_cell_at => k_is); (case l__law_cell_at => k_is); (case c__law_cell_at => k_is); (case k__law_cell_at => k_is)
    (case a__law_draw => k_is); (case l__law_draw => k_is); (case c__law_draw => k_is); (case k__law_draw => k_is)
    (case a__law_number => k_is); (case l__law_number => k_is); (case c__law_number => k_is); (case k__law_number => k_is)
    (case a__law_next => k_is); (case l__law_next => k_is); (case c__law_next => k_is); (case k__law_next => k_is)
    (case a__law_tool => k_is); (case l__law_tool => k_is); (case c__law_tool => k_is); (case k__law_tool => k_is)
    (case a__law_cubes => k_is); (case l__law_cubes => k_is); (case c__law_cubes => k_is); (case k__law_cubes => k_is)
    (case a_law => k_is); (case l_law => k_is); (case c_law => k_is); (case k_law => k_is)
    (case z_max => k_is)
    (case z_min => k_is)
    (case z_range => k_is)
    (case z_tuple => k_is)
    (case z_len => k_is)
    (case z_sorted => k_is)
    (case z_list => k_is)
    (case z_sum => k_is)
    (case z_int => k_is)
    (case z_enumerate => k_is)
