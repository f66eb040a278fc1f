import PyProof.Rows.All
import Wide.All
import OpenK.AllK
import Wide.FinOn
import HandS.ForMost
import HandS.Star
import HandS.TupAny
import HandS.CallLocal
import HandS.IsInst
import HandS.SortRule
import HandS.Style
import KE.SortData
import HandS.Iter
import HandS.Conv
import HandS.Wide
import KE.KRevSl
import PySem.Challenge.RW_shopwhole_k05_forms_of_solids
set_option Elab.async false
set_option linter.all false
section
set_option autoImplicit true
namespace SM
abbrev Slab (β : Type) := Int × Int × β
section
variable {β : Type} {E : Int → Prop} {G : β → Prop}
/-- what stands at a number -/
def at' : List (Slab β) → Int → Option β
  | [], _ => none
  | s :: r, z => if s.1 ≤ z ∧ z < s.2.1 then some s.2.2 else at' r z
structure Ok (E : Int → Prop) (G : β → Prop) (s : Slab β) : Prop where
  lt : s.1 < s.2.1
  e1 : E s.1
  e2 : E s.2.1
  g : G s.2.2
def Lk (s t : Slab β) : Prop := s.2.1 ≤ t.1 ∧ (s.2.1 = t.1 → s.2.2 ≠ t.2.2)
/-- slabs in their form: ends in E, insides in G -/
def Form (E : Int → Prop) (G : β → Prop) : List (Slab β) → Prop
  | [] => True
  | s :: r => Ok E G s ∧ (∀ t, r.head? = some t → Lk s t) ∧ Form E G r
theorem Form.mem : ∀ {L : List (Slab β)}, Form E G L → ∀ s ∈ L, Ok E G s
  | s :: r, h, t, m => by
    rcases List.mem_cons.mp m with e | m
    · rw [e]; exact h.1
    · exact Form.mem h.2.2 t m
theorem Form.above : ∀ {r : List (Slab β)} {s : Slab β}, Form E G (s :: r) → ∀ t ∈ r, s.2.1 ≤ t.1
  | u :: r, s, h, t, m => by
    have h1 : s.2.1 ≤ u.1 := (h.2.1 u rfl).1
    rcases List.mem_cons.mp m with e | m
    · rw [e]; exact h1
    · have h2 := Form.above (s := u) h.2.2 t m
      have h3 := h.2.2.1.lt
      omega
theorem at_above {L : List (Slab β)} {z : Int} : (∀ t ∈ L, z < t.1) → at' L z = none := by
  intro h
  induction L with
  | nil => rfl
  | cons s r ih =>
    have h1 := h s List.mem_cons_self
    unfold at'
    rw [if_neg (by omega)]
    exact ih fun t m => h t (List.mem_cons_of_mem _ m)
theorem at_below {L : List (Slab β)} {z : Int} : (∀ t ∈ L, t.2.1 ≤ z) → at' L z = none := by
  intro h
  induction L with
  | nil => rfl
  | cons s r ih =>
    have h1 := h s List.mem_cons_self
    unfold at'
    rw [if_neg (by omega)]
    exact ih fun t m => h t (List.mem_cons_of_mem _ m)
theorem at_some {L : List (Slab β)} {z : Int} {x : β} : at' L z = some x → ∃ s ∈ L, s.1 ≤ z ∧ z < s.2.1 ∧ s.2.2 = x := by
  intro h
  induction L with
  | nil => cases h
  | cons s r ih =>
    unfold at' at h
    split at h
    · rename_i c
      cases h
      exact ⟨s, List.mem_cons_self, c.1, c.2, rfl⟩
    · obtain ⟨t, m, q⟩ := ih h
      exact ⟨t, List.mem_cons_of_mem _ m, q⟩
theorem at_append {a b : List (Slab β)} {z : Int} : at' (a ++ b) z = (at' a z).or (at' b z) := by
  induction a with
  | nil => simp [at']
  | cons s r ih =>
    simp only [List.cons_append, at']
    split
    · simp
    · exact ih
theorem form_append {a b : List (Slab β)} : Form E G (a ++ b) ↔ Form E G a ∧ Form E G b ∧ ∀ s t, a.getLast? = some s → b.head? = some t → Lk s t := by
  induction a with
  | nil => simp [Form]
  | cons s r ih =>
    simp only [List.cons_append, Form]
    cases r with
    | nil =>
      simp only [List.nil_append, Form, List.head?_nil, List.getLast?_singleton]
      constructor
      · rintro ⟨h1, h2, h3⟩
        exact ⟨⟨h1, (fun _ e => nomatch e), trivial⟩, h3, fun u t e1 e2 => by cases e1; exact h2 t e2⟩
      · rintro ⟨⟨h1, _, _⟩, h3, h4⟩
        exact ⟨h1, fun t e => h4 s t rfl e, h3⟩
    | cons u r =>
      rw [ih]
      simp only [List.cons_append, List.head?_cons, List.getLast?_cons_cons]
      constructor
      · rintro ⟨h1, h2, h3, h4, h5⟩
        exact ⟨⟨h1, h2, h3⟩, h4, h5⟩
      · rintro ⟨⟨h1, h2, h3⟩, h4, h5⟩
        exact ⟨h1, h2, h3, h4, h5⟩
theorem form_one {s : Slab β} (h : Ok E G s) : Form E G [s] := ⟨h, (fun _ e => nomatch e), trivial⟩
/-- the form is one -/
theorem ext : ∀ {a b : List (Slab β)}, Form E G a → Form E G b → (∀ z, at' a z = at' b z) → a = b := by
  intro a
  induction a with
  | nil =>
    intro b _ hb h
    cases b with
    | nil => rfl
    | cons t q =>
      have := h t.1
      have l := hb.1.lt
      simp only [at'] at this
      rw [if_pos ⟨by omega, l⟩] at this
      cases this
  | cons s r ih =>
    intro b ha hb h
    cases b with
    | nil =>
      have := h s.1
      have l := ha.1.lt
      simp only [at'] at this
      rw [if_pos ⟨by omega, l⟩] at this
      cases this
    | cons t q =>
      have ls := ha.1.lt
      have lt := hb.1.lt
      have abs := Form.above ha
      have abt := Form.above hb
      have firstA : at' (s :: r) s.1 = some s.2.2 := by simp only [at']; rw [if_pos ⟨by omega, ls⟩]
      have firstB : at' (t :: q) t.1 = some t.2.2 := by simp only [at']; rw [if_pos ⟨by omega, lt⟩]
      have le1 : t.1 ≤ s.1 := by
        obtain ⟨u, m, h1, h2, _⟩ := at_some ((h s.1).symm.trans firstA)
        rcases List.mem_cons.mp m with e | m
        · rw [e] at h1; exact h1
        · have := abt u m; omega
      have le2 : s.1 ≤ t.1 := by
        obtain ⟨u, m, h1, h2, _⟩ := at_some ((h t.1).trans firstB)
        rcases List.mem_cons.mp m with e | m
        · rw [e] at h1; exact h1
        · have := abs u m; omega
      have e1 : s.1 = t.1 := by omega
      have e3 : s.2.2 = t.2.2 := by
        have := (h s.1).symm.trans firstA
        rw [e1, firstB] at this
        exact (Option.some.inj this).symm
      -- the one that ends first would be followed by a touching slab of the same inside
      have half : ∀ {s t : Slab β} {r q : List (Slab β)}, Form E G (s :: r) → Form E G (t :: q) → (∀ z, at' (s :: r) z = at' (t :: q) z) → s.1 = t.1 → s.2.2 = t.2.2 → ¬ s.2.1 < t.2.1 := by
        intro s t r q ha hb h e1 e3 l
        have ls := ha.1.lt
        have q1 : at' (t :: q) s.2.1 = some t.2.2 := by simp only [at']; rw [if_pos ⟨by omega, l⟩]
        have q2 := (h s.2.1).trans q1
        simp only [at'] at q2
        rw [if_neg (by omega)] at q2
        obtain ⟨u, m, h1, h2, h3⟩ := at_some q2
        cases r with
        | nil => cases m
        | cons w r =>
          have k := ha.2.1 w rfl
          have ew : w.1 = s.2.1 := by
            rcases List.mem_cons.mp m with e | m
            · rw [e] at h1; have := k.1; omega
            · have g1 := Form.above ha.2.2 u m
              have g2 := ha.2.2.1.lt
              have := k.1
              omega
          have q3 : at' (w :: r) s.2.1 = some w.2.2 := by
            have g2 := ha.2.2.1.lt
            simp only [at']; rw [if_pos ⟨by omega, by omega⟩]
          rw [q3] at q2
          exact k.2 ew.symm (e3.trans (Option.some.inj q2).symm)
      have e2 : s.2.1 = t.2.1 := by
        have n1 := half ha hb h e1 e3
        have n2 := half hb ha (fun z => (h z).symm) e1.symm e3.symm
        omega
      have est : s = t := by
        obtain ⟨a, b, c⟩ := s
        obtain ⟨a', b', c'⟩ := t
        simp only at e1 e2 e3
        rw [e1, e2, e3]
      subst est
      have : r = q := ih ha.2.2 hb.2.2 fun z => by
        by_cases hz : z < s.2.1
        · rw [at_above fun t m => by have := abs t m; omega, at_above fun t m => by have := abt t m; omega]
        · have := h z
          simp only [at'] at this
          rw [if_neg (by omega), if_neg (by omega)] at this
          exact this
      rw [this]
/-- the last one -/
theorem last_below {R : List (Slab β)} (h : Form E G R) {l : Slab β} (e : R.getLast? = some l) : ∀ s ∈ R, s.2.1 ≤ l.2.1 := by
  induction R with
  | nil => cases e
  | cons s r ih =>
    intro t m
    cases r with
    | nil =>
      rw [List.getLast?_singleton] at e
      cases e
      rcases List.mem_cons.mp m with e | m
      · rw [e]; omega
      · cases m
    | cons u r =>
      rw [List.getLast?_cons_cons] at e
      rcases List.mem_cons.mp m with e1 | m
      · have := ih h.2.2 e u List.mem_cons_self
        have h1 := (h.2.1 u rfl).1
        have h2 := h.2.2.1.lt
        rw [e1]; omega
      · exact ih h.2.2 e t m
theorem Form.imp {E' : Int → Prop} {G' : β → Prop} (he : ∀ x, E x → E' x) (hg : ∀ x, G x → G' x) : ∀ {L : List (Slab β)}, Form E G L → Form E' G' L
  | [], _ => trivial
  | _ :: _, h => ⟨⟨h.1.lt, he _ h.1.e1, he _ h.1.e2, hg _ h.1.g⟩, h.2.1, Form.imp he hg h.2.2⟩
/-- starts go up -/
theorem Form.starts : ∀ {L : List (Slab β)}, Form E G L → (L.map (·.1)).Pairwise (· < ·)
  | [], _ => .nil
  | s :: r, h => by
    rw [List.map_cons, List.pairwise_cons]
    refine ⟨fun x m => ?_, Form.starts h.2.2⟩
    obtain ⟨t, mt, rfl⟩ := List.mem_map.mp m
    have := Form.above h t mt
    have := h.1.lt
    omega
/-- few numbers are ends -/
def Few (E : Int → Prop) (M : Nat) : Prop := ∀ l : List Int, l.Pairwise (· < ·) → (∀ x ∈ l, E x) → l.length ≤ M
theorem Form.few {M : Nat} (hE : Few E M) {L : List (Slab β)} (h : Form E G L) : L.length ≤ M := by
  have := hE (L.map (·.1)) (Form.starts h) fun x m => by
    obtain ⟨t, mt, rfl⟩ := List.mem_map.mp m
    exact (Form.mem h t mt).e1
  simpa using this

/-! ### putting slabs behind others -/
variable [DecidableEq β]
def putM (isE : β → Bool) (R : List (Slab β)) (lo hi : Int) (x : β) : List (Slab β) :=
  if isE x = true then R else match R.getLast? with
    | some l => if l.2.1 = lo ∧ l.2.2 = x then R.dropLast ++ [(l.1, hi, x)] else R ++ [(lo, hi, x)]
    | none => [(lo, hi, x)]
theorem dropLast_last {α : Type} {R : List α} {l : α} (h : R.getLast? = some l) : R.dropLast ++ [l] = R := by
  cases R with
  | nil => cases h
  | cons a r =>
    rw [List.getLast?_eq_some_getLast (List.cons_ne_nil a r)] at h
    rw [← Option.some.inj h]
    exact List.dropLast_concat_getLast _
theorem put_ok {isE : β → Bool} {R : List (Slab β)} {lo hi : Int} {x : β} (hR : Form E G R) (hb : ∀ s ∈ R, s.2.1 ≤ lo) (hl : lo < hi) (h1 : E lo) (h2 : E hi) (hx : isE x = false → G x) :
    Form E G (putM isE R lo hi x) ∧ (∀ s ∈ putM isE R lo hi x, s.2.1 ≤ hi) ∧ ∀ z, at' (putM isE R lo hi x) z = (at' R z).or (if lo ≤ z ∧ z < hi ∧ isE x = false then some x else none) := by
  unfold putM
  by_cases ex : isE x = true
  · rw [if_pos ex]
    refine ⟨hR, fun s m => by have := hb s m; omega, fun z => ?_⟩
    rw [if_neg (by rw [ex]; simp)]
    simp
  · have ex' : isE x = false := by simpa using ex
    rw [if_neg ex]
    have one : Ok E G (lo, hi, x) := ⟨hl, h1, h2, hx ex'⟩
    have at1 : ∀ z, at' [(lo, hi, x)] z = if lo ≤ z ∧ z < hi ∧ isE x = false then some x else none := fun z => by
      simp only [at', ex', and_true]
    cases e : R.getLast? with
    | none =>
      have : R = [] := List.getLast?_eq_none_iff.mp e
      subst this
      refine ⟨form_one one, fun s m => ?_, fun z => ?_⟩
      · have : s = (lo, hi, x) := by simpa using m
        rw [this]; exact Int.le_refl _
      · rw [at1]; simp [at']
    | some l =>
      dsimp only
      have hd := dropLast_last e
      by_cases c : l.2.1 = lo ∧ l.2.2 = x
      · rw [if_pos c]
        have hf : Form E G (R.dropLast ++ [l]) := by rw [hd]; exact hR
        rw [form_append] at hf
        obtain ⟨f1, f2, f3⟩ := hf
        have okl := f2.1
        have new : Ok E G (l.1, hi, x) := ⟨by show l.1 < hi; have := okl.lt; omega, okl.e1, h2, hx ex'⟩
        refine ⟨form_append.mpr ⟨f1, form_one new, fun s t e1 e2 => ?_⟩, fun s m => ?_, fun z => ?_⟩
        · cases e2
          have k := f3 s l e1 rfl
          exact ⟨k.1, fun q => by have := k.2 q; rw [c.2] at this; exact this⟩
        · rcases List.mem_append.mp m with m | m
          · have := hb s (by rw [← hd]; exact List.mem_append_left _ m); omega
          · have : s = (l.1, hi, x) := by simpa using m
            rw [this]; exact Int.le_refl _
        · have hz : at' R z = (at' R.dropLast z).or (at' [l] z) := by rw [← at_append, hd]
          rw [at_append, hz]
          have below : l.1 ≤ z → at' R.dropLast z = none := fun h => at_below fun t m => by
            -- all ahead of the last one end at its begin or below
            have : ∀ {a : List (Slab β)}, Form E G (a ++ [l]) → ∀ t ∈ a, t.2.1 ≤ l.1 := by
              intro a
              induction a with
              | nil => intro _ t m; cases m
              | cons u a ih =>
                intro hf t m
                rcases List.mem_cons.mp m with e1 | m
                · rw [e1]; exact Form.above hf l (List.mem_append_right _ (List.mem_singleton_self _))
                · exact ih hf.2.2 t m
            have := this (by rw [hd]; exact hR) t m
            omega
          simp only [at', ex', and_true]
          by_cases g1 : l.1 ≤ z
          · rw [below g1]
            have := okl.lt
            by_cases g2 : z < l.2.1
            · rw [if_pos ⟨g1, by omega⟩, if_pos ⟨g1, g2⟩]
              simp [c.2]
            · rw [if_neg (show ¬ (l.1 ≤ z ∧ z < l.2.1) by omega)]
              by_cases g3 : z < hi
              · rw [if_pos ⟨g1, g3⟩, if_pos ⟨by omega, g3⟩]; simp
              · rw [if_neg (by omega), if_neg (by omega)]; simp
          · have := okl.lt
            rw [if_neg (by omega), if_neg (by omega), if_neg (by omega)]
            simp
      · rw [if_neg c]
        refine ⟨form_append.mpr ⟨hR, form_one one, fun s t e1 e2 => ?_⟩, fun s m => ?_, fun z => ?_⟩
        · cases e2
          rw [e] at e1
          cases e1
          exact ⟨hb l (List.mem_of_getLast? e), fun q r => c ⟨q, r⟩⟩
        · rcases List.mem_append.mp m with m | m
          · have := hb s m; omega
          · have : s = (lo, hi, x) := by simpa using m
            rw [this]; exact Int.le_refl _
        · rw [at_append, at1]
def putAllM (isE : β → Bool) (R L : List (Slab β)) (b : Int) : List (Slab β) := match L with
  | [] => R
  | s :: r => putM isE R (max s.1 b) s.2.1 s.2.2 ++ r
theorem putM_last {isE : β → Bool} {R : List (Slab β)} {lo hi : Int} {x : β} (hx : isE x = false) : ∃ a, (putM isE R lo hi x).getLast? = some (a, hi, x) := by
  unfold putM
  rw [if_neg (by rw [hx]; simp)]
  cases R.getLast? with
  | none => exact ⟨lo, rfl⟩
  | some l =>
    dsimp only
    split
    · exact ⟨l.1, by simp⟩
    · exact ⟨lo, by simp⟩
theorem putAll_ok {isE : β → Bool} {R L : List (Slab β)} {b : Int} (hR : Form E G R) (hb : ∀ s ∈ R, s.2.1 ≤ b) (hL : Form E G L) (h1 : ∀ s, L.head? = some s → b < s.2.1) (hE : E b) (hG : ∀ x, G x → isE x = false) :
    Form E G (putAllM isE R L b) ∧ ∀ z, at' (putAllM isE R L b) z = (at' R z).or (if b ≤ z then at' L z else none) := by
  cases L with
  | nil => exact ⟨hR, fun z => by simp [putAllM, at']⟩
  | cons s r =>
    have hs := hL.1
    have hbs := h1 s rfl
    have lm : max s.1 b < s.2.1 := by have := hs.lt; omega
    have em : E (max s.1 b) := by
      rcases Int.le_total s.1 b with h | h
      · rw [Int.max_eq_right h]; exact hE
      · rw [Int.max_eq_left h]; exact hs.e1
    obtain ⟨p1, p2, p3⟩ := put_ok (isE := isE) (x := s.2.2) hR (fun t m => by have := hb t m; omega) lm em hs.e2 fun _ => hs.g
    have ex := hG _ hs.g
    obtain ⟨a, ea⟩ := putM_last (R := R) (lo := max s.1 b) (hi := s.2.1) ex
    refine ⟨form_append.mpr ⟨p1, hL.2.2, fun u t e1 e2 => ?_⟩, fun z => ?_⟩
    · rw [ea] at e1
      cases e1
      exact hL.2.1 t e2
    · show at' (putM isE R (max s.1 b) s.2.1 s.2.2 ++ r) z = _
      rw [at_append, p3, Option.or_assoc]
      congr 1
      have ab := Form.above hL
      simp only [at', ex, and_true]
      by_cases g : b ≤ z
      · rw [if_pos g]
        by_cases g1 : s.1 ≤ z ∧ z < s.2.1
        · rw [if_pos g1, if_pos ⟨by omega, g1.2⟩]; simp
        · rw [if_neg g1, if_neg (by omega)]; simp
      · rw [if_neg g, if_neg (by omega), at_above fun t m => by have := ab t m; omega]; simp
end
end SM
end
section
set_option autoImplicit true
namespace SM
section
variable {β : Type} [DecidableEq β] {E : Int → Prop} {G : β → Prop} {isE : β → Bool}
def comb (keeps : Bool × Bool) (rule : β → β → β) (isE : β → Bool) (x y : Option β) : Option β := match x, y with
  | none, none => none
  | some x, none => if keeps.1 = true then some x else none
  | none, some y => if keeps.2 = true then some y else none
  | some x, some y => if isE (rule x y) = true then none else some (rule x y)
theorem at_i {a : List (Slab β)} {i : Nat} {s : Slab β} {p z : Int} (ha : Form E G a) (hi : a[i]? = some s) (hb : ∀ t ∈ a.take i, t.2.1 ≤ p) (h1 : p ≤ z) (h2 : z < s.2.1) : at' a z = if s.1 ≤ z then some s.2.2 else none := by
  have hlt : i < a.length := (List.getElem?_eq_some_iff.mp hi).1
  have hs : a[i] = s := (List.getElem?_eq_some_iff.mp hi).2
  have e : a = a.take i ++ s :: a.drop (i + 1) := by
    rw [← hs, ← List.drop_eq_getElem_cons hlt, List.take_append_drop]
  have hf : Form E G (a.take i ++ s :: a.drop (i + 1)) := by rw [← e]; exact ha
  rw [form_append] at hf
  have ab := Form.above hf.2.1
  rw [e, at_append, at_below fun t m => by have := hb t m; omega]
  simp only [Option.none_or, at']
  by_cases g : s.1 ≤ z
  · rw [if_pos ⟨g, h2⟩, if_pos g]
  · rw [if_neg (by omega), if_neg g, at_above fun t m => by have := ab t m; have := hf.2.1.1.lt; omega]
theorem at_drop {a : List (Slab β)} {i : Nat} {p z : Int} (hb : ∀ t ∈ a.take i, t.2.1 ≤ p) (h1 : p ≤ z) : at' a z = at' (a.drop i) z := by
  conv => lhs; rw [← List.take_append_drop i a]
  rw [at_append, at_below fun t m => by have := hb t m; omega]
  simp
structure LO (keeps : Bool × Bool) (rule : β → β → β) (isE : β → Bool) (E : Int → Prop) (G : β → Prop) (a b R0 : List (Slab β)) (i j : Nat) (p : Int) (R : List (Slab β)) : Prop where
  fR : Form E G R
  bR : ∀ s ∈ R, s.2.1 ≤ p
  ep : E p
  il : i ≤ a.length
  jl : j ≤ b.length
  ai : ∀ s ∈ a.take i, s.2.1 ≤ p
  bj : ∀ s ∈ b.take j, s.2.1 ≤ p
  an : ∀ s, a[i]? = some s → p < s.2.1
  bn : ∀ s, b[j]? = some s → p < s.2.1
  eq : ∀ z, at' R z = (at' R0 z).or (if z < p then comb keeps rule isE (at' a z) (at' b z) else none)
theorem below_of_at {R : List (Slab β)} (h : Form E G R) {q : Int} (hz : ∀ z, q ≤ z → at' R z = none) : ∀ s ∈ R, s.2.1 ≤ q := by
  intro s m
  have ok := Form.mem h s m
  apply Classical.byContradiction
  intro hn
  have : at' R (s.2.1 - 1) ≠ none := by
    clear hz hn
    induction R with
    | nil => cases m
    | cons t r ih =>
      simp only [at']
      split
      · exact fun z => nomatch z
      · rename_i c
        rcases List.mem_cons.mp m with e | m
        · exfalso
          rw [← e] at c
          have := ok.lt
          omega
        · exact ih h.2.2 m
  exact this (hz _ (by omega))
theorem adv {a : List (Slab β)} (ha : Form E G a) {i : Nat} {s : Slab β} {p p' : Int} (hi : a[i]? = some s) (hb : ∀ t ∈ a.take i, t.2.1 ≤ p) (hp : p ≤ p') (hs : p' ≤ s.2.1) :
    (if s.2.1 ≤ p' then i + 1 else i) ≤ a.length ∧ (∀ t ∈ a.take (if s.2.1 ≤ p' then i + 1 else i), t.2.1 ≤ p') ∧ ∀ t, a[if s.2.1 ≤ p' then i + 1 else i]? = some t → p' < t.2.1 := by
  have hlt : i < a.length := (List.getElem?_eq_some_iff.mp hi).1
  have hs' : a[i] = s := (List.getElem?_eq_some_iff.mp hi).2
  by_cases c : s.2.1 ≤ p'
  · rw [if_pos c]
    refine ⟨hlt, fun t m => ?_, fun t ht => ?_⟩
    · rw [List.take_add_one, hi] at m
      rcases List.mem_append.mp m with m | m
      · have := hb t m; omega
      · have : t = s := by simpa using m
        rw [this]; exact c
    · have e : a = a.take i ++ s :: a.drop (i + 1) := by
        rw [← hs', ← List.drop_eq_getElem_cons hlt, List.take_append_drop]
      have hf : Form E G (a.take i ++ s :: a.drop (i + 1)) := by rw [← e]; exact ha
      rw [form_append] at hf
      have m : t ∈ a.drop (i + 1) := List.mem_of_getElem? (i := 0) (by rw [List.getElem?_drop]; simpa using ht)
      have := Form.above hf.2.1 t m
      have := (Form.mem ha t (List.mem_of_getElem? ht)).lt
      omega
  · rw [if_neg c]
    exact ⟨by omega, fun t m => by have := hb t m; omega, fun t ht => by rw [hi] at ht; cases ht; omega⟩
theorem min_E {x y : Int} (h1 : E x) (h2 : E y) : E (min x y) := by
  rcases Int.le_total x y with h | h
  · rw [Int.min_eq_left h]; exact h1
  · rw [Int.min_eq_right h]; exact h2
theorem max_E {x y : Int} (h1 : E x) (h2 : E y) : E (max x y) := by
  rcases Int.le_total x y with h | h
  · rw [Int.max_eq_right h]; exact h2
  · rw [Int.max_eq_left h]; exact h1
variable {keeps : Bool × Bool} {rule : β → β → β} {a b R0 R : List (Slab β)} {i j : Nat} {p : Int}
theorem LO.start (ha : Form E G a) (hb : Form E G b) (h0 : Form E G R0) {sa sb : Slab β} (e1 : a.head? = some sa) (e2 : b.head? = some sb) (hR : ∀ s ∈ R0, s.2.1 ≤ min sa.1 sb.1) : LO keeps rule isE E G a b R0 0 0 (min sa.1 sb.1) R0 := by
  cases a with
  | nil => cases e1
  | cons sa' ra =>
    cases b with
    | nil => cases e2
    | cons sb' rb =>
      cases e1; cases e2
      have la := ha.1.lt
      have lb := hb.1.lt
      refine ⟨h0, hR, min_E ha.1.e1 hb.1.e1, Nat.zero_le _, Nat.zero_le _, fun s m => by simp at m, fun s m => by simp at m, fun s e => ?_, fun s e => ?_, fun z => ?_⟩
      · simp at e; subst e; omega
      · simp at e; subst e; omega
      · split
        · have aa := Form.above ha
          have bb := Form.above hb
          rw [at_above (L := sa :: ra) fun t m => by
              rcases List.mem_cons.mp m with e | m
              · rw [e]; omega
              · have := aa t m; omega,
            at_above (L := sb :: rb) fun t m => by
              rcases List.mem_cons.mp m with e | m
              · rw [e]; omega
              · have := bb t m; omega]
          simp [comb]
        · simp
/-- one turn -/
theorem LO.step (ha : Form E G a) (hb : Form E G b) (hG : ∀ x, G x → isE x = false) (hr : ∀ x y, G x → G y → isE (rule x y) = false → G (rule x y)) (h : LO keeps rule isE E G a b R0 i j p R) {sa sb : Slab β} (e1 : a[i]? = some sa) (e2 : b[j]? = some sb) :
    (max sa.1 p < max sb.1 p → LO keeps rule isE E G a b R0 (if sa.2.1 ≤ min sa.2.1 (max sb.1 p) then i + 1 else i) (if sb.2.1 ≤ min sa.2.1 (max sb.1 p) then j + 1 else j) (min sa.2.1 (max sb.1 p)) (if keeps.1 = true then putM isE R (max sa.1 p) (min sa.2.1 (max sb.1 p)) sa.2.2 else R)) ∧
    (max sb.1 p < max sa.1 p → LO keeps rule isE E G a b R0 (if sa.2.1 ≤ min sb.2.1 (max sa.1 p) then i + 1 else i) (if sb.2.1 ≤ min sb.2.1 (max sa.1 p) then j + 1 else j) (min sb.2.1 (max sa.1 p)) (if keeps.2 = true then putM isE R (max sb.1 p) (min sb.2.1 (max sa.1 p)) sb.2.2 else R)) ∧
    (max sa.1 p = max sb.1 p → LO keeps rule isE E G a b R0 (if sa.2.1 ≤ min sa.2.1 sb.2.1 then i + 1 else i) (if sb.2.1 ≤ min sa.2.1 sb.2.1 then j + 1 else j) (min sa.2.1 sb.2.1) (putM isE R (max sa.1 p) (min sa.2.1 sb.2.1) (rule sa.2.2 sb.2.2))) := by
  have oa := Form.mem ha sa (List.mem_of_getElem? e1)
  have ob := Form.mem hb sb (List.mem_of_getElem? e2)
  have la := oa.lt
  have lb := ob.lt
  have pa := h.an sa e1
  have pb := h.bn sb e2
  have up : ∀ {p' : Int} {R' : List (Slab β)}, p ≤ p' → (∀ z, at' R' z = (at' R z).or (if p ≤ z ∧ z < p' then comb keeps rule isE (at' a z) (at' b z) else none)) → ∀ z, at' R' z = (at' R0 z).or (if z < p' then comb keeps rule isE (at' a z) (at' b z) else none) := fun {p' R'} hp hz z => by
    rw [hz, h.eq, Option.or_assoc]
    congr 1
    by_cases g : z < p
    · rw [if_pos g, if_neg (by omega), if_pos (by omega)]; simp
    · rw [if_neg g]
      by_cases g2 : z < p'
      · rw [if_pos ⟨by omega, g2⟩, if_pos g2]; simp
      · rw [if_neg (by omega), if_neg g2]; simp
  refine ⟨fun c => ?_, fun c => ?_, fun c => ?_⟩
  · have hp : p ≤ min sa.2.1 (max sb.1 p) := by omega
    obtain ⟨a1, a2, a3⟩ := adv ha e1 h.ai hp (by omega : min sa.2.1 (max sb.1 p) ≤ sa.2.1)
    obtain ⟨b1, b2, b3⟩ := adv hb e2 h.bj hp (by omega : min sa.2.1 (max sb.1 p) ≤ sb.2.1)
    have ep' : E (min sa.2.1 (max sb.1 p)) := min_E oa.e2 (max_E ob.e1 h.ep)
    obtain ⟨p1, p2, p3⟩ := put_ok (isE := isE) (x := sa.2.2) (lo := max sa.1 p) (hi := min sa.2.1 (max sb.1 p)) h.fR (fun s m => by have := h.bR s m; omega) (by omega) (max_E oa.e1 h.ep) ep' fun _ => oa.g
    have bz : ∀ z, p ≤ z → z < min sa.2.1 (max sb.1 p) → at' b z = none := fun z h1 h2 => by
      rw [at_i hb e2 h.bj h1 (by omega), if_neg (by omega)]
    have az : ∀ z, p ≤ z → z < min sa.2.1 (max sb.1 p) → at' a z = if sa.1 ≤ z then some sa.2.2 else none := fun z h1 h2 => at_i ha e1 h.ai h1 (by omega)
    have ex := hG _ oa.g
    by_cases k : keeps.1 = true
    · rw [if_pos k]
      refine ⟨p1, p2, ep', a1, b1, a2, b2, a3, b3, up hp fun z => ?_⟩
      rw [p3]
      congr 1
      by_cases g : p ≤ z ∧ z < min sa.2.1 (max sb.1 p)
      · rw [if_pos g, bz z g.1 g.2, az z g.1 g.2]
        by_cases g2 : sa.1 ≤ z
        · rw [if_pos ⟨by omega, g.2, ex⟩, if_pos g2]; simp [comb, k]
        · rw [if_neg (by omega), if_neg g2]; simp [comb]
      · rw [if_neg g, if_neg (by omega)]
    · rw [if_neg k]
      refine ⟨h.fR, fun s m => by have := h.bR s m; omega, ep', a1, b1, a2, b2, a3, b3, up hp fun z => ?_⟩
      by_cases g : p ≤ z ∧ z < min sa.2.1 (max sb.1 p)
      · rw [if_pos g, bz z g.1 g.2, az z g.1 g.2]
        by_cases g2 : sa.1 ≤ z
        · rw [if_pos g2]; simp [comb, k]
        · rw [if_neg g2]; simp [comb]
      · rw [if_neg g]; simp
  · have hp : p ≤ min sb.2.1 (max sa.1 p) := by omega
    obtain ⟨a1, a2, a3⟩ := adv ha e1 h.ai hp (by omega : min sb.2.1 (max sa.1 p) ≤ sa.2.1)
    obtain ⟨b1, b2, b3⟩ := adv hb e2 h.bj hp (by omega : min sb.2.1 (max sa.1 p) ≤ sb.2.1)
    have ep' : E (min sb.2.1 (max sa.1 p)) := min_E ob.e2 (max_E oa.e1 h.ep)
    obtain ⟨p1, p2, p3⟩ := put_ok (isE := isE) (x := sb.2.2) (lo := max sb.1 p) (hi := min sb.2.1 (max sa.1 p)) h.fR (fun s m => by have := h.bR s m; omega) (by omega) (max_E ob.e1 h.ep) ep' fun _ => ob.g
    have az : ∀ z, p ≤ z → z < min sb.2.1 (max sa.1 p) → at' a z = none := fun z h1 h2 => by
      rw [at_i ha e1 h.ai h1 (by omega), if_neg (by omega)]
    have bz : ∀ z, p ≤ z → z < min sb.2.1 (max sa.1 p) → at' b z = if sb.1 ≤ z then some sb.2.2 else none := fun z h1 h2 => at_i hb e2 h.bj h1 (by omega)
    have ex := hG _ ob.g
    by_cases k : keeps.2 = true
    · rw [if_pos k]
      refine ⟨p1, p2, ep', a1, b1, a2, b2, a3, b3, up hp fun z => ?_⟩
      rw [p3]
      congr 1
      by_cases g : p ≤ z ∧ z < min sb.2.1 (max sa.1 p)
      · rw [if_pos g, bz z g.1 g.2, az z g.1 g.2]
        by_cases g2 : sb.1 ≤ z
        · rw [if_pos ⟨by omega, g.2, ex⟩, if_pos g2]; simp [comb, k]
        · rw [if_neg (by omega), if_neg g2]; simp [comb]
      · rw [if_neg g, if_neg (by omega)]
    · rw [if_neg k]
      refine ⟨h.fR, fun s m => by have := h.bR s m; omega, ep', a1, b1, a2, b2, a3, b3, up hp fun z => ?_⟩
      by_cases g : p ≤ z ∧ z < min sb.2.1 (max sa.1 p)
      · rw [if_pos g, bz z g.1 g.2, az z g.1 g.2]
        by_cases g2 : sb.1 ≤ z
        · rw [if_pos g2]; simp [comb, k]
        · rw [if_neg g2]; simp [comb]
      · rw [if_neg g]; simp
  · have hp : p ≤ min sa.2.1 sb.2.1 := by omega
    obtain ⟨a1, a2, a3⟩ := adv ha e1 h.ai hp (by omega : min sa.2.1 sb.2.1 ≤ sa.2.1)
    obtain ⟨b1, b2, b3⟩ := adv hb e2 h.bj hp (by omega : min sa.2.1 sb.2.1 ≤ sb.2.1)
    have ep' : E (min sa.2.1 sb.2.1) := min_E oa.e2 ob.e2
    obtain ⟨p1, p2, p3⟩ := put_ok (isE := isE) (x := rule sa.2.2 sb.2.2) (lo := max sa.1 p) (hi := min sa.2.1 sb.2.1) h.fR (fun s m => by have := h.bR s m; omega) (by omega) (max_E oa.e1 h.ep) ep' fun q => hr _ _ oa.g ob.g q
    have bz : ∀ z, p ≤ z → z < min sa.2.1 sb.2.1 → at' b z = if sb.1 ≤ z then some sb.2.2 else none := fun z h1 h2 => at_i hb e2 h.bj h1 (by omega)
    have az : ∀ z, p ≤ z → z < min sa.2.1 sb.2.1 → at' a z = if sa.1 ≤ z then some sa.2.2 else none := fun z h1 h2 => at_i ha e1 h.ai h1 (by omega)
    refine ⟨p1, p2, ep', a1, b1, a2, b2, a3, b3, up hp fun z => ?_⟩
    rw [p3]
    congr 1
    by_cases g : p ≤ z ∧ z < min sa.2.1 sb.2.1
    · rw [if_pos g, bz z g.1 g.2, az z g.1 g.2]
      by_cases g2 : sa.1 ≤ z
      · rw [if_pos g2, if_pos (show sb.1 ≤ z by omega)]
        by_cases k : isE (rule sa.2.2 sb.2.2) = true
        · rw [if_neg (by rw [k]; simp)]; simp [comb, k]
        · rw [if_pos ⟨by omega, g.2, by simpa using k⟩]; simp [comb, k]
      · rw [if_neg (by omega), if_neg g2, if_neg (show ¬ sb.1 ≤ z by omega)]; simp [comb]
    · rw [if_neg g, if_neg (by omega)]
theorem LO.done (ha : Form E G a) (hb : Form E G b) (hG : ∀ x, G x → isE x = false) (h : LO keeps rule isE E G a b R0 i j p R) (hd : i = a.length ∨ j = b.length) {R1 R2 : List (Slab β)} (h1 : R1 = if keeps.1 = true then putAllM isE R (a.drop i) p else R) (h2 : R2 = if keeps.2 = true then putAllM isE R1 (b.drop j) p else R1) :
    Form E G R2 ∧ ∀ z, at' R2 z = (at' R0 z).or (comb keeps rule isE (at' a z) (at' b z)) := by
  have fa : Form E G (a.drop i) := (form_append.mp (by rw [List.take_append_drop]; exact ha : Form E G (a.take i ++ a.drop i))).2.1
  have fb : Form E G (b.drop j) := (form_append.mp (by rw [List.take_append_drop]; exact hb : Form E G (b.take j ++ b.drop j))).2.1
  have ha' : ∀ s, (a.drop i).head? = some s → p < s.2.1 := fun s e => h.an s (by rw [List.head?_drop] at e; exact e)
  have hb' : ∀ s, (b.drop j).head? = some s → p < s.2.1 := fun s e => h.bn s (by rw [List.head?_drop] at e; exact e)
  have A := putAll_ok (isE := isE) h.fR h.bR fa ha' h.ep hG
  have step1 : Form E G R1 ∧ (∀ z, at' R1 z = (at' R z).or (if keeps.1 = true ∧ p ≤ z then at' (a.drop i) z else none)) := by
    rw [h1]
    by_cases k : keeps.1 = true
    · rw [if_pos k]
      refine ⟨A.1, fun z => ?_⟩
      rw [A.2]
      simp [k]
    · rw [if_neg k]
      exact ⟨h.fR, fun z => by simp [k]⟩
  have fin : ∀ z, (at' R z).or ((if keeps.1 = true ∧ p ≤ z then at' (a.drop i) z else none).or (if keeps.2 = true ∧ p ≤ z then at' (b.drop j) z else none)) = (at' R0 z).or (comb keeps rule isE (at' a z) (at' b z)) := fun z => by
    rw [h.eq, Option.or_assoc]
    congr 1
    by_cases g : z < p
    · rw [if_pos g, if_neg (by omega), if_neg (by omega)]; simp
    · rw [if_neg g, at_drop h.ai (by omega : p ≤ z), at_drop h.bj (by omega : p ≤ z)]
      simp only [show p ≤ z by omega, and_true, Option.none_or]
      rcases hd with e | e
      · rw [show a.drop i = [] by rw [e]; exact List.drop_length]
        simp only [at', ite_self, Option.none_or]
        cases at' (b.drop j) z <;> simp [comb]
      · rw [show b.drop j = [] by rw [e]; exact List.drop_length]
        simp only [at', ite_self, Option.or_none]
        cases at' (a.drop i) z <;> simp [comb]
  rw [h2]
  by_cases k : keeps.2 = true
  · rw [if_pos k]
    by_cases eb : b.drop j = []
    · rw [eb]
      refine ⟨step1.1, fun z => ?_⟩
      show at' R1 z = _
      rw [← fin, step1.2, eb]
      simp [at']
    · -- then a is through
      have ea : a.drop i = [] := by
        rcases hd with e | e
        · rw [e]; exact List.drop_length
        · exact absurd (by rw [e]; exact List.drop_length) eb
      have eR : R1 = R := by
        rw [h1, ea]
        split <;> rfl
      have B := putAll_ok (isE := isE) h.fR h.bR fb hb' h.ep hG
      rw [eR]
      refine ⟨B.1, fun z => ?_⟩
      rw [B.2, ← fin, ea]
      simp [at', k]
  · rw [if_neg k]
    refine ⟨step1.1, fun z => ?_⟩
    rw [step1.2, ← fin]
    simp [k]
end
end SM
end
section
set_option autoImplicit true
set_option linter.unusedSectionVars false
namespace SM
section
variable {β : Type} [DecidableEq β] {E : Int → Prop} {G : β → Prop} {isE : β → Bool} {keeps : Bool × Bool} {rule : β → β → β} {a b R0 R : List (Slab β)} {i j : Nat} {p : Int}
theorem form_take (n : Nat) (h : Form E G a) : Form E G (a.take n) := (form_append.mp (by rw [List.take_append_drop]; exact h : Form E G (a.take n ++ a.drop n))).1
theorem form_drop (n : Nat) (h : Form E G a) : Form E G (a.drop n) := (form_append.mp (by rw [List.take_append_drop]; exact h : Form E G (a.take n ++ a.drop n))).2.1
/-- what is ahead ends below what is behind -/
theorem form_cross {x y : List (Slab β)} (h : Form E G (x ++ y)) : ∀ s ∈ x, ∀ t ∈ y, s.2.1 ≤ t.1 := by
  induction x with
  | nil => intro s m; cases m
  | cons u r ih =>
    intro s m t mt
    rcases List.mem_cons.mp m with e | m
    · rw [e]; exact Form.above h t (List.mem_append_right _ mt)
    · exact ih h.2.2 s m t mt
theorem comb_none_r (x : Option β) : comb keeps rule isE x none = if keeps.1 = true then x else none := by cases x <;> simp [comb]
theorem comb_none_l (x : Option β) : comb keeps rule isE none x = if keeps.2 = true then x else none := by cases x <;> simp [comb]
theorem or_nn {α : Type} {x y : Option α} (h : x.or y = none) : x = none ∧ y = none := by
  cases x with
  | none => exact ⟨rfl, by simpa using h⟩
  | some a => simp at h
theorem ite_at {c : Prop} [Decidable c] {l : List (Slab β)} {z : Int} (h : at' l z = none) : at' (if c then l else []) z = none := by
  by_cases hc : c
  · rw [if_pos hc]; exact h
  · rw [if_neg hc]; rfl
/-- combined: the parts between put together -/
theorem comb_done {a0 al b0 bl : Slab β} {fa ta fb tb : Nat} (ha : Form E G a) (hb : Form E G b) (hG : ∀ x, G x → isE x = false) (ea : a.head? = some a0) (eb : b.head? = some b0) (ela : a.getLast? = some al) (elb : b.getLast? = some bl)
    (fa1 : ∀ s ∈ a.take fa, s.2.1 ≤ max a0.1 b0.1) (fa2 : ∀ s ∈ a.drop fa, max a0.1 b0.1 < s.2.1) (fb1 : ∀ s ∈ b.take fb, s.2.1 ≤ max a0.1 b0.1) (fb2 : ∀ s ∈ b.drop fb, max a0.1 b0.1 < s.2.1)
    (lta : fa ≤ ta) (ltb : fb ≤ tb) (ta1 : ∀ s ∈ a.drop ta, min al.2.1 bl.2.1 ≤ s.1) (tb1 : ∀ s ∈ b.drop tb, min al.2.1 bl.2.1 ≤ s.1)
    {M R1 R2 : List (Slab β)} (hM : Form E G M) (eM : ∀ z, at' M z = (at' ((if keeps.1 = true then a.take fa else []) ++ (if keeps.2 = true then b.take fb else [])) z).or (comb keeps rule isE (at' ((a.drop fa).take (ta - fa)) z) (at' ((b.drop fb).take (tb - fb)) z)))
    (h1 : R1 = if keeps.1 = true then putAllM isE M (a.drop ta) ((a[ta]?.map (·.1)).getD 0) else M) (h2 : R2 = if keeps.2 = true then putAllM isE R1 (b.drop tb) ((b[tb]?.map (·.1)).getD 0) else R1) :
    Form E G R2 ∧ ∀ z, at' R2 z = comb keeps rule isE (at' a z) (at' b z) := by
  have spl : ∀ {l : List (Slab β)} {f t : Nat}, f ≤ t → l = l.take f ++ ((l.drop f).take (t - f) ++ l.drop t) := fun {l f t} h => by
    have e1 : l.drop t = (l.drop f).drop (t - f) := by rw [List.drop_drop]; congr 1; omega
    rw [e1, List.take_append_drop, List.take_append_drop]
  have sa := spl (l := a) lta
  have sb := spl (l := b) ltb
  have az : ∀ z, at' a z = (at' (a.take fa) z).or ((at' ((a.drop fa).take (ta - fa)) z).or (at' (a.drop ta) z)) := fun z => by
    conv => lhs; rw [sa]
    rw [at_append, at_append]
  have bz : ∀ z, at' b z = (at' (b.take fb) z).or ((at' ((b.drop fb).take (tb - fb)) z).or (at' (b.drop tb) z)) := fun z => by
    conv => lhs; rw [sb]
    rw [at_append, at_append]
  -- begins and ends
  have hda : ∀ s ∈ a, a0.1 ≤ s.1 := fun s m => by
    cases a with
    | nil => cases ea
    | cons u r =>
      cases ea
      rcases List.mem_cons.mp m with e | m
      · rw [e]; exact Int.le_refl _
      · have := Form.above ha s m; have := ha.1.lt; omega
  have hdb : ∀ s ∈ b, b0.1 ≤ s.1 := fun s m => by
    cases b with
    | nil => cases eb
    | cons u r =>
      cases eb
      rcases List.mem_cons.mp m with e | m
      · rw [e]; exact Int.le_refl _
      · have := Form.above hb s m; have := hb.1.lt; omega
  have lda := last_below ha ela
  have ldb := last_below hb elb
  have oka := Form.mem ha al (List.mem_of_getLast? ela)
  have okb := Form.mem hb bl (List.mem_of_getLast? elb)
  have memA : ∀ {s : Slab β}, s ∈ a.drop ta → s ∈ a := fun m => List.mem_of_mem_drop m
  -- who is empty
  have e1 : a0.1 ≤ b0.1 → b.take fb = [] := fun h => by
    cases q : b.take fb with
    | nil => rfl
    | cons s r =>
      have m : s ∈ b.take fb := by rw [q]; exact List.mem_cons_self
      have := fb1 s m
      have := hdb s (List.mem_of_mem_take m)
      have := (Form.mem hb s (List.mem_of_mem_take m)).lt
      omega
  have e2 : b0.1 ≤ a0.1 → a.take fa = [] := fun h => by
    cases q : a.take fa with
    | nil => rfl
    | cons s r =>
      have m : s ∈ a.take fa := by rw [q]; exact List.mem_cons_self
      have := fa1 s m
      have := hda s (List.mem_of_mem_take m)
      have := (Form.mem ha s (List.mem_of_mem_take m)).lt
      omega
  have a3z : ∀ z, z < min al.2.1 bl.2.1 → at' (a.drop ta) z = none := fun z h => at_above fun t m => by have := ta1 t m; omega
  have b3z : ∀ z, z < min al.2.1 bl.2.1 → at' (b.drop tb) z = none := fun z h => at_above fun t m => by have := tb1 t m; omega
  have a1z : ∀ z, max a0.1 b0.1 ≤ z → at' (a.take fa) z = none := fun z h => at_below fun t m => by have := fa1 t m; omega
  have b1z : ∀ z, max a0.1 b0.1 ≤ z → at' (b.take fb) z = none := fun z h => at_below fun t m => by have := fb1 t m; omega
  -- the whole, place by place
  have whole : ∀ z, ((at' M z).or (if keeps.1 = true then at' (a.drop ta) z else none)).or (if keeps.2 = true then at' (b.drop tb) z else none) = comb keeps rule isE (at' a z) (at' b z) := fun z => by
    rw [eM, at_append]
    by_cases g1 : z < max a0.1 b0.1
    · by_cases g2 : a0.1 ≤ b0.1
      · -- b has nothing here
        have bn : at' b z = none := at_above fun t m => by have := hdb t m; omega
        have bq := bz z
        rw [bn] at bq
        have b1 : at' (b.take fb) z = none := by rw [e1 g2]; rfl
        rw [b1, Option.none_or] at bq
        have ⟨b2, b3⟩ := or_nn bq.symm
        rw [bn, b2, b3, comb_none_r, comb_none_r, e1 g2, az z]
        by_cases k : keeps.1 = true
        · simp [k, at', Option.or_assoc]
        · simp [k, at']
      · have an : at' a z = none := at_above fun t m => by have := hda t m; omega
        have aq := az z
        rw [an] at aq
        have a1 : at' (a.take fa) z = none := by rw [e2 (by omega)]; rfl
        rw [a1, Option.none_or] at aq
        have ⟨a2, a3⟩ := or_nn aq.symm
        rw [an, a2, a3, comb_none_l, comb_none_l, e2 (by omega), bz z]
        by_cases k : keeps.2 = true
        · simp [k, at', Option.or_assoc]
        · simp [k, at']
    · have o1 : at' (if keeps.1 = true then a.take fa else []) z = none := ite_at (a1z z (by omega))
      have o2 : at' (if keeps.2 = true then b.take fb else []) z = none := ite_at (b1z z (by omega))
      rw [o1, o2, az z, bz z, a1z z (by omega), b1z z (by omega)]
      simp only [Option.none_or]
      by_cases g2 : z < min al.2.1 bl.2.1
      · rw [a3z z g2, b3z z g2]; simp
      · by_cases g3 : al.2.1 ≤ bl.2.1
        · have an : at' a z = none := at_below fun t m => by have := lda t m; omega
          have aq := az z
          rw [an, a1z z (by omega), Option.none_or] at aq
          have ⟨a2, a3⟩ := or_nn aq.symm
          rw [a2, a3]
          simp only [Option.or_none, comb_none_l, ite_self]
          by_cases k : keeps.2 = true
          · simp [k]
          · simp [k]
        · have bn : at' b z = none := at_below fun t m => by have := ldb t m; omega
          have bq := bz z
          rw [bn, b1z z (by omega), Option.none_or] at bq
          have ⟨b2, b3⟩ := or_nn bq.symm
          rw [b2, b3]
          simp only [Option.or_none, comb_none_r, ite_self]
          by_cases k : keeps.1 = true
          · simp [k]
          · simp [k]
  -- the ends
  have fa3 : Form E G (a.drop ta) := form_drop ta ha
  have fb3 : Form E G (b.drop tb) := form_drop tb hb
  have aft : ∀ {l : List (Slab β)} {t : Nat} {s : Slab β}, (l.drop t).head? = some s → (l[t]?.map (·.1)).getD 0 = s.1 := fun {l t s} h => by
    rw [List.head?_drop] at h
    rw [h]; rfl
  have Mhi : ∀ q, (∀ z, q ≤ z → at' M z = none) → ∀ s ∈ M, s.2.1 ≤ q := fun q hz => below_of_at hM hz
  have step1 : Form E G R1 ∧ ∀ z, at' R1 z = (at' M z).or (if keeps.1 = true then at' (a.drop ta) z else none) := by
    rw [h1]
    by_cases k : keeps.1 = true
    · rw [if_pos k]
      cases q : a.drop ta with
      | nil => exact ⟨hM, fun z => by simp [putAllM, at', k]⟩
      | cons s r =>
        have hs : (a.drop ta).head? = some s := by rw [q]; rfl
        rw [aft hs]
        have ms : s ∈ a.drop ta := by rw [q]; exact List.mem_cons_self
        have hq := ta1 s ms
        have ls := (Form.mem ha s (memA ms)).lt
        have hal := lda s (memA ms)
        have below : ∀ u ∈ M, u.2.1 ≤ s.1 := Mhi s.1 fun z hz => by
          have w := whole z
          -- b is through, and the parts of a ahead too
          have bn : at' b z = none := at_below fun t m => by have := ldb t m; omega
          have cr := form_cross (x := a.take ta) (y := a.drop ta) (by rw [List.take_append_drop]; exact ha)
          have a12 : at' (a.take ta) z = none := at_below fun t m => by have := cr t m s ms; omega
          have et : a.take ta = a.take fa ++ (a.drop fa).take (ta - fa) := by
            rw [show ta = fa + (ta - fa) by omega, List.take_add]
            congr 2
            omega
          rw [et, at_append] at a12
          have ⟨a1, a2⟩ := or_nn a12
          have bq := bz z
          rw [bn] at bq
          have ⟨b1, b23⟩ := or_nn bq.symm
          have ⟨b2, _⟩ := or_nn b23
          rw [eM, at_append, a2, b2]
          have o1 : at' (if keeps.1 = true then a.take fa else []) z = none := ite_at (a1)
          have o2 : at' (if keeps.2 = true then b.take fb else []) z = none := ite_at (b1)
          rw [o1, o2]
          simp [comb]
        have A := putAll_ok (isE := isE) (L := a.drop ta) (b := s.1) hM below fa3 (fun t e => by rw [hs] at e; cases e; exact ls) (Form.mem ha s (memA ms)).e1 hG
        rw [← q]
        refine ⟨A.1, fun z => ?_⟩
        rw [A.2, if_pos k]
        congr 1
        by_cases hz : s.1 ≤ z
        · rw [if_pos hz]
        · rw [if_neg hz]
          symm
          refine at_above fun t m => ?_
          rw [q] at m
          rcases List.mem_cons.mp m with e | m
          · rw [e]; omega
          · have := Form.above (by rw [← q]; exact fa3 : Form E G (s :: r)) t m; omega
    · rw [if_neg k]
      exact ⟨hM, fun z => by simp [k]⟩
  rw [h2]
  by_cases k : keeps.2 = true
  · rw [if_pos k]
    cases q : b.drop tb with
    | nil =>
      refine ⟨step1.1, fun z => ?_⟩
      show at' R1 z = _
      rw [← whole, step1.2, q]
      simp [at']
    | cons s r =>
      have hs : (b.drop tb).head? = some s := by rw [q]; rfl
      rw [aft hs]
      have ms : s ∈ b.drop tb := by rw [q]; exact List.mem_cons_self
      have mb : s ∈ b := List.mem_of_mem_drop ms
      have hq := tb1 s ms
      have ls := (Form.mem hb s mb).lt
      have hbl := ldb s mb
      have below : ∀ u ∈ R1, u.2.1 ≤ s.1 := below_of_at step1.1 fun z hz => by
        have an : at' a z = none := at_below fun t m => by have := lda t m; omega
        have aq := az z
        rw [an] at aq
        have ⟨a1, a23⟩ := or_nn aq.symm
        have ⟨a2, a3⟩ := or_nn a23
        have cr := form_cross (x := b.take tb) (y := b.drop tb) (by rw [List.take_append_drop]; exact hb)
        have b12 : at' (b.take tb) z = none := at_below fun t m => by have := cr t m s ms; omega
        have et : b.take tb = b.take fb ++ (b.drop fb).take (tb - fb) := by
          rw [show tb = fb + (tb - fb) by omega, List.take_add]
          congr 2
          omega
        rw [et, at_append] at b12
        have ⟨b1, b2⟩ := or_nn b12
        rw [step1.2, eM, at_append, a2, b2, a3]
        have o1 : at' (if keeps.1 = true then a.take fa else []) z = none := ite_at (a1)
        have o2 : at' (if keeps.2 = true then b.take fb else []) z = none := ite_at (b1)
        rw [o1, o2]
        simp [comb]
      have B := putAll_ok (isE := isE) (L := b.drop tb) (b := s.1) step1.1 below fb3 (fun t e => by rw [hs] at e; cases e; exact ls) (Form.mem hb s mb).e1 hG
      rw [← q]
      refine ⟨B.1, fun z => ?_⟩
      rw [B.2, ← whole, step1.2, if_pos k]
      congr 1
      by_cases hz : s.1 ≤ z
      · rw [if_pos hz]
      · rw [if_neg hz]
        symm
        refine at_above fun t m => ?_
        rw [q] at m
        rcases List.mem_cons.mp m with e | m
        · rw [e]; omega
        · have := Form.above (by rw [← q]; exact fb3 : Form E G (s :: r)) t m; omega
  · rw [if_neg k]
    refine ⟨step1.1, fun z => ?_⟩
    rw [← whole, step1.2]
    simp [k]
end
end SM
end
section
set_option autoImplicit true
namespace SM
section
variable {β : Type} [DecidableEq β] {E : Int → Prop} {G : β → Prop} {isE : β → Bool} {keeps : Bool × Bool} {rule : β → β → β} {a b : List (Slab β)} {a0 b0 : Slab β} {fa ta fb tb : Nat}
def pre (keeps : Bool × Bool) (a b : List (Slab β)) (fa fb : Nat) : List (Slab β) := (if keeps.1 = true then a.take fa else []) ++ (if keeps.2 = true then b.take fb else [])
theorem first_le (ha : Form E G a) (ea : a.head? = some a0) : ∀ s ∈ a, a0.1 ≤ s.1 := fun s m => by
  cases a with
  | nil => cases ea
  | cons u r =>
    cases ea
    rcases List.mem_cons.mp m with e | m
    · rw [e]; exact Int.le_refl _
    · have := Form.above ha s m; have := ha.1.lt; omega
/-- the one that begins later has none ahead -/
theorem take_nil_of (hb : Form E G b) (eb : b.head? = some b0) (h : ∀ s ∈ b.take fb, s.2.1 ≤ b0.1) : b.take fb = [] := by
  cases e : b.take fb with
  | nil => rfl
  | cons s r =>
    have m : s ∈ b.take fb := by rw [e]; exact List.mem_cons_self
    have h1 := h s m
    have h2 := first_le hb eb s (List.mem_of_mem_take m)
    have h3 := (Form.mem hb s (List.mem_of_mem_take m)).lt
    omega
theorem pre_one (ha : Form E G a) (hb : Form E G b) (ea : a.head? = some a0) (eb : b.head? = some b0) (fa1 : ∀ s ∈ a.take fa, s.2.1 ≤ max a0.1 b0.1) (fb1 : ∀ s ∈ b.take fb, s.2.1 ≤ max a0.1 b0.1) :
    (b.take fb = [] ∧ a0.1 ≤ b0.1) ∨ (a.take fa = [] ∧ b0.1 ≤ a0.1) := by
  rcases Int.le_total a0.1 b0.1 with h | h
  · exact .inl ⟨take_nil_of hb eb fun s m => by have := fb1 s m; omega, h⟩
  · exact .inr ⟨take_nil_of ha ea fun s m => by have := fa1 s m; omega, h⟩
theorem pre_form (ha : Form E G a) (hb : Form E G b) (ea : a.head? = some a0) (eb : b.head? = some b0) (fa1 : ∀ s ∈ a.take fa, s.2.1 ≤ max a0.1 b0.1) (fb1 : ∀ s ∈ b.take fb, s.2.1 ≤ max a0.1 b0.1) : Form E G (pre keeps a b fa fb) := by
  unfold pre
  rcases pre_one ha hb ea eb fa1 fb1 with ⟨e, _⟩ | ⟨e, _⟩
  · rw [e]
    have : (if keeps.2 = true then ([] : List (Slab β)) else []) = [] := by split <;> rfl
    rw [this, List.append_nil]
    split
    · exact form_take fa ha
    · trivial
  · rw [e]
    have : (if keeps.1 = true then ([] : List (Slab β)) else []) = [] := by split <;> rfl
    rw [this, List.nil_append]
    split
    · exact form_take fb hb
    · trivial
theorem head_drop {α : Type} {l : List α} {i : Nat} {x : α} (e : l[i]? = some x) : l.drop i = x :: l.drop (i + 1) := by
  have hi : i < l.length := (List.getElem?_eq_some_iff.mp e).1
  rw [List.drop_eq_getElem_cons hi, (List.getElem?_eq_some_iff.mp e).2]
theorem take_end (ha : Form E G a) {s : Slab β} (e : a[fa]? = some s) : ∀ t ∈ a.take fa, t.2.1 ≤ s.1 := fun t m =>
  form_cross (by rw [List.take_append_drop]; exact ha : Form E G (a.take fa ++ a.drop fa)) t m s (by rw [head_drop e]; exact List.mem_cons_self)
theorem pre_below_a (ha : Form E G a) (hb : Form E G b) (ea : a.head? = some a0) (eb : b.head? = some b0) (fa1 : ∀ s ∈ a.take fa, s.2.1 ≤ max a0.1 b0.1) (fb1 : ∀ s ∈ b.take fb, s.2.1 ≤ max a0.1 b0.1) {s : Slab β} (e : a[fa]? = some s) :
    ∀ t ∈ pre keeps a b fa fb, t.2.1 ≤ s.1 := fun t m => by
  have hs := first_le ha ea s (List.mem_of_getElem? e)
  rcases List.mem_append.mp m with m | m
  · split at m
    · exact take_end ha e t m
    · cases m
  · split at m
    · rcases pre_one ha hb ea eb fa1 fb1 with ⟨z, _⟩ | ⟨_, z⟩
      · rw [z] at m; cases m
      · have := fb1 t m; omega
    · cases m
theorem pre_below_b (ha : Form E G a) (hb : Form E G b) (ea : a.head? = some a0) (eb : b.head? = some b0) (fa1 : ∀ s ∈ a.take fa, s.2.1 ≤ max a0.1 b0.1) (fb1 : ∀ s ∈ b.take fb, s.2.1 ≤ max a0.1 b0.1) {s : Slab β} (e : b[fb]? = some s) :
    ∀ t ∈ pre keeps a b fa fb, t.2.1 ≤ s.1 := fun t m => by
  have hs := first_le hb eb s (List.mem_of_getElem? e)
  rcases List.mem_append.mp m with m | m
  · split at m
    · rcases pre_one ha hb ea eb fa1 fb1 with ⟨_, z⟩ | ⟨z, _⟩
      · have := fa1 t m; omega
      · rw [z] at m; cases m
    · cases m
  · split at m
    · exact take_end hb e t m
    · cases m
theorem head_mid {α : Type} {l : List α} {f t : Nat} {x : α} (h : f < t) (e : l[f]? = some x) : ((l.drop f).take (t - f)).head? = some x := by
  rw [head_drop e]
  cases k : t - f with
  | zero => omega
  | succ n => rfl
theorem at_from {L : List (Slab β)} (h : Form E G L) {s : Slab β} (e : L.head? = some s) (z : Int) : (if s.1 ≤ z then at' L z else none) = at' L z := by
  by_cases c : s.1 ≤ z
  · rw [if_pos c]
  · rw [if_neg c, at_above fun t m => by have := first_le h e t m; omega]
/-- only slabs of a between -/
theorem mid_a (ha : Form E G a) (hb : Form E G b) (hG : ∀ x, G x → isE x = false) (ea : a.head? = some a0) (eb : b.head? = some b0) (fa1 : ∀ s ∈ a.take fa, s.2.1 ≤ max a0.1 b0.1) (fb1 : ∀ s ∈ b.take fb, s.2.1 ≤ max a0.1 b0.1) (hn : tb ≤ fb) {s : Slab β} (hf : fa < ta) (e : a[fa]? = some s) (hk : keeps.1 = true) :
    Form E G (putAllM isE (pre keeps a b fa fb) ((a.drop fa).take (ta - fa)) s.1) ∧ ∀ z, at' (putAllM isE (pre keeps a b fa fb) ((a.drop fa).take (ta - fa)) s.1) z = (at' (pre keeps a b fa fb) z).or (comb keeps rule isE (at' ((a.drop fa).take (ta - fa)) z) (at' ((b.drop fb).take (tb - fb)) z)) := by
  have hh := head_mid (l := a) hf e
  have hL : Form E G ((a.drop fa).take (ta - fa)) := form_take _ (form_drop _ ha)
  have okS := Form.mem ha s (List.mem_of_getElem? e)
  obtain ⟨p1, p2⟩ := putAll_ok (isE := isE) (pre_form (keeps := keeps) ha hb ea eb fa1 fb1) (pre_below_a ha hb ea eb fa1 fb1 e) hL (fun u q => by rw [hh] at q; cases q; exact okS.lt) okS.e1 hG
  refine ⟨p1, fun z => ?_⟩
  rw [p2, at_from hL hh, show tb - fb = 0 by omega, List.take_zero]
  simp only [at']
  rw [comb_none_r, if_pos hk]
theorem mid_b (ha : Form E G a) (hb : Form E G b) (hG : ∀ x, G x → isE x = false) (ea : a.head? = some a0) (eb : b.head? = some b0) (fa1 : ∀ s ∈ a.take fa, s.2.1 ≤ max a0.1 b0.1) (fb1 : ∀ s ∈ b.take fb, s.2.1 ≤ max a0.1 b0.1) (hn : ta ≤ fa) {s : Slab β} (hf : fb < tb) (e : b[fb]? = some s) (hk : keeps.2 = true) :
    Form E G (putAllM isE (pre keeps a b fa fb) ((b.drop fb).take (tb - fb)) s.1) ∧ ∀ z, at' (putAllM isE (pre keeps a b fa fb) ((b.drop fb).take (tb - fb)) s.1) z = (at' (pre keeps a b fa fb) z).or (comb keeps rule isE (at' ((a.drop fa).take (ta - fa)) z) (at' ((b.drop fb).take (tb - fb)) z)) := by
  have hh := head_mid (l := b) hf e
  have hL : Form E G ((b.drop fb).take (tb - fb)) := form_take _ (form_drop _ hb)
  have okS := Form.mem hb s (List.mem_of_getElem? e)
  obtain ⟨p1, p2⟩ := putAll_ok (isE := isE) (pre_form (keeps := keeps) ha hb ea eb fa1 fb1) (pre_below_b ha hb ea eb fa1 fb1 e) hL (fun u q => by rw [hh] at q; cases q; exact okS.lt) okS.e1 hG
  refine ⟨p1, fun z => ?_⟩
  rw [p2, at_from hL hh, show ta - fa = 0 by omega, List.take_zero]
  simp only [at']
  rw [comb_none_l, if_pos hk]
/-- nothing is kept between -/
theorem mid_no (ha : Form E G a) (hb : Form E G b) (ea : a.head? = some a0) (eb : b.head? = some b0) (fa1 : ∀ s ∈ a.take fa, s.2.1 ≤ max a0.1 b0.1) (fb1 : ∀ s ∈ b.take fb, s.2.1 ≤ max a0.1 b0.1) (h1 : ta ≤ fa ∨ tb ≤ fb) (h2 : keeps.1 = true → ta ≤ fa) (h3 : keeps.2 = true → tb ≤ fb) :
    Form E G (pre keeps a b fa fb) ∧ ∀ z, at' (pre keeps a b fa fb) z = (at' (pre keeps a b fa fb) z).or (comb keeps rule isE (at' ((a.drop fa).take (ta - fa)) z) (at' ((b.drop fb).take (tb - fb)) z)) := by
  refine ⟨pre_form ha hb ea eb fa1 fb1, fun z => ?_⟩
  have : comb keeps rule isE (at' ((a.drop fa).take (ta - fa)) z) (at' ((b.drop fb).take (tb - fb)) z) = none := by
    rcases h1 with h | h
    · rw [show ta - fa = 0 by omega, List.take_zero]
      simp only [at']
      rw [comb_none_l]
      split
      · rename_i k
        have := h3 k
        rw [show tb - fb = 0 by omega, List.take_zero]; rfl
      · rfl
    · rw [show tb - fb = 0 by omega, List.take_zero]
      simp only [at']
      rw [comb_none_r]
      split
      · rename_i k
        have := h2 k
        rw [show ta - fa = 0 by omega, List.take_zero]; rfl
      · rfl
  rw [this]; simp
end
end SM
end
section
set_option autoImplicit true
set_option linter.all false
namespace SM
section
variable {β γ : Type} [DecidableEq β] {E : Int → Prop} {G : β → Prop} {isE : β → Bool} {keeps : Bool × Bool} {rule : β → β → β} {a b R0 R : List (Slab β)}
/-- the going through comes to an end -/
theorem LO.run (ha : Form E G a) (hb : Form E G b) (hG : ∀ x, G x → isE x = false) (hr : ∀ x y, G x → G y → isE (rule x y) = false → G (rule x y)) : ∀ (m i j d : Nat) (p : Int) (R : List (Slab β)), LO keeps rule isE E G a b R0 i j p R → m = 2 * ((a.length - i) + (b.length - j)) + d → d ≤ 1 →
    (d = 0 → ∀ sa sb, a[i]? = some sa → b[j]? = some sb → max sa.1 p = max sb.1 p) → ∃ i' j' p' R', LO keeps rule isE E G a b R0 i' j' p' R' ∧ (i' = a.length ∨ j' = b.length) := by
  intro m
  induction m using Nat.strongRecOn with
  | _ m ih =>
    intro i j d p R lo hm hd hd0
    by_cases hi : i < a.length
    · by_cases hj : j < b.length
      · obtain ⟨sa, hsa⟩ : ∃ s, a[i]? = some s := ⟨_, List.getElem?_eq_getElem hi⟩
        obtain ⟨sb, hsb⟩ : ∃ s, b[j]? = some s := ⟨_, List.getElem?_eq_getElem hj⟩
        obtain ⟨st1, st2, st3⟩ := LO.step ha hb hG hr lo hsa hsb
        have pa := lo.an sa hsa
        have pb := lo.bn sb hsb
        have la := (Form.mem ha sa (List.mem_of_getElem? hsa)).lt
        have lb := (Form.mem hb sb (List.mem_of_getElem? hsb)).lt
        have next : ∀ (R' : List (Slab β)) (p' : Int), LO keeps rule isE E G a b R0 (if sa.2.1 ≤ p' then i + 1 else i) (if sb.2.1 ≤ p' then j + 1 else j) p' R' → (sa.2.1 ≤ p' ∨ sb.2.1 ≤ p' ∨ (d = 1 ∧ max sa.1 p' = max sb.1 p')) → ∃ i' j' p' R', LO keeps rule isE E G a b R0 i' j' p' R' ∧ (i' = a.length ∨ j' = b.length) := by
          intro R' p' l' pr
          by_cases c1 : sa.2.1 ≤ p'
          · refine ih _ ?_ _ _ 1 p' R' l' rfl (Nat.le_refl _) (fun z => nomatch z)
            rw [if_pos c1]; split <;> omega
          · by_cases c2 : sb.2.1 ≤ p'
            · refine ih _ ?_ _ _ 1 p' R' l' rfl (Nat.le_refl _) (fun z => nomatch z)
              rw [if_neg c1, if_pos c2]; omega
            · rcases pr with h | h | ⟨h1, h2⟩
              · exact absurd h c1
              · exact absurd h c2
              · refine ih _ ?_ _ _ 0 p' R' l' rfl (by omega) (fun _ ta tb e1 e2 => ?_)
                · rw [if_neg c1, if_neg c2]; omega
                · rw [if_neg c1, hsa] at e1
                  rw [if_neg c2, hsb] at e2
                  cases e1; cases e2
                  exact h2
        have d1 : max sa.1 p ≠ max sb.1 p → d = 1 := fun h => by
          rcases Nat.lt_or_ge d 1 with h' | h'
          · exact absurd (hd0 (by omega) sa sb hsa hsb) h
          · omega
        by_cases c1 : max sa.1 p < max sb.1 p
        · refine next _ _ (st1 c1) ?_
          by_cases z : sa.2.1 ≤ max sb.1 p
          · exact .inl (by omega)
          · exact .inr (.inr ⟨d1 (by omega), by omega⟩)
        · by_cases c2 : max sb.1 p < max sa.1 p
          · refine next _ _ (st2 c2) ?_
            by_cases z : sb.2.1 ≤ max sa.1 p
            · exact .inr (.inl (by omega))
            · exact .inr (.inr ⟨d1 (by omega), by omega⟩)
          · refine next _ _ (st3 (by omega)) ?_
            by_cases z : sa.2.1 ≤ sb.2.1
            · exact .inl (by omega)
            · exact .inr (.inl (by omega))
      · exact ⟨i, j, p, R, lo, .inr (by have := lo.jl; omega)⟩
    · exact ⟨i, j, p, R, lo, .inl (by have := lo.il; omega)⟩
/-- there is a combination -/
theorem comb_exists (keeps : Bool × Bool) (ha : Form E G a) (hb : Form E G b) (hG : ∀ x, G x → isE x = false) (hr : ∀ x y, G x → G y → isE (rule x y) = false → G (rule x y)) : ∃ R, Form E G R ∧ ∀ z, at' R z = comb keeps rule isE (at' a z) (at' b z) := by
  cases a with
  | nil =>
    refine ⟨if keeps.2 = true then b else [], ?_, fun z => ?_⟩
    · split
      · exact hb
      · trivial
    · rw [show at' ([] : List (Slab β)) z = none from rfl, comb_none_l]
      split <;> rfl
  | cons a0 ra =>
    cases b with
    | nil =>
      refine ⟨if keeps.1 = true then a0 :: ra else [], ?_, fun z => ?_⟩
      · split
        · exact ha
        · trivial
      · rw [show at' ([] : List (Slab β)) z = none from rfl, comb_none_r]
        split <;> rfl
    | cons b0 rb =>
      have st := LO.start (keeps := keeps) (rule := rule) (isE := isE) (R0 := []) ha hb trivial rfl rfl (fun s m => nomatch m)
      obtain ⟨i, j, p, R, lo, hij⟩ := LO.run ha hb hG hr _ 0 0 1 _ _ st rfl (Nat.le_refl _) (fun z => nomatch z)
      obtain ⟨f1, f2⟩ := LO.done ha hb hG lo hij rfl rfl
      exact ⟨_, f1, fun z => by rw [f2]; rfl⟩
/-! ### the one form of what stands at the numbers -/
open Classical in
noncomputable def canon (p : Int → Option β) : List (Slab β) := if h : ∃ R, Form (fun _ => True) (fun _ => True) R ∧ ∀ z, at' R z = p z then Classical.choose h else []
theorem canon_eq {p : Int → Option β} (h : Form E G R) (hz : ∀ z, at' R z = p z) : canon p = R := by
  have hx : ∃ R, Form (fun _ => True) (fun _ => True) R ∧ ∀ z, at' R z = p z := ⟨R, Form.imp (fun _ _ => trivial) (fun _ _ => trivial) h, hz⟩
  unfold canon
  rw [dif_pos hx]
  have hs := Classical.choose_spec hx
  exact ext hs.1 (Form.imp (fun _ _ => trivial) (fun _ _ => trivial) h) fun z => by rw [hs.2, hz]
noncomputable def combF (keeps : Bool × Bool) (rule : β → β → β) (isE : β → Bool) (a b : List (Slab β)) : List (Slab β) := canon fun z => comb keeps rule isE (at' a z) (at' b z)
theorem combF_ok (keeps : Bool × Bool) (ha : Form E G a) (hb : Form E G b) (hG : ∀ x, G x → isE x = false) (hr : ∀ x y, G x → G y → isE (rule x y) = false → G (rule x y)) : Form E G (combF keeps rule isE a b) ∧ ∀ z, at' (combF keeps rule isE a b) z = comb keeps rule isE (at' a z) (at' b z) := by
  obtain ⟨R, h1, h2⟩ := comb_exists keeps ha hb hG hr
  have e : combF keeps rule isE a b = R := canon_eq h1 h2
  rw [e]
  exact ⟨h1, h2⟩
/-! ### cells -/
def lift (C : β → γ → Bool) : Option β → γ → Bool
  | some x, p => C x p
  | none, _ => false
theorem at_good (h : Form E G R) {z : Int} {x : β} (e : at' R z = some x) : G x := by
  obtain ⟨s, m, _, _, rfl⟩ := at_some e
  exact (Form.mem h s m).g
theorem comb_cells {C : β → γ → Bool} {op : Bool → Bool → Bool} (h0 : op false false = false) (k1 : keeps.1 = op true false) (k2 : keeps.2 = op false true) (hrule : ∀ x y, G x → G y → ∀ p, C (rule x y) p = op (C x p) (C y p)) (hE : ∀ x, isE x = true → ∀ p, C x p = false)
    {x y : Option β} (hx : ∀ u, x = some u → G u) (hy : ∀ u, y = some u → G u) (p : γ) : lift C (comb keeps rule isE x y) p = op (lift C x p) (lift C y p) := by
  cases x with
  | none =>
    cases y with
    | none => exact h0.symm
    | some v =>
      show lift C (if keeps.2 = true then some v else none) p = op false (C v p)
      rw [k2]
      cases h : op false true with
      | true => cases hc : C v p <;> simp [lift, hc, h, h0]
      | false => cases hc : C v p <;> simp [lift, h, h0]
  | some u =>
    cases y with
    | none =>
      show lift C (if keeps.1 = true then some u else none) p = op (C u p) false
      rw [k1]
      cases h : op true false with
      | true => cases hc : C u p <;> simp [lift, hc, h, h0]
      | false => cases hc : C u p <;> simp [lift, h, h0]
    | some v =>
      show lift C (if isE (rule u v) = true then none else some (rule u v)) p = op (C u p) (C v p)
      rw [← hrule u v (hx u rfl) (hy v rfl)]
      split
      · rename_i h
        rw [hE _ h]; rfl
      · rfl
/-- same cells, same form -/
theorem cells_ext {C : β → γ → Bool} (ne : ∀ x, G x → ∃ p, C x p = true) (inj : ∀ x y, G x → G y → (∀ p, C x p = C y p) → x = y) (ha : Form E G a) (hb : Form E G b) (h : ∀ z p, lift C (at' a z) p = lift C (at' b z) p) : a = b := by
  refine ext ha hb fun z => ?_
  cases ea : at' a z with
  | none =>
    cases eb : at' b z with
    | none => rfl
    | some y =>
      obtain ⟨p, hp⟩ := ne y (at_good hb eb)
      have := h z p
      rw [ea, eb] at this
      have this : false = C y p := this
      rw [hp] at this
      cases this
  | some x =>
    cases eb : at' b z with
    | none =>
      obtain ⟨p, hp⟩ := ne x (at_good ha ea)
      have := h z p
      rw [ea, eb] at this
      have this : C x p = false := this
      rw [hp] at this
      cases this
    | some y =>
      rw [inj x y (at_good ha ea) (at_good hb eb) fun p => by
        have := h z p
        rw [ea, eb] at this
        exact this]
theorem cells_ne {C : β → γ → Bool} (ne : ∀ x, G x → ∃ p, C x p = true) (ha : Form E G a) (h : a ≠ []) : ∃ z p, lift C (at' a z) p = true := by
  cases a with
  | nil => exact absurd rfl h
  | cons s r =>
    obtain ⟨p, hp⟩ := ne s.2.2 ha.1.g
    refine ⟨s.1, p, ?_⟩
    have : at' (s :: r) s.1 = some s.2.2 := by
      simp only [at']
      rw [if_pos ⟨Int.le_refl _, ha.1.lt⟩]
    rw [this]
    exact hp
end
/-! ### rows, layers, solids -/
abbrev Row := List (Slab Unit)
abbrev Lay := List (Slab Row)
abbrev Sol := List (Slab Lay)
instance decRow : DecidableEq Row := inferInstanceAs (DecidableEq (List (Int × Int × Unit)))
instance decSR : DecidableEq (Slab Row) := inferInstanceAs (DecidableEq (Int × Int × Row))
instance decLay : DecidableEq Lay := inferInstanceAs (DecidableEq (List (Slab Row)))
instance decSL : DecidableEq (Slab Lay) := inferInstanceAs (DecidableEq (Int × Int × Lay))
instance decLay' : DecidableEq (List (Slab Row)) := decLay
instance decSol : DecidableEq Sol := inferInstanceAs (DecidableEq (List (Slab Lay)))
def AnyU : Unit → Prop := fun _ => True
section
variable {E : Int → Prop}
def FRow (E : Int → Prop) (r : Row) : Prop := Form E AnyU r ∧ r ≠ []
def FLay (E : Int → Prop) (l : Lay) : Prop := Form E (FRow E) l ∧ l ≠ []
def FSol (E : Int → Prop) (s : Sol) : Prop := Form E (FLay E) s
def cU : Unit → Unit → Bool := fun _ _ => true
def cR (r : Row) (x : Int) : Bool := lift cU (at' r x) ()
def cL (l : Lay) (p : Int × Int) : Bool := lift cR (at' l p.1) p.2
def cS (s : Sol) (p : Int × Int × Int) : Bool := lift cL (at' s p.1) p.2
theorem row_ext {a b : Row} (ha : Form E AnyU a) (hb : Form E AnyU b) (h : ∀ x, cR a x = cR b x) : a = b :=
  cells_ext (C := cU) (fun _ _ => ⟨(), rfl⟩) (fun _ _ _ _ _ => rfl) ha hb fun z _ => h z
theorem row_ne {a : Row} (h : FRow E a) : ∃ x, cR a x = true := by
  obtain ⟨z, p, e⟩ := cells_ne (C := cU) (fun _ _ => ⟨(), rfl⟩) h.1 h.2
  exact ⟨z, e⟩
theorem lay_ext {a b : Lay} (ha : Form E (FRow E) a) (hb : Form E (FRow E) b) (h : ∀ p, cL a p = cL b p) : a = b :=
  cells_ext (C := cR) (fun _ g => row_ne g) (fun _ _ g g' k => row_ext g.1 g'.1 k) ha hb fun z p => h (z, p)
theorem lay_ne {a : Lay} (h : FLay E a) : ∃ p, cL a p = true := by
  obtain ⟨z, p, e⟩ := cells_ne (C := cR) (fun _ g => row_ne g) h.1 h.2
  exact ⟨(z, p), e⟩
theorem sol_ext {a b : Sol} (ha : FSol E a) (hb : FSol E b) (h : ∀ p, cS a p = cS b p) : a = b :=
  cells_ext (C := cL) (fun _ g => lay_ne g) (fun _ _ g g' k => lay_ext g.1 g'.1 k) ha hb fun z p => h (z, p)
/-- one operation at the three heights -/
structure Op (op : Bool → Bool → Bool) (keeps : Bool × Bool) : Prop where
  h0 : op false false = false
  k1 : keeps.1 = op true false
  k2 : keeps.2 = op false true
/-- rows: a rule with the right cells, that makes rows -/
def RowRule (op : Bool → Bool → Bool) (E : Int → Prop) (f : Row → Row → Row) : Prop := ∀ a b, Form E AnyU a → Form E AnyU b → Form E AnyU (f a b) ∧ ∀ x, cR (f a b) x = op (cR a x) (cR b x)
theorem emptyR {x : Row} (h : x.isEmpty = true) (p : Int) : cR x p = false := by
  cases x with
  | nil => rfl
  | cons _ _ => cases h
theorem emptyL {x : Lay} (h : x.isEmpty = true) (p : Int × Int) : cL x p = false := by
  cases x with
  | nil => rfl
  | cons _ _ => cases h
theorem ne_isE {α : Type} {x : List α} (h : x ≠ []) : x.isEmpty = false := by
  cases x with
  | nil => exact absurd rfl h
  | cons _ _ => rfl
theorem isE_ne {α : Type} {x : List α} (h : x.isEmpty = false) : x ≠ [] := by
  cases x with
  | nil => cases h
  | cons _ _ => exact fun z => nomatch z
noncomputable def combL (keeps : Bool × Bool) (f : Row → Row → Row) : Lay → Lay → Lay := combF keeps f List.isEmpty
noncomputable def combS (keeps : Bool × Bool) (f : Row → Row → Row) : Sol → Sol → Sol := combF keeps (combL keeps f) List.isEmpty
variable {op : Bool → Bool → Bool} {keeps : Bool × Bool} {f : Row → Row → Row}
theorem row_hr (hf : RowRule op E f) : ∀ x y, FRow E x → FRow E y → (f x y).isEmpty = false → FRow E (f x y) := fun x y gx gy h => ⟨(hf x y gx.1 gy.1).1, isE_ne h⟩
theorem combL_ok (o : Op op keeps) (hf : RowRule op E f) {a b : Lay} (ha : Form E (FRow E) a) (hb : Form E (FRow E) b) : Form E (FRow E) (combL keeps f a b) ∧ (∀ z, at' (combL keeps f a b) z = comb keeps f List.isEmpty (at' a z) (at' b z)) ∧ ∀ p, cL (combL keeps f a b) p = op (cL a p) (cL b p) := by
  obtain ⟨h1, h2⟩ := combF_ok (isE := List.isEmpty) (rule := f) keeps ha hb (fun x g => ne_isE g.2) (row_hr hf)
  refine ⟨h1, h2, fun p => ?_⟩
  show lift cR (at' (combF keeps f List.isEmpty a b) p.1) p.2 = _
  rw [h2]
  exact comb_cells (G := FRow E) (C := cR) o.h0 o.k1 o.k2 (fun x y gx gy q => (hf x y gx.1 gy.1).2 q) (fun x h q => emptyR h q) (fun u e => at_good ha e) (fun u e => at_good hb e) p.2
theorem lay_hr (o : Op op keeps) (hf : RowRule op E f) : ∀ x y, FLay E x → FLay E y → (combL keeps f x y).isEmpty = false → FLay E (combL keeps f x y) := fun x y gx gy h => ⟨(combL_ok o hf gx.1 gy.1).1, isE_ne h⟩
theorem combS_ok (o : Op op keeps) (hf : RowRule op E f) {a b : Sol} (ha : FSol E a) (hb : FSol E b) : FSol E (combS keeps f a b) ∧ (∀ z, at' (combS keeps f a b) z = comb keeps (combL keeps f) List.isEmpty (at' a z) (at' b z)) ∧ ∀ p, cS (combS keeps f a b) p = op (cS a p) (cS b p) := by
  obtain ⟨h1, h2⟩ := combF_ok (isE := List.isEmpty) (rule := combL keeps f) keeps ha hb (fun x g => ne_isE g.2) (lay_hr o hf)
  refine ⟨h1, h2, fun p => ?_⟩
  show lift cL (at' (combF keeps (combL keeps f) List.isEmpty a b) p.1) p.2 = _
  rw [h2]
  exact comb_cells (G := FLay E) (C := cL) o.h0 o.k1 o.k2 (fun x y gx gy q => (combL_ok o hf gx.1 gy.1).2.2 q) (fun x h q => emptyL h q) (fun u e => at_good ha e) (fun u e => at_good hb e) p.2
/-! union of rows -/
noncomputable def joinR : Row → Row → Row := combF (true, true) (fun _ _ => ()) (fun _ => false)
theorem joinR_at (x y : Option Unit) : comb (true, true) (fun _ _ => ()) (fun _ => false) x y = x.or y := by cases x <;> cases y <;> rfl
theorem joinR_ok {a b : Row} (ha : Form E AnyU a) (hb : Form E AnyU b) : Form E AnyU (joinR a b) ∧ (∀ z, at' (joinR a b) z = (at' a z).or (at' b z)) ∧ ∀ x, cR (joinR a b) x = (cR a x || cR b x) := by
  obtain ⟨h1, h2⟩ := combF_ok (G := AnyU) (isE := fun _ => false) (rule := fun _ _ => ()) (true, true) ha hb (fun _ _ => rfl) (fun _ _ _ _ _ => trivial)
  have h2' : ∀ z, at' (joinR a b) z = (at' a z).or (at' b z) := fun z => by rw [show at' (joinR a b) z = _ from h2 z, joinR_at]
  refine ⟨h1, h2', fun x => ?_⟩
  unfold cR
  rw [h2']
  cases at' a x <;> cases at' b x <;> rfl
theorem joinR_rule : RowRule (fun x y => x || y) E joinR := fun a b ha hb => ⟨(joinR_ok ha hb).1, (joinR_ok ha hb).2.2⟩
theorem op_or : Op (fun x y => x || y) (true, true) := ⟨rfl, rfl, rfl⟩
noncomputable abbrev joinL : Lay → Lay → Lay := combL (true, true) joinR
noncomputable abbrev joinS : Sol → Sol → Sol := combS (true, true) joinR
end
end SM
end
section
set_option Elab.async false
set_option linter.all false
set_option maxRecDepth 100000
set_option maxHeartbeats 1000000
/-! A layer over HandS: expressions and statements by the DATA that they work on. -/
namespace DL
open PySem L2

inductive DV where
  | dat (d : PyData) | fn (v : V) | lst (xs : List PyData) | arg (xs : List PyData) | dic (kvs : List (List Key × PyData)) | own (i : Nat)
abbrev Den := List (Option DV)
def DV.isOwn : DV → Bool
  | .lst _ => true
  | .arg _ => true
  | .dic _ => true
  | _ => false

/-! ### frozen data -/
section
variable {K : PySem.W.Frag} {H H' : Hp}
theorem sqT_mono (e : Same H H') {a : Addr} {xs : List V} (h : SqT K H a xs) : SqT K H' a xs := by
  rcases h with (h | ⟨o, h⟩) | h
  · exact .inl (.inl (e _ _ h))
  · exact .inl (.inr ⟨o, e _ _ h⟩)
  · exact .inr h
mutual
theorem dp_mono (e : Same H H') : ∀ (d : PyData) (v : V), Dp K H v d → Dp K H' v d
  | .none, _, h => by cases h; exact .non
  | .bool b, _, h => by cases h; exact .bl b
  | .int i, _, h => by cases h; exact .int i
  | .str x, _, h => by cases h; exact .str x
  | .list ds, _, h => by
    cases h with
    | lst hs ha => exact .lst (e.seq hs) (dpAll_mono e ds _ ha)
  | .tuple ds, _, h => by
    cases h with
    | tup hs ha => exact .tup (sqT_mono e hs) (dpAll_mono e ds _ ha)
  | .dict _, _, h => by cases h
theorem dpAll_mono (e : Same H H') : ∀ (ds : List PyData) (vs : List V), DpAll K H vs ds → DpAll K H' vs ds
  | [], _, h => by cases h; exact .nil
  | d :: ds, _, h => by
    cases h with
    | cons h1 h2 => exact .cons (dp_mono e d _ h1) (dpAll_mono e ds _ h2)
end
theorem DpAll.length : ∀ {vs : List V} {ds : List PyData}, DpAll K H vs ds → vs.length = ds.length
  | _, _, .nil => rfl
  | _, _, .cons _ t => congrArg (· + 1) (DpAll.length t)
theorem DpAll.get : ∀ {vs : List V} {ds : List PyData} {i : Nat} {d : PyData}, DpAll K H vs ds → ds[i]? = some d → ∃ v, vs[i]? = some v ∧ Dp K H v d
  | _, _, _, _, .nil, e => by simp at e
  | _, _, 0, _, .cons h _, e => by simp at e; subst e; exact ⟨_, rfl, h⟩
  | _, _, i + 1, d, .cons _ t, e => by
    obtain ⟨v, h1, h2⟩ := DpAll.get (i := i) (d := d) t (by simpa using e)
    exact ⟨v, by simpa using h1, h2⟩
theorem DpAll.getV : ∀ {vs : List V} {ds : List PyData} {i : Nat} {v : V}, DpAll K H vs ds → vs[i]? = some v → ∃ d, ds[i]? = some d ∧ Dp K H v d
  | _, _, _, _, .nil, e => by simp at e
  | _, _, 0, _, .cons h _, e => by simp at e; subst e; exact ⟨_, rfl, h⟩
  | _, _, i + 1, v, .cons _ t, e => by
    obtain ⟨d, h1, h2⟩ := DpAll.getV (i := i) (v := v) t (by simpa using e)
    exact ⟨d, by simpa using h1, h2⟩
theorem DpAll.app : ∀ {vs ws : List V} {ds es : List PyData}, DpAll K H vs ds → DpAll K H ws es → DpAll K H (vs ++ ws) (ds ++ es)
  | _, _, _, _, .nil, s => s
  | _, _, _, _, .cons h t, s => .cons h (DpAll.app t s)
theorem DpAll.take : ∀ {vs : List V} {ds : List PyData} (n : Nat), DpAll K H vs ds → DpAll K H (vs.take n) (ds.take n)
  | _, _, 0, _ => .nil
  | _, _, _ + 1, .nil => .nil
  | _, _, n + 1, .cons h t => .cons h (DpAll.take n t)
theorem DpAll.drop : ∀ {vs : List V} {ds : List PyData} (n : Nat), DpAll K H vs ds → DpAll K H (vs.drop n) (ds.drop n)
  | _, _, 0, h => h
  | _, _, _ + 1, .nil => .nil
  | _, _, n + 1, .cons _ t => DpAll.drop n t
theorem DpAll.set {v : V} {d : PyData} (hv : Dp K H v d) : ∀ {vs : List V} {ds : List PyData} (i : Nat), DpAll K H vs ds → DpAll K H (vs.set i v) (ds.set i d)
  | _, _, _, .nil => .nil
  | _, _, 0, .cons _ t => .cons hv t
  | _, _, i + 1, .cons h t => .cons h (DpAll.set hv i t)
theorem DpAll.rev {vs : List V} {ds : List PyData} (h : DpAll K H vs ds) : DpAll K H vs.reverse ds.reverse := by
  induction ds generalizing vs with
  | nil => cases h; exact .nil
  | cons d ds ih =>
    cases h with
    | cons h1 h2 =>
      rw [List.reverse_cons, List.reverse_cons]
      exact DpAll.app (ih h2) (.cons h1 .nil)
end

/-! ### what stands for what -/
def OwnR (K : PySem.W.Frag) (Hf H : Hp) (a : Addr) : DV → Prop
  | .lst xs => ∃ vs, H a = some (.lst vs) ∧ DpAll K Hf vs xs
  | .arg xs => ∃ vs, H a = some (.lst vs) ∧ DpAll K Hf vs xs
  | .dic kvs => ∃ ws, H a = some (.dT ws) ∧ Paired (fun (p : List Key × V) (q : List Key × PyData) => p.1 = q.1 ∧ Dp K Hf p.2 q.2) ws kvs
  | _ => False
def VR (K : PySem.W.Frag) (Hf H : Hp) (v : V) (d : DV) : Prop := match d with
  | .dat d => Dp K Hf v d
  | .fn u => v = u
  | .own _ => False
  | o => ∃ a, v = .ref a ∧ Hf a = none ∧ OwnR K Hf H a o
structure ER (K : PySem.W.Frag) (Hf H : Hp) (σ : St) (ρ : Den) : Prop where
  len : σ.length = ρ.length
  ex : Same Hf H
  sl : ∀ (i : Nat) (d : DV), ρ[i]? = some (some d) → ∃ v, σ[i]? = some (some v) ∧ VR K Hf H v d
  dj : ∀ (i j : Nat) (d e : DV) (a : Addr), ρ[i]? = some (some d) → ρ[j]? = some (some e) → d.isOwn = true → e.isOwn = true → σ[i]? = some (some (.ref a)) → σ[j]? = some (some (.ref a)) → i = j
def Ow (σ : St) (ρ : Den) (a : Addr) : Prop := ∃ (i : Nat) (d : DV), ρ[i]? = some (some d) ∧ d.isOwn = true ∧ σ[i]? = some (some (.ref a))
structure Stp (Hf H Hf' H' : Hp) (O : Addr → Prop) : Prop where
  fx : Same Hf Hf'
  fr : ∀ b o, H b = some o → ¬ O b → H' b = some o
  al : ∀ b, H' b = none → H b = none
  nf : ∀ b o, Hf' b = some o → Hf b = none → H b = none ∨ O b
structure St2 (K : PySem.W.Frag) (σ : St) (Hf H : Hp) (ρ : Den) (Hf' H' : Hp) (ρ' : Den) : Prop where
  st : Stp Hf H Hf' H' (Ow σ ρ)
  er : ER K Hf' H' σ ρ'
  lo : ∀ a, Ow σ ρ' a → Ow σ ρ a
  ar : ∀ i : Nat, (∃ xs, ρ'[i]? = some (some (.arg xs))) ↔ ∃ xs, ρ[i]? = some (some (.arg xs))
/-- a value that has come: H0 the heap ahead of it -/
def RR (K : PySem.W.Frag) (H0 Hf H : Hp) (σ : St) (v : V) (d : DV) : Prop := match d with
  | .own i => σ[i]? = some (some v)
  | d => VR K Hf H v d ∧ (d.isOwn = true → ∀ a, v = .ref a → H0 a = none)

section
variable {K : PySem.W.Frag} {σ : St} {Hf H Hf1 H1 Hf2 H2 H0 : Hp} {ρ ρ1 ρ2 : Den} {v : V} {d : DV}
theorem vr_own {a : Addr} (h : VR K Hf H (.ref a) d) (ho : d.isOwn = true) : Hf a = none ∧ OwnR K Hf H a d := by
  cases d with
  | lst xs => obtain ⟨b, e, h1, h2⟩ := h; cases e; exact ⟨h1, h2⟩
  | arg xs => obtain ⟨b, e, h1, h2⟩ := h; cases e; exact ⟨h1, h2⟩
  | dic xs => obtain ⟨b, e, h1, h2⟩ := h; cases e; exact ⟨h1, h2⟩
  | _ => cases ho
theorem vr_ref (h : VR K Hf H v d) (ho : d.isOwn = true) : ∃ a, v = .ref a ∧ Hf a = none ∧ OwnR K Hf H a d := by
  cases d with
  | lst xs => exact h
  | arg xs => exact h
  | dic xs => exact h
  | _ => cases ho
theorem ownR_some {a : Addr} (h : OwnR K Hf H a d) : H a ≠ none := by
  cases d with
  | lst xs => obtain ⟨vs, e, _⟩ := h; rw [e]; exact fun z => nomatch z
  | arg xs => obtain ⟨vs, e, _⟩ := h; rw [e]; exact fun z => nomatch z
  | dic xs => obtain ⟨vs, e, _⟩ := h; rw [e]; exact fun z => nomatch z
  | _ => exact h.elim
theorem ownR_step {a : Addr} (h : OwnR K Hf H a d) (e : Same Hf Hf1) (e2 : ∀ o, H a = some o → H1 a = some o) : OwnR K Hf1 H1 a d := by
  cases d with
  | lst xs => obtain ⟨vs, q, r⟩ := h; exact ⟨vs, e2 _ q, dpAll_mono e _ _ r⟩
  | arg xs => obtain ⟨vs, q, r⟩ := h; exact ⟨vs, e2 _ q, dpAll_mono e _ _ r⟩
  | dic xs => obtain ⟨vs, q, r⟩ := h; exact ⟨vs, e2 _ q, Paired.mapP r fun p q z => ⟨z.1, dp_mono e _ _ z.2⟩⟩
  | _ => exact h.elim
theorem ER.own {i : Nat} (E : ER K Hf H σ ρ) (h : ρ[i]? = some (some d)) (ho : d.isOwn = true) : ∃ a, σ[i]? = some (some (.ref a)) ∧ Hf a = none ∧ OwnR K Hf H a d := by
  obtain ⟨v, h1, h2⟩ := E.sl i d h
  obtain ⟨a, rfl, h3, h4⟩ := vr_ref h2 ho
  exact ⟨a, h1, h3, h4⟩
theorem ER.ow (E : ER K Hf H σ ρ) {a : Addr} (h : Ow σ ρ a) : H a ≠ none ∧ Hf a = none := by
  obtain ⟨i, d, h1, h2, h3⟩ := h
  obtain ⟨b, e, h4, h5⟩ := E.own h1 h2
  rw [h3] at e
  cases e
  exact ⟨ownR_some h5, h4⟩
theorem Stp.refl {O : Addr → Prop} : Stp Hf H Hf H O := ⟨Same.refl _, fun _ _ h _ => h, fun _ h => h, fun b o h n => by rw [n] at h; cases h⟩
theorem Stp.trans {O O1 : Addr → Prop} (a : Stp Hf H Hf1 H1 O) (b : Stp Hf1 H1 Hf2 H2 O1) (ho : ∀ x, O1 x → O x ∨ H x = none) : Stp Hf H Hf2 H2 O where
  fx := a.fx.trans b.fx
  fr := fun x o h n => b.fr x o (a.fr x o h n) fun z => by
    rcases ho x z with q | q
    · exact n q
    · rw [q] at h; cases h
  al := fun x h => a.al x (b.al x h)
  nf := fun x o h n => by
    cases q : Hf1 x with
    | some u => exact a.nf x u q n
    | none =>
      rcases b.nf x o h q with z | z
      · exact .inl (a.al x z)
      · rcases ho x z with y | y
        · exact .inr y
        · exact .inl y
theorem St2.refl (E : ER K Hf H σ ρ) : St2 K σ Hf H ρ Hf H ρ := ⟨.refl, E, fun _ h => h, fun _ => Iff.rfl⟩
theorem St2.trans (a : St2 K σ Hf H ρ Hf1 H1 ρ1) (b : St2 K σ Hf1 H1 ρ1 Hf2 H2 ρ2) : St2 K σ Hf H ρ Hf2 H2 ρ2 :=
  ⟨a.st.trans b.st fun x h => .inl (a.lo x h), b.er, fun x h => a.lo x (b.lo x h), fun i => (b.ar i).trans (a.ar i)⟩
/-- a value stays -/
theorem rr_step {Hf0 : Hp} {ρ0 : Den} (E : ER K Hf0 H0 σ ρ0) (a : St2 K σ Hf0 H0 ρ0 Hf H ρ) (h : RR K H0 Hf H σ v d) (b : St2 K σ Hf H ρ Hf1 H1 ρ1) : RR K H0 Hf1 H1 σ v d := by
  have own : ∀ a', d.isOwn = true → VR K Hf H v d → (∀ x, v = .ref x → H0 x = none) → v = .ref a' → Hf a' = none → OwnR K Hf H a' d → Hf1 a' = none ∧ OwnR K Hf1 H1 a' d := fun x ho hv hn ex h1 h2 => by
    have nO : ¬ Ow σ ρ x := fun z => (E.ow (a.lo x z)).1 (hn x ex)
    refine ⟨?_, ownR_step h2 b.st.fx fun o q => b.st.fr x o q nO⟩
    cases q : Hf1 x with
    | none => rfl
    | some o =>
      rcases b.st.nf x o q h1 with z | z
      · exact absurd z (ownR_some h2)
      · exact absurd z nO
  cases d with
  | dat d => exact ⟨dp_mono b.st.fx _ _ h.1, fun z => nomatch z⟩
  | fn u => exact ⟨h.1, fun z => nomatch z⟩
  | own i => exact h
  | lst xs =>
    obtain ⟨x, ex, h1, h2⟩ := h.1
    exact ⟨⟨x, ex, own x rfl h.1 (h.2 rfl) ex h1 h2⟩, h.2⟩
  | arg xs =>
    obtain ⟨x, ex, h1, h2⟩ := h.1
    exact ⟨⟨x, ex, own x rfl h.1 (h.2 rfl) ex h1 h2⟩, h.2⟩
  | dic xs =>
    obtain ⟨x, ex, h1, h2⟩ := h.1
    exact ⟨⟨x, ex, own x rfl h.1 (h.2 rfl) ex h1 h2⟩, h.2⟩
/-- .. seen from further back -/
theorem rr_back {Hf0 : Hp} {ρ0 : Den} (a : St2 K σ Hf0 H0 ρ0 Hf H ρ) (h : RR K H Hf1 H1 σ v d) : RR K H0 Hf1 H1 σ v d := by
  cases d with
  | own i => exact h
  | dat d => exact ⟨h.1, fun z => nomatch z⟩
  | fn u => exact ⟨h.1, fun z => nomatch z⟩
  | lst xs => exact ⟨h.1, fun z x e => a.st.al x (h.2 z x e)⟩
  | arg xs => exact ⟨h.1, fun z x e => a.st.al x (h.2 z x e)⟩
  | dic xs => exact ⟨h.1, fun z x e => a.st.al x (h.2 z x e)⟩
end
end DL
end
section
set_option Elab.async false
set_option linter.all false
set_option maxRecDepth 100000
set_option maxHeartbeats 1000000
namespace DL
open PySem L2

abbrev WE := Den → (DV → Den → Prop) → Prop
abbrev WT := Den → (Bool → Den → Prop) → Prop
abbrev WA := Den → (List DV → Den → Prop) → Prop
/-- a value as an operand -/
def VS (K : PySem.W.Frag) (Hf H : Hp) (σ : St) (v : V) (d : DV) : Prop := match d with
  | .own i => σ[i]? = some (some v)
  | d => VR K Hf H v d
/-- .. as an argument -/
def AV (K : PySem.W.Frag) (Hf : Hp) (σ : St) (v : V) (d : DV) : Prop := match d with
  | .own i => σ[i]? = some (some v)
  | .dat d => Dp K Hf v d
  | .fn u => v = u
  | _ => False
abbrev AVs (K : PySem.W.Frag) (Hf : Hp) (σ : St) : List V → List DV → Prop := Paired (AV K Hf σ)
def CnE (K : PySem.W.Frag) (σ : St) (Hf H : Hp) (ρ : Den) (Q : DV → Den → Prop) (Q' : VK) : Prop :=
  ∀ v Hf' H' d ρ', St2 K σ Hf H ρ Hf' H' ρ' → RR K H Hf' H' σ v d → Q d ρ' → Q' v H'
def CnT (K : PySem.W.Frag) (σ : St) (Hf H : Hp) (ρ : Den) (Q : Bool → Den → Prop) (Q' : Bool → Hp → Prop) : Prop :=
  ∀ b Hf' H' ρ', St2 K σ Hf H ρ Hf' H' ρ' → Q b ρ' → Q' b H'
def CnA (K : PySem.W.Frag) (σ : St) (Hf H : Hp) (ρ : Den) (Q : List DV → Den → Prop) (Q' : List V → Hp → Prop) : Prop :=
  ∀ vs Hf' H' ds ρ', St2 K σ Hf H ρ Hf' H' ρ' → AVs K Hf' σ vs ds → Q ds ρ' → Q' vs H'
structure XE (X : Cx) (e : Expr) (t : TE) (w : WE) : Prop where
  pe : PE X e t
  so : ∀ Hf H σ ρ Q Q', ER X.K Hf H σ ρ → w ρ Q → CnE X.K σ Hf H ρ Q Q' → t σ H Q'
structure XT (X : Cx) (e : Expr) (t : TT) (w : WT) : Prop where
  pt : PT X e t
  so : ∀ Hf H σ ρ Q Q', ER X.K Hf H σ ρ → w ρ Q → CnT X.K σ Hf H ρ Q Q' → t σ H Q'
/-- a test by and, or -/
structure XW (X : Cx) (e : Expr) (t : TT) (w : WT) : Prop where
  pw : PW X e t
  so : ∀ Hf H σ ρ Q Q', ER X.K Hf H σ ρ → w ρ Q → CnT X.K σ Hf H ρ Q Q' → t σ H Q'
structure XA (X : Cx) (es : List Expr) (t : TA) (w : WA) : Prop where
  pa : PA X es t
  so : ∀ Hf H σ ρ Q Q', ER X.K Hf H σ ρ → w ρ Q → CnA X.K σ Hf H ρ Q Q' → t σ H Q'

section
variable {K : PySem.W.Frag} {σ : St} {Hf H Hf1 H1 Hf2 H2 H0 : Hp} {ρ ρ1 ρ2 : Den} {v : V} {d : DV} {Q : DV → Den → Prop} {Q' : VK}
theorem RR.vs (h : RR K H0 Hf H σ v d) : VS K Hf H σ v d := by
  cases d with
  | own i => exact h
  | _ => exact h.1
theorem CnE.step (a : St2 K σ Hf H ρ Hf1 H1 ρ1) (c : CnE K σ Hf H ρ Q Q') : CnE K σ Hf1 H1 ρ1 Q Q' :=
  fun v Hf' H' d ρ' s r q => c v Hf' H' d ρ' (a.trans s) (rr_back a r) q
theorem CnT.step {Q : Bool → Den → Prop} {Q' : Bool → Hp → Prop} (a : St2 K σ Hf H ρ Hf1 H1 ρ1) (c : CnT K σ Hf H ρ Q Q') : CnT K σ Hf1 H1 ρ1 Q Q' :=
  fun v Hf' H' ρ' s q => c v Hf' H' ρ' (a.trans s) q
theorem CnA.step {Q : List DV → Den → Prop} {Q' : List V → Hp → Prop} (a : St2 K σ Hf H ρ Hf1 H1 ρ1) (c : CnA K σ Hf H ρ Q Q') : CnA K σ Hf1 H1 ρ1 Q Q' :=
  fun v Hf' H' ds ρ' s r q => c v Hf' H' ds ρ' (a.trans s) r q
/-- plain data have come, the heap as it was -/
theorem CnE.dat (E : ER K Hf H σ ρ) (c : CnE K σ Hf H ρ Q Q') {x : PyData} (r : Dp K Hf v x) (q : Q (.dat x) ρ) : Q' v H :=
  c v Hf H (.dat x) ρ (.refl E) ⟨r, fun z => nomatch z⟩ q
theorem AV.mono {a : DV} (e : Same Hf Hf1) (h : AV K Hf σ v a) : AV K Hf1 σ v a := by
  cases a with
  | dat x => exact dp_mono e _ _ h
  | fn u => exact h
  | own i => exact h
  | _ => exact h.elim
theorem ER.hf_none (E : ER K Hf H σ ρ) {p : Addr} (h : H p = none) : Hf p = none := by
  cases q : Hf p with
  | none => rfl
  | some o => rw [E.ex p o q] at h; cases h
theorem same_upd2 {p : Addr} {o : HO} (e : Same Hf H) (h : H p = none) : Same (upd Hf p o) (upd H p o) := fun b x q => by
  by_cases z : b = p
  · subst z; rw [upd_same] at q ⊢; exact q
  · rw [upd_ne z] at q ⊢; exact e b x q
theorem same_new {p : Addr} {o : HO} (h : H p = none) : Same H (upd H p o) := fun b x q => by rw [upd_ne (ne_of_none q h)]; exact q
theorem vr_keep (h : VR K Hf H v d) (e : Same Hf Hf1) (e2 : ∀ a, v = .ref a → d.isOwn = true → (Hf a = none → Hf1 a = none) ∧ ∀ o, H a = some o → H1 a = some o) : VR K Hf1 H1 v d := by
  cases d with
  | dat d => exact dp_mono e _ _ h
  | fn u => exact h
  | own i => exact h
  | lst xs => obtain ⟨a, rfl, h1, h2⟩ := h; exact ⟨a, rfl, (e2 a rfl rfl).1 h1, ownR_step h2 e (e2 a rfl rfl).2⟩
  | arg xs => obtain ⟨a, rfl, h1, h2⟩ := h; exact ⟨a, rfl, (e2 a rfl rfl).1 h1, ownR_step h2 e (e2 a rfl rfl).2⟩
  | dic xs => obtain ⟨a, rfl, h1, h2⟩ := h; exact ⟨a, rfl, (e2 a rfl rfl).1 h1, ownR_step h2 e (e2 a rfl rfl).2⟩
/-- a new frozen object -/
theorem st2_new {p : Addr} {o : HO} (E : ER K Hf H σ ρ) (h : H p = none) : St2 K σ Hf H ρ (upd Hf p o) (upd H p o) ρ := by
  have hf := E.hf_none h
  refine ⟨⟨same_new hf, fun b x q _ => same_new h b x q, fun b q => ?_, fun b x q n => ?_⟩, ⟨E.len, same_upd2 E.ex h, fun i d q => ?_, E.dj⟩, fun _ z => z, fun _ => Iff.rfl⟩
  · cases z : H b with
    | none => rfl
    | some u => rw [same_new h b u z] at q; cases q
  · by_cases z : b = p
    · exact .inl (z ▸ h)
    · rw [upd_ne z, n] at q; cases q
  · obtain ⟨v, h1, h2⟩ := E.sl i d q
    refine ⟨v, h1, vr_keep h2 (same_new hf) fun a ea ho => ?_⟩
    subst ea
    have na : a ≠ p := fun z => (E.ow ⟨i, d, q, ho, h1⟩).1 (z ▸ h)
    exact ⟨fun z => by rw [upd_ne na]; exact z, fun u z => same_new h a u z⟩
/-- a new object of one's own -/
theorem st2_newO {p : Addr} {o : HO} (E : ER K Hf H σ ρ) (h : H p = none) : St2 K σ Hf H ρ Hf (upd H p o) ρ := by
  refine ⟨⟨Same.refl _, fun b x q _ => same_new h b x q, fun b q => ?_, fun b x q n => by rw [n] at q; cases q⟩, ⟨E.len, E.ex.trans (same_new h), fun i d q => ?_, E.dj⟩, fun _ z => z, fun _ => Iff.rfl⟩
  · cases z : H b with
    | none => rfl
    | some u => rw [same_new h b u z] at q; cases q
  · obtain ⟨v, h1, h2⟩ := E.sl i d q
    exact ⟨v, h1, vr_keep h2 (Same.refl _) fun a ea ho => ⟨fun z => z, fun u z => same_new h a u z⟩⟩
theorem set_get {α : Type} {l : List α} {i j : Nat} {x y : α} (h : (l.set i x)[j]? = some y) : (i = j ∧ y = x) ∨ (i ≠ j ∧ l[j]? = some y) := by
  by_cases e : i = j
  · subst e
    by_cases hl : i < l.length
    · rw [List.getElem?_set_self hl] at h
      cases h
      exact .inl ⟨rfl, rfl⟩
    · rw [List.getElem?_eq_none (by simpa using hl)] at h
      cases h
  · rw [List.getElem?_set_ne e] at h
    exact .inr ⟨e, h⟩
/-- an object of one's own has changed -/
theorem st2_mut {i : Nat} {a : Addr} {d d' : DV} {o : HO} (E : ER K Hf H σ ρ) (hi : ρ[i]? = some (some d)) (ho : d.isOwn = true) (ha : σ[i]? = some (some (.ref a))) (ho' : d'.isOwn = true) (hk : (∃ xs, d' = .arg xs) ↔ ∃ xs, d = .arg xs)
    (hr : OwnR K Hf (upd H a o) a d') : St2 K σ Hf H ρ Hf (upd H a o) (ρ.set i (some d')) := by
  obtain ⟨h1, h2⟩ := E.ow ⟨i, d, hi, ho, ha⟩
  have hil : i < ρ.length := (List.getElem?_eq_some_iff.mp hi).1
  have back : ∀ {j : Nat} {e : DV}, (ρ.set i (some d'))[j]? = some (some e) → e.isOwn = true → ∃ e', ρ[j]? = some (some e') ∧ e'.isOwn = true := fun {j e} q oe => by
    rcases set_get q with ⟨rfl, e1⟩ | ⟨_, q⟩
    · exact ⟨d, hi, ho⟩
    · exact ⟨e, q, oe⟩
  refine ⟨⟨Same.refl _, fun b x q n => ?_, fun b q => ?_, fun b x q n => by rw [n] at q; cases q⟩, ⟨by rw [List.length_set]; exact E.len, fun b x q => ?_, fun j e q => ?_, fun j k e f b q1 q2 o1 o2 s1 s2 => ?_⟩, fun b ⟨j, e, q, oe, s⟩ => ?_, fun j => ?_⟩
  · rw [upd_ne (show b ≠ a from fun z => n (by rw [z]; exact ⟨i, d, hi, ho, ha⟩))]; exact q
  · by_cases z : b = a
    · rw [z, upd_same] at q; cases q
    · rw [upd_ne z] at q; exact q
  · have z : b ≠ a := fun z => by rw [z, h2] at q; cases q
    rw [upd_ne z]; exact E.ex b x q
  · rcases set_get q with ⟨rfl, e1⟩ | ⟨ne, q⟩
    · have e2 : e = d' := Option.some.inj e1
      subst e2
      refine ⟨.ref a, ha, ?_⟩
      cases e with
      | lst xs => exact ⟨a, rfl, h2, hr⟩
      | arg xs => exact ⟨a, rfl, h2, hr⟩
      | dic xs => exact ⟨a, rfl, h2, hr⟩
      | _ => cases ho'
    · obtain ⟨v, g1, g2⟩ := E.sl j e q
      refine ⟨v, g1, vr_keep g2 (Same.refl _) fun b eb oe => ⟨fun z => z, fun u z => ?_⟩⟩
      subst eb
      have nb : b ≠ a := fun z => ne (E.dj i j d e a hi q ho oe ha (z ▸ g1))
      rw [upd_ne nb]; exact z
  · obtain ⟨e', q1', o1'⟩ := back q1 o1
    obtain ⟨f', q2', o2'⟩ := back q2 o2
    exact E.dj j k e' f' b q1' q2' o1' o2' s1 s2
  · obtain ⟨e', q', oe'⟩ := back q oe
    exact ⟨j, e', q', oe', s⟩
  · constructor
    · rintro ⟨xs, q⟩
      rcases set_get q with ⟨rfl, e1⟩ | ⟨_, q⟩
      · obtain ⟨ys, e2⟩ := hk.mp ⟨xs, (Option.some.inj e1).symm⟩
        exact ⟨ys, by rw [hi, e2]⟩
      · exact ⟨xs, q⟩
    · rintro ⟨xs, q⟩
      by_cases e : i = j
      · subst e
        rw [hi] at q
        cases q
        obtain ⟨ys, e2⟩ := hk.mpr ⟨xs, rfl⟩
        exact ⟨ys, by rw [List.getElem?_set_self hil, e2]⟩
      · exact ⟨xs, by rw [List.getElem?_set_ne e]; exact q⟩
/-- a list that has come is frozen -/
theorem st2_freeze {xs : List PyData} (E : ER K Hf H σ ρ) (s : St2 K σ Hf H ρ Hf1 H1 ρ1) (r : RR K H Hf1 H1 σ v (.lst xs)) : ∃ Hf2, St2 K σ Hf H ρ Hf2 H1 ρ1 ∧ Dp K Hf2 v (.list xs) := by
  obtain ⟨⟨a, rfl, h1, vs, h2, h3⟩, h4⟩ := r
  have hn := h4 rfl a rfl
  have nO : ¬ Ow σ ρ a := fun z => (E.ow z).1 hn
  have e1 : Same Hf1 (upd Hf1 a (.lst vs)) := same_new h1
  refine ⟨upd Hf1 a (.lst vs), ⟨⟨s.st.fx.trans e1, s.st.fr, s.st.al, fun b o q n => ?_⟩, ⟨s.er.len, fun b o q => ?_, fun i d q => ?_, s.er.dj⟩, s.lo, s.ar⟩, .lst (.inl (.inl upd_same)) (dpAll_mono e1 _ _ h3)⟩
  · by_cases z : b = a
    · exact .inl (z ▸ hn)
    · rw [upd_ne z] at q; exact s.st.nf b o q n
  · by_cases z : b = a
    · subst z; rw [upd_same] at q; cases q; exact h2
    · rw [upd_ne z] at q; exact s.er.ex b o q
  · obtain ⟨u, g1, g2⟩ := s.er.sl i d q
    refine ⟨u, g1, vr_keep g2 e1 fun b eb oe => ⟨fun z => ?_, fun o z => z⟩⟩
    subst eb
    have nb : b ≠ a := fun z => nO (s.lo a ⟨i, d, q, oe, z ▸ g1⟩)
    rw [upd_ne nb]; exact z
end

/-! ### names and constants -/
section
variable {X : Cx} {pos : Pos}
def wName (i : Nat) : WE := fun ρ Q => match ρ[i]? with
  | some (some d) => if d.isOwn = true then Q (.own i) ρ else Q d ρ
  | _ => False
theorem xe_name {e : Expr} {i : Nat} (h : PE X e (tVar i)) : XE X e (tVar i) (wName i) := by
  refine ⟨h, fun Hf H σ ρ Q Q' E hw c => ?_⟩
  unfold wName at hw
  split at hw
  · rename_i d hd
    obtain ⟨v, h1, h2⟩ := E.sl i d hd
    refine ⟨v, h1, ?_⟩
    split at hw
    · exact c v Hf H (.own i) ρ (.refl E) h1 hw
    · rename_i no
      refine c v Hf H d ρ (.refl E) ?_ hw
      cases d with
      | own j => exact h2.elim
      | dat x => exact ⟨h2, fun z => nomatch z⟩
      | fn u => exact ⟨h2, fun z => nomatch z⟩
      | lst x => exact absurd rfl no
      | arg x => exact absurd rfl no
      | dic x => exact absurd rfl no
  · exact hw.elim
def wC (d : PyData) : WE := fun ρ Q => Q (.dat d) ρ
theorem xe_int {i j} : XE X (.Constant (.int i) j pos) (tC (.int i)) (wC (.int i)) := ⟨pe_int, fun _ _ _ _ _ _ E hw c => c.dat E (.int i) hw⟩
theorem xe_bl {b j} : XE X (.Constant (.bool b) j pos) (tC (.bl b)) (wC (.bool b)) := ⟨pe_bl, fun _ _ _ _ _ _ E hw c => c.dat E (.bl b) hw⟩
theorem xe_non {j} : XE X (.Constant .none j pos) (tC .non) (wC .none) := ⟨pe_non, fun _ _ _ _ _ _ E hw c => c.dat E .non hw⟩
theorem xe_str {x j} : XE X (.Constant (.str x) j pos) (tC (.str x)) (wC (.str x)) := ⟨pe_str, fun _ _ _ _ _ _ E hw c => c.dat E (.str x) hw⟩
/-- a global value: a def, a class -/
def wFn (v : V) : WE := fun ρ Q => Q (.fn v) ρ
theorem xe_glob {e : Expr} {v : V} (h : PE X e (tC v)) : XE X e (tC v) (wFn v) :=
  ⟨h, fun Hf H σ ρ Q Q' E hw c => c v Hf H (.fn v) ρ (.refl E) ⟨rfl, fun z => nomatch z⟩ hw⟩

/-! ### operations -/
abbrev WO := DV → DV → Den → (DV → Den → Prop) → Prop
structure XO (X : Cx) (f : Value → Value → Sem Value) (r : R2) (o : WO) : Prop where
  op : OpR X f r
  so : ∀ Hf H σ ρ Q Q' x y dx dy, ER X.K Hf H σ ρ → VS X.K Hf H σ x dx → VS X.K Hf H σ y dy → o dx dy ρ Q → CnE X.K σ Hf H ρ Q Q' → r x y H Q'
def wBin (o : WO) (wa wb : WE) : WE := fun ρ Q => wa ρ fun x ρ1 => wb ρ1 fun y ρ2 => o x y ρ2 Q
theorem bin_so {a b : Expr} {ta tb : TE} {wa wb : WE} {o : WO} {f : Value → Value → Sem Value} {r : R2} (ho : XO X f r o) (ha : XE X a ta wa) (hb : XE X b tb wb) {Hf H : Hp} {σ : St} {ρ : Den} {Q : DV → Den → Prop} {Q' : VK} (E : ER X.K Hf H σ ρ) (hw : wBin o wa wb ρ Q)
    (c : CnE X.K σ Hf H ρ Q Q') : tOp r ta tb σ H Q' := by
  refine ha.so Hf H σ ρ _ _ E hw fun x Hf1 H1 dx ρ1 s1 r1 q1 => ?_
  refine hb.so Hf1 H1 σ ρ1 _ _ s1.er q1 fun y Hf2 H2 dy ρ2 s2 r2 q2 => ?_
  exact ho.so Hf2 H2 σ ρ2 Q Q' x y dx dy s2.er (rr_step E s1 r1 s2).vs r2.vs q2 (c.step (s1.trans s2))
theorem xe_op {op : Operator} {a b : Expr} {ta tb : TE} {wa wb : WE} {o : WO} {r : R2} (ho : XO X (binaryOp op) r o) (ha : XE X a ta wa) (hb : XE X b tb wb) : XE X (.BinOp a op b pos) (tOp r ta tb) (wBin o wa wb) :=
  ⟨pe_op ho.op ha.pe hb.pe, fun Hf H σ ρ Q Q' E hw c => bin_so ho ha hb E hw c⟩
theorem xe_cmp {op : CmpOp} {a b : Expr} {ta tb : TE} {wa wb : WE} {o : WO} {r : R2} (ho : XO X (compareOp op) r o) (ha : XE X a ta wa) (hb : XE X b tb wb) (hm : behindInMarks op b = false) : XE X (.Compare a [op] [b] pos) (tOp r ta tb) (wBin o wa wb) :=
  ⟨pe_cmpR ho.op ha.pe hb.pe hm, fun Hf H σ ρ Q Q' E hw c => bin_so ho ha hb E hw c⟩
def wTest (w : WE) : WT := fun ρ Q => w ρ fun x ρ1 => match x with
  | .dat (.bool b) => Q b ρ1
  | _ => False
theorem test_so {e : Expr} {t : TE} {w : WE} (h : XE X e t w) {Hf H : Hp} {σ : St} {ρ : Den} {Q : Bool → Den → Prop} {Q' : Bool → Hp → Prop} (E : ER X.K Hf H σ ρ) (hw : wTest w ρ Q) (c : CnT X.K σ Hf H ρ Q Q') : t σ H fun x H' => ∃ k, x = .bl k ∧ Q' k H' := by
  refine h.so Hf H σ ρ _ _ E hw fun x Hf1 H1 d ρ1 s1 r1 q1 => ?_
  split at q1
  · cases r1.1
    exact ⟨_, rfl, c _ Hf1 H1 ρ1 s1 q1⟩
  · exact q1.elim
theorem xt_cmp {op : CmpOp} {a b : Expr} {ta tb : TE} {wa wb : WE} {o : WO} {r : R2} (ho : XO X (compareOp op) r o) (ha : XE X a ta wa) (hb : XE X b tb wb) (hm : behindInMarks op b = false) : XT X (.Compare a [op] [b] pos) (tTest (tOp r ta tb)) (wTest (wBin o wa wb)) :=
  ⟨pt_cmpR ho.op ha.pe hb.pe hm, fun Hf H σ ρ Q Q' E hw c => test_so (xe_cmp (pos := pos) ho ha hb hm) E hw c⟩
theorem xt_val {e : Expr} {t : TE} {w : WE} (h : XE X e t w) (he : ∀ whole, isTrue e X.env whole = (do let v ← whole; standAt e.pos; holding [v] (truthy v)) := by intro _; rfl) : XT X e (tB t) (wTest w) :=
  ⟨pt_val h.pe he, fun Hf H σ ρ Q Q' E hw c => test_so h E hw c⟩

/-- ints -/
def oInt (C : Int → Int → Prop) (g : Int → Int → PyData) : WO := fun x y ρ Q => match x, y with
  | .dat (.int i), .dat (.int j) => C i j ∧ Q (.dat (g i j)) ρ
  | _, _ => False
theorem int_so {C : Int → Int → Prop} {g : Int → Int → PyData} {Hf H : Hp} {σ : St} {ρ : Den} {Q : DV → Den → Prop} {x y : V} {dx dy : DV} {K : PySem.W.Frag} (hx : VS K Hf H σ x dx) (hy : VS K Hf H σ y dy) (h : oInt C g dx dy ρ Q) :
    ∃ i j, x = .int i ∧ y = .int j ∧ C i j ∧ Q (.dat (g i j)) ρ := by
  unfold oInt at h
  split at h
  · cases hx; cases hy; exact ⟨_, _, rfl, rfl, h⟩
  · exact h.elim
theorem xo_I {f : Value → Value → Sem Value} {C : Int → Int → Prop} {g : Int → Int → Int} (h : OpR X f (rI C fun i j => .int (g i j))) : XO X f (rI C fun i j => .int (g i j)) (oInt C fun i j => .int (g i j)) :=
  ⟨h, fun Hf H σ ρ Q Q' x y dx dy E hx hy ho c => by
    obtain ⟨i, j, rfl, rfl, hc, q⟩ := int_so hx hy ho
    exact ⟨i, j, rfl, rfl, hc, c.dat E (.int _) q⟩⟩
theorem xo_I0 {f : Value → Value → Sem Value} {g : Int → Int → Int} (h : OpR X f (rI0 fun i j => .int (g i j))) : XO X f (rI0 fun i j => .int (g i j)) (oInt (fun _ _ => True) fun i j => .int (g i j)) :=
  ⟨h, fun Hf H σ ρ Q Q' x y dx dy E hx hy ho c => by
    obtain ⟨i, j, rfl, rfl, hc, q⟩ := int_so hx hy ho
    exact ⟨i, j, rfl, rfl, c.dat E (.int _) q⟩⟩
theorem xo_B0 {f : Value → Value → Sem Value} {g : Int → Int → Bool} (h : OpR X f (rI0 fun i j => .bl (g i j))) : XO X f (rI0 fun i j => .bl (g i j)) (oInt (fun _ _ => True) fun i j => .bool (g i j)) :=
  ⟨h, fun Hf H σ ρ Q Q' x y dx dy E hx hy ho c => by
    obtain ⟨i, j, rfl, rfl, hc, q⟩ := int_so hx hy ho
    exact ⟨i, j, rfl, rfl, c.dat E (.bl _) q⟩⟩
theorem xo_add : XO X (binaryOp .Add) (rI0 fun i j => .int (i + j)) (oInt (fun _ _ => True) fun i j => .int (i + j)) := xo_I0 op_add
theorem xo_sub : XO X (binaryOp .Sub) (rI0 fun i j => .int (i - j)) (oInt (fun _ _ => True) fun i j => .int (i - j)) := xo_I0 op_sub
theorem xo_mul : XO X (binaryOp .Mult) (rI CMul fun i j => .int (i * j)) (oInt CMul fun i j => .int (i * j)) := xo_I op_mul
theorem xo_fdiv : XO X (binaryOp .FloorDiv) (rI CDiv fun i j => .int (i / j)) (oInt CDiv fun i j => .int (i / j)) := xo_I op_fdiv
theorem xo_mod : XO X (binaryOp .Mod) (rI (fun _ j => 0 < j) fun i j => .int (i % j)) (oInt (fun _ j => 0 < j) fun i j => .int (i % j)) := xo_I op_mod
theorem xo_lt : XO X (compareOp .Lt) (rI0 fun i j => .bl (decide (i < j))) (oInt (fun _ _ => True) fun i j => .bool (decide (i < j))) := xo_B0 op_lt
theorem xo_le : XO X (compareOp .LtE) (rI0 fun i j => .bl (decide (i ≤ j))) (oInt (fun _ _ => True) fun i j => .bool (decide (i ≤ j))) := xo_B0 op_le
theorem xo_gt : XO X (compareOp .Gt) (rI0 fun i j => .bl (decide (j < i))) (oInt (fun _ _ => True) fun i j => .bool (decide (j < i))) := xo_B0 op_gt
theorem xo_ge : XO X (compareOp .GtE) (rI0 fun i j => .bl (decide (j ≤ i))) (oInt (fun _ _ => True) fun i j => .bool (decide (j ≤ i))) := xo_B0 op_ge
theorem xo_iadd : XO X (inplaceOp .Add) (rI0 fun i j => .int (i + j)) (oInt (fun _ _ => True) fun i j => .int (i + j)) := xo_I0 iop_add
theorem xo_isub : XO X (inplaceOp .Sub) (rI0 fun i j => .int (i - j)) (oInt (fun _ _ => True) fun i j => .int (i - j)) := xo_I0 iop_sub

/-! ### data of one kind: what is read of a value -/
/-- a value as data, frozen or one's own -/
def ownDat : Option (Option DV) → Option PyData
  | some (some (.lst xs)) => some (.list xs)
  | some (some (.arg xs)) => some (.list xs)
  | _ => none
def datOf (ρ : Den) : DV → Option PyData
  | .dat d => some d
  | .lst xs => some (.list xs)
  | .own i => ownDat ρ[i]?
  | _ => none
theorem ownDat_some {q : Option (Option DV)} {x : PyData} (h : ownDat q = some x) : ∃ xs, x = .list xs ∧ (q = some (some (.lst xs)) ∨ q = some (some (.arg xs))) := by
  unfold ownDat at h
  split at h
  · cases h; exact ⟨_, rfl, .inl rfl⟩
  · cases h; exact ⟨_, rfl, .inr rfl⟩
  · cases h
theorem dat_of {K : PySem.W.Frag} {Hf H : Hp} {σ : St} {ρ : Den} {v : V} {d : DV} {x : PyData} (E : ER K Hf H σ ρ) (h : VS K Hf H σ v d) (e : datOf ρ d = some x) : Dp K H v x := by
  have own : ∀ {a : Addr} {xs : List PyData}, (∃ vs, H a = some (.lst vs) ∧ DpAll K Hf vs xs) → Dp K H (.ref a) (.list xs) := fun ⟨vs, h1, h2⟩ => .lst (.inl (.inl h1)) (dpAll_mono E.ex _ _ h2)
  cases d with
  | dat y => cases e; exact dp_mono E.ex _ _ h
  | lst xs =>
    cases e
    obtain ⟨a, rfl, _, h2⟩ := h
    exact own h2
  | own i =>
    obtain ⟨xs, rfl, q⟩ := ownDat_some e
    have h' : σ[i]? = some (some v) := h
    rcases q with q | q
    · obtain ⟨a, h1, h2, h3⟩ := E.own (d := .lst xs) q rfl
      rw [h1] at h'; cases h'
      exact own h3
    · obtain ⟨a, h1, h2, h3⟩ := E.own (d := .arg xs) q rfl
      rw [h1] at h'; cases h'
      exact own h3
  | _ => cases e
/-- == and != of data -/
def oEq (neg : Bool) : WO := fun x y ρ Q => match datOf ρ x, datOf ρ y with
  | some d, some e => SeqAt.shaped d = true ∧ SeqAt.shaped e = true ∧ Q (.dat (.bool (if neg then !PyData.eqv d e else PyData.eqv d e))) ρ
  | _, _ => False
theorem xo_eq (hu : X.A.units + 64 < cLine) : XO X (compareOp .Eq) (rEqD X.K) (oEq false) :=
  ⟨op_eqD hu, fun Hf H σ ρ Q Q' x y dx dy E hx hy ho c => by
    unfold oEq at ho
    split at ho
    · rename_i d e h1 h2
      exact ⟨d, e, dat_of E hx h1, dat_of E hy h2, ho.1, ho.2.1, c.dat E (.bl _) ho.2.2⟩
    · exact ho.elim⟩
theorem xo_ne (hu : X.A.units + 64 < cLine) : XO X (compareOp .NotEq) (rNeD X.K) (oEq true) :=
  ⟨op_neD hu, fun Hf H σ ρ Q Q' x y dx dy E hx hy ho c => by
    unfold oEq at ho
    split at ho
    · rename_i d e h1 h2
      exact ⟨d, e, dat_of E hx h1, dat_of E hy h2, ho.1, ho.2.1, c.dat E (.bl _) ho.2.2⟩
    · exact ho.elim⟩
/-- is None -/
def isNone : PyData → Bool
  | .none => true
  | _ => false
def oIsN (neg : Bool) : WO := fun x y ρ Q => match x, y with
  | .dat d, .dat .none => Q (.dat (.bool (if neg then !isNone d else isNone d))) ρ
  | _, _ => False
theorem isNone_dp {K : PySem.W.Frag} {H : Hp} {v : V} {d : PyData} (h : Dp K H v d) : decide (v = .non) = isNone d := by
  cases h <;> simp [isNone]
theorem xo_is : XO X (compareOp .Is) (fun x y H Q => y = .non ∧ Q (.bl (decide (x = .non))) H) (oIsN false) :=
  ⟨op_isN, fun Hf H σ ρ Q Q' x y dx dy E hx hy ho c => by
    unfold oIsN at ho
    split at ho
    · cases hy
      refine ⟨rfl, c.dat E (x := .bool _) (.bl _) ?_⟩
      rw [isNone_dp hx]; exact ho
    · exact ho.elim⟩
theorem xo_isNot : XO X (compareOp .IsNot) (fun x y H Q => y = .non ∧ Q (.bl (!decide (x = .non))) H) (oIsN true) :=
  ⟨op_notN, fun Hf H σ ρ Q Q' x y dx dy E hx hy ho c => by
    unfold oIsN at ho
    split at ho
    · cases hy
      refine ⟨rfl, c.dat E (x := .bool _) (.bl _) ?_⟩
      rw [isNone_dp hx]; exact ho
    · exact ho.elim⟩

/-! ### unary -/
def wNeg (w : WE) : WE := fun ρ Q => w ρ fun x ρ1 => match x with
  | .dat (.int i) => Q (.dat (.int (-i))) ρ1
  | _ => False
theorem xe_neg {a : Expr} {ta : TE} {wa : WE} (ha : XE X a ta wa) : XE X (.UnaryOp .USub a pos) (tUn (rU fun i => .int (-i)) ta) (wNeg wa) :=
  ⟨pe_un un_neg ha.pe, fun Hf H σ ρ Q Q' E hw c => by
    refine ha.so Hf H σ ρ _ _ E hw fun x Hf1 H1 d ρ1 s1 r1 q1 => ?_
    split at q1
    · cases r1.1
      exact ⟨_, rfl, (c.step s1).dat s1.er (.int _) q1⟩
    · exact q1.elim⟩

/-! ### tests -/
def wNot (w : WT) : WT := fun ρ Q => w ρ fun b ρ1 => Q (!b) ρ1
theorem xt_not {a : Expr} {t : TT} {w : WT} (h : XT X a t w) : XT X (.UnaryOp .Not a pos) (tNot t) (wNot w) :=
  ⟨pt_not h.pt, fun Hf H σ ρ Q Q' E hw c => h.so Hf H σ ρ _ _ E hw fun b Hf1 H1 ρ1 s1 q1 => c _ Hf1 H1 ρ1 s1 q1⟩
theorem XW.xt {e : Expr} {t : TT} {w : WT} (h : XW X e t w) : XT X e t w := ⟨h.pw.pt, h.so⟩
theorem xw_and1 {a : Expr} {t : TT} {w : WT} (h : XT X a t w) : XW X (.BoolOp .And [a] pos) t w := ⟨pw_and1 h.pt, h.so⟩
theorem xw_or1 {a : Expr} {t : TT} {w : WT} (h : XT X a t w) : XW X (.BoolOp .Or [a] pos) t w := ⟨pw_or1 h.pt, h.so⟩
def wAnd (w u : WT) : WT := fun ρ Q => w ρ fun b ρ1 => if b = true then u ρ1 Q else Q false ρ1
def wOr (w u : WT) : WT := fun ρ Q => w ρ fun b ρ1 => if b = true then Q true ρ1 else u ρ1 Q
theorem xw_and {a b : Expr} {rest : List Expr} {t u : TT} {w x : WT} (h : XT X a t w) (h2 : XW X (.BoolOp .And (b :: rest) pos) u x) : XW X (.BoolOp .And (a :: b :: rest) pos) (tAnd t u) (wAnd w x) :=
  ⟨pw_and h.pt h2.pw, fun Hf H σ ρ Q Q' E hw c => h.so Hf H σ ρ _ _ E hw fun k Hf1 H1 ρ1 s1 q1 => by
    cases k with
    | true => exact h2.so Hf1 H1 σ ρ1 Q Q' s1.er q1 (c.step s1)
    | false => exact c _ Hf1 H1 ρ1 s1 q1⟩
theorem xw_or {a b : Expr} {rest : List Expr} {t u : TT} {w x : WT} (h : XT X a t w) (h2 : XW X (.BoolOp .Or (b :: rest) pos) u x) : XW X (.BoolOp .Or (a :: b :: rest) pos) (tOr t u) (wOr w x) :=
  ⟨pw_or h.pt h2.pw, fun Hf H σ ρ Q Q' E hw c => h.so Hf H σ ρ _ _ E hw fun k Hf1 H1 ρ1 s1 q1 => by
    cases k with
    | false => exact h2.so Hf1 H1 σ ρ1 Q Q' s1.er q1 (c.step s1)
    | true => exact c _ Hf1 H1 ρ1 s1 q1⟩
/-- by truth -/
def truD : PyData → Option Bool
  | .none => some false
  | .bool b => some b
  | .int i => some (i != 0)
  | .list xs => some (!xs.isEmpty)
  | .tuple xs => some (!xs.isEmpty)
  | _ => none
def wTru (w : WE) : WT := fun ρ Q => w ρ fun x ρ1 => match (datOf ρ1 x).bind truD with
  | some b => Q b ρ1
  | none => False
theorem dpAll_empty {K : PySem.W.Frag} {H : Hp} {vs : List V} {ds : List PyData} (h : DpAll K H vs ds) : vs.isEmpty = ds.isEmpty := by cases h <;> rfl
theorem tru_of {K : PySem.W.Frag} {H : Hp} {v : V} {d : PyData} {b : Bool} (h : Dp K H v d) (e : truD d = some b) : TruV K v H b := by
  cases h with
  | non => cases e; rfl
  | bl c => cases e; rfl
  | int i => cases e; rfl
  | str x => cases e
  | lst hs ha => cases e; exact .inl ⟨_, hs, by rw [dpAll_empty ha]⟩
  | tup hs ha => cases e; exact .inr (.inl ⟨_, hs, by rw [dpAll_empty ha]⟩)
theorem xt_tru {e : Expr} {t : TE} {w : WE} (h : XE X e t w) (he : ∀ whole, isTrue e X.env whole = (do let v ← whole; standAt e.pos; holding [v] (truthy v)) := by intro _; rfl) : XT X e (fun σ H Q => t σ H fun x H' => ∃ k, TruV X.K x H' k ∧ Q k H') (wTru w) :=
  ⟨pt_truth h.pe he, fun Hf H σ ρ Q Q' E hw c => by
    refine h.so Hf H σ ρ _ _ E hw fun x Hf1 H1 d ρ1 s1 r1 q1 => ?_
    split at q1
    · rename_i b hb
      obtain ⟨y, h1, h2⟩ := Option.bind_eq_some_iff.mp hb
      exact ⟨b, tru_of (dat_of s1.er r1.vs h1) h2, c b Hf1 H1 ρ1 s1 q1⟩
    · exact q1.elim⟩
/-- a if t else b -/
def wIf (t : WT) (a b : WE) : WE := fun ρ Q => t ρ fun k ρ1 => if k = true then a ρ1 Q else b ρ1 Q
theorem xe_if {c a b : Expr} {tc : TT} {ta tb : TE} {wc : WT} {wa wb : WE} (hc : XT X c tc wc) (ha : XE X a ta wa) (hb : XE X b tb wb) : XE X (.IfExp c a b pos) (tIf tc ta tb) (wIf wc wa wb) :=
  ⟨pe_ifExp hc.pt ha.pe hb.pe, fun Hf H σ ρ Q Q' E hw c => hc.so Hf H σ ρ _ _ E hw fun k Hf1 H1 ρ1 s1 q1 => by
    cases k with
    | true => exact ha.so Hf1 H1 σ ρ1 Q Q' s1.er q1 (c.step s1)
    | false => exact hb.so Hf1 H1 σ ρ1 Q Q' s1.er q1 (c.step s1)⟩
/-- and, or as values: bools -/
def wAndV (w u : WE) : WE := fun ρ Q => w ρ fun x ρ1 => match x with
  | .dat (.bool c) => if c = true then u ρ1 Q else Q (.dat (.bool false)) ρ1
  | _ => False
def wOrV (w u : WE) : WE := fun ρ Q => w ρ fun x ρ1 => match x with
  | .dat (.bool c) => if c = true then Q (.dat (.bool true)) ρ1 else u ρ1 Q
  | _ => False
theorem xe_one {op} {a : Expr} {t : TE} {w : WE} (h : XE X a t w) : XE X (.BoolOp op [a] pos) t w := ⟨pe_one h.pe, h.so⟩
theorem xe_and {a b : Expr} {rest : List Expr} {t u : TE} {w x : WE} (h : XE X a t w) (h2 : XE X (.BoolOp .And (b :: rest) pos) u x) : XE X (.BoolOp .And (a :: b :: rest) pos) (tAndV t u) (wAndV w x) :=
  ⟨pe_and h.pe h2.pe, fun Hf H σ ρ Q Q' E hw c => h.so Hf H σ ρ _ _ E hw fun v Hf1 H1 d ρ1 s1 r1 q1 => by
    split at q1
    · rename_i k
      cases r1.1
      refine ⟨k, rfl, ?_⟩
      cases k with
      | true => exact h2.so Hf1 H1 σ ρ1 Q Q' s1.er q1 (c.step s1)
      | false => exact (c.step s1).dat s1.er (.bl _) q1
    · exact q1.elim⟩
theorem xe_or {a b : Expr} {rest : List Expr} {t u : TE} {w x : WE} (h : XE X a t w) (h2 : XE X (.BoolOp .Or (b :: rest) pos) u x) : XE X (.BoolOp .Or (a :: b :: rest) pos) (tOrV t u) (wOrV w x) :=
  ⟨pe_or h.pe h2.pe, fun Hf H σ ρ Q Q' E hw c => h.so Hf H σ ρ _ _ E hw fun v Hf1 H1 d ρ1 s1 r1 q1 => by
    split at q1
    · rename_i k
      cases r1.1
      refine ⟨k, rfl, ?_⟩
      cases k with
      | false => exact h2.so Hf1 H1 σ ρ1 Q Q' s1.er q1 (c.step s1)
      | true => exact (c.step s1).dat s1.er (.bl _) q1
    · exact q1.elim⟩
def wNotV (w : WE) : WE := fun ρ Q => w ρ fun x ρ1 => match x with
  | .dat (.bool c) => Q (.dat (.bool (!c))) ρ1
  | _ => False
theorem xe_not {a : Expr} {t : TE} {w : WE} (h : XE X a t w) : XE X (.UnaryOp .Not a pos) (tNotV t) (wNotV w) :=
  ⟨pe_not h.pe, fun Hf H σ ρ Q Q' E hw c => h.so Hf H σ ρ _ _ E hw fun v Hf1 H1 d ρ1 s1 r1 q1 => by
    split at q1
    · rename_i k
      cases r1.1
      exact ⟨k, rfl, (c.step s1).dat s1.er (.bl _) q1⟩
    · exact q1.elim⟩
end
end DL
end
section
set_option Elab.async false
set_option linter.all false
set_option maxRecDepth 100000
set_option maxHeartbeats 1000000
namespace DL
open PySem L2

section
variable {K : PySem.W.Frag} {σ : St} {Hf H H0 Hf1 H1 : Hp} {ρ ρ1 : Den} {v : V} {d : DV} {Q : DV → Den → Prop} {Q' : VK}
theorem AV.vs (h : AV K Hf σ v d) : VS K Hf H σ v d := by
  cases d with
  | dat x => exact h
  | fn u => exact h
  | own i => exact h
  | _ => exact h.elim
/-- what is walked, indexed, cut -/
def seqOf (ρ : Den) (d : DV) : Option (Bool × List PyData) := match datOf ρ d with
  | some (.list xs) => some (false, xs)
  | some (.tuple xs) => some (true, xs)
  | _ => none
def Sq (K : PySem.W.Frag) (H : Hp) (a : Addr) (b : Bool) (vs : List V) : Prop := match b with
  | true => SqT K H a vs
  | false => SqL K H a vs
theorem Sq.mono {a : Addr} {b : Bool} {vs : List V} (e : Same H H1) (h : Sq K H a b vs) : Sq K H1 a b vs := by
  cases b with
  | true => exact sqT_mono e h
  | false => exact e.seq h
theorem Sq.or {a : Addr} {b : Bool} {vs : List V} (h : Sq K H a b vs) : SqL K H a vs ∨ SqT K H a vs := by
  cases b with
  | true => exact .inr h
  | false => exact .inl h
theorem seq_of {b : Bool} {ds : List PyData} (E : ER K Hf H σ ρ) (h : VS K Hf H σ v d) (e : seqOf ρ d = some (b, ds)) : ∃ a vs, v = .ref a ∧ Sq K H a b vs ∧ DpAll K Hf vs ds := by
  unfold seqOf at e
  cases d with
  | dat x =>
    have h : Dp K Hf v x := h
    cases h with
    | lst hs ha => cases e; exact ⟨_, _, rfl, E.ex.seq hs, ha⟩
    | tup hs ha => cases e; exact ⟨_, _, rfl, sqT_mono E.ex hs, ha⟩
    | _ => cases e
  | lst xs =>
    cases e
    obtain ⟨a, rfl, _, vs, h1, h2⟩ := h
    exact ⟨a, vs, rfl, .inl (.inl h1), h2⟩
  | own i =>
    have h' : σ[i]? = some (some v) := h
    cases q : ownDat ρ[i]? with
    | none => rw [show datOf ρ (.own i) = ownDat ρ[i]? from rfl, q] at e; cases e
    | some y =>
      obtain ⟨xs, rfl, q2⟩ := ownDat_some q
      rw [show datOf ρ (.own i) = ownDat ρ[i]? from rfl, q] at e
      cases e
      rcases q2 with q2 | q2
      · obtain ⟨a, h1, h2, vs, h3, h4⟩ := E.own (d := .lst ds) q2 rfl
        rw [h1] at h'; cases h'
        exact ⟨a, vs, rfl, .inl (.inl h3), h4⟩
      · obtain ⟨a, h1, h2, vs, h3, h4⟩ := E.own (d := .arg ds) q2 rfl
        rw [h1] at h'; cases h'
        exact ⟨a, vs, rfl, .inl (.inl h3), h4⟩
  | _ => cases e
/-- a new tuple of data -/
theorem CnE.tup {vs : List V} {ds : List PyData} {p : Addr} (E : ER K Hf H σ ρ) (c : CnE K σ Hf H ρ Q Q') (ha : DpAll K Hf vs ds) (h : H p = none) (q : Q (.dat (.tuple ds)) ρ) : Q' (.ref p) (upd H p (.tup vs)) :=
  c (.ref p) _ _ (.dat (.tuple ds)) ρ (st2_new E h) ⟨.tup (.inl (.inl upd_same)) (dpAll_mono (same_new (E.hf_none h)) _ _ ha), fun z => nomatch z⟩ q
/-- a new list of data -/
theorem CnE.lst {vs : List V} {ds : List PyData} {p : Addr} (E : ER K Hf H σ ρ) (c : CnE K σ Hf H ρ Q Q') (ha : DpAll K Hf vs ds) (h : H p = none) (q : Q (.lst ds) ρ) : Q' (.ref p) (upd H p (.lst vs)) :=
  c (.ref p) _ _ (.lst ds) ρ (st2_newO E h) ⟨⟨p, rfl, E.hf_none h, vs, upd_same, ha⟩, fun _ a e => by cases e; exact h⟩ q
end

section
variable {X : Cx} {pos : Pos}
/-! ### arguments -/
def wNil : WA := fun ρ Q => Q [] ρ
def wCons (w : WE) (wa : WA) : WA := fun ρ Q => w ρ fun x ρ1 => match x with
  | .dat d => wa ρ1 fun xs ρ2 => Q (.dat d :: xs) ρ2
  | .fn v => wa ρ1 fun xs ρ2 => Q (.fn v :: xs) ρ2
  | .own i => wa ρ1 fun xs ρ2 => Q (.own i :: xs) ρ2
  | .lst l => wa ρ1 fun xs ρ2 => Q (.dat (.list l) :: xs) ρ2
  | _ => False
theorem xa_nil : XA X [] tNil wNil := ⟨pa_nil, fun Hf H σ ρ Q Q' E hw c => c [] Hf H [] ρ (.refl E) .nil hw⟩
theorem xa_cons {e : Expr} {es : List Expr} {t : TE} {ta : TA} {w : WE} {wa : WA} (h : XE X e t w) (h2 : XA X es ta wa) (hs : starEach (e :: es) X.env = (false, eval e X.env) :: starEach es X.env := by rfl) : XA X (e :: es) (tCons t ta) (wCons w wa) := by
  refine ⟨pa_cons h.pe h2.pa hs, fun Hf H σ ρ Q Q' E hw c => ?_⟩
  refine h.so Hf H σ ρ _ _ E hw fun x Hf1 H1 d ρ1 s1 r1 q1 => ?_
  have fin : ∀ {Hf2 : Hp} {d' : DV}, St2 X.K σ Hf H ρ Hf2 H1 ρ1 → AV X.K Hf2 σ x d' → wa ρ1 (fun xs ρ2 => Q (d' :: xs) ρ2) → ta σ H1 fun xs H2 => Q' (x :: xs) H2 := fun {Hf2 d'} s a q => by
    refine h2.so Hf2 H1 σ ρ1 _ _ s.er q fun ys Hf3 H3 ds ρ3 s3 r3 q3 => ?_
    exact c (x :: ys) Hf3 H3 (d' :: ds) ρ3 (s.trans s3) (.cons (a.mono s3.st.fx) r3) q3
  cases d with
  | dat y => exact fin (d' := .dat y) s1 r1.1 q1
  | fn u => exact fin (d' := .fn u) s1 r1.1 q1
  | own i => exact fin (d' := .own i) s1 r1 q1
  | lst xs =>
    obtain ⟨Hf2, s2, a2⟩ := st2_freeze E s1 r1
    exact fin (d' := .dat (.list xs)) s2 a2 q1
  | _ => exact q1.elim
def wStar (w : WE) (wa : WA) : WA := fun ρ Q => w ρ fun x ρ1 => match seqOf ρ1 x with
  | some (_, ds) => wa ρ1 fun xs ρ2 => Q (ds.map DV.dat ++ xs) ρ2
  | none => False
theorem avs_dats {K : PySem.W.Frag} {Hf : Hp} {σ : St} : ∀ {vs : List V} {ds : List PyData}, DpAll K Hf vs ds → AVs K Hf σ vs (ds.map DV.dat)
  | _, _, .nil => .nil
  | _, _, .cons h t => .cons h (avs_dats t)
theorem AVs.app {K : PySem.W.Frag} {Hf : Hp} {σ : St} : ∀ {vs us : List V} {ds es : List DV}, AVs K Hf σ vs ds → AVs K Hf σ us es → AVs K Hf σ (vs ++ us) (ds ++ es)
  | _, _, _, _, .nil, s => s
  | _, _, _, _, .cons h t, s => .cons h (AVs.app t s)
theorem xa_star {e : Expr} {es : List Expr} {t : TE} {ta : TA} {w : WE} {wa : WA} {p : Pos} (h : XE X e t w) (h2 : XA X es ta wa) (hs : starEach (.Starred e p :: es) X.env = (true, eval e X.env) :: starEach es X.env := by rfl) : XA X (.Starred e p :: es) (StX.tStar X.K t ta) (wStar w wa) := by
  refine ⟨StX.pa_star h.pe h2.pa hs, fun Hf H σ ρ Q Q' E hw c => ?_⟩
  refine h.so Hf H σ ρ _ _ E hw fun x Hf1 H1 d ρ1 s1 r1 q1 => ?_
  split at q1
  · rename_i b ds hq
    obtain ⟨a, vs, rfl, hs2, ha⟩ := seq_of s1.er r1.vs hq
    refine ⟨a, vs, rfl, hs2.or.symm, ?_⟩
    refine h2.so Hf1 H1 σ ρ1 _ _ s1.er q1 fun ys Hf3 H3 es ρ3 s3 r3 q3 => ?_
    exact c _ Hf3 H3 _ ρ3 (s1.trans s3) (AVs.app (avs_dats (dpAll_mono s3.st.fx _ _ ha)) r3) q3
  · exact q1.elim
/-- all of them data -/
def dats : List DV → Option (List PyData)
  | [] => some []
  | .dat d :: xs => (dats xs).map (d :: ·)
  | _ :: _ => none
theorem dats_of {K : PySem.W.Frag} {Hf : Hp} {σ : St} : ∀ {vs : List V} {xs : List DV} {ds : List PyData}, AVs K Hf σ vs xs → dats xs = some ds → DpAll K Hf vs ds
  | _, [], _, .nil, e => by cases e; exact .nil
  | _, .dat d :: xs, ds, .cons h t, e => by
    obtain ⟨es, h1, rfl⟩ := Option.map_eq_some_iff.mp (show (dats xs).map (d :: ·) = some ds from e)
    exact .cons h (dats_of t h1)
  | _, .fn _ :: _, _, .cons h t, e => by cases e
  | _, .lst _ :: _, _, .cons h t, e => by cases e
  | _, .arg _ :: _, _, .cons h t, e => by cases e
  | _, .dic _ :: _, _, .cons h t, e => by cases e
  | _, .own _ :: _, _, .cons h t, e => by cases e
theorem dats_map (ds : List PyData) (xs : List DV) : dats (ds.map DV.dat ++ xs) = (dats xs).map (ds ++ ·) := by
  induction ds with
  | nil => cases h : dats xs <;> simp [h]
  | cons d ds ih =>
    show (dats (ds.map DV.dat ++ xs)).map (d :: ·) = _
    rw [ih]
    cases h : dats xs <;> simp
theorem dats_map0 (ds : List PyData) : dats (ds.map DV.dat) = some ds := by
  have := dats_map ds []
  simpa [dats] using this
def wTup (wa : WA) : WE := fun ρ Q => wa ρ fun xs ρ1 => match dats xs with
  | some ds => ds.length ≤ sizeLine ∧ Q (.dat (.tuple ds)) ρ1
  | none => False
def wLst (wa : WA) : WE := fun ρ Q => wa ρ fun xs ρ1 => match dats xs with
  | some ds => ds.length ≤ sizeLine ∧ Q (.lst ds) ρ1
  | none => False
theorem xe_tup {es : List Expr} {k : Nat} {t : TA} {wa : WA} (h : XA X es t wa) : XE X (.Tuple es k pos) (tTup t) (wTup wa) :=
  ⟨pe_tup h.pa, fun Hf H σ ρ Q Q' E hw c => by
    refine h.so Hf H σ ρ _ _ E hw fun vs Hf1 H1 xs ρ1 s1 r1 q1 => ?_
    split at q1
    · rename_i ds hd
      have ha := dats_of r1 hd
      exact ⟨by rw [DpAll.length ha]; exact q1.1, fun p hp => (c.step s1).tup s1.er ha hp q1.2⟩
    · exact q1.elim⟩
theorem xe_lst {es : List Expr} {t : TA} {wa : WA} (h : XA X es t wa) : XE X (.List es pos) (tLst t) (wLst wa) :=
  ⟨pe_lst h.pa, fun Hf H σ ρ Q Q' E hw c => by
    refine h.so Hf H σ ρ _ _ E hw fun vs Hf1 H1 xs ρ1 s1 r1 q1 => ?_
    split at q1
    · rename_i ds hd
      have ha := dats_of r1 hd
      exact ⟨by rw [DpAll.length ha]; exact q1.1, fun p hp => (c.step s1).lst s1.er ha hp q1.2⟩
    · exact q1.elim⟩

/-! ### places, cuts -/
def oIx : WO := fun x y ρ Q => match seqOf ρ x, y with
  | some (_, ds), .dat (.int i) => match atI ds i with
    | some d => Q (.dat d) ρ
    | none => False
  | _, _ => False
theorem atI_dp {K : PySem.W.Frag} {H : Hp} {vs : List V} {ds : List PyData} {i : Int} {d : PyData} (ha : DpAll K H vs ds) (e : atI ds i = some d) : ∃ v, atI vs i = some v ∧ Dp K H v d := by
  unfold atI at e ⊢
  obtain ⟨j, h1, h2⟩ := Option.bind_eq_some_iff.mp e
  obtain ⟨v, h3, h4⟩ := DpAll.get ha h2
  exact ⟨v, by rw [DpAll.length ha, h1]; exact h3, h4⟩
theorem xe_ix {a b : Expr} {ta tb : TE} {wa wb : WE} (ha : XE X a ta wa) (hb : XE X b tb wb) (hs : PlainIx b) : XE X (.Subscript a b pos) (tOp (rIx X.K) ta tb) (wBin oIx wa wb) :=
  ⟨pe_ix ix_seq ha.pe hb.pe hs, fun Hf H σ ρ Q Q' E hw c => by
    refine ha.so Hf H σ ρ _ _ E hw fun x Hf1 H1 dx ρ1 s1 r1 q1 => ?_
    refine hb.so Hf1 H1 σ ρ1 _ _ s1.er q1 fun y Hf2 H2 dy ρ2 s2 r2 q2 => ?_
    have r1' := rr_step E s1 r1 s2
    unfold oIx at q2
    split at q2
    · rename_i b ds i hq
      split at q2
      · rename_i d hd
        obtain ⟨p, vs, rfl, h1, h2⟩ := seq_of s2.er r1'.vs hq
        obtain ⟨v, h3, h4⟩ := atI_dp h2 hd
        cases r2.1
        have fin : Q' v H2 := (c.step (s1.trans s2)).dat s2.er h4 q2
        cases b with
        | true => exact .inr (.inl ⟨p, vs, i, v, rfl, rfl, h1, h3, fin⟩)
        | false => exact .inl ⟨p, vs, i, v, rfl, rfl, h1, h3, fin⟩
      · exact q2.elim
    · exact q2.elim⟩
def cutD {α : Type} (xs : List α) (lo hi : Option Int) : List α := (xs.drop (HT.sIx xs.length 0 lo)).take (HT.sIx xs.length xs.length hi - HT.sIx xs.length 0 lo)
abbrev WP := Den → (Option Int → Den → Prop) → Prop
structure XP (X : Cx) (e : Option Expr) (t : TO) (w : WP) : Prop where
  po : PO X e t
  so : ∀ Hf H σ ρ (Q : Option Int → Den → Prop) (Q' : Option Int → Hp → Prop), ER X.K Hf H σ ρ → w ρ Q → (∀ o Hf' H' ρ', St2 X.K σ Hf H ρ Hf' H' ρ' → Q o ρ' → Q' o H') → t σ H Q'
def wNoPart : WP := fun ρ Q => Q none ρ
def wPart (w : WE) : WP := fun ρ Q => w ρ fun x ρ1 => match x with
  | .dat (.int i) => Q (some i) ρ1
  | _ => False
theorem xp_none : XP X none tNoPart wNoPart := ⟨po_none, fun Hf H σ ρ Q Q' E hw c => c none Hf H ρ (.refl E) hw⟩
theorem xp_some {e : Expr} {t : TE} {w : WE} (h : XE X e t w) : XP X (some e) (tPart t) (wPart w) :=
  ⟨po_some h.pe, fun Hf H σ ρ Q Q' E hw c => by
    refine h.so Hf H σ ρ _ _ E hw fun x Hf1 H1 d ρ1 s1 r1 q1 => ?_
    split at q1
    · cases r1.1
      exact ⟨_, rfl, c _ Hf1 H1 ρ1 s1 q1⟩
    · exact q1.elim⟩
def wSl (w : WE) (wl wh : WP) : WE := fun ρ Q => w ρ fun x ρ1 => wl ρ1 fun lo ρ2 => wh ρ2 fun hi ρ3 => match seqOf ρ3 x with
  | some (true, ds) => Q (.dat (.tuple (cutD ds lo hi))) ρ3
  | some (false, ds) => Q (.lst (cutD ds lo hi)) ρ3
  | none => False
theorem cut_dp {K : PySem.W.Frag} {H : Hp} {vs : List V} {ds : List PyData} (lo hi : Option Int) (h : DpAll K H vs ds) : DpAll K H (cutV vs lo hi) (cutD ds lo hi) := by
  unfold cutV cutD
  rw [DpAll.length h]
  exact DpAll.take _ (DpAll.drop _ h)
theorem xe_sl {e : Expr} {lo hi : Option Expr} {t : TE} {tl th : TO} {w : WE} {wl wh : WP} {p2 : Pos} (h : XE X e t w) (hl : XP X lo tl wl) (hh : XP X hi th wh) :
    XE X (.Subscript e (.Slice lo hi none p2) pos) (tSl (fun x l u H Q => rSlA X.K x l u H Q ∨ rSlL X.K x l u H Q) t tl th) (wSl w wl wh) :=
  ⟨pe_slice (SlR.or sl_tupA sl_list) h.pe hl.po hh.po, fun Hf H σ ρ Q Q' E hw c => by
    refine h.so Hf H σ ρ _ _ E hw fun x Hf1 H1 dx ρ1 s1 r1 q1 => ?_
    refine hl.so Hf1 H1 σ ρ1 _ _ s1.er q1 fun l Hf2 H2 ρ2 s2 q2 => ?_
    refine hh.so Hf2 H2 σ ρ2 _ _ s2.er q2 fun u Hf3 H3 ρ3 s3 q3 => ?_
    have r1' := rr_step E s1 r1 (s2.trans s3)
    have c' := c.step (s1.trans (s2.trans s3))
    split at q3
    · rename_i ds hq
      obtain ⟨a, vs, rfl, h1, h2⟩ := seq_of s3.er r1'.vs hq
      refine .inl ⟨a, vs, rfl, h1, fun hw => ?_, fun _ p hp => c'.tup s3.er (cut_dp l u h2) hp q3⟩
      have e : cutD ds l u = ds := by
        unfold cutD
        rw [← DpAll.length h2, hw.1, hw.2, DpAll.length h2]
        simp
      rw [e] at q3
      have hb := h1
      refine c' (.ref a) Hf3 H3 (.dat (.tuple ds)) ρ3 (.refl s3.er) ⟨?_, fun z => nomatch z⟩ q3
      cases dx with
      | dat y =>
        have hy : y = .tuple ds := by
          unfold seqOf at hq
          cases y <;> first | (cases hq; rfl) | cases hq
        subst hy
        exact r1'.1
      | own i =>
        unfold seqOf at hq
        rw [show datOf ρ3 (.own i) = ownDat ρ3[i]? from rfl] at hq
        cases q : ownDat ρ3[i]? with
        | none => rw [q] at hq; cases hq
        | some z =>
          obtain ⟨xs, rfl, _⟩ := ownDat_some q
          rw [q] at hq; cases hq
      | _ => cases hq
    · rename_i ds hq
      obtain ⟨a, vs, rfl, h1, h2⟩ := seq_of s3.er r1'.vs hq
      exact .inr ⟨a, vs, rfl, h1, fun p hp => c'.lst s3.er (cut_dp l u h2) hp q3⟩
    · exact q3.elim⟩
/-- t + u -/
def oCat : WO := fun x y ρ Q => match x, y with
  | .dat (.tuple ds), .dat (.tuple es) => ds.length + es.length ≤ sizeLine ∧ Q (.dat (.tuple (ds ++ es))) ρ
  | _, _ => False
theorem dpAll_nil {K : PySem.W.Frag} {H : Hp} {ds : List PyData} (h : DpAll K H [] ds) : ds = [] := by cases h; rfl
theorem xo_catT : XO X (binaryOp .Add) (rCatA X.K) oCat :=
  ⟨op_catA, fun Hf H σ ρ Q Q' x y dx dy E hx hy ho c => by
    unfold oCat at ho
    split at ho
    · rename_i ds es
      have hx : Dp X.K Hf x (.tuple ds) := hx
      have hy : Dp X.K Hf y (.tuple es) := hy
      cases hx with
      | tup s1 a1 =>
        cases hy with
        | tup s2 a2 =>
          refine ⟨_, _, _, _, rfl, rfl, sqT_mono E.ex s1, sqT_mono E.ex s2, by rw [DpAll.length a1, DpAll.length a2]; exact ho.1, fun e => ?_, fun _ e => ?_, fun _ _ p hp => c.tup E (DpAll.app a1 a2) hp ho.2⟩
          · subst e
            have := dpAll_nil a1
            subst this
            exact c.dat E (.tup s2 a2) ho.2
          · subst e
            have := dpAll_nil a2
            subst this
            have q := ho.2
            rw [List.append_nil] at q
            exact c.dat E (.tup s1 a1) q
    · exact ho.elim⟩

/-! ### calls of built-ins -/
abbrev WC := List DV → Den → (DV → Den → Prop) → Prop
structure XC (X : Cx) (f : Value) (r : List V → Hp → VK → Prop) (o : WC) : Prop where
  cr : CallR X f r
  so : ∀ Hf H σ ρ Q Q' vs ds, ER X.K Hf H σ ρ → AVs X.K Hf σ vs ds → o ds ρ Q → CnE X.K σ Hf H ρ Q Q' → r vs H Q'
def wCall (o : WC) (wa : WA) : WE := fun ρ Q => wa ρ fun xs ρ1 => o xs ρ1 Q
theorem xe_callB {id : String} {x : Str} {p : Pos} {e : Expr} {es : List Expr} {t : TA} {wa : WA} {r : List V → Hp → VK → Prop} {o : WC} (hc : XC X (.builtin id) r o) (hg : Gl X x) (hm : X.mg x = none) (hv : bootBuiltins x = some (.builtin id)) (ha : XA X (e :: es) t wa) (hn : x ≠ "__name__" := by decide)
    (hdb : (x == ("__debug__" : Str)) = false := by decide) (he : starEach (e :: es) X.env = (false, eval e X.env) :: starEach es X.env := by rfl) (hpl : (backTo pos (starEach es X.env)).any (·.1) = false := by rfl) : XE X (.Call (.Name x p) (e :: es) [] pos) (tCB r t) (wCall o wa) :=
  ⟨pe_callB hc.cr hg hm hv ha.pa hn hdb he hpl, fun Hf H σ ρ Q Q' E hw c => ha.so Hf H σ ρ _ _ E hw fun vs Hf1 H1 xs ρ1 s1 r1 q1 => hc.so Hf1 H1 σ ρ1 Q Q' vs xs s1.er r1 q1 (c.step s1)⟩
theorem xe_callTy {T : String} {x : Str} {p : Pos} {e : Expr} {es : List Expr} {t : TA} {wa : WA} {r : List V → Hp → VK → Prop} {o : WC} (hc : XC X (.type T) r o) (hg : Gl X x) (hm : X.mg x = none) (hv : bootBuiltins x = some (.type T)) (ha : XA X (e :: es) t wa) (hn : x ≠ "__name__" := by decide)
    (hdb : (x == ("__debug__" : Str)) = false := by decide) (he : starEach (e :: es) X.env = (false, eval e X.env) :: starEach es X.env := by rfl) (hpl : (backTo pos (starEach es X.env)).any (·.1) = false := by rfl) : XE X (.Call (.Name x p) (e :: es) [] pos) (tCB r t) (wCall o wa) :=
  ⟨pe_callTy hc.cr hg hm hv ha.pa hn hdb he hpl, fun Hf H σ ρ Q Q' E hw c => ha.so Hf H σ ρ _ _ E hw fun vs Hf1 H1 xs ρ1 s1 r1 q1 => hc.so Hf1 H1 σ ρ1 Q Q' vs xs s1.er r1 q1 (c.step s1)⟩
theorem avs1 {K : PySem.W.Frag} {Hf : Hp} {σ : St} {vs : List V} {d : DV} (h : AVs K Hf σ vs [d]) : ∃ v, vs = [v] ∧ AV K Hf σ v d := by
  cases h with
  | cons h t => cases t; exact ⟨_, rfl, h⟩
theorem avs2 {K : PySem.W.Frag} {Hf : Hp} {σ : St} {vs : List V} {d e : DV} (h : AVs K Hf σ vs [d, e]) : ∃ v u, vs = [v, u] ∧ AV K Hf σ v d ∧ AV K Hf σ u e := by
  cases h with
  | cons h t => cases t with
    | cons h2 t2 => cases t2; exact ⟨_, _, rfl, h, h2⟩
def oLen : WC := fun xs ρ Q => match xs with
  | [x] => match seqOf ρ x with
    | some (_, ds) => Q (.dat (.int (ds.length : Nat))) ρ
    | none => False
  | _ => False
theorem xc_len : XC X (.builtin "len") (fun xs H Q => ∃ p ys, xs = [.ref p] ∧ (SqL X.K H p ys ∨ SqT X.K H p ys) ∧ Q (.int ys.length) H) oLen :=
  ⟨call_len_seq, fun Hf H σ ρ Q Q' vs ds E ha ho c => by
    unfold oLen at ho
    split at ho
    · rename_i x
      obtain ⟨v, rfl, hv⟩ := avs1 ha
      split at ho
      · rename_i b ds hq
        obtain ⟨a, vs, rfl, h1, h2⟩ := seq_of E hv.vs hq
        refine ⟨a, vs, rfl, h1.or, c.dat E (x := .int _) (.int _) ?_⟩
        rw [DpAll.length h2]; exact ho
      · exact ho.elim
    · exact ho.elim⟩
def oMax2 : WC := fun xs ρ Q => match xs with
  | [.dat (.int i), .dat (.int j)] => Q (.dat (.int (max i j))) ρ
  | _ => False
def oMin2 : WC := fun xs ρ Q => match xs with
  | [.dat (.int i), .dat (.int j)] => Q (.dat (.int (min i j))) ρ
  | _ => False
theorem xc_max2 (hc : X.calm = true := by rfl) : XC X (.builtin "max") (fun xs H Q => ∃ i j, xs = [.int i, .int j] ∧ Q (.int (if j > i then j else i)) H) oMax2 :=
  ⟨call_max2 hc, fun Hf H σ ρ Q Q' vs ds E ha ho c => by
    unfold oMax2 at ho
    split at ho
    · rename_i i j
      obtain ⟨v, u, rfl, h1, h2⟩ := avs2 ha
      cases h1; cases h2
      refine ⟨i, j, rfl, c.dat E (x := .int _) (.int _) ?_⟩
      rw [show (if j > i then j else i) = max i j by split <;> omega]; exact ho
    · exact ho.elim⟩
theorem xc_min2 (hc : X.calm = true := by rfl) : XC X (.builtin "min") (fun xs H Q => ∃ i j, xs = [.int i, .int j] ∧ Q (.int (if j < i then j else i)) H) oMin2 :=
  ⟨call_min2 hc, fun Hf H σ ρ Q Q' vs ds E ha ho c => by
    unfold oMin2 at ho
    split at ho
    · rename_i i j
      obtain ⟨v, u, rfl, h1, h2⟩ := avs2 ha
      cases h1; cases h2
      refine ⟨i, j, rfl, c.dat E (x := .int _) (.int _) ?_⟩
      rw [show (if j < i then j else i) = min i j by split <;> omega]; exact ho
    · exact ho.elim⟩
def oTuple : WC := fun xs ρ Q => match xs with
  | [x] => match seqOf ρ x with
    | some (_, ds) => Q (.dat (.tuple ds)) ρ
    | none => False
  | _ => False
theorem xc_tuple : XC X (.type "tuple") (fun xs H Q => ∃ p ys, xs = [.ref p] ∧ ((SqL X.K H p ys ∧ ∀ l, H l = none → Q (.ref l) (upd H l (.tup ys))) ∨ (SqT X.K H p ys ∧ Q (.ref p) H))) oTuple :=
  ⟨call_tuple_of, fun Hf H σ ρ Q Q' vs ds E ha ho c => by
    unfold oTuple at ho
    split at ho
    · rename_i x
      obtain ⟨v, rfl, hv⟩ := avs1 ha
      split at ho
      · rename_i b ds hq
        obtain ⟨a, vs, rfl, h1, h2⟩ := seq_of E hv.vs hq
        refine ⟨a, vs, rfl, ?_⟩
        cases b with
        | false => exact .inl ⟨h1, fun l hl => c.tup E h2 hl ho⟩
        | true =>
          refine .inr ⟨h1, c (.ref a) Hf H (.dat (.tuple ds)) ρ (.refl E) ⟨?_, fun z => nomatch z⟩ ho⟩
          cases x with
          | dat y =>
            have hy : y = .tuple ds := by
              unfold seqOf at hq
              cases y <;> first | (cases hq; rfl) | cases hq
            subst hy
            exact hv
          | own i =>
            unfold seqOf at hq
            rw [show datOf ρ (.own i) = ownDat ρ[i]? from rfl] at hq
            cases q : ownDat ρ[i]? with
            | none => rw [q] at hq; cases hq
            | some z =>
              obtain ⟨xs, rfl, _⟩ := ownDat_some q
              rw [q] at hq; cases hq
          | _ => cases hq
      · exact ho.elim
    · exact ho.elim⟩
def oList : WC := fun xs ρ Q => match xs with
  | [x] => match seqOf ρ x with
    | some (_, ds) => Q (.lst ds) ρ
    | none => False
  | _ => False
theorem xc_list : XC X (.type "list") (fun xs H Q => ∃ p ys, xs = [.ref p] ∧ (SqL X.K H p ys ∨ SqT X.K H p ys) ∧ ∀ l, H l = none → Q (.ref l) (upd H l (.lst ys))) oList :=
  ⟨call_list_of, fun Hf H σ ρ Q Q' vs ds E ha ho c => by
    unfold oList at ho
    split at ho
    · rename_i x
      obtain ⟨v, rfl, hv⟩ := avs1 ha
      split at ho
      · rename_i b ds hq
        obtain ⟨a, vs, rfl, h1, h2⟩ := seq_of E hv.vs hq
        exact ⟨a, vs, rfl, h1.or, fun l hl => c.lst E h2 hl ho⟩
      · exact ho.elim
    · exact ho.elim⟩
def oInt1 : WC := fun xs ρ Q => match xs with
  | [.dat (.int i)] => Q (.dat (.int i)) ρ
  | _ => False
theorem xc_int : XC X (.type "int") (fun xs H Q => (∃ i, xs = [.int i] ∧ Q (.int i) H) ∨ ∃ k, xs = [.bl k] ∧ Q (.int (if k then 1 else 0)) H) oInt1 :=
  ⟨call_int1, fun Hf H σ ρ Q Q' vs ds E ha ho c => by
    unfold oInt1 at ho
    split at ho
    · rename_i i
      obtain ⟨v, rfl, h1⟩ := avs1 ha
      cases h1
      exact .inl ⟨i, rfl, c.dat E (.int _) ho⟩
    · exact ho.elim⟩
end
end DL
end
section
set_option Elab.async false
set_option linter.all false
set_option maxRecDepth 100000
set_option maxHeartbeats 1000000
namespace DL
open PySem L2

/-! ### a name whose list is frozen -/
section
variable {K : PySem.W.Frag} {σ : St} {Hf H H0 Hf1 H1 : Hp} {ρ ρ1 : Den} {v : V} {d : DV} {Q : DV → Den → Prop} {Q' : VK}
theorem st2_frz {i : Nat} {xs : List PyData} {v : V} (E : ER K Hf H σ ρ) (hi : ρ[i]? = some (some (.lst xs))) (hv : σ[i]? = some (some v)) :
    ∃ Hf2, St2 K σ Hf H ρ Hf2 H (ρ.set i (some (.dat (.list xs)))) ∧ Dp K Hf2 v (.list xs) := by
  obtain ⟨a, h1, h2, vs, h3, h4⟩ := E.own (d := .lst xs) hi rfl
  rw [h1] at hv; cases hv
  have hil : i < ρ.length := (List.getElem?_eq_some_iff.mp hi).1
  have e1 : Same Hf (upd Hf a (.lst vs)) := same_new h2
  have dp : Dp K (upd Hf a (.lst vs)) (.ref a) (.list xs) := .lst (.inl (.inl upd_same)) (dpAll_mono e1 _ _ h4)
  have back : ∀ {j : Nat} {e : DV}, (ρ.set i (some (.dat (.list xs))))[j]? = some (some e) → e.isOwn = true → i ≠ j ∧ ρ[j]? = some (some e) := fun {j e} q oe => by
    rcases set_get q with ⟨_, e1⟩ | q
    · cases e1; cases oe
    · exact q
  refine ⟨upd Hf a (.lst vs), ⟨⟨e1, fun b o q _ => q, fun _ q => q, fun b o q n => ?_⟩, ⟨by rw [List.length_set]; exact E.len, fun b o q => ?_, fun j e q => ?_, fun j k e f b q1 q2 o1 o2 s1 s2 => ?_⟩, fun b ⟨j, e, q, oe, s⟩ => ⟨j, e, (back q oe).2, oe, s⟩, fun j => ?_⟩, dp⟩
  · by_cases z : b = a
    · exact .inr (z ▸ ⟨i, _, hi, rfl, h1⟩)
    · rw [upd_ne z, n] at q; cases q
  · by_cases z : b = a
    · subst z; rw [upd_same] at q; cases q; exact h3
    · rw [upd_ne z] at q; exact E.ex b o q
  · rcases set_get q with ⟨rfl, e1'⟩ | ⟨ne, q⟩
    · cases e1'
      exact ⟨.ref a, h1, dp⟩
    · obtain ⟨u, g1, g2⟩ := E.sl j e q
      refine ⟨u, g1, vr_keep g2 e1 fun b eb oe => ⟨fun z => ?_, fun o z => z⟩⟩
      subst eb
      have nb : b ≠ a := fun z => ne (E.dj i j _ e a hi q rfl oe h1 (z ▸ g1))
      rw [upd_ne nb]; exact z
  · exact E.dj j k e f b (back q1 o1).2 (back q2 o2).2 o1 o2 s1 s2
  · constructor
    · rintro ⟨ys, q⟩
      exact ⟨ys, (back q rfl).2⟩
    · rintro ⟨ys, q⟩
      have ne : i ≠ j := fun e => by rw [← e, hi] at q; cases q
      exact ⟨ys, by rw [List.getElem?_set_ne ne]; exact q⟩
end
def wNameF (i : Nat) : WE := fun ρ Q => match ρ[i]? with
  | some (some (.lst xs)) => Q (.dat (.list xs)) (ρ.set i (some (.dat (.list xs))))
  | some (some d) => if d.isOwn = true then Q (.own i) ρ else Q d ρ
  | _ => False
theorem xe_nameF {X : Cx} {e : Expr} {i : Nat} (h : PE X e (tVar i)) : XE X e (tVar i) (wNameF i) := by
  refine ⟨h, fun Hf H σ ρ Q Q' E hw c => ?_⟩
  unfold wNameF at hw
  split at hw
  · rename_i xs hd
    obtain ⟨v, h1, h2⟩ := E.sl i _ hd
    obtain ⟨Hf2, s2, d2⟩ := st2_frz E hd h1
    exact ⟨v, h1, c v Hf2 H (.dat (.list xs)) _ s2 ⟨d2, fun z => nomatch z⟩ hw⟩
  · rename_i d nl hd
    exact (xe_name h).so Hf H σ ρ Q Q' E (by unfold wName; rw [hd]; exact hw) c
  · exact hw.elim

/-! ### calls of defs -/
abbrev DSpec := List DV → (DV → List DV → Prop) → Prop
def argOk : DV → Bool
  | .dat _ => true
  | .fn _ => true
  | .arg _ => true
  | _ => false
def Shp : List DV → List DV → Prop := Paired fun d o => match d with
  | .arg _ => ∃ ys, o = .arg ys
  | d => o = d
def spD (K : PySem.W.Frag) (S : DSpec) : Sp := fun vs H Q _ => ∃ (Hf : Hp) (ds : List DV) (K' : DV → List DV → Prop), ER K Hf H (vs.map some) (ds.map some) ∧ ds.all argOk = true ∧ S ds K' ∧
  ∀ v Hf' H' r outs, Stp Hf H Hf' H' (Ow (vs.map some) (ds.map some)) → ER K Hf' H' (vs.map some) (outs.map some) → Shp ds outs → VR K Hf' H' v r → (r.isOwn = true → ∀ a, v = .ref a → H a = none) → K' r outs → Q v H'
def toArg (ρ : Den) : DV → Option DV
  | .own i => match ownDat ρ[i]? with
    | some (.list xs) => some (.arg xs)
    | _ => none
  | .dat d => some (.dat d)
  | .fn v => some (.fn v)
  | _ => none
def toArgs (ρ : Den) : List DV → Option (List DV)
  | [] => some []
  | x :: xs => (toArg ρ x).bind fun d => (toArgs ρ xs).map (d :: ·)
def owns : List DV → List Nat
  | [] => []
  | .own i :: xs => i :: owns xs
  | _ :: xs => owns xs
def findOut (j : Nat) : List DV → List DV → Option (List PyData)
  | .own i :: xs, o :: os => if i = j then (match o with | .arg ys => some ys | _ => none) else findOut j xs os
  | _ :: xs, _ :: os => findOut j xs os
  | _, _ => none
def pb1 (d : Option DV) (o : Option (List PyData)) : Option DV := match d, o with
  | some (.lst _), some ys => some (.lst ys)
  | some (.arg _), some ys => some (.arg ys)
  | d, _ => d
def pbGo (k : Nat) (xs outs : List DV) : Den → Den
  | [] => []
  | d :: r => pb1 d (findOut k xs outs) :: pbGo (k + 1) xs outs r
abbrev putBack (xs outs : List DV) (ρ : Den) : Den := pbGo 0 xs outs ρ
theorem pbGo_get {xs outs : List DV} : ∀ (ρ : Den) (k j : Nat), (pbGo k xs outs ρ)[j]? = (ρ[j]?).map fun d => pb1 d (findOut (k + j) xs outs)
  | [], k, j => by simp [pbGo]
  | d :: r, k, 0 => by simp [pbGo]
  | d :: r, k, j + 1 => by
    show (pb1 d (findOut k xs outs) :: pbGo (k + 1) xs outs r)[j + 1]? = _
    rw [List.getElem?_cons_succ, pbGo_get r (k + 1) j, List.getElem?_cons_succ, show k + 1 + j = k + (j + 1) by omega]
theorem pbGo_len {xs outs : List DV} : ∀ (ρ : Den) (k : Nat), (pbGo k xs outs ρ).length = ρ.length
  | [], _ => rfl
  | d :: r, k => congrArg (· + 1) (pbGo_len r (k + 1))
def wUser (S : DSpec) (wa : WA) : WE := fun ρ Q => wa ρ fun xs ρ1 => (owns xs).Nodup ∧ match toArgs ρ1 xs with
  | some ds => S ds fun r outs => Q r (putBack xs outs ρ1)
  | none => False

section
variable {K : PySem.W.Frag} {σ : St} {Hf H : Hp} {ρ : Den}
theorem toArg_ok {x d : DV} (h : toArg ρ x = some d) : argOk d = true ∧ ((d = x ∧ x.isOwn = false) ∨ ∃ i xs, x = .own i ∧ d = .arg xs ∧ (ρ[i]? = some (some (.lst xs)) ∨ ρ[i]? = some (some (.arg xs)))) := by
  cases x with
  | own i =>
    cases q : ownDat ρ[i]? with
    | none => rw [show toArg ρ (.own i) = (match ownDat ρ[i]? with | some (.list xs) => some (.arg xs) | _ => none) from rfl, q] at h; cases h
    | some y =>
      obtain ⟨xs, rfl, q2⟩ := ownDat_some q
      rw [show toArg ρ (.own i) = (match ownDat ρ[i]? with | some (.list xs) => some (.arg xs) | _ => none) from rfl, q] at h
      cases h
      exact ⟨rfl, .inr ⟨i, xs, rfl, rfl, q2⟩⟩
  | dat y => cases h; exact ⟨rfl, .inl ⟨rfl, rfl⟩⟩
  | fn u => cases h; exact ⟨rfl, .inl ⟨rfl, rfl⟩⟩
  | _ => cases h
/-- the arguments, place by place -/
theorem args_at (E : ER K Hf H σ ρ) : ∀ {vs : List V} {xs ds : List DV}, AVs K Hf σ vs xs → toArgs ρ xs = some ds →
    ∀ (i : Nat) (d : DV), ds[i]? = some d → ∃ v x, vs[i]? = some v ∧ xs[i]? = some x ∧ AV K Hf σ v x ∧ toArg ρ x = some d := by
  intro vs xs
  induction xs generalizing vs with
  | nil =>
    intro ds ha e i d hd
    cases e
    simp at hd
  | cons x xs ih =>
    intro ds ha e i d hd
    obtain ⟨d0, h1, h2⟩ := Option.bind_eq_some_iff.mp (show (toArg ρ x).bind (fun d => (toArgs ρ xs).map (d :: ·)) = some ds from e)
    obtain ⟨ds', h3, rfl⟩ := Option.map_eq_some_iff.mp h2
    cases ha with
    | cons h t =>
      cases i with
      | zero =>
        simp at hd
        subst hd
        exact ⟨_, x, rfl, rfl, h, h1⟩
      | succ i =>
        obtain ⟨v, y, g1, g2, g3, g4⟩ := ih t h3 i d (by simpa using hd)
        exact ⟨v, y, by simpa using g1, by simpa using g2, g3, g4⟩
theorem toArgs_len : ∀ {xs ds : List DV}, toArgs ρ xs = some ds → ds.length = xs.length := by
  intro xs
  induction xs with
  | nil => intro ds e; cases e; rfl
  | cons x xs ih =>
    intro ds e
    obtain ⟨d0, h1, h2⟩ := Option.bind_eq_some_iff.mp (show (toArg ρ x).bind (fun d => (toArgs ρ xs).map (d :: ·)) = some ds from e)
    obtain ⟨ds', h3, rfl⟩ := Option.map_eq_some_iff.mp h2
    simp [ih h3]
theorem owns_at : ∀ {xs : List DV} {i j k : Nat}, (owns xs).Nodup → xs[i]? = some (.own k) → xs[j]? = some (.own k) → i = j := by
  have mem : ∀ {xs : List DV} {i k : Nat}, xs[i]? = some (.own k) → k ∈ owns xs := by
    intro xs
    induction xs with
    | nil => intro i k h; simp at h
    | cons x xs ih =>
      intro i k h
      cases i with
      | zero => simp at h; subst h; exact List.mem_cons_self
      | succ i =>
        have := ih (i := i) (k := k) (by simpa using h)
        cases x <;> first | exact this | exact List.mem_cons_of_mem _ this
  intro xs
  induction xs with
  | nil => intro i j k _ h; simp at h
  | cons x xs ih =>
    intro i j k nd h1 h2
    have nd' : (owns xs).Nodup := by cases x <;> first | exact nd | exact (List.nodup_cons.mp nd).2
    cases i with
    | zero =>
      cases j with
      | zero => rfl
      | succ j =>
        simp at h1
        subst h1
        exact absurd (mem (i := j) (by simpa using h2)) (List.nodup_cons.mp nd).1
    | succ i =>
      cases j with
      | zero =>
        simp at h2
        subst h2
        exact absurd (mem (i := i) (by simpa using h1)) (List.nodup_cons.mp nd).1
      | succ j => exact congrArg (· + 1) (ih nd' (by simpa using h1) (by simpa using h2))
theorem findOut_at : ∀ {xs outs : List DV} {k i : Nat} {ys : List PyData}, (owns xs).Nodup → xs[i]? = some (.own k) → outs[i]? = some (.arg ys) → findOut k xs outs = some ys := by
  intro xs
  induction xs with
  | nil => intro outs k i ys _ h; simp at h
  | cons x xs ih =>
    intro outs k i ys nd h1 h2
    cases outs with
    | nil => simp at h2
    | cons o outs =>
      cases i with
      | zero =>
        simp at h1 h2
        subst h1; subst h2
        show (if k = k then _ else _) = _
        rw [if_pos rfl]
      | succ i =>
        have nd' : (owns xs).Nodup := by cases x <;> first | exact nd | exact (List.nodup_cons.mp nd).2
        have r := ih nd' (i := i) (by simpa using h1) (by simpa using h2)
        cases x with
        | own j =>
          have ne : ¬ j = k := fun e => by
            have := owns_at nd (i := 0) (j := i + 1) (k := k) (by simp [e]) h1
            cases this
          show (if j = k then _ else findOut k xs outs) = _
          rw [if_neg ne]; exact r
        | _ => exact r
theorem findOut_none : ∀ {xs outs : List DV} {k : Nat}, (∀ i : Nat, xs[i]? ≠ some (.own k)) → findOut k xs outs = none := by
  intro xs
  induction xs with
  | nil => intro outs k _; rfl
  | cons x xs ih =>
    intro outs k h
    have r : ∀ os : List DV, findOut k xs os = none := fun os => ih (outs := os) fun i => by simpa using h (i + 1)
    cases outs with
    | nil => cases x <;> rfl
    | cons o outs =>
      cases x with
      | own j =>
        have ne : ¬ j = k := fun e => h 0 (by simp [e])
        show (if j = k then _ else findOut k xs outs) = _
        rw [if_neg ne]; exact r outs
      | _ => exact r outs
theorem paired_at {α β : Type} {F : α → β → Prop} : ∀ {l : List α} {m : List β} {i : Nat} {x : α}, Paired F l m → l[i]? = some x → ∃ y, m[i]? = some y ∧ F x y
  | _, _, _, _, .nil, e => by simp at e
  | _, _, 0, _, .cons r _, e => by simp at e; subst e; exact ⟨_, rfl, r⟩
  | _, _, i + 1, x, .cons _ t, e => by
    obtain ⟨u, h1, h2⟩ := paired_at (i := i) (x := x) t (by simpa using e)
    exact ⟨u, by simpa using h1, h2⟩
theorem getMap {α : Type} {l : List α} {i : Nat} {x : α} (h : (l.map some)[i]? = some (some x)) : l[i]? = some x := by
  rw [List.getElem?_map] at h
  cases q : l[i]? with
  | none => rw [q] at h; cases h
  | some y => rw [q] at h; cases h; rfl
theorem mapGet {α : Type} {l : List α} {i : Nat} {x : α} (h : l[i]? = some x) : (l.map some)[i]? = some (some x) := by rw [List.getElem?_map, h]; rfl
/-- the caller's side of a call -/
theorem call_so {S : DSpec} {vs : List V} {xs ds : List DV} {Q : DV → Den → Prop} {Q' : VK} {E0 : XK} (E : ER K Hf H σ ρ) (ha : AVs K Hf σ vs xs) (nd : (owns xs).Nodup) (hd : toArgs ρ xs = some ds) (hs : S ds fun r outs => Q r (putBack xs outs ρ))
    (c : CnE K σ Hf H ρ Q Q') : spD K S vs H Q' E0 := by
  have at_ := args_at E ha hd
  have vr_of : ∀ {v : V} {x d : DV}, AV K Hf σ v x → toArg ρ x = some d → VR K Hf H v d := fun {v x d} h1 h2 => by
    obtain ⟨ok, q⟩ := toArg_ok h2
    rcases q with ⟨rfl, ho⟩ | ⟨i, ys, rfl, rfl, q⟩
    · cases d with
      | dat y => exact h1
      | fn u => exact h1
      | own i => cases ok
      | lst y => exact h1.elim
      | arg y => exact h1.elim
      | dic y => exact h1.elim
    · have h1' : σ[i]? = some (some v) := h1
      rcases q with q | q
      · obtain ⟨a, g1, g2, g3⟩ := E.own (d := .lst ys) q rfl
        rw [h1'] at g1; cases g1
        exact ⟨a, rfl, g2, g3⟩
      · obtain ⟨a, g1, g2, g3⟩ := E.own (d := .arg ys) q rfl
        rw [h1'] at g1; cases g1
        exact ⟨a, rfl, g2, g3⟩
  have vlen : vs.length = xs.length := Paired.length ha
  have dlen : ds.length = xs.length := toArgs_len hd
  -- an owned argument is an owned slot
  have own_at : ∀ {i : Nat} {d : DV} {a : Addr}, ds[i]? = some d → d.isOwn = true → vs[i]? = some (.ref a) → ∃ k ys e, xs[i]? = some (.own k) ∧ d = .arg ys ∧ ρ[k]? = some (some e) ∧ (e = .lst ys ∨ e = .arg ys) ∧ σ[k]? = some (some (.ref a)) := fun {i d a} h1 h2 h3 => by
    obtain ⟨v, x, g1, g2, g3, g4⟩ := at_ i d h1
    rw [h3] at g1; cases g1
    obtain ⟨ok, q⟩ := toArg_ok g4
    rcases q with ⟨rfl, ho⟩ | ⟨k, ys, rfl, rfl, q⟩
    · rw [h2] at ho; cases ho
    · rcases q with q | q
      · exact ⟨k, ys, _, g2, rfl, q, .inl rfl, g3⟩
      · exact ⟨k, ys, _, g2, rfl, q, .inr rfl, g3⟩
  have eo : ∀ {e : DV} {ys : List PyData}, (e = .lst ys ∨ e = .arg ys) → e.isOwn = true := fun {e ys} h => by rcases h with rfl | rfl <;> rfl
  have sub : ∀ a, Ow (vs.map some) (ds.map some) a → Ow σ ρ a := fun a ⟨i, d, h1, h2, h3⟩ => by
    obtain ⟨k, ys, e, g1, g2, g3, g4, g5⟩ := own_at (getMap h1) h2 (getMap h3)
    exact ⟨k, e, g3, eo g4, g5⟩
  refine ⟨Hf, ds, _, ⟨by rw [List.length_map, List.length_map, vlen, dlen], E.ex, fun i d h => ?_, fun i j d e a h1 h2 o1 o2 s1 s2 => ?_⟩, ?_, hs, fun v Hf' H' r outs st er sh vr fr q => ?_⟩
  · obtain ⟨v, x, g1, g2, g3, g4⟩ := at_ i d (getMap h)
    exact ⟨v, mapGet g1, vr_of g3 g4⟩
  · obtain ⟨k, ys, e1, g1, _, g3, g4, g5⟩ := own_at (getMap h1) o1 (getMap s1)
    obtain ⟨k', ys', e2, f1, _, f3, f4, f5⟩ := own_at (getMap h2) o2 (getMap s2)
    have := E.dj k k' e1 e2 a g3 f3 (eo g4) (eo f4) g5 f5
    subst this
    exact owns_at nd g1 f1
  · rw [List.all_eq_true]
    intro d hmem
    obtain ⟨i, hi⟩ := List.getElem?_of_mem hmem
    obtain ⟨v, x, g1, g2, g3, g4⟩ := at_ i d hi
    exact (toArg_ok g4).1
  · -- back in the caller
    have oat : ∀ {i k : Nat}, xs[i]? = some (.own k) → ∃ d ys ys', ds[i]? = some d ∧ d = .arg ys ∧ outs[i]? = some (.arg ys') ∧ findOut k xs outs = some ys' := fun {i k} hx => by
      have hi : i < ds.length := by rw [dlen]; exact (List.getElem?_eq_some_iff.mp hx).1
      have hd' : ds[i]? = some ds[i] := List.getElem?_eq_getElem hi
      obtain ⟨v, x, g1, g2, g3, g4⟩ := at_ i _ hd'
      rw [hx] at g2; cases g2
      obtain ⟨ok, q⟩ := toArg_ok g4
      rcases q with ⟨e, ho⟩ | ⟨k', ys, e1, e2, q⟩
      · rw [e] at ok; cases ok
      · obtain ⟨o, h1, h2⟩ := paired_at sh hd'
        rw [e2] at h2
        obtain ⟨ys', rfl⟩ := h2
        exact ⟨_, ys, ys', hd', e2, h1, findOut_at nd hx h1⟩
    have pbi : ∀ {j : Nat} {e : DV}, (putBack xs outs ρ)[j]? = some (some e) → ∃ e0, ρ[j]? = some (some e0) ∧ e0.isOwn = e.isOwn ∧ ((∃ zs, e = .arg zs) ↔ ∃ zs, e0 = .arg zs) ∧ ((e0 = e ∧ (e.isOwn = true → ∀ i : Nat, xs[i]? ≠ some (.own j))) ∨ ∃ (i : Nat) (ys : List PyData), xs[i]? = some (.own j) ∧ outs[i]? = some (.arg ys) ∧ (e = .lst ys ∨ e = .arg ys)) := fun {j e} h => by
      rw [show putBack xs outs ρ = pbGo 0 xs outs ρ from rfl, pbGo_get] at h
      cases q : ρ[j]? with
      | none => rw [q] at h; cases h
      | some d0 =>
        rw [q] at h
        have h' : pb1 d0 (findOut (0 + j) xs outs) = some e := by simpa using h
        rw [Nat.zero_add] at h'
        cases f : findOut j xs outs with
        | none =>
          rw [f] at h'
          have e2 : d0 = some e := by
            cases d0 with
            | none => exact h'
            | some y => cases y <;> exact h'
          subst e2
          refine ⟨e, rfl, rfl, Iff.rfl, .inl ⟨rfl, fun _ i hx => ?_⟩⟩
          obtain ⟨_, _, ys', _, _, _, g⟩ := oat hx
          rw [f] at g; cases g
        | some ys =>
          rw [f] at h'
          have : ∃ i : Nat, xs[i]? = some (.own j) := by
            apply Classical.byContradiction
            intro hn
            have := findOut_none (xs := xs) (outs := outs) (k := j) fun i hi => hn ⟨i, hi⟩
            rw [f] at this; cases this
          obtain ⟨i, hx⟩ := this
          obtain ⟨_, _, ys', _, _, g1, g2⟩ := oat hx
          rw [f] at g2; cases g2
          cases d0 with
          | none => cases h'
          | some y =>
            cases y with
            | lst zs => cases h'; exact ⟨_, rfl, rfl, ⟨(fun z => by obtain ⟨_, z⟩ := z; cases z), (fun z => by obtain ⟨_, z⟩ := z; cases z)⟩, .inr ⟨i, ys, hx, g1, .inl rfl⟩⟩
            | arg zs => cases h'; exact ⟨_, rfl, rfl, ⟨fun _ => ⟨_, rfl⟩, fun _ => ⟨_, rfl⟩⟩, .inr ⟨i, ys, hx, g1, .inr rfl⟩⟩
            | dat z => cases h'; exact ⟨_, rfl, rfl, Iff.rfl, .inl ⟨rfl, fun z => nomatch z⟩⟩
            | fn z => cases h'; exact ⟨_, rfl, rfl, Iff.rfl, .inl ⟨rfl, fun z => nomatch z⟩⟩
            | own z => cases h'; exact ⟨_, rfl, rfl, Iff.rfl, .inl ⟨rfl, fun z => nomatch z⟩⟩
            | dic z =>
              exfalso
              obtain ⟨d', ys1, _, hd1, e1, _, _⟩ := oat hx
              obtain ⟨v, x, g1', g2', g3', g4'⟩ := at_ i d' hd1
              rw [hx] at g2'; cases g2'
              obtain ⟨_, qq⟩ := toArg_ok g4'
              rcases qq with ⟨e3, ho⟩ | ⟨k3, ys3, e3, e4, q3⟩
              · rw [e1] at e3; cases e3
              · cases e3
                rcases q3 with q3 | q3 <;> (rw [q] at q3; cases q3)
    have pin : ∀ {j : Nat} {zs : List PyData}, ρ[j]? = some (some (.arg zs)) → ∃ ws, (putBack xs outs ρ)[j]? = some (some (.arg ws)) := fun {j zs} h => by
      rw [show putBack xs outs ρ = pbGo 0 xs outs ρ from rfl, pbGo_get, h]
      cases f : findOut (0 + j) xs outs with
      | none => exact ⟨zs, by simp [f, pb1]⟩
      | some ys => exact ⟨ys, by simp [f, pb1]⟩
    have slot : ∀ {i j : Nat} {ys : List PyData} {v : V}, xs[i]? = some (.own j) → outs[i]? = some (.arg ys) → σ[j]? = some (some v) → ∃ a, v = .ref a ∧ Hf' a = none ∧ ∃ us, H' a = some (.lst us) ∧ DpAll K Hf' us ys := fun {i j ys v} hx ho hv => by
      obtain ⟨u, g1, g2⟩ := er.sl i _ (mapGet ho)
      have hu := getMap g1
      obtain ⟨a, e1, g3, us, g4, g5⟩ := g2
      have hi : i < vs.length := (List.getElem?_eq_some_iff.mp hu).1
      obtain ⟨d', _, _, hd', _, _, _⟩ := oat hx
      obtain ⟨v', x', f1, f2, f3, f4⟩ := at_ i d' hd'
      rw [hx] at f2; cases f2
      rw [hu] at f1; cases f1
      have f3' : σ[j]? = some (some u) := f3
      rw [hv] at f3'; cases f3'
      exact ⟨a, e1, g3, us, g4, g5⟩
    have st' : Stp Hf H Hf' H' (Ow σ ρ) := ⟨st.fx, fun b o h n => st.fr b o h fun z => n (sub b z), st.al, fun b o h n => (st.nf b o h n).imp id (sub b)⟩
    refine c v Hf' H' r _ ⟨st', ⟨by rw [show putBack xs outs ρ = pbGo 0 xs outs ρ from rfl, pbGo_len]; exact E.len, er.ex, fun j e h => ?_, fun i j d e a h1 h2 o1 o2 s1 s2 => ?_⟩, fun a z => ?_, fun j => ?_⟩ ?_ q
    · obtain ⟨e0, g1, g2, g3, g4⟩ := pbi h
      obtain ⟨v, f1, f2⟩ := E.sl j e0 g1
      refine ⟨v, f1, ?_⟩
      rcases g4 with ⟨rfl, hn⟩ | ⟨i, ys, hx, ho, he⟩
      · refine vr_keep f2 st.fx fun a ea oe => ?_
        subst ea
        have nO : ¬ Ow (vs.map some) (ds.map some) a := fun ⟨i, d, h1, h2, h3⟩ => by
          obtain ⟨k, ys, e1, q1, _, q3, q4, q5⟩ := own_at (getMap h1) h2 (getMap h3)
          have := E.dj k j e1 e0 a q3 g1 (eo q4) oe q5 f1
          subst this
          exact hn oe i q1
        obtain ⟨hH, hHf⟩ := E.ow ⟨j, e0, g1, oe, f1⟩
        refine ⟨fun _ => ?_, fun o ho => st.fr a o ho nO⟩
        cases z : Hf' a with
        | none => rfl
        | some o =>
          rcases st.nf a o z hHf with y | y
          · exact absurd y hH
          · exact absurd y nO
      · obtain ⟨a, rfl, h1, us, h2, h3⟩ := slot hx ho f1
        rcases he with rfl | rfl
        · exact ⟨a, rfl, h1, us, h2, h3⟩
        · exact ⟨a, rfl, h1, us, h2, h3⟩
    · obtain ⟨d0, g1, g2, _, _⟩ := pbi h1
      obtain ⟨e0, f1, f2, _, _⟩ := pbi h2
      exact E.dj i j d0 e0 a g1 f1 (g2.trans o1) (f2.trans o2) s1 s2
    · obtain ⟨j, e, h1, h2, h3⟩ := z
      obtain ⟨e0, g1, g2, _, _⟩ := pbi h1
      exact ⟨j, e0, g1, g2.trans h2, h3⟩
    · constructor
      · rintro ⟨zs, h⟩
        obtain ⟨e0, g1, _, g3, _⟩ := pbi h
        obtain ⟨ws, e⟩ := g3.mp ⟨zs, rfl⟩
        exact ⟨ws, by rw [g1, e]⟩
      · rintro ⟨zs, h⟩
        exact pin h
    · cases r with
      | own i => exact vr.elim
      | dat y => exact ⟨vr, fr⟩
      | fn u => exact ⟨vr, fr⟩
      | lst y => exact ⟨vr, fr⟩
      | arg y => exact ⟨vr, fr⟩
      | dic y => exact ⟨vr, fr⟩
end
section
variable {X : Cx} {pos : Pos}
theorem xe_call {k : Nat} {f : Addr} {fd : FuncData} {ps : List Str} {S : DSpec} {x : Str} {p : Pos} {e : Expr} {es : List Expr} {t : TA} {wa : WA} (F : FnOk X.prog X.w X.K X.mg X.base CX0 k f fd ps (spD X.K S)) (hr : Room k X.A) (hg : Gl X x) (hm : X.mg x = some (.ref f))
    (hk : PySem.W.keepIn X.K (.ref f) = true) (hb : Binds X.K fd ps []) (ha : XA X (e :: es) t wa) (hdb : (x == ("__debug__" : Str)) = false := by decide) (he : starEach (e :: es) X.env = (false, eval e X.env) :: starEach es X.env := by rfl)
    (hpl : (backTo pos (starEach es X.env)).any (·.1) = false := by rfl) : XE X (.Call (.Name x p) (e :: es) [] pos) (tCall (spD X.K S) [] E0 t) (wUser S wa) :=
  ⟨pe_call F hr hg hm hk hb .nil pass0 ha.pa hdb he hpl, fun Hf H σ ρ Q Q' E hw c => ha.so Hf H σ ρ _ _ E hw fun vs Hf1 H1 xs ρ1 s1 r1 q1 => by
    obtain ⟨nd, q1⟩ := q1
    split at q1
    · rename_i ds hd
      rw [List.append_nil]
      exact call_so s1.er r1 nd hd q1 (c.step s1)
    · exact q1.elim⟩
/-- a call of a slot that holds a def -/
def wLoc (i : Nat) (S : Addr → Option DSpec) (wa : WA) : WE := fun ρ Q => match ρ[i]? with
  | some (some (.fn (.ref f))) => match S f with
    | some sp => wUser sp wa ρ Q
    | none => False
  | _ => False
theorem xe_callL {k i : Nat} {S : Addr → Option DSpec} {x : Str} {p : Pos} {e : Expr} {es : List Expr} {t : TA} {wa : WA} (A : ∀ f sp, S f = some sp → Held X.prog X.w X.K X.mg X.base k f (spD X.K sp)) (hr : Room k X.A) (hN : X.N[i]? = some x) (hv : Vis X.env.scope x) (ha : XA X (e :: es) t wa)
    (hdb : (x == ("__debug__" : Str)) = false := by decide) (hcd : (x == ("__classdict__" : Str)) = false := by decide)
    (he : starEach (e :: es) X.env = (false, eval e X.env) :: starEach es X.env := by rfl) (hpl : (backTo pos (starEach es X.env)).any (·.1) = false := by rfl) :
    XE X (.Call (.Name x p) (e :: es) [] pos) (tCallA i (fun f => (S f).map (spD X.K)) t) (wLoc i S wa) :=
  ⟨pe_callA (fun f sp h => by
      obtain ⟨sp', h1, rfl⟩ := Option.map_eq_some_iff.mp h
      exact A f sp' h1) hr hN hv ha.pa hdb hcd he hpl, fun Hf H σ ρ Q Q' E hw c => by
    unfold wLoc at hw
    split at hw
    · rename_i f hf
      split at hw
      · rename_i sp hsp
        obtain ⟨v, g1, g2⟩ := E.sl i _ hf
        cases g2
        refine ⟨f, spD X.K sp, g1, by show (S f).map (spD X.K) = _; rw [hsp]; rfl, ?_⟩
        refine ha.so Hf H σ ρ _ _ E hw fun vs Hf1 H1 xs ρ1 s1 r1 q1 => ?_
        obtain ⟨nd, q1⟩ := q1
        split at q1
        · rename_i ds hd
          exact call_so s1.er r1 nd hd q1 (c.step s1)
        · exact q1.elim
      · exact hw.elim
    · exact hw.elim⟩
end
end DL
end
section
set_option Elab.async false
set_option linter.all false
set_option maxRecDepth 100000
set_option maxHeartbeats 1000000
namespace DL
open PySem L2

/-! ### statements -/
structure DE where
  nx : Den → Prop
  rt : DV → Den → Prop
  bk : Den → Prop := fun _ => False
  ct : Den → Prop := fun _ => False
abbrev WS := DE → Den → Prop
/-- the entry of a def -/
structure Ent where
  Hf : Hp
  H : Hp
  O : Addr → Prop
  R : Nat → Option Addr
  G : Hp
structure SR (K : PySem.W.Frag) (N : Ent) (Hf H : Hp) (σ : St) (ρ : Den) : Prop where
  st : Stp N.Hf N.H Hf H N.O
  er : ER K Hf H σ ρ
  lo : ∀ (i : Nat) (d : DV) (a : Addr), ρ[i]? = some (some d) → d.isOwn = true → σ[i]? = some (some (.ref a)) → (∃ xs, d = .arg xs) ∨ N.H a = none
  rt : ∀ (i : Nat) (a : Addr), N.R i = some a → σ[i]? = some (some (.ref a)) ∧ ∃ xs, ρ[i]? = some (some (.arg xs))
  ar : ∀ (i : Nat) (xs : List PyData), ρ[i]? = some (some (.arg xs)) → ∃ a, N.R i = some a ∧ N.O a
  gh : Same N.G Hf
structure Cp (K : PySem.W.Frag) (N : Ent) (D' : DE) (D : Ends) : Prop where
  nx : ∀ Hf H σ ρ, SR K N Hf H σ ρ → D'.nx ρ → D.nx σ H
  bk : ∀ Hf H σ ρ, SR K N Hf H σ ρ → D'.bk ρ → D.bk σ H
  ct : ∀ Hf H σ ρ, SR K N Hf H σ ρ → D'.ct ρ → D.ct σ H
  rt : ∀ Hf H σ ρ v r, SR K N Hf H σ ρ → VR K Hf H v r → (r.isOwn = true → ∀ a, v = .ref a → N.H a = none) → D'.rt r ρ → D.rt v H
structure XS (X : Cx) (st : Stmt) (t : TS) (w : WS) : Prop where
  ps : PS X st t
  so : ∀ N D' D Hf H σ ρ, Cp X.K N D' D → SR X.K N Hf H σ ρ → w D' ρ → t D σ H
structure XSs (X : Cx) (st : List Stmt) (t : TS) (w : WS) : Prop where
  ps : PSs X st t
  so : ∀ N D' D Hf H σ ρ, Cp X.K N D' D → SR X.K N Hf H σ ρ → w D' ρ → t D σ H

section
variable {K : PySem.W.Frag} {N : Ent} {σ σ' : St} {Hf H Hf1 H1 : Hp} {ρ ρ1 ρ' : Den} {v : V} {d : DV}
theorem SR.ow (S : SR K N Hf H σ ρ) {a : Addr} (h : Ow σ ρ a) : N.O a ∨ N.H a = none := by
  obtain ⟨i, d, h1, h2, h3⟩ := h
  rcases S.lo i d a h1 h2 h3 with ⟨xs, rfl⟩ | h
  · obtain ⟨b, g1, g2⟩ := S.ar i xs h1
    obtain ⟨g3, _⟩ := S.rt i b g1
    rw [h3] at g3; cases g3
    exact .inl g2
  · exact .inr h
theorem SR.step (S : SR K N Hf H σ ρ) (b : St2 K σ Hf H ρ Hf1 H1 ρ1) : SR K N Hf1 H1 σ ρ1 := by
  refine ⟨S.st.trans b.st fun x h => S.ow h, b.er, fun i d a h1 h2 h3 => ?_, fun i a h => ?_, fun i xs h => ?_, S.gh.trans b.st.fx⟩
  · obtain ⟨j, e, g1, g2, g3⟩ := b.lo a ⟨i, d, h1, h2, h3⟩
    rcases S.lo j e a g1 g2 g3 with ⟨xs, rfl⟩ | h
    · obtain ⟨ys, q⟩ := (b.ar j).mpr ⟨xs, g1⟩
      have := b.er.dj i j d _ a h1 q h2 rfl h3 g3
      subst this
      rw [h1] at q
      cases q
      exact .inl ⟨ys, rfl⟩
    · exact .inr h
  · obtain ⟨g1, xs, g2⟩ := S.rt i a h
    exact ⟨g1, (b.ar i).mpr ⟨xs, g2⟩⟩
  · obtain ⟨ys, g⟩ := (b.ar i).mp ⟨xs, h⟩
    exact S.ar i ys g
/-- slots have been stored: data, or a value that is new; all else as it was -/
structure Asg (K : PySem.W.Frag) (N : Ent) (Hf H : Hp) (σ : St) (ρ : Den) (σ' : St) (ρ' : Den) : Prop where
  len : σ'.length = ρ'.length
  sl : ∀ (i : Nat) (d : DV), ρ'[i]? = some (some d) → (σ'[i]? = σ[i]? ∧ ρ[i]? = some (some d)) ∨ ((∀ xs, ρ[i]? ≠ some (some (.arg xs))) ∧ (∀ xs, d ≠ .arg xs) ∧ ∃ v, σ'[i]? = some (some v) ∧ VR K Hf H v d ∧ (d.isOwn = true → ∀ a, v = .ref a → N.H a = none ∧ ¬ Ow σ ρ a ∧ ∀ (j : Nat) (e : DV), ρ'[j]? = some (some e) → e.isOwn = true → σ'[j]? = some (some v) → i = j))
  ar : ∀ (i : Nat) (xs : List PyData), ρ[i]? = some (some (.arg xs)) → σ'[i]? = σ[i]? ∧ ρ'[i]? = ρ[i]?
theorem SR.asg (S : SR K N Hf H σ ρ) (A : Asg K N Hf H σ ρ σ' ρ') : SR K N Hf H σ' ρ' := by
  refine ⟨S.st, ⟨A.len, S.er.ex, fun i d h => ?_, fun i j d e a h1 h2 o1 o2 s1 s2 => ?_⟩, fun i d a h1 h2 h3 => ?_, fun i a h => ?_, fun i xs h => ?_, S.gh⟩
  · rcases A.sl i d h with ⟨h1, h2⟩ | ⟨_, _, v, h1, h2, _⟩
    · rw [h1]; exact S.er.sl i d h2
    · exact ⟨v, h1, h2⟩
  · rcases A.sl i d h1 with ⟨g1, g2⟩ | ⟨_, _, v, g1, g2, g3⟩
    · rcases A.sl j e h2 with ⟨f1, f2⟩ | ⟨_, _, u, f1, f2, f3⟩
      · exact S.er.dj i j d e a g2 f2 o1 o2 (g1 ▸ s1) (f1 ▸ s2)
      · rw [s2] at f1; cases f1
        exact ((f3 o2 a rfl).2.2 i d h1 o1 s1).symm
    · rw [s1] at g1; cases g1
      exact (g3 o1 a rfl).2.2 j e h2 o2 s2
  · rcases A.sl i d h1 with ⟨g1, g2⟩ | ⟨_, _, v, g1, g2, g3⟩
    · exact S.lo i d a g2 h2 (g1 ▸ h3)
    · rw [h3] at g1; cases g1
      exact .inr (g3 h2 a rfl).1
  · obtain ⟨g1, xs, g2⟩ := S.rt i a h
    obtain ⟨f1, f2⟩ := A.ar i xs g2
    exact ⟨f1.trans g1, xs, f2.trans g2⟩
  · rcases A.sl i _ h with ⟨_, g2⟩ | ⟨_, g, _⟩
    · exact S.ar i xs g2
    · exact absurd rfl (g xs)
theorem len_of_get {α : Type} {l : List α} {i : Nat} {x : α} (h : l[i]? = some x) : i < l.length := (List.getElem?_eq_some_iff.mp h).1
/-- one slot is stored -/
theorem asg_set {i : Nat} (E : ER K Hf H σ ρ) (hn : ∀ xs, ρ[i]? ≠ some (some (.arg xs))) (hi : i < ρ.length) (hd : ∀ xs, d ≠ .arg xs) (hv : VR K Hf H v d) (ho : d.isOwn = true → ∀ a, v = .ref a → N.H a = none ∧ ¬ Ow σ ρ a) : Asg K N Hf H σ ρ (σ.set i (some v)) (ρ.set i (some d)) := by
  refine ⟨by rw [List.length_set, List.length_set]; exact E.len, fun j e h => ?_, fun j xs h => ?_⟩
  · rcases set_get h with ⟨rfl, e1⟩ | ⟨ne, q⟩
    · cases e1
      refine .inr ⟨hn, hd, v, List.getElem?_set_self (by rw [E.len]; exact hi), hv, fun o a ea => ⟨(ho o a ea).1, (ho o a ea).2, fun k e' h1 h2 h3 => ?_⟩⟩
      rcases set_get h1 with ⟨rfl, _⟩ | ⟨ne, q⟩
      · rfl
      · rw [List.getElem?_set_ne ne] at h3
        subst ea
        exact absurd ⟨k, e', q, h2, h3⟩ (ho o a rfl).2
    · exact .inl ⟨List.getElem?_set_ne ne, q⟩
  · have ne : i ≠ j := fun e => hn xs (e ▸ h)
    exact ⟨List.getElem?_set_ne ne, List.getElem?_set_ne ne⟩
/-- what has come may be stored, or handed back -/
theorem rr_fresh {Hf0 H0 : Hp} {ρ0 : Den} (S : SR K N Hf0 H0 σ ρ0) (s : St2 K σ Hf0 H0 ρ0 Hf H ρ) (r : RR K H0 Hf H σ v d) (hd : ∀ i, d ≠ .own i) : VR K Hf H v d ∧ (d.isOwn = true → ∀ a, v = .ref a → N.H a = none ∧ ¬ Ow σ ρ a) := by
  have g : VR K Hf H v d ∧ (d.isOwn = true → ∀ a, v = .ref a → H0 a = none) := by
    cases d with
    | own i => exact absurd rfl (hd i)
    | _ => exact r
  refine ⟨g.1, fun o a e => ?_⟩
  have h0 := g.2 o a e
  exact ⟨S.st.al a h0, fun z => (S.er.ow (s.lo a z)).1 h0⟩
end

section
variable {X : Cx} {pos : Pos}
def wNext : WS := fun D ρ => D.nx ρ
def wSeq (a b : WS) : WS := fun D ρ => a { D with nx := b D } ρ
theorem xss_nil : XSs X [] tNext wNext := ⟨pss_nil, fun N D' D Hf H σ ρ c s hw => c.nx Hf H σ ρ s hw⟩
theorem xss_cons {st : Stmt} {rest : List Stmt} {t u : TS} {a b : WS} (h1 : XS X st t a) (h2 : XSs X rest u b) : XSs X (st :: rest) (tSeq t u) (wSeq a b) :=
  ⟨pss_cons h1.ps h2.ps, fun N D' D Hf H σ ρ c s hw => h1.so N { D' with nx := b D' } { D with nx := u D } Hf H σ ρ ⟨fun Hf1 H1 σ1 ρ1 s1 q => h2.so N D' D Hf1 H1 σ1 ρ1 c s1 q, c.bk, c.ct, c.rt⟩ s hw⟩
theorem xss_one {st : Stmt} {t : TS} {a : WS} (h1 : XS X st t a) : XSs X [st] t a := ⟨pss_one h1.ps, h1.so⟩
theorem xs_pass : XS X (.Pass pos) tNext wNext := ⟨ps_pass, fun N D' D Hf H σ ρ c s hw => c.nx Hf H σ ρ s hw⟩
def wBreak : WS := fun D ρ => D.bk ρ
def wCont : WS := fun D ρ => D.ct ρ
theorem xs_break : XS X (.Break pos) tBreak wBreak := ⟨ps_break, fun N D' D Hf H σ ρ c s hw => c.bk Hf H σ ρ s hw⟩
theorem xs_cont : XS X (.Continue pos) tCont wCont := ⟨ps_continue, fun N D' D Hf H σ ρ c s hw => c.ct Hf H σ ρ s hw⟩
def wExpr (w : WE) : WS := fun D ρ => w ρ fun _ ρ1 => D.nx ρ1
theorem xs_expr {e : Expr} {t : TE} {w : WE} (h : XE X e t w) (hs : swapsWith e none pos.line X.env = pure false := by rfl) : XS X (.Expr e pos) (tDrop t) (wExpr w) :=
  ⟨ps_expr h.pe hs, fun N D' D Hf H σ ρ c s hw => h.so Hf H σ ρ _ _ s.er hw fun v Hf1 H1 d ρ1 s1 r1 q1 => c.nx Hf1 H1 σ ρ1 (s.step s1) q1⟩
def wRet (w : WE) : WS := fun D ρ => w ρ fun d ρ1 => match d with
  | .own i => match ρ1[i]? with
    | some (some (.lst xs)) => D.rt (.lst xs) ρ1
    | some (some (.dic xs)) => D.rt (.dic xs) ρ1
    | _ => False
  | d => D.rt d ρ1
theorem xs_ret {e : Expr} {t : TE} {w : WE} (h : XE X e t w) : XS X (.Return (some e) pos) (tRet t) (wRet w) :=
  ⟨ps_ret h.pe, fun N D' D Hf H σ ρ c s hw => h.so Hf H σ ρ _ _ s.er hw fun v Hf1 H1 d ρ1 s1 r1 q1 => by
    have s' := s.step s1
    have back : (∀ i, d ≠ .own i) → D'.rt d ρ1 → D.rt v H1 := fun hd q => by
      obtain ⟨g1, g2⟩ := rr_fresh s s1 r1 hd
      exact c.rt Hf1 H1 σ ρ1 v d s' g1 (fun o a e => (g2 o a e).1) q
    cases d with
    | own i =>
      have r1' : σ[i]? = some (some v) := r1
      have own : ∀ {x : DV}, ρ1[i]? = some (some x) → x.isOwn = true → (∀ xs, x ≠ .arg xs) → D'.rt x ρ1 → D.rt v H1 := fun {x} hx ho hn q => by
        obtain ⟨u, g1, g2⟩ := s'.er.sl i x hx
        rw [r1'] at g1; cases g1
        obtain ⟨a, rfl, _, _⟩ := vr_ref g2 ho
        refine c.rt Hf1 H1 σ ρ1 _ x s' g2 (fun o b e => ?_) q
        cases e
        rcases s'.lo i x a hx ho r1' with ⟨xs, e⟩ | z
        · exact absurd e (hn xs)
        · exact z
      have q1' : match ρ1[i]? with
        | some (some (.lst xs)) => D'.rt (.lst xs) ρ1
        | some (some (.dic xs)) => D'.rt (.dic xs) ρ1
        | _ => False := q1
      split at q1'
      · rename_i xs hx
        exact own hx rfl (fun _ z => nomatch z) q1'
      · rename_i xs hx
        exact own hx rfl (fun _ z => nomatch z) q1'
      · exact q1'.elim
    | dat y => exact back (fun _ z => nomatch z) q1
    | fn u => exact back (fun _ z => nomatch z) q1
    | lst y => exact back (fun _ z => nomatch z) q1
    | arg y => exact back (fun _ z => nomatch z) q1
    | dic y => exact back (fun _ z => nomatch z) q1⟩
def wRetN : WS := fun D ρ => D.rt (.dat .none) ρ
theorem xs_retN : XS X (.Return none pos) tRetN wRetN := ⟨ps_retN, fun N D' D Hf H σ ρ c s hw => c.rt Hf H σ ρ .non (.dat .none) s .non (fun z => nomatch z) hw⟩
def wIfS (t : WT) (a b : WS) : WS := fun D ρ => t ρ fun k ρ1 => if k = true then a D ρ1 else b D ρ1
theorem xs_if {e : Expr} {p q : List Stmt} {tc : TT} {t u : TS} {wc : WT} {a b : WS} (hc : XT X e tc wc) (h1 : XSs X p t a) (h2 : XSs X q u b) : XS X (.If e p q pos) (tIfS tc t u) (wIfS wc a b) :=
  ⟨ps_if hc.pt h1.ps h2.ps, fun N D' D Hf H σ ρ c s hw => hc.so Hf H σ ρ _ _ s.er hw fun k Hf1 H1 ρ1 s1 q1 => by
    cases k with
    | true => exact h1.so N D' D Hf1 H1 σ ρ1 c (s.step s1) q1
    | false => exact h2.so N D' D Hf1 H1 σ ρ1 c (s.step s1) q1⟩
/-- name = value -/
def notArg : Option (Option DV) → Prop
  | some (some (.arg _)) => False
  | some _ => True
  | none => False
def wSet (i : Nat) (w : WE) : WS := fun D ρ => w ρ fun d ρ1 => notArg ρ1[i]? ∧ match d with
  | .own _ => False
  | .arg _ => False
  | d => D.nx (ρ1.set i (some d))
theorem notArg_of {ρ : Den} {i : Nat} (h : notArg ρ[i]?) : (∀ xs, ρ[i]? ≠ some (some (.arg xs))) ∧ i < ρ.length := by
  refine ⟨fun xs e => ?_, ?_⟩
  · rw [e] at h; exact h
  · cases q : ρ[i]? with
    | none => rw [q] at h; exact h.elim
    | some x => exact len_of_get q
theorem set_so {N : Ent} {i : Nat} {D' : DE} {D : Ends} {Hf H Hf1 H1 : Hp} {σ : St} {ρ ρ1 : Den} {v : V} {d : DV} (c : Cp X.K N D' D) (s : SR X.K N Hf H σ ρ) (s1 : St2 X.K σ Hf H ρ Hf1 H1 ρ1) (r1 : RR X.K H Hf1 H1 σ v d) (hn : notArg ρ1[i]?) (h1 : ∀ j, d ≠ .own j) (h2 : ∀ xs, d ≠ .arg xs) (q : D'.nx (ρ1.set i (some d))) : D.nx (σ.set i (some v)) H1 := by
  obtain ⟨g1, g2⟩ := notArg_of hn
  obtain ⟨f1, f2⟩ := rr_fresh s s1 r1 h1
  exact c.nx Hf1 H1 _ _ ((s.step s1).asg (asg_set s1.er g1 g2 h2 f1 f2)) q
theorem xs_set {i : Nat} {x : Str} {e : Expr} {t : TE} {w : WE} {pos' : Pos} (hN : X.N.Nodup) (hi : X.N[i]? = some x) (hx : Loc X.env.scope x) (he : XE X e t w) (hs : swapsWith e (some (.Name x pos')) pos.line X.env = pure false := by rfl) (hf : X.fn x = true ∨ X.env.scope.names.lookup x = some .local := by first | exact .inl rfl | exact .inr rfl | assumption) :
    XS X (.Assign [.Name x pos'] e pos) (tAsg t (gName i)) (wSet i w) :=
  ⟨ps_set hN hi hx he.pe hs hf, fun N D' D Hf H σ ρ c s hw => he.so Hf H σ ρ _ _ s.er hw fun v Hf1 H1 d ρ1 s1 r1 q1 => by
    obtain ⟨hn, q1⟩ := q1
    cases d with
    | own j => exact q1.elim
    | arg y => exact q1.elim
    | dat y => exact set_so c s s1 r1 hn (fun _ z => nomatch z) (fun _ z => nomatch z) q1
    | fn u => exact set_so c s s1 r1 hn (fun _ z => nomatch z) (fun _ z => nomatch z) q1
    | lst y => exact set_so c s s1 r1 hn (fun _ z => nomatch z) (fun _ z => nomatch z) q1
    | dic y => exact set_so c s s1 r1 hn (fun _ z => nomatch z) (fun _ z => nomatch z) q1⟩
/-- a, b = x, y -/
def datFn : DV → Bool
  | .dat _ => true
  | .fn _ => true
  | _ => false
def wPar (i j : Nat) (wa : WA) : WS := fun D ρ => wa ρ fun xs ρ1 => match xs with
  | [d, e] => datFn d = true ∧ datFn e = true ∧ notArg ρ1[i]? ∧ notArg ρ1[j]? ∧ D.nx ((ρ1.set i (some d)).set j (some e))
  | _ => False
theorem av_vr {K : PySem.W.Frag} {Hf H : Hp} {σ : St} {v : V} {d : DV} (h : AV K Hf σ v d) (o : datFn d = true) : VR K Hf H v d ∧ d.isOwn = false ∧ ∀ xs, d ≠ .arg xs := by
  cases d with
  | dat y => exact ⟨h, rfl, fun _ z => nomatch z⟩
  | fn u => exact ⟨h, rfl, fun _ z => nomatch z⟩
  | _ => cases o
theorem notArg_set {ρ : Den} {i j : Nat} {d : DV} (hd : ∀ xs, d ≠ .arg xs) (h : notArg ρ[j]?) : notArg (ρ.set i (some d))[j]? := by
  by_cases e : i = j
  · subst e
    rw [List.getElem?_set_self (notArg_of h).2]
    cases d with
    | arg xs => exact absurd rfl (hd xs)
    | _ => exact True.intro
  · rw [List.getElem?_set_ne e]; exact h
theorem xs_par {i j : Nat} {x y : Str} {a b : Expr} {ta : TA} {wa : WA} {px py pt : Pos} {kt k2 pt2} (hc : X.calm = true) (hN : X.N.Nodup) (hi : X.N[i]? = some x) (hj : X.N[j]? = some y) (hij : i ≠ j)
    (hx : X.env.scope.names.lookup x = some .local) (hy : X.env.scope.names.lookup y = some .local) (ha : XA X [a, b] ta wa)
    (hw : swappedStores [.Tuple [.Name x px, .Name y py] kt pt] (.Tuple [a, b] k2 pt2) X.env = pure (some [x, y]))
    (hs : swapsWithSole [.Tuple [.Name x px, .Name y py] kt pt] (.Tuple [a, b] k2 pt2) pos.line X.env = pure false := by rfl) :
    XS X (.Assign [.Tuple [.Name x px, .Name y py] kt pt] (.Tuple [a, b] k2 pt2) pos) (tPar i j ta) (wPar i j wa) :=
  ⟨ps_par hc hN hi hj hij hx hy ha.pa hw hs, fun N D' D Hf H σ ρ c s hw => ha.so Hf H σ ρ _ _ s.er hw fun vs Hf1 H1 ds ρ1 s1 r1 q1 => by
    split at q1
    · rename_i d e
      obtain ⟨o1, o2, n1, n2, q⟩ := q1
      obtain ⟨v, u, rfl, h1, h2⟩ := avs2 r1
      obtain ⟨g1, g2, g3⟩ := av_vr (H := H1) h1 o1
      obtain ⟨f1, f2, f3⟩ := av_vr (H := H1) h2 o2
      refine ⟨v, u, rfl, ?_⟩
      obtain ⟨m1, m2⟩ := notArg_of n1
      have S1 := (s.step s1).asg (asg_set s1.er m1 m2 g3 g1 fun o => by rw [g2] at o; cases o)
      obtain ⟨m3, m4⟩ := notArg_of (notArg_set (i := i) g3 n2)
      exact c.nx Hf1 H1 _ _ (S1.asg (asg_set S1.er m3 m4 f3 f1 fun o => by rw [f2] at o; cases o)) q
    · exact q1.elim⟩
/-! ### targets that take data apart -/
/-- the slots S have been stored, with data -/
structure Ch (K : PySem.W.Frag) (Hf : Hp) (S : List Nat) (σ : St) (ρ : Den) (σ' : St) (ρ' : Den) : Prop where
  len : σ'.length = ρ'.length
  lenD : ρ'.length = ρ.length
  out : ∀ i : Nat, i ∉ S → σ'[i]? = σ[i]? ∧ ρ'[i]? = ρ[i]?
  inn : ∀ i : Nat, i ∈ S → (σ'[i]? = σ[i]? ∧ ρ'[i]? = ρ[i]?) ∨ (notArg ρ[i]? ∧ ∃ u e, σ'[i]? = some (some u) ∧ ρ'[i]? = some (some (.dat e)) ∧ Dp K Hf u e)
/-- what a target makes of the slots: f d ρ; it stores at the slots S alone -/
structure XG (X : Cx) (tg : Expr) (g : TG) (f : PyData → Den → Option Den) (S : List Nat) : Prop where
  pg : PG X tg g
  so : ∀ Hf H σ ρ v d ρ' (Q : St → Hp → Prop), Same Hf H → Dp X.K Hf v d → f d ρ = some ρ' → σ.length = ρ.length → (∀ σ', Ch X.K Hf S σ ρ σ' ρ' → Q σ' H) → g v σ H Q
structure XGs (X : Cx) (ts : List Expr) (g : TGs) (f : List PyData → Den → Option Den) (S : List Nat) : Prop where
  pg : PGs X ts g
  so : ∀ Hf H σ ρ vs ds ρ' (Q : St → Hp → Prop), Same Hf H → DpAll X.K Hf vs ds → f ds ρ = some ρ' → σ.length = ρ.length → (∀ σ', Ch X.K Hf S σ ρ σ' ρ' → Q σ' H) → g vs σ H Q
theorem Ch.refl {K : PySem.W.Frag} {Hf : Hp} {S : List Nat} {σ : St} {ρ : Den} (h : σ.length = ρ.length) : Ch K Hf S σ ρ σ ρ := ⟨h, rfl, fun _ _ => ⟨rfl, rfl⟩, fun _ _ => .inl ⟨rfl, rfl⟩⟩
theorem Ch.trans {K : PySem.W.Frag} {Hf : Hp} {S S' : List Nat} {σ σ1 σ2 : St} {ρ ρ1 ρ2 : Den} (a : Ch K Hf S σ ρ σ1 ρ1) (b : Ch K Hf S' σ1 ρ1 σ2 ρ2) : Ch K Hf (S ++ S') σ ρ σ2 ρ2 := by
  have first : ∀ i : Nat, (σ1[i]? = σ[i]? ∧ ρ1[i]? = ρ[i]?) ∨ (notArg ρ[i]? ∧ ∃ u e, σ1[i]? = some (some u) ∧ ρ1[i]? = some (some (.dat e)) ∧ Dp K Hf u e) := fun i => by
    by_cases h : i ∈ S
    · exact a.inn i h
    · exact .inl (a.out i h)
  have second : ∀ i : Nat, (σ2[i]? = σ1[i]? ∧ ρ2[i]? = ρ1[i]?) ∨ (notArg ρ1[i]? ∧ ∃ u e, σ2[i]? = some (some u) ∧ ρ2[i]? = some (some (.dat e)) ∧ Dp K Hf u e) := fun i => by
    by_cases h : i ∈ S'
    · exact b.inn i h
    · exact .inl (b.out i h)
  refine ⟨b.len, b.lenD.trans a.lenD, fun i h => ?_, fun i _ => ?_⟩
  · obtain ⟨g1, g2⟩ := a.out i fun z => h (List.mem_append_left _ z)
    obtain ⟨f1, f2⟩ := b.out i fun z => h (List.mem_append_right _ z)
    exact ⟨f1.trans g1, f2.trans g2⟩
  · rcases second i with ⟨f1, f2⟩ | ⟨n, u, e, f1, f2, f3⟩
    · rcases first i with ⟨g1, g2⟩ | ⟨n, u, e, g1, g2, g3⟩
      · exact .inl ⟨f1.trans g1, f2.trans g2⟩
      · exact .inr ⟨n, u, e, f1.trans g1, f2.trans g2, g3⟩
    · refine .inr ⟨?_, u, e, f1, f2, f3⟩
      rcases first i with ⟨_, g2⟩ | ⟨n', _⟩
      · rw [g2] at n; exact n
      · exact n'
def notArgB : Option (Option DV) → Bool
  | some (some (.arg _)) => false
  | some _ => true
  | none => false
theorem notArgB_of {q : Option (Option DV)} (h : notArgB q = true) : notArg q := by
  unfold notArgB at h
  split at h
  · cases h
  · rename_i d hn
    cases d with
    | none => exact True.intro
    | some y =>
      cases y with
      | arg xs => exact absurd rfl (hn xs)
      | _ => exact True.intro
  · cases h
def fName (i : Nat) : PyData → Den → Option Den := fun d ρ => if notArgB ρ[i]? = true then some (ρ.set i (some (.dat d))) else none
theorem xg_name {i : Nat} {x : Str} (hN : X.N.Nodup) (hi : X.N[i]? = some x) (hx : Loc X.env.scope x) (hf : X.fn x = true ∨ X.env.scope.names.lookup x = some .local := by first | exact .inl rfl | exact .inr rfl | assumption) : XG X (.Name x pos) (gName i) (fName i) [i] :=
  ⟨pg_name hN hi hx hf, fun Hf H σ ρ v d ρ' Q e hd h hl k => by
    unfold fName at h
    split at h
    · rename_i hn
      have n := notArgB_of hn
      cases h
      have hil : i < ρ.length := (notArg_of n).2
      refine k (σ.set i (some v)) ⟨by rw [List.length_set, List.length_set]; exact hl, List.length_set, fun j hj => ?_, fun j hj => ?_⟩
      · have ne : i ≠ j := fun e => hj (by simp [e])
        exact ⟨List.getElem?_set_ne ne, List.getElem?_set_ne ne⟩
      · have e : j = i := by simpa using hj
        subst e
        exact .inr ⟨n, v, d, List.getElem?_set_self (by rw [hl]; exact hil), List.getElem?_set_self hil, hd⟩
    · cases h⟩
def fNil : List PyData → Den → Option Den := fun ds ρ => match ds with
  | [] => some ρ
  | _ => none
def fCons (f : PyData → Den → Option Den) (g : List PyData → Den → Option Den) : List PyData → Den → Option Den := fun ds ρ => match ds with
  | d :: r => (f d ρ).bind (g r)
  | [] => none
theorem xgs_nil : XGs X [] gNil fNil [] :=
  ⟨pgs_nil, fun Hf H σ ρ vs ds ρ' Q e hd h hl k => by
    cases ds with
    | nil =>
      cases h
      cases hd
      exact ⟨rfl, k σ (.refl hl)⟩
    | cons _ _ => cases h⟩
theorem xgs_cons {e : Expr} {es : List Expr} {t : TG} {u : TGs} {f : PyData → Den → Option Den} {g : List PyData → Den → Option Den} {S S' : List Nat} (h1 : XG X e t f S) (h2 : XGs X es u g S')
    (hs : (assignEach (e :: es) X.env).map (·.2) = assign e X.env :: (assignEach es X.env).map (·.2) := by rfl) : XGs X (e :: es) (gCons t u) (fCons f g) (S ++ S') :=
  ⟨pgs_cons h1.pg h2.pg hs, fun Hf H σ ρ vs ds ρ' Q e hd h hl k => by
    cases ds with
    | nil => cases h
    | cons d r =>
      cases hd with
      | cons a b =>
        obtain ⟨ρ1, g1, g2⟩ := Option.bind_eq_some_iff.mp (show (f d ρ).bind (g r) = some ρ' from h)
        refine ⟨_, _, rfl, h1.so Hf H σ ρ _ d ρ1 _ e a g1 hl fun σ1 c1 => ?_⟩
        exact h2.so Hf H σ1 ρ1 _ r ρ' _ e b g2 c1.len fun σ2 c2 => k σ2 (c1.trans c2)⟩
def fTup (n : Nat) (g : List PyData → Den → Option Den) : PyData → Den → Option Den := fun d ρ => match d with
  | .tuple ds => if ds.length = n then g ds ρ else none
  | _ => none
theorem xg_tup {es : List Expr} {k : Nat} {t : TGs} {n : Nat} {g : List PyData → Den → Option Den} {S : List Nat} (hc : X.calm = true) (h : XGs X es t g S)
    (hn : (assignEach es X.env).length = n := by rfl) (hst : (assignEach es X.env).findIdx? (·.1) = none := by rfl) : XG X (.Tuple es k pos) (gTup X.K n t) (fTup n g) S :=
  ⟨pg_tup hc h.pg hn hst, fun Hf H σ ρ v d ρ' Q e hd hf hl q => by
    cases d with
    | tuple ds =>
      have hf : (if ds.length = n then g ds ρ else none) = some ρ' := hf
      split at hf
      · rename_i hlen
        cases hd with
        | tup hs ha => exact ⟨_, _, rfl, sqT_mono e hs, by rw [DpAll.length ha]; exact hlen, h.so Hf H σ ρ _ ds ρ' Q e ha hf hl q⟩
      · cases hf
    | _ => cases hf⟩
theorem SR.ch {K : PySem.W.Frag} {N : Ent} {S : List Nat} {Hf H : Hp} {σ σ' : St} {ρ ρ' : Den} (s : SR K N Hf H σ ρ) (c : Ch K Hf S σ ρ σ' ρ') : SR K N Hf H σ' ρ' := by
  have all : ∀ i : Nat, (σ'[i]? = σ[i]? ∧ ρ'[i]? = ρ[i]?) ∨ (notArg ρ[i]? ∧ ∃ u e, σ'[i]? = some (some u) ∧ ρ'[i]? = some (some (.dat e)) ∧ Dp K Hf u e) := fun i => by
    by_cases h : i ∈ S
    · exact c.inn i h
    · exact .inl (c.out i h)
  refine s.asg ⟨c.len, fun i d h => ?_, fun i xs h => ?_⟩
  · rcases all i with ⟨g1, g2⟩ | ⟨n, u, e, g1, g2, g3⟩
    · exact .inl ⟨g1, g2 ▸ h⟩
    · rw [h] at g2; cases g2
      exact .inr ⟨(notArg_of n).1, fun _ z => (nomatch z), u, g1, g3, fun z => (nomatch z)⟩
  · rcases all i with g | ⟨n, _⟩
    · exact g
    · exact absurd h ((notArg_of n).1 xs)
def wAsg (w : WE) (f : PyData → Den → Option Den) : WS := fun D ρ => w ρ fun d ρ1 => match d with
  | .dat x => match f x ρ1 with
    | some ρ2 => D.nx ρ2
    | none => False
  | _ => False
theorem xs_asg {tg e : Expr} {te : TE} {w : WE} {g : TG} {f : PyData → Den → Option Den} {S : List Nat} (he : XE X e te w) (hg : XG X tg g f S) (hs : swapsWithSole [tg] e pos.line X.env = pure false := by rfl) (hw : swappedStores [tg] e X.env = pure none := by rfl)
    (h1 : (assignEach [tg] X.env).map (·.2) = [assign tg X.env] := by rfl) : XS X (.Assign [tg] e pos) (tAsg te g) (wAsg w f) :=
  ⟨ps_asg he.pe hg.pg hs hw h1, fun N D' D Hf H σ ρ c s hw => he.so Hf H σ ρ _ _ s.er hw fun v Hf1 H1 d ρ1 s1 r1 q1 => by
    have s' := s.step s1
    split at q1
    · rename_i x
      split at q1
      · rename_i ρ2 h2
        exact hg.so Hf1 H1 σ ρ1 v x ρ2 _ s'.er.ex r1.1 h2 s'.er.len fun σ2 c2 => c.nx Hf1 H1 σ2 ρ2 (s'.ch c2) q1
      · exact q1.elim
    · exact q1.elim⟩
/-! ### while -/
def wWhile (t : WT) (b : WS) : WS := fun D ρ => ∃ W : Nat → Den → Prop, (∃ m, W m ρ) ∧ ∀ m ρ, W m ρ → t ρ fun k ρ1 => if k = true then b { D with nx := fun ρ' => ∃ m', m' < m ∧ W m' ρ', ct := fun ρ' => ∃ m', m' < m ∧ W m' ρ', bk := D.nx } ρ1 else D.nx ρ1
theorem xs_while {c : Expr} {body : List Stmt} {tc : TT} {tb : TS} {wc : WT} {wb : WS} (hp : PassesOwn (model X.prog X.w) X.A X.env X.xe) (hc : XT X c tc wc) (hb : XSs X body tb wb) : XS X (.While c body [] pos) (tWhile tc tb) (wWhile wc wb) :=
  ⟨ps_while hp hc.pt hb.ps, fun N D' D Hf H σ ρ cp s hw => by
    obtain ⟨W, ⟨m0, w0⟩, turn⟩ := hw
    refine ⟨fun m σ H => ∃ Hf ρ, SR X.K N Hf H σ ρ ∧ W m ρ, ⟨m0, Hf, ρ, s, w0⟩, ?_⟩
    rintro m σ1 H1 ⟨Hf1, ρ1, s1, w1⟩
    refine hc.so Hf1 H1 σ1 ρ1 _ _ s1.er (turn m ρ1 w1) fun k Hf2 H2 ρ2 s2 q2 => ?_
    have s' := s1.step s2
    cases k with
    | true =>
      refine ⟨fun σ' H' => ∃ m', m' < m ∧ ∃ Hf ρ, SR X.K N Hf H' σ' ρ ∧ W m' ρ, fun σ' H' h => h, ?_⟩
      have again : ∀ Hf H σ ρ, SR X.K N Hf H σ ρ → (∃ m', m' < m ∧ W m' ρ) → ∃ m', m' < m ∧ ∃ Hf ρ, SR X.K N Hf H σ ρ ∧ W m' ρ := fun Hf H σ ρ s ⟨m', h1, h2⟩ => ⟨m', h1, Hf, ρ, s, h2⟩
      exact hb.so N { D' with nx := fun ρ' => ∃ m', m' < m ∧ W m' ρ', ct := fun ρ' => ∃ m', m' < m ∧ W m' ρ', bk := D'.nx } _ Hf2 H2 σ1 ρ2 ⟨again, cp.nx, again, cp.rt⟩ s' q2
    | false => exact cp.nx Hf2 H2 σ1 ρ2 s' q2⟩
end
end DL
end
section
set_option Elab.async false
set_option linter.all false
set_option maxRecDepth 100000
set_option maxHeartbeats 1000000
namespace DL
open PySem L2

/-! ### what is walked -/
/-- J yields the data items, whatever the heap, while the frozen objects of Hf stand -/
structure ItOk (K : PySem.W.Frag) (Hf : Hp) (J : It) (items : List PyData) : Prop where
  stop : ∀ i Hf2 H2, Same Hf Hf2 → Same Hf2 H2 → items.length ≤ i → J.stop i H2
  go : ∀ i Hf2 H2, Same Hf Hf2 → Same Hf2 H2 → i < items.length → J.go i H2
  yld : ∀ i Hf2 H2 x H3 d, Same Hf Hf2 → Same Hf2 H2 → items[i]? = some d → J.yld i H2 x H3 → (H3 = H2 ∧ Dp K Hf2 x d) ∨ ∃ T o, H2 T = none ∧ H3 = upd H2 T o ∧ Dp K (upd Hf2 T o) x d
abbrev WI := Den → (List PyData → Den → Prop) → Prop
structure XI (X : Cx) (tg iter : Expr) (wi : TI) (w : WI) : Prop where
  pi : PI X tg iter wi
  so : ∀ Hf H σ ρ Q (R : It → Hp → Prop), ER X.K Hf H σ ρ → w ρ Q → (∀ J Hf' H' ρ' items, St2 X.K σ Hf H ρ Hf' H' ρ' → ItOk X.K Hf' J items → Q items ρ' → R J H') → wi σ H R

section
variable {X : Cx} {tg : Expr}
def iSeq (K : PySem.W.Frag) (tl : TE) : TI := fun σ H R => tl σ H fun x H1 => ∃ a, x = .ref a ∧ (((∃ xs, SqL K H1 a xs) ∧ R (Itl K a) H1) ∨ ((∃ xs, SqT K H1 a xs) ∧ R (Itt K a) H1))
theorem pi_seq {l : Expr} {tl : TE} (hl : PE X l tl) : PI X tg l (iSeq X.K tl) := by
  refine ⟨fun pins s σ H R I h => ?_⟩
  refine thn (hl.run pins s σ H _ I h) fun v s1 ⟨x, H1, I1, r1, q1⟩ => ?_
  obtain ⟨a, e, q⟩ := q1
  subst e
  cases r1
  have hfp : ∀ b ∈ [s1.heap.objs.size], FpOk X pins H1 b := fun b hb => by
    have e : b = s1.heap.objs.size := by simpa using hb
    subst e
    exact I1.fpOk (Nat.le_refl _) (I1.hok.fresh (Nat.le_refl _))
  rcases q with ⟨⟨xs, hq⟩, q⟩ | ⟨⟨xs, hq⟩, q⟩
  · obtain ⟨its, rv, p, hz⟩ := I1.list hq
    refine wpAny_pyIter_list p.isList ?_
    exact ⟨s1.heap.objs.size, [s1.heap.objs.size], _, _, H1, rfl, I1.kept (t' := s1.toks) fun b o e => Heap.get?_push_of_some _ e, turn_list a _, ⟨_, Heap.get?_push_size _ rfl, rfl, rfl⟩, hfp, q⟩
  · obtain ⟨its, rv, p, hz⟩ := I1.tuple hq
    refine PySem.wpAny_pyIter_tuple (show s1.heap.IsTuple a its.toArray from p) ?_
    exact ⟨s1.heap.objs.size, [s1.heap.objs.size], _, _, H1, rfl, I1.kept (t' := s1.toks) fun b o e => Heap.get?_push_of_some _ e, turn_tuple a _, ⟨_, Heap.get?_push_size _ rfl, rfl, rfl⟩, hfp, q⟩
def wSeqI (w : WE) : WI := fun ρ Q => w ρ fun x ρ1 => match x with
  | .dat (.list xs) => Q xs ρ1
  | .dat (.tuple xs) => Q xs ρ1
  | .lst xs => Q xs ρ1
  | _ => False
theorem itOk_list {K : PySem.W.Frag} {Hf : Hp} {a : Addr} {vs : List V} {ds : List PyData} (hs : SqL K Hf a vs) (ha : DpAll K Hf vs ds) : ItOk K Hf (Itl K a) ds :=
  ⟨fun i Hf2 H2 e1 e2 h => ⟨vs, (e1.trans e2).seq hs, by rw [DpAll.length ha]; exact h⟩, fun i Hf2 H2 e1 e2 h => ⟨vs, vs[i]'(by rw [DpAll.length ha]; exact h), (e1.trans e2).seq hs, List.getElem?_eq_getElem _⟩,
    fun i Hf2 H2 x H3 d e1 e2 h y => by
      obtain ⟨rfl, g⟩ := y
      have hx := g vs ((e1.trans e2).seq hs)
      obtain ⟨v, h1, h2⟩ := DpAll.get ha h
      rw [hx] at h1; cases h1
      exact .inl ⟨rfl, dp_mono e1 _ _ h2⟩⟩
theorem itOk_tup {K : PySem.W.Frag} {Hf : Hp} {a : Addr} {vs : List V} {ds : List PyData} (hs : SqT K Hf a vs) (ha : DpAll K Hf vs ds) : ItOk K Hf (Itt K a) ds :=
  ⟨fun i Hf2 H2 e1 e2 h => ⟨vs, sqT_mono (e1.trans e2) hs, by rw [DpAll.length ha]; exact h⟩, fun i Hf2 H2 e1 e2 h => ⟨vs, vs[i]'(by rw [DpAll.length ha]; exact h), sqT_mono (e1.trans e2) hs, List.getElem?_eq_getElem _⟩,
    fun i Hf2 H2 x H3 d e1 e2 h y => by
      obtain ⟨rfl, g⟩ := y
      have hx := g vs (sqT_mono (e1.trans e2) hs)
      obtain ⟨v, h1, h2⟩ := DpAll.get ha h
      rw [hx] at h1; cases h1
      exact .inl ⟨rfl, dp_mono e1 _ _ h2⟩⟩
theorem xi_seq {l : Expr} {tl : TE} {w : WE} (h : XE X l tl w) : XI X tg l (iSeq X.K tl) (wSeqI w) :=
  ⟨pi_seq h.pe, fun Hf H σ ρ Q R E hw c => h.so Hf H σ ρ _ _ E hw fun x Hf1 H1 d ρ1 s1 r1 q1 => by
    have fin : ∀ {Hf2 : Hp} {xs : List PyData}, St2 X.K σ Hf H ρ Hf2 H1 ρ1 → Dp X.K Hf2 x (.list xs) → Q xs ρ1 → ∃ a, x = .ref a ∧ (((∃ xs, SqL X.K H1 a xs) ∧ R (Itl X.K a) H1) ∨ ((∃ xs, SqT X.K H1 a xs) ∧ R (Itt X.K a) H1)) := fun {Hf2 xs} s hd q => by
      cases hd with
      | lst hs ha => exact ⟨_, rfl, .inl ⟨⟨_, s.er.ex.seq hs⟩, c _ Hf2 H1 ρ1 xs s (itOk_list hs ha) q⟩⟩
    cases d with
    | dat y =>
      cases y with
      | list xs => exact fin s1 r1.1 q1
      | tuple xs =>
        have hd : Dp X.K Hf1 x (.tuple xs) := r1.1
        cases hd with
        | tup hs ha => exact ⟨_, rfl, .inr ⟨⟨_, sqT_mono s1.er.ex hs⟩, c _ Hf1 H1 ρ1 xs s1 (itOk_tup hs ha) q1⟩⟩
      | _ => exact q1.elim
    | lst xs =>
      obtain ⟨Hf2, s2, a2⟩ := st2_freeze E s1 r1
      exact fin s2 a2 q1
    | _ => exact q1.elim⟩
/-- ranges -/
def rangeD (lo : Int) (n : Nat) : List PyData := (List.range n).map fun k => .int (lo + (k : Nat))
theorem rangeD_get {lo : Int} {n i : Nat} {d : PyData} (h : (rangeD lo n)[i]? = some d) : i < n ∧ d = .int (lo + (i : Nat)) := by
  unfold rangeD at h
  rw [List.getElem?_map] at h
  by_cases hi : i < n
  · rw [List.getElem?_range hi] at h
    cases h
    exact ⟨hi, rfl⟩
  · rw [List.getElem?_eq_none (by simpa using hi)] at h
    cases h
theorem rangeD_len {lo : Int} {n : Nat} : (rangeD lo n).length = n := by simp [rangeD]
theorem itOk_rng {K : PySem.W.Frag} {Hf : Hp} {lo : Int} {n : Nat} : ItOk K Hf (Itr lo n) (rangeD lo n) :=
  ⟨fun i Hf2 H2 e1 e2 h => by rw [rangeD_len] at h; exact h, fun i Hf2 H2 e1 e2 h => by rw [rangeD_len] at h; exact h,
    fun i Hf2 H2 x H3 d e1 e2 h y => by
      obtain ⟨rfl, rfl⟩ := y
      obtain ⟨_, rfl⟩ := rangeD_get h
      exact .inl ⟨rfl, .int _⟩⟩
def wRng1 (wa : WA) : WI := fun ρ Q => wa ρ fun xs ρ1 => match xs with
  | [.dat (.int j)] => -(2 ^ 62) ≤ j ∧ j < 2 ^ 62 ∧ Q (rangeD 0 j.toNat) ρ1
  | _ => False
def wRng2 (wa : WA) : WI := fun ρ Q => wa ρ fun xs ρ1 => match xs with
  | [.dat (.int i), .dat (.int j)] => (-(2 ^ 62) ≤ i ∧ i < 2 ^ 62 ∧ -(2 ^ 62) ≤ j ∧ j < 2 ^ 62) ∧ Q (rangeD i (j - i).toNat) ρ1
  | _ => False
theorem xi_range1 {a : Expr} {ta : TA} {wa : WA} {p pos : Pos} (hg : Gl X "range") (hm : X.mg "range" = none) (ha : XA X [a] ta wa) (hs : starEach [a] X.env = [(false, eval a X.env)] := by rfl) : XI X tg (.Call (.Name "range" p) [a] [] pos) (iRng1 ta) (wRng1 wa) :=
  ⟨pi_range1 hg hm ha.pa hs, fun Hf H σ ρ Q R E hw c => ha.so Hf H σ ρ _ _ E hw fun vs Hf1 H1 ds ρ1 s1 r1 q1 => by
    split at q1
    · rename_i j
      obtain ⟨v, rfl, h1⟩ := avs1 r1
      cases h1
      exact ⟨j, rfl, q1.1, q1.2.1, c _ Hf1 H1 ρ1 _ s1 itOk_rng q1.2.2⟩
    · exact q1.elim⟩
theorem xi_range2 {a b : Expr} {ta : TA} {wa : WA} {p pos : Pos} (hg : Gl X "range") (hm : X.mg "range" = none) (ha : XA X [a, b] ta wa) (hs : starEach [a, b] X.env = [(false, eval a X.env), (false, eval b X.env)] := by rfl) (hs2 : starEach [b] X.env = [(false, eval b X.env)] := by rfl) : XI X tg (.Call (.Name "range" p) [a, b] [] pos) (iRng2 ta) (wRng2 wa) :=
  ⟨pi_range2 hg hm ha.pa hs hs2, fun Hf H σ ρ Q R E hw c => ha.so Hf H σ ρ _ _ E hw fun vs Hf1 H1 ds ρ1 s1 r1 q1 => by
    split at q1
    · rename_i i j
      obtain ⟨v, u, rfl, h1, h2⟩ := avs2 r1
      cases h1; cases h2
      exact ⟨i, j, rfl, q1.1, c _ Hf1 H1 ρ1 _ s1 itOk_rng q1.2⟩
    · exact q1.elim⟩
def rangeC (lo c : Int) (n : Nat) : List PyData := (List.range n).map fun k => .int (lo + (k : Nat) * c)
theorem rangeC_len {lo c : Int} {n : Nat} : (rangeC lo c n).length = n := by simp [rangeC]
theorem rangeC_get {lo c : Int} {n i : Nat} {d : PyData} (h : (rangeC lo c n)[i]? = some d) : i < n ∧ d = .int (lo + (i : Nat) * c) := by
  unfold rangeC at h
  rw [List.getElem?_map] at h
  by_cases hi : i < n
  · rw [List.getElem?_range hi] at h
    cases h
    exact ⟨hi, rfl⟩
  · rw [List.getElem?_eq_none (by simpa using hi)] at h
    cases h
theorem itOk_rngC {K : PySem.W.Frag} {Hf : Hp} {lo c : Int} {n : Nat} : ItOk K Hf (Itc lo c n) (rangeC lo c n) :=
  ⟨fun i Hf2 H2 e1 e2 h => by rw [rangeC_len] at h; exact h, fun i Hf2 H2 e1 e2 h => by rw [rangeC_len] at h; exact h,
    fun i Hf2 H2 x H3 d e1 e2 h y => by
      obtain ⟨rfl, rfl⟩ := y
      obtain ⟨_, rfl⟩ := rangeC_get h
      exact .inl ⟨rfl, .int _⟩⟩
def wRng3 (wa : WA) : WI := fun ρ Q => wa ρ fun xs ρ1 => match xs with
  | [.dat (.int i), .dat (.int j), .dat (.int c)] => ∃ n, RgC i j c n ∧ Q (rangeC i c n) ρ1
  | _ => False

/-! ### for -/
def forGo (f : PyData → Den → Option Den) (wb : WS) (D : DE) : List PyData → Den → Prop
  | [], ρ => D.nx ρ
  | x :: xs, ρ => match f x ρ with
    | some ρ1 => wb { D with nx := forGo f wb D xs, ct := forGo f wb D xs, bk := D.nx } ρ1
    | none => False
def wFor (wi : WI) (f : PyData → Den → Option Den) (wb : WS) : WS := fun D ρ => wi ρ fun items ρ1 => forGo f wb D items ρ1
theorem xs_for {iter : Expr} {body : List Stmt} {wi : TI} {g : TG} {tb : TS} {pos : Pos} {w : WI} {f : PyData → Den → Option Den} {S : List Nat} {wb : WS} (hp : PassesOwn (model X.prog X.w) X.A X.env X.xe) (hc : X.calm = true) (hi : XI X tg iter wi w) (hg : XG X tg g f S) (hb : XSs X body tb wb)
    (hs : ∀ x, foldedSetIterable iter X.env x = pure x := by intro _; rfl) : XS X (.For tg iter body [] pos) (tFor wi g tb) (wFor w f wb) :=
  ⟨ps_for hp hc hi.pi hg.pg hb.ps hs, fun N D' D Hf H σ ρ cp s hw => by
    refine hi.so Hf H σ ρ _ _ s.er hw fun J Hf1 H1 ρ1 items s1 ok q => ?_
    have s' := s.step s1
    let M : Ent := { N with G := Hf1 }
    have toM : SR X.K M Hf1 H1 σ ρ1 := ⟨s'.st, s'.er, s'.lo, s'.rt, s'.ar, Same.refl _⟩
    have toN : ∀ {Hf H σ ρ}, SR X.K M Hf H σ ρ → SR X.K N Hf H σ ρ := fun {Hf H σ ρ} z => ⟨z.st, z.er, z.lo, z.rt, z.ar, s'.gh.trans z.gh⟩
    have cpM : Cp X.K M D' D := ⟨fun Hf H σ ρ z => cp.nx Hf H σ ρ (toN z), fun Hf H σ ρ z => cp.bk Hf H σ ρ (toN z), fun Hf H σ ρ z => cp.ct Hf H σ ρ (toN z), fun Hf H σ ρ v r z => cp.rt Hf H σ ρ v r (toN z)⟩
    refine ⟨fun i m σ H => ∃ Hf ρ, SR X.K M Hf H σ ρ ∧ i + m = items.length ∧ forGo f wb D' (items.drop i) ρ, ⟨items.length, Hf1, ρ1, toM, by omega, q⟩, ?_⟩
    rintro i m σ2 H2 ⟨Hf2, ρ2, s2, em, q2⟩
    by_cases hlt : i < items.length
    · refine .inr ⟨ok.go i Hf2 H2 s2.gh s2.er.ex hlt, fun σ' H' => ∃ m', m' < m ∧ ∃ Hf ρ, SR X.K M Hf H' σ' ρ ∧ i + 1 + m' = items.length ∧ forGo f wb D' (items.drop (i + 1)) ρ, fun σ' H' ⟨m', h1, h2⟩ => ⟨m', h1, h2⟩, fun x H3 hy => ?_⟩
      rw [List.drop_eq_getElem_cons hlt] at q2
      have q2' : match f items[i] ρ2 with
        | some ρ1 => wb { D' with nx := forGo f wb D' (items.drop (i + 1)), ct := forGo f wb D' (items.drop (i + 1)), bk := D'.nx } ρ1
        | none => False := q2
      split at q2'
      · rename_i ρ3 h3
        have body : ∀ {Hf3 : Hp}, SR X.K M Hf3 H3 σ2 ρ2 → Dp X.K Hf3 x items[i] → g x σ2 H3 fun σ3 H4 => tb { D with nx := fun σ' H' => ∃ m', m' < m ∧ ∃ Hf ρ, SR X.K M Hf H' σ' ρ ∧ i + 1 + m' = items.length ∧ forGo f wb D' (items.drop (i + 1)) ρ, ct := fun σ' H' => ∃ m', m' < m ∧ ∃ Hf ρ, SR X.K M Hf H' σ' ρ ∧ i + 1 + m' = items.length ∧ forGo f wb D' (items.drop (i + 1)) ρ, bk := D.nx } σ3 H4 := fun {Hf3} s3 hd => by
          refine hg.so Hf3 H3 σ2 ρ2 x _ ρ3 _ s3.er.ex hd h3 s3.er.len fun σ4 c4 => ?_
          have again : ∀ Hf H σ ρ, SR X.K M Hf H σ ρ → forGo f wb D' (items.drop (i + 1)) ρ → ∃ m', m' < m ∧ ∃ Hf ρ, SR X.K M Hf H σ ρ ∧ i + 1 + m' = items.length ∧ forGo f wb D' (items.drop (i + 1)) ρ :=
            fun Hf H σ ρ z1 z2 => ⟨m - 1, by omega, Hf, ρ, z1, by omega, z2⟩
          exact hb.so M { D' with nx := forGo f wb D' (items.drop (i + 1)), ct := forGo f wb D' (items.drop (i + 1)), bk := D'.nx } _ Hf3 H3 σ4 ρ3 ⟨again, cpM.nx, again, cpM.rt⟩ (s3.ch c4) q2'
        rcases ok.yld i Hf2 H2 x H3 items[i] s2.gh s2.er.ex (List.getElem?_eq_getElem hlt) hy with ⟨rfl, hd⟩ | ⟨T, o, hT, rfl, hd⟩
        · exact body s2 hd
        · exact body (s2.step (st2_new s2.er hT)) hd
      · exact q2'.elim
    · have e : i = items.length := by omega
      subst e
      rw [List.drop_length] at q2
      exact .inl ⟨ok.stop _ Hf2 H2 s2.gh s2.er.ex (Nat.le_refl _), cp.nx Hf2 H2 σ2 ρ2 (toN s2) q2⟩⟩
end
end DL
end
section
set_option Elab.async false
set_option linter.all false
set_option maxRecDepth 100000
set_option maxHeartbeats 1000000
namespace DL
open PySem L2

section
variable {X : Cx} {tg : Expr} {pos : Pos}
theorem avs3 {K : PySem.W.Frag} {Hf : Hp} {σ : St} {vs : List V} {d e f : DV} (h : AVs K Hf σ vs [d, e, f]) : ∃ v u w, vs = [v, u, w] ∧ AV K Hf σ v d ∧ AV K Hf σ u e ∧ AV K Hf σ w f := by
  cases h with
  | cons h t => cases t with
    | cons h2 t2 => cases t2 with
      | cons h3 t3 => cases t3; exact ⟨_, _, _, rfl, h, h2, h3⟩
theorem xi_range3 {a b c : Expr} {ta : TA} {wa : WA} {p pos : Pos} (h : PI X tg (.Call (.Name "range" p) [a, b, c] [] pos) (iRng3 ta)) (ha : XA X [a, b, c] ta wa) : XI X tg (.Call (.Name "range" p) [a, b, c] [] pos) (iRng3 ta) (wRng3 wa) :=
  ⟨h, fun Hf H σ ρ Q R E hw c => ha.so Hf H σ ρ _ _ E hw fun vs Hf1 H1 ds ρ1 s1 r1 q1 => by
    split at q1
    · rename_i i j k
      obtain ⟨v, u, w, rfl, h1, h2, h3⟩ := avs3 r1
      cases h1; cases h2; cases h3
      obtain ⟨n, g, q⟩ := q1
      exact ⟨i, j, k, n, rfl, g, c _ Hf1 H1 ρ1 _ s1 itOk_rngC q⟩
    · exact q1.elim⟩
/-! ### zip, enumerate -/
def zipD : List PyData → List PyData → List PyData
  | x :: xs, y :: ys => .tuple [x, y] :: zipD xs ys
  | _, _ => []
theorem zipD_get : ∀ {xs ys : List PyData} {i : Nat} {d : PyData}, (zipD xs ys)[i]? = some d → ∃ x y, xs[i]? = some x ∧ ys[i]? = some y ∧ d = .tuple [x, y]
  | [], _, _, _, h => by simp [zipD] at h
  | _ :: _, [], _, _, h => by simp [zipD] at h
  | x :: xs, y :: ys, 0, d, h => by simp [zipD] at h; exact ⟨x, y, rfl, rfl, h.symm⟩
  | x :: xs, y :: ys, i + 1, d, h => by
    obtain ⟨a, b, h1, h2, h3⟩ := zipD_get (xs := xs) (ys := ys) (i := i) (d := d) (by simpa [zipD] using h)
    exact ⟨a, b, by simpa using h1, by simpa using h2, h3⟩
theorem zipD_len : ∀ {xs ys : List PyData}, (zipD xs ys).length = min xs.length ys.length
  | [], _ => by simp [zipD]
  | _ :: _, [] => by simp [zipD]
  | x :: xs, y :: ys => by simp [zipD, zipD_len (xs := xs) (ys := ys)]
def enumD (k : Nat) : List PyData → List PyData
  | [] => []
  | x :: xs => .tuple [.int (k : Nat), x] :: enumD (k + 1) xs
theorem enumD_get : ∀ {xs : List PyData} {k i : Nat} {d : PyData}, (enumD k xs)[i]? = some d → ∃ x, xs[i]? = some x ∧ d = .tuple [.int ((k + i : Nat) : Int), x]
  | [], _, _, _, h => by simp [enumD] at h
  | x :: xs, k, 0, d, h => by simp [enumD] at h; exact ⟨x, rfl, h.symm⟩
  | x :: xs, k, i + 1, d, h => by
    obtain ⟨a, h1, h2⟩ := enumD_get (xs := xs) (k := k + 1) (i := i) (d := d) (by simpa [enumD] using h)
    exact ⟨a, by simpa using h1, by rw [h2, show k + 1 + i = k + (i + 1) by omega]⟩
theorem enumD_len : ∀ {xs : List PyData} {k : Nat}, (enumD k xs).length = xs.length
  | [], _ => rfl
  | x :: xs, k => by simp [enumD, enumD_len (xs := xs)]
end

/-! ### comprehensions -/
def wipeD (ρ : Den) : List Nat → Den
  | [] => ρ
  | v :: vs => (wipeD ρ vs).set v none
def restD (ρ ρ3 : Den) : List Nat → Den
  | [] => ρ3
  | v :: vs => (restD ρ ρ3 vs).set v (ρ[v]?.getD none)
theorem wipeD_get {ρ : Den} {i : Nat} : ∀ {vs : List Nat}, (wipeD ρ vs)[i]? = if i ∈ vs then (ρ[i]?).map (fun _ => none) else ρ[i]?
  | [] => by simp [wipeD]
  | v :: vs => by
    unfold wipeD
    by_cases e : v = i
    · subst e
      rw [if_pos List.mem_cons_self, List.getElem?_set_self']
      rw [wipeD_get (vs := vs)]
      split <;> cases ρ[v]? <;> rfl
    · rw [List.getElem?_set_ne e, wipeD_get (vs := vs)]
      have : (i ∈ v :: vs) ↔ i ∈ vs := by simp [Ne.symm e]
      by_cases h : i ∈ vs
      · rw [if_pos h, if_pos (this.mpr h)]
      · rw [if_neg h, if_neg fun z => h (this.mp z)]
theorem wipe_get {σ : St} {i : Nat} : ∀ {vs : List Nat}, (wipe σ vs)[i]? = if i ∈ vs then (σ[i]?).map (fun _ => none) else σ[i]?
  | [] => by simp [wipe]
  | v :: vs => by
    unfold wipe
    by_cases e : v = i
    · subst e
      rw [if_pos List.mem_cons_self, List.getElem?_set_self']
      rw [wipe_get (vs := vs)]
      split <;> cases σ[v]? <;> rfl
    · rw [List.getElem?_set_ne e, wipe_get (vs := vs)]
      have : (i ∈ v :: vs) ↔ i ∈ vs := by simp [Ne.symm e]
      by_cases h : i ∈ vs
      · rw [if_pos h, if_pos (this.mpr h)]
      · rw [if_neg h, if_neg fun z => h (this.mp z)]
theorem wipeD_len {ρ : Den} : ∀ {vs : List Nat}, (wipeD ρ vs).length = ρ.length
  | [] => rfl
  | v :: vs => by unfold wipeD; rw [List.length_set, wipeD_len]
theorem restD_get {ρ ρ3 : Den} {i : Nat} (hl : ρ3.length = ρ.length) : ∀ {vs : List Nat}, (restD ρ ρ3 vs)[i]? = if i ∈ vs then ρ[i]? else ρ3[i]?
  | [] => by simp [restD]
  | v :: vs => by
    unfold restD
    by_cases e : v = i
    · subst e
      rw [if_pos List.mem_cons_self, List.getElem?_set_self', restD_get hl (vs := vs)]
      by_cases hv : v < ρ.length
      · rw [List.getElem?_eq_getElem hv, List.getElem?_eq_getElem (by rw [hl]; exact hv)]
        split <;> rfl
      · rw [List.getElem?_eq_none (by omega), List.getElem?_eq_none (by omega)]
        split <;> rfl
    · rw [List.getElem?_set_ne e, restD_get hl (vs := vs)]
      have : (i ∈ v :: vs) ↔ i ∈ vs := by simp [Ne.symm e]
      by_cases h : i ∈ vs
      · rw [if_pos h, if_pos (this.mpr h)]
      · rw [if_neg h, if_neg fun z => h (this.mp z)]
theorem restD_len {ρ ρ3 : Den} : ∀ {vs : List Nat}, (restD ρ ρ3 vs).length = ρ3.length
  | [] => rfl
  | v :: vs => by unfold restD; rw [List.length_set, restD_len]
def vsOk (ρ : Den) (vs : List Nat) : Bool := vs.all fun i => match ρ[i]? with
  | some (some d) => !d.isOwn
  | some none => true
  | none => false
def lcGo (f : PyData → Den → Option Den) (wt : WT) (we : WE) (vs : List Nat) (Q : DV → Den → Prop) : List PyData → List PyData → Den → Prop
  | [], acc, ρ => Q (.lst acc) ρ
  | x :: xs, acc, ρ => vsOk ρ vs = true ∧ match f x (wipeD ρ vs) with
    | some ρ2 => wt ρ2 fun b ρ3 => if b = true then we ρ3 fun y ρ4 => match y with
        | .dat d => acc.length < sizeLine ∧ lcGo f wt we vs Q xs (acc ++ [d]) (restD ρ ρ4 vs)
        | .lst l => acc.length < sizeLine ∧ lcGo f wt we vs Q xs (acc ++ [.list l]) (restD ρ ρ4 vs)
        | _ => False
      else lcGo f wt we vs Q xs acc (restD ρ ρ3 vs)
    | none => False
def wLc (wi : WI) (f : PyData → Den → Option Den) (wt : WT) (we : WE) (vs : List Nat) : WE := fun ρ Q => wi ρ fun items ρ1 => lcGo f wt we vs Q items [] ρ1

section
variable {K : PySem.W.Frag} {σ σ2 : St} {Hf H Hf1 H1 : Hp} {ρ ρ2 ρ3 : Den} {vs S : List Nat}
theorem ER.ch (E : ER K Hf H σ ρ) (c : Ch K Hf S σ ρ σ2 ρ2) : ER K Hf H σ2 ρ2 ∧ ∀ a, Ow σ2 ρ2 a → Ow σ ρ a := by
  have all : ∀ i : Nat, (σ2[i]? = σ[i]? ∧ ρ2[i]? = ρ[i]?) ∨ (notArg ρ[i]? ∧ ∃ u e, σ2[i]? = some (some u) ∧ ρ2[i]? = some (some (.dat e)) ∧ Dp K Hf u e) := fun i => by
    by_cases h : i ∈ S
    · exact c.inn i h
    · exact .inl (c.out i h)
  have own : ∀ {i : Nat} {d : DV}, ρ2[i]? = some (some d) → d.isOwn = true → σ2[i]? = σ[i]? ∧ ρ[i]? = some (some d) := fun {i d} h o => by
    rcases all i with ⟨g1, g2⟩ | ⟨n, u, e, g1, g2, g3⟩
    · exact ⟨g1, g2 ▸ h⟩
    · rw [h] at g2; cases g2; cases o
  refine ⟨⟨c.len, E.ex, fun i d h => ?_, fun i j d e a h1 h2 o1 o2 s1 s2 => ?_⟩, fun a ⟨i, d, h1, h2, h3⟩ => ?_⟩
  · rcases all i with ⟨g1, g2⟩ | ⟨n, u, e, g1, g2, g3⟩
    · rw [g1]; exact E.sl i d (g2 ▸ h)
    · rw [h] at g2; cases g2
      exact ⟨u, g1, g3⟩
  · obtain ⟨g1, g2⟩ := own h1 o1
    obtain ⟨f1, f2⟩ := own h2 o2
    exact E.dj i j d e a g2 f2 o1 o2 (g1 ▸ s1) (f1 ▸ s2)
  · obtain ⟨g1, g2⟩ := own h1 h2
    exact ⟨i, d, g2, h2, g1 ▸ h3⟩
theorem vsOk_at (h : vsOk ρ vs = true) {i : Nat} (hi : i ∈ vs) : i < ρ.length ∧ ∀ d, ρ[i]? = some (some d) → d.isOwn = false := by
  have q := List.all_eq_true.mp h i hi
  cases g : ρ[i]? with
  | none => simp [g] at q
  | some o =>
    refine ⟨len_of_get g, fun d e => ?_⟩
    cases e
    simp [g] at q
    exact q
theorem er_wipe (E : ER K Hf H σ ρ) : ER K Hf H (wipe σ vs) (wipeD ρ vs) := by
  have back : ∀ {i : Nat} {d : DV}, (wipeD ρ vs)[i]? = some (some d) → i ∉ vs ∧ ρ[i]? = some (some d) ∧ (wipe σ vs)[i]? = σ[i]? := fun {i d} h => by
    rw [wipeD_get] at h
    by_cases z : i ∈ vs
    · rw [if_pos z] at h
      cases q : ρ[i]? <;> (rw [q] at h; cases h)
    · rw [if_neg z] at h
      exact ⟨z, h, by rw [wipe_get, if_neg z]⟩
  refine ⟨by rw [wipe_length, wipeD_len]; exact E.len, E.ex, fun i d h => ?_, fun i j d e a h1 h2 o1 o2 s1 s2 => ?_⟩
  · obtain ⟨g1, g2, g3⟩ := back h
    rw [g3]; exact E.sl i d g2
  · obtain ⟨_, g2, g3⟩ := back h1
    obtain ⟨_, f2, f3⟩ := back h2
    exact E.dj i j d e a g2 f2 o1 o2 (g3 ▸ s1) (f3 ▸ s2)
/-- a turn of a comprehension, seen from around it -/
theorem st2_turn {ρw : Den} (E : ER K Hf H σ ρ) (ok : vsOk ρ vs = true) (c : Ch K Hf S (wipe σ vs) (wipeD ρ vs) σ2 ρ2) (hS : ∀ i ∈ S, i ∈ vs) (s : St2 K σ2 Hf H ρ2 Hf1 H1 ρ3) : St2 K σ Hf H ρ Hf1 H1 (restD ρ ρ3 vs) := by
  have E2 := (er_wipe (vs := vs) E).ch c
  have hl2 : ρ2.length = ρ.length := c.lenD.trans wipeD_len
  have hl3 : ρ3.length = ρ.length := by rw [← s.er.len, c.len]; exact hl2
  have same2 : ∀ i : Nat, i ∉ vs → σ2[i]? = σ[i]? ∧ ρ2[i]? = ρ[i]? := fun i hi => by
    obtain ⟨g1, g2⟩ := c.out i fun z => hi (hS i z)
    rw [wipe_get, if_neg hi] at g1
    rw [wipeD_get, if_neg hi] at g2
    exact ⟨g1, g2⟩
  -- an owned slot of the block is one of around it
  have own2 : ∀ {i : Nat} {d : DV}, ρ2[i]? = some (some d) → d.isOwn = true → i ∉ vs := fun {i d} h o z => by
    by_cases hi : i ∈ S
    · rcases c.inn i hi with ⟨_, g2⟩ | ⟨_, u, e, _, g2, _⟩
      · rw [h, wipeD_get, if_pos z] at g2
        cases q : ρ[i]? <;> (rw [q] at g2; cases g2)
      · rw [h] at g2; cases g2; cases o
    · obtain ⟨_, g2⟩ := c.out i hi
      rw [h, wipeD_get, if_pos z] at g2
      cases q : ρ[i]? <;> (rw [q] at g2; cases g2)
  have ow2 : ∀ a, Ow σ2 ρ2 a → Ow σ ρ a := fun a ⟨i, d, h1, h2, h3⟩ => by
    have hi := own2 h1 h2
    obtain ⟨g1, g2⟩ := same2 i hi
    exact ⟨i, d, g2 ▸ h1, h2, g1 ▸ h3⟩
  have back : ∀ {i : Nat} {d : DV}, (restD ρ ρ3 vs)[i]? = some (some d) → (i ∈ vs ∧ ρ[i]? = some (some d) ∧ d.isOwn = false) ∨ (i ∉ vs ∧ ρ3[i]? = some (some d) ∧ σ2[i]? = σ[i]?) := fun {i d} h => by
    rw [restD_get hl3] at h
    by_cases z : i ∈ vs
    · rw [if_pos z] at h
      exact .inl ⟨z, h, (vsOk_at ok z).2 d h⟩
    · rw [if_neg z] at h
      exact .inr ⟨z, h, (same2 i z).1⟩
  refine ⟨⟨s.st.fx, fun b o h n => s.st.fr b o h fun z => n (ow2 b z), s.st.al, fun b o h n => (s.st.nf b o h n).imp id (ow2 b)⟩, ⟨by rw [restD_len, hl3]; exact E.len, s.er.ex, fun i d h => ?_, fun i j d e a h1 h2 o1 o2 s1 s2 => ?_⟩, fun a z => ?_, fun i => ?_⟩
  · rcases back h with ⟨z, g1, g2⟩ | ⟨z, g1, g2⟩
    · obtain ⟨v, f1, f2⟩ := E.sl i d g1
      exact ⟨v, f1, vr_keep f2 s.st.fx fun a _ o => by rw [g2] at o; cases o⟩
    · rw [← g2]; exact s.er.sl i d g1
  · rcases back h1 with ⟨_, _, g⟩ | ⟨_, g1, g2⟩
    · rw [o1] at g; cases g
    · rcases back h2 with ⟨_, _, g⟩ | ⟨_, f1, f2⟩
      · rw [o2] at g; cases g
      · exact s.er.dj i j d e a g1 f1 o1 o2 (g2 ▸ s1) (f2 ▸ s2)
  · obtain ⟨i, d, h1, h2, h3⟩ := z
    rcases back h1 with ⟨_, _, g⟩ | ⟨_, g1, g2⟩
    · rw [h2] at g; cases g
    · exact ow2 a (s.lo a ⟨i, d, g1, h2, g2 ▸ h3⟩)
  · constructor
    · rintro ⟨xs, h⟩
      rcases back h with ⟨_, g1, _⟩ | ⟨z, g1, _⟩
      · exact ⟨xs, g1⟩
      · obtain ⟨ys, q⟩ := (s.ar i).mp ⟨xs, g1⟩
        exact ⟨ys, (same2 i z).2 ▸ q⟩
    · rintro ⟨xs, h⟩
      have z : i ∉ vs := fun z => by
        have := (vsOk_at ok z).2 _ h
        cases this
      obtain ⟨ys, q⟩ := (s.ar i).mpr ⟨xs, by rw [(same2 i z).2]; exact h⟩
      exact ⟨ys, by rw [restD_get hl3, if_neg z]; exact q⟩
theorem wipe_ch (hS : ∀ i ∈ S, i ∈ vs) (hl : σ.length = ρ.length) (c : Ch K Hf S (wipe σ vs) (wipeD ρ vs) σ2 ρ2) : wipe σ2 vs = wipe σ vs := by
  apply List.ext_getElem?
  intro i
  rw [wipe_get, wipe_get]
  by_cases z : i ∈ vs
  · rw [if_pos z, if_pos z]
    have l2 : σ2.length = σ.length := by rw [c.len, c.lenD, wipeD_len, hl]
    by_cases hi : i < σ.length
    · rw [List.getElem?_eq_getElem hi, List.getElem?_eq_getElem (by rw [l2]; exact hi)]; rfl
    · rw [List.getElem?_eq_none (by omega), List.getElem?_eq_none (by omega)]
  · rw [if_neg z, if_neg z]
    have g := (c.out i fun y => z (hS i y)).1
    rw [wipe_get, if_neg z] at g
    exact g
end
section
variable {X : Cx} {pos : Pos}
structure XTs (X : Cx) (ifs : List Expr) (t : TT) (w : WT) : Prop where
  pt : PTs X ifs t
  so : ∀ Hf H σ ρ Q Q', ER X.K Hf H σ ρ → w ρ Q → CnT X.K σ Hf H ρ Q Q' → t σ H Q'
def wYes : WT := fun ρ Q => Q true ρ
theorem xts_nil : XTs X [] tYes wYes := ⟨pts_nil, fun Hf H σ ρ Q Q' E hw c => c true Hf H ρ (.refl E) hw⟩
theorem xts_one {e : Expr} {t : TT} {w : WT} (h : XT X e t w) : XTs X [e] t w := ⟨pts_one h.pt, h.so⟩
theorem lc_so {tg iter : Expr} {wi : TI} {g : TG} {tt : TT} {te : TE} {w : WI} {f : PyData → Den → Option Den} {S vs : List Nat} {wt : WT} {we : WE} (hi : XI X tg iter wi w)
    (hg : ∀ Hf H σ ρ v d ρ' (Q : St → Hp → Prop), Same Hf H → Dp X.K Hf v d → f d ρ = some ρ' → σ.length = ρ.length → (∀ σ', Ch X.K Hf S σ ρ σ' ρ' → Q σ' H) → g v σ H Q) (hS : ∀ i ∈ S, i ∈ vs)
    (ht : ∀ Hf H σ ρ Q Q', ER X.K Hf H σ ρ → wt ρ Q → CnT X.K σ Hf H ρ Q Q' → tt σ H Q') (he : ∀ Hf H σ ρ Q Q', ER X.K Hf H σ ρ → we ρ Q → CnE X.K σ Hf H ρ Q Q' → te σ H Q')
    {Hf H : Hp} {σ : St} {ρ : Den} {Q : DV → Den → Prop} {Q' : VK} (E : ER X.K Hf H σ ρ) (hw : wLc w f wt we vs ρ Q) (c : CnE X.K σ Hf H ρ Q Q') : tLc wi g tt te vs σ H Q' := by
  refine hi.so Hf H σ ρ _ _ E hw fun J Hf1 H1 ρ1 items s1 ok q => fun D hD => ?_
  have sD := st2_newO (o := .lst []) s1.er hD
  have s0 := s1.trans sD
  have hD0 : H D = none := s1.st.al D hD
  refine ⟨fun i m H2 => ∃ Hf2 ρ2 acc us, St2 X.K σ Hf H ρ Hf2 H2 ρ2 ∧ Same Hf1 Hf2 ∧ H2 D = some (.lst us) ∧ Hf2 D = none ∧ DpAll X.K Hf2 us acc ∧ i + m = items.length ∧ lcGo f wt we vs Q (items.drop i) acc ρ2,
    ⟨items.length, Hf1, ρ1, [], [], s0, Same.refl _, upd_same, s1.er.hf_none hD, .nil, by omega, q⟩, ?_⟩
  rintro i m H2 ⟨Hf2, ρ2, acc, us, s2, e2, hD2, hfD2, ha2, em, q2⟩
  have nOw : ∀ {ρx : Den}, (∀ a, Ow σ ρx a → Ow σ ρ a) → ¬ Ow σ ρx D := fun {ρx} h z => (E.ow (h D z)).1 hD0
  by_cases hlt : i < items.length
  · refine .inr ⟨ok.go i Hf2 H2 e2 s2.er.ex hlt, fun H' => ∃ Hf3 ρ3 acc us, St2 X.K σ Hf H ρ Hf3 H' ρ3 ∧ Same Hf1 Hf3 ∧ H' D = some (.lst us) ∧ Hf3 D = none ∧ DpAll X.K Hf3 us acc ∧ lcGo f wt we vs Q (items.drop (i + 1)) acc ρ3,
      fun H' ⟨Hf3, ρ3, acc, us, h1, h2, h3, h4, h5, h6⟩ => ⟨m - 1, by omega, Hf3, ρ3, acc, us, h1, h2, h3, h4, h5, by omega, h6⟩, fun x H3 hy => ?_⟩
    rw [List.drop_eq_getElem_cons hlt] at q2
    obtain ⟨vok, q2⟩ := q2
    split at q2
    · rename_i ρ3 h3
      have body : ∀ {Hf3 : Hp}, St2 X.K σ Hf2 H2 ρ2 Hf3 H3 ρ2 → H3 D = some (.lst us) → Hf3 D = none → Dp X.K Hf3 x items[i] → g x (wipe σ vs) H3 fun σ2 H2' => wipe σ2 vs = wipe σ vs ∧ tt σ2 H2' fun b H3' =>
          if b = true then te σ2 H3' fun y H4 => ∃ acc, H4 D = some (.lst acc) ∧ acc.length < sizeLine ∧ ∃ Hf3 ρ3 acc' us, St2 X.K σ Hf H ρ Hf3 (upd H4 D (.lst (acc ++ [y]))) ρ3 ∧ Same Hf1 Hf3 ∧ (upd H4 D (.lst (acc ++ [y]))) D = some (.lst us) ∧ Hf3 D = none ∧ DpAll X.K Hf3 us acc' ∧ lcGo f wt we vs Q (items.drop (i + 1)) acc' ρ3
          else ∃ Hf3 ρ3 acc us, St2 X.K σ Hf H ρ Hf3 H3' ρ3 ∧ Same Hf1 Hf3 ∧ H3' D = some (.lst us) ∧ Hf3 D = none ∧ DpAll X.K Hf3 us acc ∧ lcGo f wt we vs Q (items.drop (i + 1)) acc ρ3 := fun {Hf3} s3 hD3 hfD3 hd => by
        have Ew : ER X.K Hf3 H3 (wipe σ vs) (wipeD ρ2 vs) := er_wipe s3.er
        refine hg Hf3 H3 (wipe σ vs) (wipeD ρ2 vs) x _ ρ3 _ s3.er.ex hd h3 Ew.len fun σ4 c4 => ?_
        obtain ⟨E4, low4⟩ := Ew.ch c4
        refine ⟨wipe_ch hS s3.er.len c4, ?_⟩
        refine ht Hf3 H3 σ4 ρ3 _ _ E4 q2 fun b Hf5 H5 ρ5 s5 q5 => ?_
        -- the list that is made is out of the block's reach
        have turn : ∀ {Hf6 H6 : Hp} {ρ6 : Den}, St2 X.K σ4 Hf3 H3 ρ3 Hf6 H6 ρ6 → St2 X.K σ Hf H ρ Hf6 H6 (restD ρ2 ρ6 vs) ∧ H6 D = some (.lst us) ∧ Hf6 D = none ∧ DpAll X.K Hf6 us acc ∧ Same Hf1 Hf6 := fun {Hf6 H6 ρ6} s6 => by
          have t := st2_turn (ρw := ρ3) s3.er vok c4 hS s6
          have all := (s2.trans s3).trans t
          have n2 : ¬ Ow σ ρ2 D := nOw s2.lo
          refine ⟨all, t.st.fr D _ hD3 n2, ?_, dpAll_mono (s3.st.fx.trans s6.st.fx) _ _ ha2, (e2.trans s3.st.fx).trans s6.st.fx⟩
          cases z : Hf6 D with
          | none => rfl
          | some o =>
            rcases t.st.nf D o z hfD3 with y | y
            · rw [y] at hD3; cases hD3
            · exact absurd y n2
        cases b with
        | false =>
          obtain ⟨t1, t2, t3, t4, t5⟩ := turn s5
          exact ⟨Hf5, _, acc, us, t1, t5, t2, t3, t4, q5⟩
        | true =>
          refine he Hf5 H5 σ4 ρ5 _ _ s5.er q5 fun y Hf7 H7 d7 ρ7 s7 r7 q7 => ?_
          have fin : ∀ {Hf8 : Hp} {dd : PyData}, St2 X.K σ4 Hf5 H5 ρ5 Hf8 H7 ρ7 → Dp X.K Hf8 y dd → acc.length < sizeLine → lcGo f wt we vs Q (items.drop (i + 1)) (acc ++ [dd]) (restD ρ2 ρ7 vs) →
              ∃ acc, H7 D = some (.lst acc) ∧ acc.length < sizeLine ∧ ∃ Hf3 ρ3 acc' us, St2 X.K σ Hf H ρ Hf3 (upd H7 D (.lst (acc ++ [y]))) ρ3 ∧ Same Hf1 Hf3 ∧ (upd H7 D (.lst (acc ++ [y]))) D = some (.lst us) ∧ Hf3 D = none ∧ DpAll X.K Hf3 us acc' ∧ lcGo f wt we vs Q (items.drop (i + 1)) acc' ρ3 := fun {Hf8 dd} s8 hdd hz hq => by
            obtain ⟨t1, t2, t3, t4, t5⟩ := turn (s5.trans s8)
            refine ⟨us, t2, by rw [DpAll.length t4]; exact hz, Hf8, _, acc ++ [dd], us ++ [y], ?_, t5, upd_same, t3, DpAll.app t4 (.cons hdd .nil), hq⟩
            have n3 : ¬ Ow σ (restD ρ2 ρ7 vs) D := nOw t1.lo
            refine ⟨⟨t1.st.fx, fun b o h n => ?_, fun b h => ?_, t1.st.nf⟩, ⟨t1.er.len, fun b o h => ?_, fun j e h => ?_, t1.er.dj⟩, t1.lo, t1.ar⟩
            · have nb : b ≠ D := fun z => by rw [z, hD0] at h; cases h
              rw [upd_ne nb]; exact t1.st.fr b o h n
            · by_cases nb : b = D
              · rw [nb, upd_same] at h; cases h
              · rw [upd_ne nb] at h; exact t1.st.al b h
            · have nb : b ≠ D := fun z => by rw [z, t3] at h; cases h
              rw [upd_ne nb]; exact t1.er.ex b o h
            · obtain ⟨v, g1, g2⟩ := t1.er.sl j e h
              refine ⟨v, g1, vr_keep g2 (Same.refl _) fun a ea oe => ⟨fun z => z, fun o z => ?_⟩⟩
              subst ea
              have na : a ≠ D := fun z => n3 (z ▸ ⟨j, e, h, oe, g1⟩)
              rw [upd_ne na]; exact z
          cases d7 with
          | dat dd => exact fin s7 r7.1 q7.1 q7.2
          | lst l =>
            obtain ⟨Hf8, s8, a8⟩ := st2_freeze s5.er s7 r7
            exact fin s8 a8 q7.1 q7.2
          | _ => exact q7.elim
      rcases ok.yld i Hf2 H2 x H3 items[i] e2 s2.er.ex (List.getElem?_eq_getElem hlt) hy with ⟨rfl, hd⟩ | ⟨T, o, hT, rfl, hd⟩
      · exact body (.refl s2.er) hD2 hfD2 hd
      · have nT : D ≠ T := fun z => by rw [z, hT] at hD2; cases hD2
        exact body (st2_new s2.er hT) (by rw [upd_ne nT]; exact hD2) (by rw [upd_ne nT]; exact hfD2) hd
    · exact q2.elim
  · have e : i = items.length := by omega
    subst e
    rw [List.drop_length] at q2
    exact .inl ⟨ok.stop _ Hf2 H2 e2 s2.er.ex (Nat.le_refl _), c (.ref D) Hf2 H2 (.lst acc) ρ2 s2 ⟨⟨D, rfl, hfD2, us, hD2, ha2⟩, fun _ a e => by cases e; exact hD0⟩ q2⟩
theorem xe_lc {elt tg iter : Expr} {ifs : List Expr} {scope : Scope} {own : List (Str × Nat)} {wi : TI} {g : TG} {tt : TT} {te : TE} {w : WI} {f : PyData → Den → Option Den} {S : List Nat} {wt : WT} {we : WE} (hc : X.calm = true) (hN : X.N.Nodup) (hi : XI X tg iter wi w) (ok : BlkOk X.N X.env.scope scope own)
    (hg : ∀ (s : Shared) (H : Hp) (C : Addr) (cl : List (Str × Addr)) (fp : List Addr), XG (X.blk s H scope (compEnvC scope cl C X.env) fp) tg g f S) (ht : ∀ (s : Shared) (H : Hp) (C : Addr) (cl : List (Str × Addr)) (fp : List Addr), XTs (X.blk s H scope (compEnvC scope cl C X.env) fp) ifs tt wt)
    (he : ∀ (s : Shared) (H : Hp) (C : Addr) (cl : List (Str × Addr)) (fp : List Addr), XE (X.blk s H scope (compEnvC scope cl C X.env) fp) elt te we) (hS : ∀ i ∈ S, i ∈ own.map (·.2) := by decide) (hs : ∀ x, foldedSetIterable iter X.env x = pure x := by intro _; rfl) :
    XE X (.ListComp elt [⟨tg, iter, ifs, 0⟩] scope pos) (tLc wi g tt te (own.map (·.2))) (wLc w f wt we (own.map (·.2))) :=
  ⟨pe_lc hc hN hi.pi ok (fun s H C cl fp => (hg s H C cl fp).pg) (fun s H C cl fp => (ht s H C cl fp).pt) (fun s H C cl fp => (he s H C cl fp).pe) hs,
    fun Hf H σ ρ Q Q' E hw c => lc_so hi (hg X.s_0 X.H_0 0 [] []).so hS (ht X.s_0 X.H_0 0 [] []).so (he X.s_0 X.H_0 0 [] []).so E hw c⟩
end
end DL
end
section
set_option Elab.async false
set_option linter.all false
set_option maxRecDepth 100000
set_option maxHeartbeats 1000000

/-! ### the machine: extend by a tuple, sorted of a tuple -/
namespace DLM
open PySem PySem.W PyProof.Rows PySem.Calls L2
section
variable {prog : Program} {w : World} {A : Around} {E : Value → Shared → Prop} {s : Shared}
theorem collect_tup {l : Addr} {vs : List Value} {Q : List Value → Shared → Prop} (hl : IsTup s.heap l vs.toArray)
    (h : Q vs { s with heap := (s.heap.push (seqObj "list" #[] 0)).update s.heap.objs.size (Obj.mapSeq (· ++ vs.toArray)) }) (hsz : vs.length ≤ sizeLine) :
    wpAny (model prog w) A (collect (.ref l)) Q E s := by
  obtain ⟨o, ho, hc, n, hd⟩ := id hl
  unfold collect
  refine wpAny_bind (wpAny_runValue (codeAny_builtin entry_proto_collect' ?_))
  show wpAny _ _ (do again (.builtin "list.__iadd__" ⟨[← newList [], .ref l], []⟩)) _ _ s
  refine wpAny_bind (wpAny_newList (wpAny_pure ⟨Code.quiet_builtin _ (by decide +kernel), codeAny_builtin entry_list_iadd' ?_⟩))
  show wpAny _ _ (Builtin.List.listExtendWith (.ref s.heap.objs.size) (.ref l) (.ref s.heap.objs.size)) _ _ { s with heap := s.heap.push (seqObj "list" #[] 0) }
  unfold Builtin.List.listExtendWith
  have ho' : (s.heap.push (seqObj "list" #[] 0)).get? l = some o := Heap.get?_push_of_some _ ho
  refine wpAny_bind (wpAny_typeOf (T := "tuple") ⟨o, ho', hc⟩ ?_)
  have ht : (Value.type "tuple" == Value.type "tuple") = true := by rfl
  rw [if_pos (by rw [ht]; simp)]
  refine wpAny_bind (listItems_at ho' hd ?_)
  refine wpAny_bind (listItems_at (xs := #[]) (n := 0) (Heap.get?_push_size _ rfl) rfl ?_)
  rw [if_neg (by simp)]
  refine wpAny_bind (listUpdate_at (xs := #[]) (n := 0) (Heap.get?_push_size _ rfl) rfl ?_ (Nat.zero_le _) (by show (#[] ++ vs.toArray).size ≤ sizeLine + 1; simp only [Array.size_append, List.size_toArray, List.length_nil]; omega))
  refine wpAny_pure ?_
  show wpAny (model prog w) A (do
      let o ← load s.heap.objs.size
      match o.data with
      | .seq xs _ => pure xs.toList
      | _ => unsupported "internal:collect") Q E { s with heap := (s.heap.push (seqObj "list" #[] 0)).update s.heap.objs.size (Obj.mapSeq (· ++ vs.toArray)) }
  refine wpAny_bind (wpAny_load (get?_update_seq (Heap.get?_push_size _ rfl) _) ?_)
  show wpAny _ _ (pure ((#[] : Array Value) ++ vs.toArray).toList) Q E _
  rw [show ((#[] : Array Value) ++ vs.toArray).toList = vs by simp]
  exact wpAny_pure h
theorem sorted_of_sortT {l : Addr} {vs : List Value} {Q : Value → Shared → Prop} (hl : IsTup s.heap l vs.toArray) (hL : vs.length ≤ sizeLine)
    (body : ∀ E' : Value → Shared → Prop, wpAny (model prog w) A.in1.in1 (Builtin.«list.sort» ⟨[.ref (s.heap.objs.size + 1)], []⟩) (fun f s' => f = .done (.ret .none) ∧ Q (.ref (s.heap.objs.size + 1)) s') E' { s with heap := copyHeap s.heap vs }) :
    wpAny (model prog w) A (call (.builtin "sorted") [.ref l]) Q E s := by
  refine call_function_entry_kw kind_sorted plain_sorted entry_sorted (args_sorted1 _) ?_
  unfold Builtin.«sorted»
  refine wpAny_bind (m := checkCount "sorted" 1 1 _) (wpAny_pure ?_)
  refine wpAny_bind (collect_tup hl ?_ hL)
  refine wpAny_bind (wpAny_newList ?_ hL)
  have hsz : ((s.heap.push (seqObj "list" #[] 0)).update s.heap.objs.size (Obj.mapSeq (· ++ vs.toArray))).objs.size = s.heap.objs.size + 1 := by
    rw [Heap.size_update, size_push']
  show wpAny _ _ _ _ _ { s with heap := copyHeap s.heap vs }
  rw [hsz]
  refine wpAny_bind (wpAny_holding (wpAny_call_entry_kw slot_list_sort ⟨_, copyHeap_at s.heap vs, rfl⟩ entry_list_sort ?body (args_list_sort _)))
  case body =>
    show wpAny (model prog w) A.in1.in1 (Builtin.«list.sort» ⟨[.ref (s.heap.objs.size + 1)], []⟩) _ _ _
    refine wpAny_mono (body _) (fun f s' hf => ?_) fun _ _ e => e
    obtain ⟨rfl, hq⟩ := hf
    exact ⟨_, rfl, wpAny_pure ⟨_, rfl, hq⟩⟩
theorem sorted_dataT {β : Type} {vs : List Value} {bs : List β} {enc : β → PyData} {R : Value → β → Prop} {l : Addr} {Q : Value → Shared → Prop} (hl : IsTup s.heap l vs.toArray) (e : EachIs R vs bs) (er : EachIs (fun v b => ∃ as, Reads s.heap v (enc b) as) vs bs) (hal : AllAlike (bs.map enc)) (hk : Sortable (bs.map enc)) (hL : bs.length ≤ sizeLine)
    (hu : ∀ b, b ∈ bs → A.units + 2 + (enc b).depth < cLine) (h : ∀ out, out.length = bs.length → EachIs R out (bs.mergeSort (dataLe false enc)) → Q (.ref (s.heap.objs.size + 1)) { s with heap := sortedAll s.heap vs (List.toArray out) }) :
    wpAny (model prog w) A (call (.builtin "sorted") [.ref l]) Q E s := by
  have er' : EachIs (fun v b => ∃ as, Reads (sortingHeap (copyHeap s.heap vs) (s.heap.objs.size + 1) vs) v (enc b) as) vs bs := er.mono fun _ _ ⟨as, r⟩ => ⟨as, PyProof.Rows.Reads.keeps (fun _ _ => sorting_copy_old) r⟩
  have S := SortsAt.data (prog := prog) (w := w) (A := A.in1.in1) (s := { s with heap := sortingHeap (copyHeap s.heap vs) (s.heap.objs.size + 1) vs }) (each_map (R := fun v d => ∃ as, Reads (sortingHeap (copyHeap s.heap vs) (s.heap.objs.size + 1) vs) v d as) enc er') hal hk (bound_map hu)
  have hvl : vs.length ≤ sizeLine := by rw [e.length]; exact hL
  have q := h _ (by rw [sortVals_length false rfl]; exact e.length) (sortVals_data false e er' hal)
  exact sorted_of_sortT hl hvl fun _ => list_sort_vals (s := { s with heap := copyHeap s.heap vs }) (copyHeap_at s.heap vs) S hvl ⟨rfl, q⟩
end
end DLM
namespace DL
open PySem L2
section
variable {X : Cx}
/-- xs.extend(t) -/
def rExtT (K : PySem.W.Frag) : V → List V → Hp → VK → Prop := fun x vs H Q => ∃ l b xs zs, x = .ref l ∧ vs = [.ref b] ∧ H l = some (.lst xs) ∧ SqT K H b zs ∧ xs.length + zs.length ≤ sizeLine ∧ Q .non (upd H l (.lst (xs ++ zs)))
theorem mt_extT : MtM X "list.extend" (rExtT X.K) := by
  intro pins s σ H x vs v us Q I rx rv h
  obtain ⟨l, b, xs, zs, rfl, rfl, hH, hB, hz, q⟩ := h
  cases rx
  obtain ⟨u, rfl, ru⟩ := rv.one
  cases ru
  obtain ⟨z, its, n, r, hl, e⟩ := I.lstM hH
  obtain ⟨its2, r2, ⟨o2, ho2, hc2, n2, hd2⟩, hz2⟩ := I.tuple hB
  have hl2 := r2.length
  have hsz : its.toArray.size + its2.toArray.size ≤ sizeLine := by rw [List.size_toArray, List.size_toArray]; omega
  have hlong : ¬ (!its.toArray.isEmpty && Builtin.List.listTooLong (its.toArray.size + its2.toArray.size)) = true := by
    rw [notLongL hsz, Bool.and_false]
    exact Bool.false_ne_true
  refine wpAny_call_entry PySem.F.slot_list_extend ⟨_, e, rfl⟩ PySem.F.entry_list_extend ?_ (PySem.F.args_list_extend_2 _ _)
  show wpAny _ _ (Builtin.List.listExtendWith (.ref l) (.ref b) .none) _ _ s
  unfold Builtin.List.listExtendWith
  refine wpAny_bind (wpAny_typeOf ⟨o2, ho2, hc2⟩ ?_)
  rw [if_pos (by simp)]
  refine wpAny_bind (PyProof.Rows.listItems_at ho2 hd2 ?_)
  refine wpAny_bind (PyProof.Rows.listItems_at e rfl ?_)
  rw [if_neg hlong]
  refine wpAny_bind (PyProof.Rows.listUpdate_at e rfl ?_ (by rw [List.size_toArray]; omega) (by rw [Array.size_append]; omega))
  refine wpAny_pure ⟨.none, rfl, .non, upd H l (.lst (xs ++ zs)), ?_, rfl, q⟩
  refine I.lset (f := (· ++ its2.toArray)) (its' := its ++ its2) hH e (by simp) (r.append r2) ?_
  rw [List.length_append]
  omega
theorem each_of {K : PySem.W.Frag} {Hf : Hp} : ∀ {vs : List V} {ds : List PyData} {us : List Value}, DpAll K Hf vs ds → Vals vs us → PySem.W.EachIs (fun u d => ∃ v, RelV v u ∧ Dp K Hf v d) us ds
  | _, [], _, .nil, .nil => .nil
  | _, _ :: _, _, .cons h t, .cons r rr => .cons ⟨_, r, h⟩ (each_of t rr)
theorem of_each {K : PySem.W.Frag} {Hf : Hp} : ∀ {ds : List PyData} {us : List Value}, PySem.W.EachIs (fun u d => ∃ v, RelV v u ∧ Dp K Hf v d) us ds → ∃ vs, Vals vs us ∧ DpAll K Hf vs ds
  | _, _, .nil => ⟨[], .nil, .nil⟩
  | _, _, .cons ⟨v, r, h⟩ t => by
    obtain ⟨vs, h1, h2⟩ := of_each t
    exact ⟨v :: vs, .cons r h1, .cons h h2⟩
/-- sorted(xs), xs a list or a tuple of data of one kind -/
def sortD (ds : List PyData) : List PyData := ds.mergeSort (PySem.W.dataLe false id)
def rSortD (K : PySem.W.Frag) : List V → Hp → VK → Prop := fun vs H Q => ∃ (a : Addr) (b : Bool) (xs : List V) (ds : List PyData) (Hf : Hp), vs = [V.ref a] ∧ Same Hf H ∧ Sq K H a b xs ∧ DpAll K Hf xs ds ∧ PySem.W.AllAlike ds ∧ PySem.W.Sortable ds ∧ (∀ d ∈ ds, d.depth ≤ 60) ∧
  ∀ ys p, DpAll K Hf ys (sortD ds) → H p = none → Q (.ref p) (upd H p (.lst ys))
theorem cr_sortD (hu : X.A.units + 64 < cLine) : CallR X (.builtin "sorted") (rSortD X.K) := by
  intro pins s σ H vs us Q I r h
  obtain ⟨a, b, xs, ds, Hf, rfl, e, hs, ha, hal, hk, hdp, q⟩ := h
  obtain ⟨u, rfl, ru⟩ := vals1 r
  obtain rfl : u = Value.ref a := ru
  have go : ∀ {its : List Value}, Vals xs its → xs.length ≤ sizeLine → (∀ {Q' : Value → Shared → Prop}, (PySem.W.EachIs (fun u d => ∃ v, RelV v u ∧ Dp X.K Hf v d) its ds) → PySem.W.EachIs (fun v b => ∃ as, Reads s.heap v (id b) as) its ds → PySem.W.AllAlike (ds.map id) → PySem.W.Sortable (ds.map id) → ds.length ≤ sizeLine →
      (∀ b, b ∈ ds → X.A.units + 2 + (id b : PyData).depth < cLine) → (∀ out, out.length = ds.length → PySem.W.EachIs (fun u d => ∃ v, RelV v u ∧ Dp X.K Hf v d) out (sortD ds) → Q' (.ref (s.heap.objs.size + 1)) { s with heap := PyProof.Rows.sortedAll s.heap its (List.toArray out) }) →
      wpAny (model X.prog X.w) X.A (call (.builtin "sorted") [.ref a]) Q' X.xe s) → wpAny (model X.prog X.w) X.A (call (.builtin "sorted") [.ref a]) (EP X pins σ Q) X.xe s := fun {its} rv hz rule => by
    have hl : ds.length = xs.length := (DpAll.length ha).symm
    refine rule (each_of ha rv) ((each_of ha rv).mono fun u d ⟨v, r1, r2⟩ => Dp.reads I d v u (dp_mono e _ _ r2) r1) (by rw [List.map_id]; exact hal) (by rw [List.map_id]; exact hk) (by omega) (fun d hd => by have := hdp d hd; show X.A.units + 2 + d.depth < cLine; omega) fun out ho hout => ?_
    obtain ⟨ys, r1, r2⟩ := of_each hout
    obtain ⟨ep, he'⟩ := PyProof.Rows.sortedAll_at s.heap its out.toArray
    have hlen : ys.length ≤ sizeLine := by rw [r1.length, ho]; omega
    exact ⟨.ref _, upd H (s.heap.objs.size + 1) (.lst ys), I.laid (t' := s.toks) (fun _ _ => PyProof.Rows.sortedAll_old) (Nat.le_succ _) ⟨hlen, out, ep, r1, he'⟩, rfl, q ys _ r2 (I.hok.fresh (Nat.le_succ _))⟩
  cases b with
  | true =>
    obtain ⟨its, rv, hl, hz⟩ := I.tuple hs
    exact go rv hz fun e er hal hk hL hu' h => DLM.sorted_dataT hl e er hal hk hL hu' h
  | false =>
    obtain ⟨its, rv, hl, hz⟩ := I.list hs
    exact go rv hz fun e er hal hk hL hu' h => PySem.W.sorted_data hl.isList e er hal hk hL hu' h
def oSorted : WC := fun xs ρ Q => match xs with
  | [x] => match seqOf ρ x with
    | some (_, ds) => PySem.W.AllAlike ds ∧ PySem.W.Sortable ds ∧ (∀ d ∈ ds, d.depth ≤ 60) ∧ Q (.lst (sortD ds)) ρ
    | none => False
  | _ => False
theorem xc_sorted (hu : X.A.units + 64 < cLine) : XC X (.builtin "sorted") (rSortD X.K) oSorted :=
  ⟨cr_sortD hu, fun Hf H σ ρ Q Q' vs ds E ha ho c => by
    unfold oSorted at ho
    split at ho
    · rename_i x
      obtain ⟨v, rfl, hv⟩ := avs1 ha
      split at ho
      · rename_i b ds hq
        obtain ⟨a, vs, rfl, h1, h2⟩ := seq_of E hv.vs hq
        exact ⟨a, b, vs, ds, Hf, rfl, E.ex, h1, h2, ho.1, ho.2.1, ho.2.2.1, fun ys p hy hp => c.lst E hy hp ho.2.2.2⟩
      · exact ho.elim
    · exact ho.elim⟩
end

/-! ### methods of lists -/
def ownL : Option (Option DV) → Option (Bool × List PyData)
  | some (some (.lst xs)) => some (false, xs)
  | some (some (.arg xs)) => some (true, xs)
  | _ => none
def mkO : Bool → List PyData → DV
  | false, xs => .lst xs
  | true, xs => .arg xs
theorem ownL_some {q : Option (Option DV)} {b : Bool} {xs : List PyData} (h : ownL q = some (b, xs)) : q = some (some (mkO b xs)) := by
  unfold ownL at h
  split at h
  · cases h; rfl
  · cases h; rfl
  · cases h
section
variable {K : PySem.W.Frag} {σ : St} {Hf H : Hp} {ρ : Den} {v : V}
theorem ownL_at {i : Nat} {b : Bool} {xs : List PyData} (E : ER K Hf H σ ρ) (hv : σ[i]? = some (some v)) (h : ownL ρ[i]? = some (b, xs)) : ∃ a us, v = .ref a ∧ σ[i]? = some (some (.ref a)) ∧ ρ[i]? = some (some (mkO b xs)) ∧ H a = some (.lst us) ∧ DpAll K Hf us xs := by
  have q := ownL_some h
  cases b with
  | false =>
    obtain ⟨a, h1, h2, us, h3, h4⟩ := E.own (d := .lst xs) q rfl
    rw [hv] at h1; cases h1
    exact ⟨a, us, rfl, hv, q, h3, h4⟩
  | true =>
    obtain ⟨a, h1, h2, us, h3, h4⟩ := E.own (d := .arg xs) q rfl
    rw [hv] at h1; cases h1
    exact ⟨a, us, rfl, hv, q, h3, h4⟩
theorem st2_own {i : Nat} {b : Bool} {xs ys : List PyData} {a : Addr} {us : List V} (E : ER K Hf H σ ρ) (ha : σ[i]? = some (some (.ref a))) (h : ρ[i]? = some (some (mkO b xs))) (hy : DpAll K Hf us ys) : St2 K σ Hf H ρ Hf (upd H a (.lst us)) (ρ.set i (some (mkO b ys))) := by
  cases b with
  | false => exact st2_mut E h rfl ha rfl ⟨(fun z => by obtain ⟨_, z⟩ := z; cases z), (fun z => by obtain ⟨_, z⟩ := z; cases z)⟩ ⟨us, upd_same, hy⟩
  | true => exact st2_mut E h rfl ha rfl ⟨fun _ => ⟨_, rfl⟩, fun _ => ⟨_, rfl⟩⟩ ⟨us, upd_same, hy⟩
end
section
variable {X : Cx} {apos cpos pos : Pos}
def wApp (wo : WE) (wa : WA) : WE := fun ρ Q => wo ρ fun x ρ1 => match x with
  | .own i => (ownL ρ1[i]?).isSome = true ∧ wa ρ1 fun ys ρ2 => match ownL ρ2[i]?, ys with
    | some (b, xs), [.dat d] => xs.length < sizeLine ∧ Q (.dat .none) (ρ2.set i (some (mkO b (xs ++ [d]))))
    | _, _ => False
  | _ => False
theorem xe_append {o e : Expr} {to te : TE} {wo we : WE} (ho : XE X o to wo) (he : XA X [e] (tCons te tNil) (wCons we wNil))
    (hbase : attributeBase o "append" X.env (eval o X.env) = eval o X.env := by rfl)
    (hfew : ((backTo cpos (starEach [e] X.env)).all (fun x => !x.1) && (backToKw cpos (keywordEach [] X.env)).all (fun x => x.1.isSome)
      && decide (([e] : List Expr).length + ([] : List Keyword).length + (if ([] : List Keyword).isEmpty then 0 else 1) < 30)) = true := by rfl)
    (hline : (apos.endLine == cpos.line) = true := by rfl) (hs : starEach [e] X.env = (false, eval e X.env) :: starEach [] X.env := by rfl) (hplain : (backTo cpos (starEach [] X.env)).any (·.1) = false := by rfl) :
    XE X (.Call (.Attribute o "append" apos) [e] [] cpos) (tBM X.K "list" rAppend to (tCons te tNil)) (wApp wo (wCons we wNil)) :=
  ⟨pe_bm PySem.F.plainAttrs_list PySem.F.slot_list_append PySem.F.type_list_append mt_append ho.pe he.pa hbase hfew hline hs hplain, fun Hf H σ ρ Q Q' E hw c => by
    refine ho.so Hf H σ ρ _ _ E hw fun x Hf1 H1 d ρ1 s1 r1 q1 => ?_
    split at q1
    · rename_i i
      obtain ⟨hsome, q1⟩ := q1
      obtain ⟨⟨b, xs⟩, hb⟩ := Option.isSome_iff_exists.mp hsome
      have r1' : σ[i]? = some (some x) := r1
      obtain ⟨a, us, rfl, g1, g2, g3, g4⟩ := ownL_at s1.er r1' hb
      refine ⟨.inl ⟨rfl, us, .inl (.inl g3)⟩, ?_⟩
      refine he.so Hf1 H1 σ ρ1 _ _ s1.er q1 fun vs Hf2 H2 ys ρ2 s2 r2 q2 => ?_
      split at q2
      · rename_i b2 xs2 d2 hb2
        obtain ⟨a2, us2, e2, f1, f2, f3, f4⟩ := ownL_at s2.er g1 hb2
        cases e2
        obtain ⟨y, rfl, hy⟩ := avs1 r2
        refine ⟨a, us2, y, rfl, rfl, f3, by rw [DpAll.length f4]; exact q2.1, ?_⟩
        have s3 := st2_own s2.er f1 f2 (DpAll.app f4 (.cons hy .nil))
        exact c .non Hf2 _ (.dat .none) _ ((s1.trans s2).trans s3) ⟨.non, fun z => nomatch z⟩ q2.2
      · exact q2.elim
    · exact q1.elim⟩
def wExt (wo : WE) (wa : WA) : WE := fun ρ Q => wo ρ fun x ρ1 => match x with
  | .own i => (ownL ρ1[i]?).isSome = true ∧ wa ρ1 fun ys ρ2 => match ownL ρ2[i]?, ys with
    | some (b, xs), [.dat (.tuple ds)] => xs.length + ds.length ≤ sizeLine ∧ Q (.dat .none) (ρ2.set i (some (mkO b (xs ++ ds))))
    | _, _ => False
  | _ => False
theorem xe_extend {o e : Expr} {to te : TE} {wo we : WE} (ho : XE X o to wo) (he : XA X [e] (tCons te tNil) (wCons we wNil))
    (hbase : attributeBase o "extend" X.env (eval o X.env) = eval o X.env := by rfl)
    (hfew : ((backTo cpos (starEach [e] X.env)).all (fun x => !x.1) && (backToKw cpos (keywordEach [] X.env)).all (fun x => x.1.isSome)
      && decide (([e] : List Expr).length + ([] : List Keyword).length + (if ([] : List Keyword).isEmpty then 0 else 1) < 30)) = true := by rfl)
    (hline : (apos.endLine == cpos.line) = true := by rfl) (hs : starEach [e] X.env = (false, eval e X.env) :: starEach [] X.env := by rfl) (hplain : (backTo cpos (starEach [] X.env)).any (·.1) = false := by rfl) :
    XE X (.Call (.Attribute o "extend" apos) [e] [] cpos) (tBM X.K "list" (rExtT X.K) to (tCons te tNil)) (wExt wo (wCons we wNil)) :=
  ⟨pe_bm PySem.F.plainAttrs_list PySem.F.slot_list_extend PySem.F.type_list_extend mt_extT ho.pe he.pa hbase hfew hline hs hplain, fun Hf H σ ρ Q Q' E hw c => by
    refine ho.so Hf H σ ρ _ _ E hw fun x Hf1 H1 d ρ1 s1 r1 q1 => ?_
    split at q1
    · rename_i i
      obtain ⟨hsome, q1⟩ := q1
      obtain ⟨⟨b, xs⟩, hb⟩ := Option.isSome_iff_exists.mp hsome
      have r1' : σ[i]? = some (some x) := r1
      obtain ⟨a, us, rfl, g1, g2, g3, g4⟩ := ownL_at s1.er r1' hb
      refine ⟨.inl ⟨rfl, us, .inl (.inl g3)⟩, ?_⟩
      refine he.so Hf1 H1 σ ρ1 _ _ s1.er q1 fun vs Hf2 H2 ys ρ2 s2 r2 q2 => ?_
      split at q2
      · rename_i b2 xs2 ds hb2
        obtain ⟨a2, us2, e2, f1, f2, f3, f4⟩ := ownL_at s2.er g1 hb2
        cases e2
        obtain ⟨y, rfl, hy⟩ := avs1 r2
        have hy : Dp X.K Hf2 y (.tuple ds) := hy
        cases hy with
        | tup hs2 ha2 =>
          refine ⟨a, _, us2, _, rfl, rfl, f3, sqT_mono s2.er.ex hs2, by rw [DpAll.length f4, DpAll.length ha2]; exact q2.1, ?_⟩
          have s3 := st2_own s2.er f1 f2 (DpAll.app f4 ha2)
          exact c .non Hf2 _ (.dat .none) _ ((s1.trans s2).trans s3) ⟨.non, fun z => nomatch z⟩ q2.2
      · exact q2.elim
    · exact q1.elim⟩
/-- out[i] = value -/
def wPut (w wo wi : WE) : WS := fun D ρ => w ρ fun x ρ1 => wo ρ1 fun o ρ2 => wi ρ2 fun k ρ3 => match x, o, k with
  | .dat d, .own i, .dat (.int n) => match ownL ρ3[i]? with
    | some (b, xs) => match ixN xs.length n with
      | some j => D.nx (ρ3.set i (some (mkO b (xs.set j d))))
      | none => False
    | none => False
  | _, _, _ => False
theorem xs_put {o i e : Expr} {to ti te : TE} {wo wi we : WE} {p : Pos} (he : XE X e te we) (ho : XE X o to wo) (hi : XE X i ti wi)
    (ha : ∀ v, assign (.Subscript o i p) X.env v = (do
      let ov ← holding [v] (eval o X.env)
      let iv ← holding [v, ov] (eval i X.env)
      standAt p
      holding [v, ov, iv] (setItem ov iv v)
      release [v, ov, iv] []) := by intro _; rfl)
    (hs : swapsWithSole [.Subscript o i p] e pos.line X.env = pure false := by rfl) (hw : swappedStores [.Subscript o i p] e X.env = pure none := by rfl)
    (h1 : (assignEach [.Subscript o i p] X.env).map (·.2) = [assign (.Subscript o i p) X.env] := by rfl) :
    XS X (.Assign [.Subscript o i p] e pos) (tAsg te (gSub to ti rSetL)) (wPut we wo wi) :=
  ⟨ps_asg he.pe (pg_sub ho.pe hi.pe set_list ha) hs hw h1, fun N D' D Hf H σ ρ c s hw => by
    refine he.so Hf H σ ρ _ _ s.er hw fun x Hf1 H1 dx ρ1 s1 r1 q1 => ?_
    refine ho.so Hf1 H1 σ ρ1 _ _ s1.er q1 fun y Hf2 H2 dy ρ2 s2 r2 q2 => ?_
    refine hi.so Hf2 H2 σ ρ2 _ _ s2.er q2 fun z Hf3 H3 dz ρ3 s3 r3 q3 => ?_
    have r1' := rr_step s.er s1 r1 (s2.trans s3)
    split at q3
    · rename_i d i n
      split at q3
      · rename_i b xs hb
        split at q3
        · rename_i j hj
          have r2' : σ[i]? = some (some y) := r2
          obtain ⟨a, us, rfl, g1, g2, g3, g4⟩ := ownL_at s3.er r2' hb
          cases r3.1
          refine ⟨a, us, n, j, rfl, rfl, g3, by rw [DpAll.length g4]; exact hj, ?_⟩
          have s4 := st2_own s3.er g1 g2 (DpAll.set r1'.1 j g4)
          exact c.nx Hf3 _ σ _ (s.step ((s1.trans (s2.trans s3)).trans s4)) q3
        · exact q3.elim
      · exact q3.elim
    · exact q3.elim⟩
/-- name op= e, ints -/
def wAugI (i : Nat) (g : Int → Int → Int) (w : WE) : WS := fun D ρ => match ρ[i]? with
  | some (some (.dat (.int a))) => w ρ fun y ρ1 => match y with
    | .dat (.int b) => notArg ρ1[i]? ∧ D.nx (ρ1.set i (some (.dat (.int (g a b)))))
    | _ => False
  | _ => False
theorem xs_augI {i : Nat} {x : Str} {e : Expr} {te : TE} {w : WE} {op : Operator} {g : Int → Int → Int} {pos' : Pos} (hN : X.N.Nodup) (hi : X.N[i]? = some x) (hx : Loc X.env.scope x) (he : XE X e te w) (ho : PIp X op (ipI g)) (hf : X.fn x = true ∨ X.env.scope.names.lookup x = some .local := by first | exact .inl rfl | exact .inr rfl | assumption) :
    XS X (.AugAssign (.Name x pos') op e pos) (tAug i te (ipI g)) (wAugI i g w) :=
  ⟨ps_aug hN hi hx he.pe ho hf, fun N D' D Hf H σ ρ c s hw => by
    unfold wAugI at hw
    split at hw
    · rename_i a ha
      obtain ⟨v, h1, h2⟩ := s.er.sl i _ ha
      cases h2
      refine ⟨_, h1, ?_⟩
      refine he.so Hf H σ ρ _ _ s.er hw fun y Hf1 H1 d ρ1 s1 r1 q1 => ?_
      split at q1
      · rename_i b
        cases r1.1
        exact ⟨a, b, rfl, rfl, set_so (d := .dat (.int (g a b))) c s s1 ⟨.int _, fun z => nomatch z⟩ q1.1 (fun _ z => nomatch z) (fun _ z => nomatch z) q1.2⟩
      · exact q1.elim
    · exact hw.elim⟩
end
end DL
end
section
set_option Elab.async false
set_option linter.all false
set_option maxRecDepth 100000
set_option maxHeartbeats 1000000
namespace DL
open PySem L2

/-! ### a def -/
def startD (N : List Str) (ds : List DV) : Den := ds.map some ++ List.replicate (N.length - ds.length) none
def out1 (ρ : Den) (k : Nat) (d : DV) : DV := match d with
  | .arg xs => match ρ[k]? with
    | some (some (.arg ys)) => .arg ys
    | _ => .arg xs
  | d => d
def outsGo (ρ : Den) (k : Nat) : List DV → List DV
  | [] => []
  | d :: r => out1 ρ k d :: outsGo ρ (k + 1) r
abbrev outsOf (ds : List DV) (ρ : Den) : List DV := outsGo ρ 0 ds
theorem outsGo_get {ρ : Den} : ∀ (ds : List DV) (k i : Nat), (outsGo ρ k ds)[i]? = (ds[i]?).map (out1 ρ (k + i))
  | [], k, i => by simp [outsGo]
  | d :: r, k, 0 => by simp [outsGo]
  | d :: r, k, i + 1 => by
    show (out1 ρ k d :: outsGo ρ (k + 1) r)[i + 1]? = _
    rw [List.getElem?_cons_succ, outsGo_get r (k + 1) i, List.getElem?_cons_succ, show k + 1 + i = k + (i + 1) by omega]
theorem outsGo_len {ρ : Den} : ∀ (ds : List DV) (k : Nat), (outsGo ρ k ds).length = ds.length
  | [], _ => rfl
  | d :: r, k => congrArg (· + 1) (outsGo_len r (k + 1))
theorem outsGo_shp {ρ : Den} : ∀ (ds : List DV) (k : Nat), Shp ds (outsGo ρ k ds)
  | [], _ => .nil
  | d :: r, k => .cons (by
      cases d with
      | arg xs =>
        show ∃ ys, out1 ρ k (.arg xs) = .arg ys
        cases h : ρ[k]? with
        | none => exact ⟨xs, by simp [out1, h]⟩
        | some o =>
          cases o with
          | none => exact ⟨xs, by simp [out1, h]⟩
          | some e =>
            cases e with
            | arg ys => exact ⟨ys, by simp [out1, h]⟩
            | _ => exact ⟨xs, by simp [out1, h]⟩
      | _ => rfl) (outsGo_shp r (k + 1))
structure DefOk (X : Cx) (body : List Stmt) (N : List Str) (S : DSpec) : Prop where
  ex : ∃ t w, XSs X body t w ∧ ∀ ds K', S ds K' → w { nx := fun ρ => K' (.dat .none) (outsOf ds ρ), rt := fun r ρ => K' r (outsOf ds ρ) } (startD N ds)
theorem fn_data {P : Program} {w : World} {K : PySem.W.Frag} {mg : Str → Option Value} {base : Heap} {x qual : Str} {st : Stmt} {f : Addr} {fd : FuncData} {N ps : List Str} {k : Nat} {S : DSpec} (F : Fun K x qual st f fd) (Sc : FnScope N ps (defScope st)) (hl : ∀ ds K', S ds K' → ds.length = ps.length)
    (hb : ∀ (cdv : Value) (A : Around) (outer : List Env) (s : Shared) (H : Hp), Room k (A.deeper (PyProof.Rows.envOfC qual (defScope st) s.heap.objs.size f cdv)) → DefOk (cxOf CX0 P w K mg base N qual (defScope st) f cdv A outer s H E0).nox (defBody st) N S) :
    FnOk P w K mg base CX0 (k + 1) f fd ps (spD K S) := by
  refine F.ok Sc (fun vs H Q E h => ?_) (fun cdv A outer s H vs Q E hr h => ?_)
  · obtain ⟨Hf, ds, K', e, _, hS, _⟩ := h
    have := e.len
    rw [List.length_map, List.length_map] at this
    exact this.trans (hl ds K' hS)
  · obtain ⟨Hf, ds, K', e, hok, hS, post⟩ := h
    obtain ⟨t, w', hx, hw⟩ := (hb cdv A outer s H hr).ex
    have hvl : vs.length = ds.length := by have := e.len; rw [List.length_map, List.length_map] at this; exact this
    have hx' : XSs (cxOf CX0 P w K mg base N qual (defScope st) f cdv A outer s H E).nox (defBody st) t w' := hx
    have argc : ∀ {i : Nat} {d : DV}, ds[i]? = some d → argOk d = true := fun {i d} h => List.all_eq_true.mp hok d (List.mem_of_getElem? h)
    have stD : ∀ {i : Nat} {d : DV}, (startD N ds)[i]? = some (some d) → ds[i]? = some d ∧ i < ds.length := fun {i d} h => by
      unfold startD at h
      by_cases hi : i < ds.length
      · rw [List.getElem?_append_left (by simpa using hi)] at h
        exact ⟨getMap h, hi⟩
      · rw [List.getElem?_append_right (by simpa using hi), List.getElem?_replicate] at h
        split at h <;> cases h
    have stV : ∀ {i : Nat}, i < vs.length → (L2.start N vs)[i]? = (vs.map some)[i]? := fun {i} hi => by
      unfold L2.start
      rw [List.getElem?_append_left (by simpa using hi)]
    have slv : ∀ {i : Nat} {d : DV}, ds[i]? = some d → ∃ v, vs[i]? = some v ∧ VR K Hf H v d := fun {i d} h => by
      obtain ⟨v, h1, h2⟩ := e.sl i d (mapGet h)
      exact ⟨v, getMap h1, h2⟩
    let R : Nat → Option Addr := fun i => match ds[i]?, vs[i]? with
      | some (.arg _), some (.ref a) => some a
      | _, _ => none
    have Rat : ∀ {i : Nat} {a : Addr}, R i = some a ↔ (∃ xs, ds[i]? = some (.arg xs)) ∧ vs[i]? = some (.ref a) := fun {i a} => by
      constructor
      · intro h
        have h' : (match ds[i]?, vs[i]? with
          | some (.arg _), some (.ref a) => some a
          | _, _ => none) = some a := h
        split at h'
        · rename_i xs b e1 e2
          cases h'
          exact ⟨⟨xs, e1⟩, e2⟩
        · cases h'
      · rintro ⟨⟨xs, h1⟩, h2⟩
        show (match ds[i]?, vs[i]? with
          | some (.arg _), some (.ref a) => some a
          | _, _ => none) = some a
        rw [h1, h2]
    let N0 : Ent := { Hf := Hf, H := H, O := Ow (vs.map some) (ds.map some), R := R, G := Hf }
    have sr : SR K N0 Hf H (L2.start N vs) (startD N ds) := by
      refine ⟨.refl, ⟨?_, e.ex, fun i d h => ?_, fun i j d d' a h1 h2 o1 o2 s1 s2 => ?_⟩, fun i d a h o s => ?_, fun i a h => ?_, fun i xs h => ?_, Same.refl _⟩
      · unfold L2.start startD
        simp [hvl]
      · obtain ⟨g1, g2⟩ := stD h
        obtain ⟨v, f1, f2⟩ := slv g1
        exact ⟨v, by rw [stV (by rw [hvl]; exact g2)]; exact mapGet f1, f2⟩
      · obtain ⟨g1, g2⟩ := stD h1
        obtain ⟨f1, f2⟩ := stD h2
        rw [stV (by rw [hvl]; exact g2)] at s1
        rw [stV (by rw [hvl]; exact f2)] at s2
        exact e.dj i j d d' a (mapGet g1) (mapGet f1) o1 o2 s1 s2
      · obtain ⟨g1, g2⟩ := stD h
        have := argc g1
        cases d with
        | arg xs => exact .inl ⟨xs, rfl⟩
        | lst y => cases this
        | dic y => cases this
        | dat y => cases o
        | fn y => cases o
        | own y => cases o
      · obtain ⟨⟨xs, h1⟩, h2⟩ := Rat.mp h
        have hi : i < vs.length := len_of_get h2
        refine ⟨by rw [stV hi]; exact mapGet h2, xs, ?_⟩
        unfold startD
        rw [List.getElem?_append_left (by rw [List.length_map, ← hvl]; exact hi)]
        exact mapGet h1
      · obtain ⟨g1, g2⟩ := stD h
        obtain ⟨v, f1, f2⟩ := slv g1
        obtain ⟨a, rfl, _, _⟩ := f2
        exact ⟨a, Rat.mpr ⟨⟨xs, g1⟩, f1⟩, i, _, mapGet g1, rfl, mapGet f1⟩
    have fin : ∀ {Hf' H' : Hp} {σ' : St} {ρ' : Den} {v : V} {r : DV}, SR K N0 Hf' H' σ' ρ' → VR K Hf' H' v r → (r.isOwn = true → ∀ a, v = .ref a → H a = none) → K' r (outsOf ds ρ') → Q v H' := fun {Hf' H' σ' ρ' v r} s' vr fr q => by
      have oat : ∀ {i : Nat} {o : DV}, (outsOf ds ρ')[i]? = some o → ∃ d, ds[i]? = some d ∧ ((o = d ∧ ∀ xs, d ≠ .arg xs) ∨ ∃ xs ys a, d = .arg xs ∧ o = .arg ys ∧ vs[i]? = some (.ref a) ∧ σ'[i]? = some (some (.ref a)) ∧ ρ'[i]? = some (some (.arg ys))) := fun {i o} h => by
        rw [show outsOf ds ρ' = outsGo ρ' 0 ds from rfl, outsGo_get] at h
        cases hd : ds[i]? with
        | none => rw [hd] at h; cases h
        | some d =>
          rw [hd] at h
          have h' : out1 ρ' (0 + i) d = o := by simpa using h
          rw [Nat.zero_add] at h'
          refine ⟨d, rfl, ?_⟩
          cases d with
          | arg xs =>
            obtain ⟨v0, f1, f2⟩ := slv hd
            obtain ⟨a, rfl, _, _⟩ := f2
            obtain ⟨g1, ys, g2⟩ := s'.rt i a (Rat.mpr ⟨⟨xs, hd⟩, f1⟩)
            refine .inr ⟨xs, ys, a, rfl, ?_, f1, g1, g2⟩
            rw [← h']
            unfold out1
            rw [g2]
          | dat y => exact .inl ⟨h'.symm, fun _ z => nomatch z⟩
          | fn y => exact .inl ⟨h'.symm, fun _ z => nomatch z⟩
          | lst y => exact .inl ⟨h'.symm, fun _ z => nomatch z⟩
          | dic y => exact .inl ⟨h'.symm, fun _ z => nomatch z⟩
          | own y => exact .inl ⟨h'.symm, fun _ z => nomatch z⟩
      refine post v Hf' H' r (outsOf ds ρ') s'.st ⟨by rw [List.length_map, List.length_map, show outsOf ds ρ' = outsGo ρ' 0 ds from rfl, outsGo_len, hvl], s'.er.ex, fun i o h => ?_, fun i j o o' a h1 h2 o1 o2 s1 s2 => ?_⟩ (outsGo_shp ds 0) vr fr q
      · obtain ⟨d, hd, g⟩ := oat (getMap h)
        obtain ⟨v0, f1, f2⟩ := slv hd
        refine ⟨v0, mapGet f1, ?_⟩
        rcases g with ⟨rfl, na⟩ | ⟨xs, ys, a, rfl, rfl, g1, g2, g3⟩
        · have ok := argc hd
          cases o with
          | dat y => exact dp_mono s'.st.fx _ _ f2
          | fn y => exact f2
          | arg y => exact absurd rfl (na y)
          | _ => cases ok
        · rw [f1] at g1; cases g1
          obtain ⟨u, k1, k2⟩ := s'.er.sl i _ g3
          rw [g2] at k1; cases k1
          exact k2
      · obtain ⟨d, hd, g⟩ := oat (getMap h1)
        obtain ⟨d', hd', g'⟩ := oat (getMap h2)
        have od : d.isOwn = true := by
          rcases g with ⟨rfl, _⟩ | ⟨xs, ys, a, rfl, _⟩
          · exact o1
          · rfl
        have od' : d'.isOwn = true := by
          rcases g' with ⟨rfl, _⟩ | ⟨xs, ys, a, rfl, _⟩
          · exact o2
          · rfl
        exact e.dj i j d d' a (mapGet hd) (mapGet hd') od od' s1 s2
    refine ⟨t, hx'.ps, hx'.so N0 { nx := fun ρ => K' (.dat .none) (outsOf ds ρ), rt := fun r ρ => K' r (outsOf ds ρ) } _ Hf H _ _ ⟨fun Hf' H' σ' ρ' s' q => fin (v := .non) (r := .dat .none) s' .non (fun z => nomatch z) q, fun _ _ _ _ _ z => z.elim, fun _ _ _ _ _ z => z.elim, fun Hf' H' σ' ρ' v r s' vr fr q => fin s' vr fr q⟩ sr (hw ds K' hS)⟩

/-! ### the end: a law of one list of ints -/
def lawSpec (n : Nat) : DSpec := fun ds K' => ∃ ns : List Int, ds = [.dat (.list (ns.map .int))] ∧ ns.length ≤ n ∧ ∀ outs, K' (.dat (.bool true)) outs
theorem dpAll_ints {K : PySem.W.Frag} {H : Hp} : ∀ ns : List Int, DpAll K H (ns.map V.int) (ns.map PyData.int)
  | [] => .nil
  | n :: ns => .cons (.int n) (dpAll_ints ns)
theorem law_end {K : PySem.W.Frag} {H : Hp} {a : Addr} {ns : List Int} {n : Nat} {E : XK} (hl : ns.length ≤ n) (hS : SqL K H a (ns.map V.int)) : spD K (lawSpec n) [.ref a] H (fun v _ => v = .bl true) E := by
  refine ⟨H, [.dat (.list (ns.map .int))], fun r _ => r = .dat (.bool true), ⟨rfl, Same.refl _, fun i d h => ?_, fun i j d e b h1 h2 o1 => ?_⟩, rfl, ⟨ns, rfl, hl, fun _ => rfl⟩, fun v Hf' H' r outs _ _ _ vr _ q => ?_⟩
  · have h' := getMap h
    cases i with
    | zero =>
      simp at h'
      subst h'
      exact ⟨.ref a, rfl, .lst hS (dpAll_ints ns)⟩
    | succ i => simp at h'
  · have h' := getMap h1
    cases i with
    | zero => simp at h'; subst h'; cases o1
    | succ i => simp at h'
  · subst q
    cases vr
    rfl

/-! ### isinstance -/
section
variable {X : Cx}
def tyD : PyData → Option String
  | .none => some "NoneType"
  | .bool _ => some "bool"
  | .int _ => some "int"
  | .str _ => some "str"
  | .list _ => some "list"
  | .tuple _ => some "tuple"
  | _ => none
end
end DL
end
section
set_option Elab.async false
set_option linter.all false
set_option maxRecDepth 100000
set_option maxHeartbeats 1000000

/-! ### the machine: t[::-1] -/
namespace DLM
open PySem PySem.W PyProof.Rows PySem.Calls L2
section
variable {prog : Program} {w : World} {A : Around} {E : Value → Shared → Prop} {s : Shared}
theorem rev_places (n : Nat) : Builtin.Slice.slicePlaces ((n : Int) - 1) (-1) (-1) = n := by
  unfold Builtin.Slice.slicePlaces
  rw [if_neg (by decide)]
  by_cases h : (-1 : Int) < (n : Int) - 1
  · rw [if_pos (by omega)]
    have e : ((n : Int) - 1 - -1 - 1) / (- -1) + 1 = (n : Int) := by
      rw [show (- -1 : Int) = 1 by decide, Int.ediv_one]; omega
    rw [e]; omega
  · rw [if_neg (by omega)]; omega
theorem rev_adjust (n : Nat) : Builtin.Slice.sliceAdjust none none (-1) (n : Int) = ((n : Int) - 1, -1) := by
  unfold Builtin.Slice.sliceAdjust
  simp
theorem rev_pick (xs : Array Value) : ((List.range xs.size).filterMap fun (k : Nat) => xs[(((xs.size : Int) - 1) + (k : Int) * (-1)).toNat]?) = xs.toList.reverse := by
  have e : ((List.range xs.size).filterMap fun (k : Nat) => xs[(((xs.size : Int) - 1) + (k : Int) * (-1)).toNat]?) = ((List.range xs.size).map fun k => xs.size - 1 - k).filterMap (xs[·]?) := by
    rw [List.filterMap_map]
    have cg : ∀ (l : List Nat) (f g : Nat → Option Value), (∀ k ∈ l, f k = g k) → l.filterMap f = l.filterMap g := by
      intro l f g h
      induction l with
      | nil => rfl
      | cons k l ih =>
        rw [List.filterMap_cons, List.filterMap_cons, h k List.mem_cons_self, ih fun j m => h j (List.mem_cons_of_mem _ m)]
    refine cg _ _ _ fun k hk => ?_
    have := List.mem_range.mp hk
    have e1 : (((xs.size : Int) - 1) + (k : Int) * (-1)).toNat = xs.size - 1 - k := by omega
    show xs[(((xs.size : Int) - 1) + (k : Int) * (-1)).toNat]? = xs[xs.size - 1 - k]?
    rw [e1]
  rw [e, krv_range, List.filterMap_reverse, krv_all]
theorem getItem_tuple_rev {t sl : Addr} {items : Array Value} {vk : Value} {Q : Value → Shared → Prop} (ht : IsTup s.heap t items) (hs : s.heap.IsSliceOf sl .none .none vk) (pk : IsPart vk (some (-1)))
    (h : Q (.ref s.heap.objs.size) { s with heap := s.heap.push { cls := .type "tuple", data := .seq items.toList.reverse.toArray } })
    (hsz : items.size ≤ sizeLine) : wpAny (model prog w) A (getItem (.ref t) (.ref sl)) Q E s := by
  have htake : sizeOk (.seq items.toList.reverse.toArray) := by
    show items.toList.reverse.toArray.size ≤ sizeLine
    rw [List.size_toArray, List.length_reverse, Array.length_toList]
    exact hsz
  obtain ⟨os, hos, hcs, hds⟩ := id hs
  have hTs : s.TypeIs (.ref sl) "slice" := ⟨os, hos, hcs⟩
  unfold getItem
  try with_reducible refine wpAny_holding ?_
  first | refine wpAny_bind (wpAny_pure ?_) | skip
  refine wpAny_bind (wpAny_sequenceKey ht.typeIs (by decide) ?_)
  refine wpAny_bind (wpAny_callSpecial?_slot (name := Str.ofString "__getitem__") ht.typeIs PyProof.Rows.slot_tuple_getitem
    (wpAny_call_entry PyProof.Rows.slot_tuple_getitem ht.typeIs PyProof.Rows.entry_tuple_getitem ?_ (PyProof.Rows.args_tuple_getitem _ _)))
  show wpAny _ _ (Builtin.Tuple.tupleItemsOf (.ref t) >>= _) _ _ s
  refine wpAny_bind (tupleItemsOf_ ht ?_)
  refine wpAny_bind (wpAny_typeOf hTs ?_)
  rw [if_pos (by decide)]
  refine wpAny_bind ?_
  unfold Builtin.Slice.sliceApplied Builtin.Slice.sliceFields
  refine wpAny_bind (wpAny_bind (wpAny_field hos hds (x := .none) rfl (wpAny_bind (wpAny_field hos hds (x := .none) rfl (wpAny_bind (wpAny_field hos hds (x := vk) rfl (wpAny_pure ?_)))))))
  refine wpAny_bind (HT.slicePart_ pk ?_)
  show wpAny _ _ (if ((-1 : Int) == 0) = true then _ else _) _ _ s
  rw [if_neg (by decide)]
  refine wpAny_bind (slicePart_none (wpAny_bind (slicePart_none (wpAny_bind (wpAny_pure ?_)))))
  show wpAny _ _ (match Builtin.Slice.sliceAdjust none none (-1) (items.size : Int) with | (lo, hi) => pure (lo, (-1 : Int), Builtin.Slice.slicePlaces lo hi (-1))) _ _ s
  rw [rev_adjust]
  show wpAny _ _ (pure ((items.size : Int) - 1, (-1 : Int), Builtin.Slice.slicePlaces ((items.size : Int) - 1) (-1) (-1))) _ _ s
  rw [rev_places]
  refine wpAny_pure ?_
  have hno : ¬ ((((items.size : Int) - 1) == 0 && (-1 : Int) == 1 && items.size == items.size) = true) := by simp
  show wpAny _ _ (if (((items.size : Int) - 1) == 0 && (-1 : Int) == 1 && items.size == items.size) = true then _ else _) _ _ s
  rw [if_neg hno, rev_pick]
  first
    | exact wpAny_bind (m := Builtin.Tuple.tupleExact _) (wpAny_newObj_type (wpAny_pure ⟨_, rfl, wpAny_pure h⟩) htake)
    | exact wpAny_bind (m := Builtin.Tuple.tupleExact _) (wpAny_newObj_type (wpAny_bind (wpAny_pure (wpAny_pure ⟨_, rfl, wpAny_pure h⟩))) htake)
    | exact wpAny_bind (wpAny_bind (m := Builtin.Tuple.tupleExact _) (wpAny_newObj_type (wpAny_pure (wpAny_pure ⟨_, rfl, wpAny_pure h⟩)) htake))
    | exact wpAny_bind (wpAny_bind (m := Builtin.Tuple.tupleExact _) (wpAny_newObj_type (wpAny_pure ⟨_, rfl, wpAny_pure h⟩) htake))
end
end DLM
namespace DL
open PySem L2
section
variable {X : Cx} {pos : Pos}
/-! ### operators, whatever the kind -/
abbrev oLt : WO := oInt (fun _ _ => True) fun i j => .bool (decide (i < j))
abbrev oLe : WO := oInt (fun _ _ => True) fun i j => .bool (decide (i ≤ j))
abbrev oGt : WO := oInt (fun _ _ => True) fun i j => .bool (decide (j < i))
abbrev oGe : WO := oInt (fun _ _ => True) fun i j => .bool (decide (j ≤ i))
abbrev oAdd : WO := oInt (fun _ _ => True) fun i j => .int (i + j)
abbrev oSub : WO := oInt (fun _ _ => True) fun i j => .int (i - j)
abbrev oMul : WO := oInt CMul fun i j => .int (i * j)
abbrev oFdiv : WO := oInt CDiv fun i j => .int (i / j)
abbrev oMod : WO := oInt (fun _ j => 0 < j) fun i j => .int (i % j)
/-- l + m, lists -/
def oCatL : WO := fun x y ρ Q => match datOf ρ x, datOf ρ y with
  | some (.list xs), some (.list ys) => xs.length + ys.length ≤ sizeLine ∧ Q (.lst (xs ++ ys)) ρ
  | _, _ => False
/-! ### calls -/
structure Cal (P : Program) (w : World) (K : PySem.W.Frag) (mg : Str → Option Value) (base : Heap) (k : Nat) (x : Str) (S : DSpec) : Prop where
  ex : ∃ f fd ps, FnOk P w K mg base CX0 k f fd ps (spD K S) ∧ mg x = some (.ref f) ∧ PySem.W.keepIn K (.ref f) = true ∧ Binds K fd ps []
theorem xe_callc {k j : Nat} {S : DSpec} {x : Str} {p : Pos} {e : Expr} {es : List Expr} {t : TA} {wa : WA} (c : Cal X.prog X.w X.K X.mg X.base k x S) (hr : Room j X.A) (hk : k ≤ j) (hg : Gl X x) (ha : XA X (e :: es) t wa)
    (hdb : (x == ("__debug__" : Str)) = false := by decide) (he : starEach (e :: es) X.env = (false, eval e X.env) :: starEach es X.env := by rfl)
    (hpl : (backTo pos (starEach es X.env)).any (·.1) = false := by rfl) : XE X (.Call (.Name x p) (e :: es) [] pos) (tCall (spD X.K S) [] E0 t) (wUser S wa) := by
  obtain ⟨f, fd, ps, F, hm, hkp, hb⟩ := c.ex
  exact xe_call F (hr.mono hk) hg hm hkp hb ha hdb he hpl
/-- name = [..] -/
theorem xs_setLc {i : Nat} {y : Str} {py : Pos} {elt tg iter : Expr} {ifs : List Expr} {scope : Scope} {own : List (Str × Nat)} {spos : Pos} {wi : TI} {g : TG} {tt : TT} {te : TE} {w : WI} {f : PyData → Den → Option Den} {S : List Nat} {wt : WT} {we : WE}
    (hc : X.calm = true) (hN : X.N.Nodup) (hy : X.N[i]? = some y) (hyl : X.env.scope.names.lookup y = some .local)
    (hsw : swapsWith (.ListComp elt [⟨tg, iter, ifs, 0⟩] scope pos) (some (.Name y py)) spos.line X.env = pure true) (hi : XI X tg iter wi w) (ok : BlkOk X.N X.env.scope scope own)
    (hg : ∀ (s : Shared) (H : Hp) (C : Addr) (cl : List (Str × Addr)) (fp : List Addr), XG (X.blk s H scope (compEnvC scope cl C X.env) fp) tg g f S) (ht : ∀ (s : Shared) (H : Hp) (C : Addr) (cl : List (Str × Addr)) (fp : List Addr), XTs (X.blk s H scope (compEnvC scope cl C X.env) fp) ifs tt wt)
    (he : ∀ (s : Shared) (H : Hp) (C : Addr) (cl : List (Str × Addr)) (fp : List Addr), XE (X.blk s H scope (compEnvC scope cl C X.env) fp) elt te we) (hS : ∀ i ∈ S, i ∈ own.map (·.2) := by decide) (hs : ∀ x, foldedSetIterable iter X.env x = pure x := by intro _; rfl) :
    XS X (.Assign [.Name y py] (.ListComp elt [⟨tg, iter, ifs, 0⟩] scope pos) spos) (tAsg (tLc wi g tt te (own.map (·.2))) (gName i)) (wSet i (wLc w f wt we (own.map (·.2)))) :=
  ⟨ps_setLc hc hN hy hyl hsw hi.pi ok (fun s H C cl fp => (hg s H C cl fp).pg) (fun s H C cl fp => (ht s H C cl fp).pt) (fun s H C cl fp => (he s H C cl fp).pe) hs, fun N D' D Hf H σ ρ c s hw => by
    refine lc_so hi (hg X.s_0 X.H_0 0 [] []).so hS (ht X.s_0 X.H_0 0 [] []).so (he X.s_0 X.H_0 0 [] []).so s.er hw fun v Hf1 H1 d ρ1 s1 r1 q1 => ?_
    obtain ⟨hn, q1⟩ := q1
    cases d with
    | own j => exact q1.elim
    | arg y => exact q1.elim
    | dat y => exact set_so c s s1 r1 hn (fun _ z => nomatch z) (fun _ z => nomatch z) q1
    | fn u => exact set_so c s s1 r1 hn (fun _ z => nomatch z) (fun _ z => nomatch z) q1
    | lst y => exact set_so c s s1 r1 hn (fun _ z => nomatch z) (fun _ z => nomatch z) q1
    | dic y => exact set_so c s s1 r1 hn (fun _ z => nomatch z) (fun _ z => nomatch z) q1⟩

/-! ### isinstance(e, T) -/
def tIsi (K : PySem.W.Frag) (T : String) (te : TE) : TE := tCB (rIsi K) (tCons te (tCons (tC (.ty T)) tNil))
def wIsi (T : String) (w : WE) : WE := fun ρ Q => w ρ fun x ρ1 => match (datOf ρ1 x).bind tyD with
  | some S => match kitB S T with
    | some b => Q (.dat (.bool b)) ρ1
    | none => False
  | none => False
theorem tyX_of {K : PySem.W.Frag} {H : Hp} {v : V} {d : PyData} {S : String} (hH : ∀ a o u, H a ≠ some (.frz o u) ∨ True) (h : Dp K H v d) (e : tyD d = some S) : TyX K H v (.type S) := by
  cases h with
  | non => cases e; exact .base .non
  | bl b => cases e; exact .base (.bl b)
  | int i => cases e; exact .base (.int i)
  | str x => cases e; exact .base (.str x)
  | lst hs ha =>
    cases e
    rcases hs with (h | ⟨o, h⟩) | ⟨o, its, n, h1, h2, _⟩
    · exact .base (.lst h)
    · exact .base (.frz h)
    · exact .kList h1 h2
  | tup hs ha =>
    cases e
    rcases hs with (h | ⟨o, h⟩) | ⟨o, its, n, h1, h2, _⟩
    · exact .base (.tup h)
    · exact .fTuple h
    · exact .kTuple h1 h2

/-! ### t[::-1], xs[::-1] -/
def tRevA (K : PySem.W.Frag) (te : TE) : TE := fun σ H Q => te σ H fun x H1 => ∃ a xs, x = .ref a ∧ ((SqL K H1 a xs ∧ ∀ p, H1 p = none → Q (.ref p) (upd H1 p (.lst xs.reverse))) ∨ (SqT K H1 a xs ∧ ∀ p, H1 p = none → Q (.ref p) (upd H1 p (.tup xs.reverse))))
theorem pe_revA {e : Expr} {te : TE} {k : Nat} {p1 p2 p3 : Pos} (he : PE X e te) : PE X (.Subscript e (.Slice none none (some (.UnaryOp .USub (.Constant (.int 1) k p1) p2)) p3) pos) (tRevA X.K te) := by
  refine ⟨fun pins s σ H Q I h => ?_⟩
  refine PyProof.Rows.Subscript_ (thn (he.run pins s σ H _ I h) fun v s1 ⟨x, H1, I1, r1, q1⟩ => ?_)
  obtain ⟨a, xs, ex, q⟩ := q1
  subst ex
  cases r1
  have hst : PO X (some (.UnaryOp .USub (.Constant (.int 1) k p1) p2)) (tPart (tUn (rU fun i => .int (-i)) (tC (.int 1)))) := po_some (pe_un un_neg pe_int)
  refine wpAny_Slice (thn (po_none.run pins s1 σ H1 (fun o H2 => o = none ∧ H2 = H1) I1 ⟨rfl, rfl⟩) fun vl s2 ⟨l, H2, I2, pl, el, e2⟩ => ?_)
  subst el e2
  refine thn (po_none.run pins s2 σ H2 (fun o H3 => o = none ∧ H3 = H2) I2 ⟨rfl, rfl⟩) fun vu s3 ⟨u, H3, I3, pu, eu, e3⟩ => ?_
  subst eu e3
  refine thn (hst.run pins s3 σ H3 (fun o H4 => o = some (-1) ∧ H4 = H3) I3 ⟨1, rfl, -1, rfl, rfl, rfl⟩) fun vs s4 ⟨o, H4, I4, ps, eo, e4⟩ => ?_
  subst eo e4
  have I5 : Inv X pins σ H4 { s4 with heap := s4.heap.push { cls := .type "slice", data := .fields #[vl, vu, vs] } } := I4.kept (t' := s4.toks) fun b ob q => Heap.get?_push_of_some _ q
  show wpAny (model X.prog X.w) X.A (PyProof.Rows.subscriptTail e (.Slice none none (some (.UnaryOp .USub (.Constant (.int 1) k p1) p2)) p3) (.ref a) (.ref s4.heap.objs.size)) (EP X pins σ Q) X.xe { s4 with heap := s4.heap.push { cls := .type "slice", data := .fields #[vl, vu, vs] } }
  rcases q with ⟨hx, q⟩ | ⟨hx, q⟩
  · obtain ⟨its, r, ht, hz⟩ := I5.list hx
    have hlen := r.length
    refine PyProof.Rows.tail_any (ops := [.ref a, .ref s4.heap.objs.size]) ht.isList.typeIs (PySem.slot_list_getitem.lookup) ?_ (by with_unfolding_all rfl)
    refine wpAny_getItem_list_slice ht.isList (Heap.IsSliceOf.new _ vl vu vs) pl pu ps (by decide) ?_ (by rw [List.size_toArray]; omega)
    rw [PySem.W.krv_pick]
    refine ⟨.ref _, _, I5.laid (t' := s4.toks) (o := .lst xs.reverse) (fun b ob q => Heap.get?_push_of_some _ q) (Nat.le_refl _) ?_, rfl, q _ (I5.hok.fresh (Nat.le_refl _))⟩
    exact ⟨by rw [List.length_reverse]; exact hz, _, 0, r.reverse, Heap.get?_push_size _ rfl⟩
  · obtain ⟨its, r, ht, hz⟩ := I5.tuple hx
    have hlen := r.length
    cases pl
    cases pu
    refine PyProof.Rows.tail_any (ops := [.ref a, .ref s4.heap.objs.size]) ht.typeIs PyProof.Rows.slot_tuple_getitem.lookup ?_ (by with_unfolding_all rfl)
    refine DLM.getItem_tuple_rev ht (Heap.IsSliceOf.new _ .none .none vs) ps ?_ (by rw [List.size_toArray]; omega)
    refine ⟨.ref _, _, I5.laid (t' := s4.toks) (o := .tup xs.reverse) (fun b ob q => Heap.get?_push_of_some _ q) (Nat.le_refl _) ?_, rfl, q _ (I5.hok.fresh (Nat.le_refl _))⟩
    exact ⟨by rw [List.length_reverse]; exact hz, _, r.reverse, ⟨_, Heap.get?_push_size _ rfl, rfl, 0, rfl⟩⟩
def wRev (w : WE) : WE := fun ρ Q => w ρ fun x ρ1 => match seqOf ρ1 x with
  | some (true, ds) => Q (.dat (.tuple ds.reverse)) ρ1
  | some (false, ds) => Q (.lst ds.reverse) ρ1
  | none => False
theorem xe_rev {e : Expr} {te : TE} {w : WE} {k : Nat} {p1 p2 p3 : Pos} (he : XE X e te w) : XE X (.Subscript e (.Slice none none (some (.UnaryOp .USub (.Constant (.int 1) k p1) p2)) p3) pos) (tRevA X.K te) (wRev w) :=
  ⟨pe_revA he.pe, fun Hf H σ ρ Q Q' E hw c => he.so Hf H σ ρ _ _ E hw fun x Hf1 H1 d ρ1 s1 r1 q1 => by
    split at q1
    · rename_i ds hq
      obtain ⟨a, vs, rfl, h1, h2⟩ := seq_of s1.er r1.vs hq
      exact ⟨a, vs, rfl, .inr ⟨h1, fun p hp => (c.step s1).tup s1.er (DpAll.rev h2) hp q1⟩⟩
    · rename_i ds hq
      obtain ⟨a, vs, rfl, h1, h2⟩ := seq_of s1.er r1.vs hq
      exact ⟨a, vs, rfl, .inl ⟨h1, fun p hp => (c.step s1).lst s1.er (DpAll.rev h2) hp q1⟩⟩
    · exact q1.elim⟩
end
end DL
end
section
set_option Elab.async false
set_option linter.all false
set_option maxRecDepth 100000
set_option maxHeartbeats 1000000
namespace DL
open PySem L2
section
variable {X : Cx} {pos : Pos}
/-! ### great numbers -/
abbrev oMulW : WO := oInt CMulW fun i j => .int (i * j)
abbrev oFdivW : WO := oInt CDivW fun i j => .int (i / j)
abbrev oPow : WO := oInt CPow fun i j => .int (i ^ j.toNat)
theorem xo_mulW : XO X (binaryOp .Mult) (rI CMulW fun i j => .int (i * j)) oMulW := xo_I op_mulW
theorem xo_fdivW : XO X (binaryOp .FloorDiv) (rI CDivW fun i j => .int (i / j)) oFdivW := xo_I op_fdivW
theorem xo_pow : XO X (binaryOp .Pow) (rI CPow fun i j => .int (i ^ j.toNat)) oPow := xo_I op_pow
/-! ### list + list -/
def lstOf (ρ : Den) : DV → Option (List PyData)
  | .lst xs => some xs
  | .arg xs => some xs
  | .own i => (ownL ρ[i]?).map (·.2)
  | _ => none
theorem lst_at {K : PySem.W.Frag} {σ : St} {Hf H : Hp} {ρ : Den} {v : V} {d : DV} {xs : List PyData} (E : ER K Hf H σ ρ) (h : VS K Hf H σ v d) (e : lstOf ρ d = some xs) : ∃ a us, v = .ref a ∧ H a = some (.lst us) ∧ DpAll K Hf us xs := by
  cases d with
  | lst ys => cases e; obtain ⟨a, e1, _, us, e2, e3⟩ := h; exact ⟨a, us, e1, e2, e3⟩
  | arg ys => cases e; obtain ⟨a, e1, _, us, e2, e3⟩ := h; exact ⟨a, us, e1, e2, e3⟩
  | own i =>
    obtain ⟨⟨b, zs⟩, h1, h2⟩ := Option.map_eq_some_iff.mp (show (ownL ρ[i]?).map (·.2) = some xs from e)
    simp only at h2
    subst h2
    obtain ⟨a, us, e1, _, _, e2, e3⟩ := ownL_at E (show σ[i]? = some (some v) from h) h1
    exact ⟨a, us, e1, e2, e3⟩
  | _ => cases e
/-- xs + ys: a new list -/
def oCatLs : WO := fun x y ρ Q => match lstOf ρ x, lstOf ρ y with
  | some xs, some ys => xs.length + ys.length ≤ sizeLine ∧ Q (.lst (xs ++ ys)) ρ
  | _, _ => False
theorem xo_catLs : XO X (binaryOp .Add) rCat oCatLs :=
  ⟨op_cat, fun Hf H σ ρ Q Q' x y dx dy E hx hy ho c => by
    unfold oCatLs at ho
    split at ho
    · rename_i xs ys h1 h2
      obtain ⟨a, us, rfl, g1, g2⟩ := lst_at E hx h1
      obtain ⟨b, ws, rfl, f1, f2⟩ := lst_at E hy h2
      exact ⟨a, b, us, ws, rfl, rfl, g1, f1, by rw [DpAll.length g2, DpAll.length f2]; exact ho.1, fun p hp => c.lst E (DpAll.app g2 f2) hp ho.2⟩
    · exact ho.elim⟩
/-! ### isinstance -/
theorem tyX_vs {K : PySem.W.Frag} {σ : St} {Hf H : Hp} {ρ : Den} {v : V} {d : DV} {S : String} {y : PyData} (E : ER K Hf H σ ρ) (h : VS K Hf H σ v d) (e : datOf ρ d = some y) (e2 : tyD y = some S) : TyX K H v (.type S) := by
  have own : ∀ {i : Nat} {z : DV}, ρ[i]? = some (some z) → z.isOwn = true → σ[i]? = some (some v) → ∃ a, v = .ref a ∧ OwnR K Hf H a z := fun {i z} h1 h2 h3 => by
    obtain ⟨a, g1, _, g3⟩ := E.own h1 h2
    rw [h3] at g1; cases g1
    exact ⟨a, rfl, g3⟩
  cases d with
  | dat x => cases e; exact tyX_of (fun _ _ _ => .inr trivial) (dp_mono E.ex _ _ h) e2
  | lst xs => cases e; cases e2; obtain ⟨a, rfl, _, us, g, _⟩ := h; exact .base (.lst g)
  | own i =>
    have e' : ownDat ρ[i]? = some y := e
    obtain ⟨xs, rfl, q⟩ := ownDat_some e'
    cases e2
    rcases q with q | q
    · obtain ⟨a, rfl, us, g, _⟩ := own q rfl h
      exact .base (.lst g)
    · obtain ⟨a, rfl, us, g, _⟩ := own q rfl h
      exact .base (.lst g)
  | fn u => cases e
  | arg xs => cases e
  | dic xs => cases e
theorem xe_isi {T : String} {x t : Str} {p tp : Pos} {e : Expr} {te : TE} {w : WE} (hm : X.mg x = none) (hmT : X.mg t = none) (he : XE X e te w) (hx : Gl X x) (ht : Gl X t) (hv : bootBuiltins x = some (.builtin "isinstance")) (hvT : bootBuiltins t = some (.type T)) (hn : x ≠ "__name__" := by decide)
    (hdb : (x == ("__debug__" : Str)) = false := by decide) (hst : starEach [e, .Name t tp] X.env = (false, eval e X.env) :: starEach [.Name t tp] X.env := by rfl) (hpl : (backTo pos (starEach [.Name t tp] X.env)).any (·.1) = false := by rfl)
    (hnt : t ≠ "__name__" := by decide) (hdt : (t == ("__debug__" : Str)) = false := by decide) (hs2 : starEach [.Name t tp] X.env = [(false, eval (.Name t tp) X.env)] := by rfl) :
    XE X (.Call (.Name x p) [e, .Name t tp] [] pos) (tIsi X.K T te) (wIsi T w) :=
  ⟨by
    have hT : PE X (.Name t tp) (tC (.ty T)) := pe_bltn ht hmT hvT rfl hnt hdt
    exact pe_callB call_isi hx hm hv (pa_cons he.pe (pa_cons hT pa_nil hs2) hst) hn hdb hst hpl, fun Hf H σ ρ Q Q' E hw c => by
    refine he.so Hf H σ ρ _ _ E hw fun v Hf1 H1 d ρ1 s1 r1 q1 => ?_
    split at q1
    · rename_i S hS
      split at q1
      · rename_i b hb
        obtain ⟨y, h1, h2⟩ := Option.bind_eq_some_iff.mp hS
        refine ⟨v, .ty T, .type S, .type T, b, rfl, .ty T, tyX_vs s1.er r1.vs h1 h2, kit_ty hb, (c.step s1).dat s1.er (.bl b) q1⟩
      · exact q1.elim
    · exact q1.elim⟩
end
end DL
end
section
set_option Elab.async false
set_option linter.all false
set_option maxRecDepth 100000
set_option maxHeartbeats 1000000
namespace DL
open PySem L2
section
variable {X : Cx} {pos : Pos}
/-! ### comprehensions, what they are made of told as functions of the block -/
abbrev BF (α : Type) := Shared → Hp → Addr → List (Str × Addr) → List Addr → α
theorem xe_lcD {elt tg iter : Expr} {ifs : List Expr} {scope : Scope} {own : List (Str × Nat)} {wi : TI} {g : BF TG} {tt : BF TT} {te : BF TE} {w : WI} {f : PyData → Den → Option Den} {S : List Nat} {wt : WT} {we : WE}
    (hc : X.calm = true) (hN : X.N.Nodup) (hi : XI X tg iter wi w) (ok : BlkOk X.N X.env.scope scope own)
    (hg : ∀ (s : Shared) (H : Hp) (C : Addr) (cl : List (Str × Addr)) (fp : List Addr), XG (X.blk s H scope (compEnvC scope cl C X.env) fp) tg (g s H C cl fp) f S) (ht : ∀ (s : Shared) (H : Hp) (C : Addr) (cl : List (Str × Addr)) (fp : List Addr), XTs (X.blk s H scope (compEnvC scope cl C X.env) fp) ifs (tt s H C cl fp) wt)
    (he : ∀ (s : Shared) (H : Hp) (C : Addr) (cl : List (Str × Addr)) (fp : List Addr), XE (X.blk s H scope (compEnvC scope cl C X.env) fp) elt (te s H C cl fp) we) (hS : ∀ i ∈ S, i ∈ own.map (·.2) := by decide) (hs : ∀ x, foldedSetIterable iter X.env x = pure x := by intro _; rfl)
    (eg : ∀ s H C cl fp, g s H C cl fp = g X.s_0 X.H_0 0 [] [] := by intros; rfl) (et : ∀ s H C cl fp, tt s H C cl fp = tt X.s_0 X.H_0 0 [] [] := by intros; rfl) (ee : ∀ s H C cl fp, te s H C cl fp = te X.s_0 X.H_0 0 [] [] := by intros; rfl) :
    XE X (.ListComp elt [⟨tg, iter, ifs, 0⟩] scope pos) (tLc wi (g X.s_0 X.H_0 0 [] []) (tt X.s_0 X.H_0 0 [] []) (te X.s_0 X.H_0 0 [] []) (own.map (·.2))) (wLc w f wt we (own.map (·.2))) :=
  xe_lc hc hN hi ok (fun s H C cl fp => eg s H C cl fp ▸ hg s H C cl fp) (fun s H C cl fp => et s H C cl fp ▸ ht s H C cl fp) (fun s H C cl fp => ee s H C cl fp ▸ he s H C cl fp) hS hs
theorem xs_setLcD {i : Nat} {y : Str} {py : Pos} {elt tg iter : Expr} {ifs : List Expr} {scope : Scope} {own : List (Str × Nat)} {spos : Pos} {wi : TI} {g : BF TG} {tt : BF TT} {te : BF TE} {w : WI} {f : PyData → Den → Option Den} {S : List Nat} {wt : WT} {we : WE}
    (hc : X.calm = true) (hN : X.N.Nodup) (hy : X.N[i]? = some y) (hyl : X.env.scope.names.lookup y = some .local)
    (hsw : swapsWith (.ListComp elt [⟨tg, iter, ifs, 0⟩] scope pos) (some (.Name y py)) spos.line X.env = pure true) (hi : XI X tg iter wi w) (ok : BlkOk X.N X.env.scope scope own)
    (hg : ∀ (s : Shared) (H : Hp) (C : Addr) (cl : List (Str × Addr)) (fp : List Addr), XG (X.blk s H scope (compEnvC scope cl C X.env) fp) tg (g s H C cl fp) f S) (ht : ∀ (s : Shared) (H : Hp) (C : Addr) (cl : List (Str × Addr)) (fp : List Addr), XTs (X.blk s H scope (compEnvC scope cl C X.env) fp) ifs (tt s H C cl fp) wt)
    (he : ∀ (s : Shared) (H : Hp) (C : Addr) (cl : List (Str × Addr)) (fp : List Addr), XE (X.blk s H scope (compEnvC scope cl C X.env) fp) elt (te s H C cl fp) we) (hS : ∀ i ∈ S, i ∈ own.map (·.2) := by decide) (hs : ∀ x, foldedSetIterable iter X.env x = pure x := by intro _; rfl)
    (eg : ∀ s H C cl fp, g s H C cl fp = g X.s_0 X.H_0 0 [] [] := by intros; rfl) (et : ∀ s H C cl fp, tt s H C cl fp = tt X.s_0 X.H_0 0 [] [] := by intros; rfl) (ee : ∀ s H C cl fp, te s H C cl fp = te X.s_0 X.H_0 0 [] [] := by intros; rfl) :
    XS X (.Assign [.Name y py] (.ListComp elt [⟨tg, iter, ifs, 0⟩] scope pos) spos) (tAsg (tLc wi (g X.s_0 X.H_0 0 [] []) (tt X.s_0 X.H_0 0 [] []) (te X.s_0 X.H_0 0 [] []) (own.map (·.2))) (gName i)) (wSet i (wLc w f wt we (own.map (·.2)))) :=
  xs_setLc hc hN hy hyl hsw hi ok (fun s H C cl fp => eg s H C cl fp ▸ hg s H C cl fp) (fun s H C cl fp => et s H C cl fp ▸ ht s H C cl fp) (fun s H C cl fp => ee s H C cl fp ▸ he s H C cl fp) hS hs
/-! ### defs of the top -/
theorem Cal.mono {P : Program} {w : World} {K : PySem.W.Frag} {mg : Str → Option Value} {base : Heap} {k j : Nat} {x : Str} {S : DSpec} (c : Cal P w K mg base k x S) (h : k ≤ j) : Cal P w K mg base j x S := by
  obtain ⟨f, fd, ps, F, r⟩ := c.ex
  exact ⟨f, fd, ps, F.mono h, r⟩
/-- a def of the top: its object, its name -/
structure Dfn (K : PySem.W.Frag) (mg : Str → Option Value) (x : Str) (st : Stmt) (ps : List Str) (f : Addr) (fd : FuncData) : Prop where
  F : Fun K x x st f fd
  g : mg x = some (.ref f)
  b : Binds K fd ps []
theorem Dfn.cal {P : Program} {w : World} {K : PySem.W.Frag} {mg : Str → Option Value} {base : Heap} {k : Nat} {x : Str} {S : DSpec} {st : Stmt} {ps : List Str} {f : Addr} {fd : FuncData} (D : Dfn K mg x st ps f fd) (o : FnOk P w K mg base CX0 k f fd ps (spD K S)) : Cal P w K mg base k x S :=
  ⟨f, fd, ps, o, D.g, D.F.kp, D.b⟩
def only (f : Addr) (sp : DSpec) : Addr → Option DSpec := fun g => if g = f then some sp else none
theorem only_self {f : Addr} {sp : DSpec} : only f sp f = some sp := by simp [only]
theorem Dfn.held {P : Program} {w : World} {K : PySem.W.Frag} {mg : Str → Option Value} {base : Heap} {k : Nat} {x : Str} {S : DSpec} {st : Stmt} {ps : List Str} {f : Addr} {fd : FuncData} (D : Dfn K mg x st ps f fd) (o : FnOk P w K mg base CX0 k f fd ps (spD K S)) : ∀ g sp, only f S g = some sp → Held P w K mg base k g (spD K sp) := by
  intro g sp h
  unfold only at h
  split at h
  · cases h
    rename_i e
    subst e
    exact ⟨fd, ps, o, D.F.kp, D.b⟩
  · cases h
theorem held_mono {P : Program} {w : World} {K : PySem.W.Frag} {mg : Str → Option Value} {base : Heap} {k j : Nat} {S : Addr → Option DSpec} (h : ∀ g sp, S g = some sp → Held P w K mg base k g (spD K sp)) (hj : k ≤ j) : ∀ g sp, S g = some sp → Held P w K mg base j g (spD K sp) := by
  intro g sp e
  obtain ⟨fd, ps, o, r⟩ := (h g sp e).ex
  exact ⟨fd, ps, o.mono hj, r⟩
end
end DL
end
section
set_option Elab.async false
set_option linter.all false
set_option maxRecDepth 100000
set_option maxHeartbeats 1000000
/-! plain data: ints, tuples, lists -/
namespace DL
open PySem L2
inductive Pd : Nat → PyData → Prop
  | int (n : Nat) (i : Int) : Pd n (.int i)
  | non (n : Nat) : Pd n .none
  | tup (n : Nat) (xs : List PyData) : (∀ x ∈ xs, Pd n x) → Pd (n + 1) (.tuple xs)
  | lst (n : Nat) (xs : List PyData) : (∀ x ∈ xs, Pd n x) → Pd (n + 1) (.list xs)
theorem canAll : ∀ {xs : List PyData}, (∀ x ∈ xs, x.canLay0 = true) → PyData.canLayAll0 xs = true
  | [], _ => rfl
  | x :: xs, h => by
    show (x.canLay0 && PyData.canLayAll0 xs) = true
    rw [h x List.mem_cons_self, canAll fun y m => h y (List.mem_cons_of_mem _ m)]
    rfl
theorem depAll {n : Nat} : ∀ {xs : List PyData}, (∀ x ∈ xs, x.depth ≤ n) → PyData.depthAll xs ≤ n
  | [], _ => Nat.zero_le _
  | x :: xs, h => by
    rw [PyData.depthAll.eq_2]
    have h1 := h x List.mem_cons_self
    have h2 := depAll (xs := xs) fun y m => h y (List.mem_cons_of_mem _ m)
    omega
theorem Pd.can {n : Nat} {d : PyData} (h : Pd n d) : d.canLay0 = true ∧ d.depth ≤ n := by
  induction h with
  | int n i => exact ⟨PyData.canLay0.eq_3 i, by rw [PyData.depth.eq_6]; omega⟩
  | non n => exact ⟨PyData.canLay0.eq_1, by rw [PyData.depth.eq_4]; omega⟩
  | tup n xs _ ih =>
    refine ⟨?_, ?_⟩
    · rw [PyData.canLay0.eq_6]; exact canAll fun x m => (ih x m).1
    · rw [PyData.depth.eq_2]; have := depAll (n := n) fun x m => (ih x m).2; omega
  | lst n xs _ ih =>
    refine ⟨?_, ?_⟩
    · rw [PyData.canLay0.eq_5]; exact canAll fun x m => (ih x m).1
    · rw [PyData.depth.eq_1]; have := depAll (n := n) fun x m => (ih x m).2; omega
theorem Pd.shaped {n : Nat} {d : PyData} (h : Pd n d) (hn : n ≤ 64 := by decide) : SeqAt.shaped d = true := by
  obtain ⟨h1, h2⟩ := h.can
  show (d.canLay0 && decide (d.depth ≤ 64)) = true
  rw [h1, decide_eq_true (Nat.le_trans h2 hn)]
  rfl
theorem eqvAll_iff : ∀ {xs ys : List PyData}, (∀ x ∈ xs, ∀ y ∈ ys, x.eqv y = true ↔ x = y) → (PyData.eqvAll xs ys = true ↔ xs = ys)
  | [], [], _ => by rw [PyData.eqvAll.eq_1]; simp
  | [], y :: ys, _ => by rw [PyData.eqvAll.eq_3]; simp
  | x :: xs, [], _ => by rw [PyData.eqvAll.eq_4]; simp
  | x :: xs, y :: ys, h => by
    rw [PyData.eqvAll.eq_2, Bool.and_eq_true, h x List.mem_cons_self y List.mem_cons_self, eqvAll_iff fun a m b m' => h a (List.mem_cons_of_mem _ m) b (List.mem_cons_of_mem _ m')]
    simp
theorem Pd.eqv {n m : Nat} {d e : PyData} (h : Pd n d) (k : Pd m e) : d.eqv e = true ↔ d = e := by
  induction h generalizing m e with
  | int n i =>
    cases k with
    | int _ j => rw [PyData.eqv.eq_5]; simp
    | non => simp [PyData.eqv]
    | tup => simp [PyData.eqv]
    | lst => simp [PyData.eqv]
  | non n =>
    cases k with
    | int _ j => simp [PyData.eqv]
    | non => simp [PyData.eqv]
    | tup => simp [PyData.eqv]
    | lst => simp [PyData.eqv]
  | tup n xs _ ih =>
    cases k with
    | int _ j => simp [PyData.eqv]
    | non => simp [PyData.eqv]
    | tup m ys h2 => rw [PyData.eqv.eq_8, eqvAll_iff fun x mx y my => ih x mx (h2 y my)]; simp
    | lst => simp [PyData.eqv]
  | lst n xs _ ih =>
    cases k with
    | int _ j => simp [PyData.eqv]
    | non => simp [PyData.eqv]
    | tup => simp [PyData.eqv]
    | lst m ys h2 => rw [PyData.eqv.eq_7, eqvAll_iff fun x mx y my => ih x mx (h2 y my)]; simp
/-! ### slabs as data -/
open SM
def eU (s : Slab Unit) : PyData := .tuple [.int s.1, .int s.2.1]
def eS {β : Type} (enc : β → PyData) (s : Slab β) : PyData := .tuple [.int s.1, .int s.2.1, enc s.2.2]
def eRow (r : List (Slab Unit)) : PyData := .tuple (r.map eU)
def eSl {β : Type} (enc : β → PyData) (L : List (Slab β)) : PyData := .tuple (L.map (eS enc))
abbrev eLay : Lay → PyData := eSl eRow
abbrev eSol : Sol → PyData := eSl eLay
theorem eU_inj {s t : Slab Unit} (h : eU s = eU t) : s = t := by
  obtain ⟨a, b, ⟨⟩⟩ := s
  obtain ⟨c, d, ⟨⟩⟩ := t
  simp [eU] at h
  rw [h.1, h.2]
theorem eS_inj {β : Type} {enc : β → PyData} (hi : ∀ x y, enc x = enc y → x = y) {s t : Slab β} (h : eS enc s = eS enc t) : s = t := by
  obtain ⟨a, b, x⟩ := s
  obtain ⟨c, d, y⟩ := t
  simp [eS] at h
  rw [h.1, h.2.1, hi _ _ h.2.2]
theorem map_inj {α γ : Type} {f : α → γ} (hi : ∀ x y, f x = f y → x = y) : ∀ {l m : List α}, l.map f = m.map f → l = m
  | [], [], _ => rfl
  | [], _ :: _, h => by simp at h
  | _ :: _, [], h => by simp at h
  | x :: l, y :: m, h => by
    rw [List.map_cons, List.map_cons] at h
    have h1 := List.cons.inj h
    rw [hi _ _ h1.1, map_inj hi h1.2]
theorem eRow_inj {r q : Row} (h : eRow r = eRow q) : r = q := map_inj (fun _ _ => eU_inj) (by simpa [eRow] using h)
theorem eSl_inj {β : Type} {enc : β → PyData} (hi : ∀ x y, enc x = enc y → x = y) {L M : List (Slab β)} (h : eSl enc L = eSl enc M) : L = M := map_inj (fun _ _ => eS_inj hi) (by simpa [eSl] using h)
theorem eLay_inj (r q : Lay) (h : eLay r = eLay q) : r = q := eSl_inj (fun _ _ => eRow_inj) h
theorem eSol_inj (r q : Sol) (h : eSol r = eSol q) : r = q := eSl_inj eLay_inj h
theorem pd_tup {n : Nat} {xs : List PyData} (h : ∀ x ∈ xs, Pd n x) : Pd (n + 1) (.tuple xs) := .tup n xs h
theorem pd_eU (n : Nat) (s : Slab Unit) : Pd (n + 1) (eU s) := pd_tup (by intro x m; simp at m; rcases m with rfl | rfl <;> exact .int _ _)
theorem pd_eRow (n : Nat) (r : Row) : Pd (n + 2) (eRow r) := pd_tup (by intro x m; obtain ⟨s, _, rfl⟩ := List.mem_map.mp m; exact pd_eU n s)
theorem pd_eS {β : Type} {enc : β → PyData} {n : Nat} {s : Slab β} (h : Pd n (enc s.2.2)) : Pd (n + 1) (eS enc s) := pd_tup (by intro x m; simp at m; rcases m with rfl | rfl | rfl; exact .int _ _; exact .int _ _; exact h)
theorem pd_eSl {β : Type} {enc : β → PyData} {n : Nat} (h : ∀ x, Pd n (enc x)) (L : List (Slab β)) : Pd (n + 2) (eSl enc L) := pd_tup (by intro x m; obtain ⟨s, _, rfl⟩ := List.mem_map.mp m; exact pd_eS (h _))
theorem pd_eLay (n : Nat) (l : Lay) : Pd (n + 4) (eLay l) := pd_eSl (pd_eRow n) l
theorem pd_eSol (n : Nat) (l : Sol) : Pd (n + 6) (eSol l) := pd_eSl (pd_eLay n) l
end DL
end
section
set_option Elab.async false
set_option linter.all false
set_option maxRecDepth 100000
set_option maxHeartbeats 1000000
/-! steps of what is asked, by data -/
namespace DL
open PySem L2
section
variable {ρ : Den} {Q : DV → Den → Prop} {QT : Bool → Den → Prop} {QA : List DV → Den → Prop} {D : DE}
/-! statements -/
theorem ev_seq {a b : WS} (h : a { D with nx := b D } ρ) : wSeq a b D ρ := h
theorem ev_next (h : D.nx ρ) : wNext D ρ := h
theorem ev_break (h : D.bk ρ) : wBreak D ρ := h
theorem ev_cont (h : D.ct ρ) : wCont D ρ := h
def kExpr (D : DE) : DV → Den → Prop := fun _ ρ1 => D.nx ρ1
theorem ev_expr {w : WE} (h : w ρ (kExpr D)) : wExpr w D ρ := h
theorem ev_kExpr {d : DV} (h : D.nx ρ) : kExpr D d ρ := h
def kRet (D : DE) : DV → Den → Prop := fun d ρ1 => match d with
  | .own i => match ρ1[i]? with
    | some (some (.lst xs)) => D.rt (.lst xs) ρ1
    | some (some (.dic xs)) => D.rt (.dic xs) ρ1
    | _ => False
  | d => D.rt d ρ1
theorem ev_ret {w : WE} (h : w ρ (kRet D)) : wRet w D ρ := h
theorem ev_retN (h : D.rt (.dat .none) ρ) : wRetN D ρ := h
theorem ev_kRet_dat {x : PyData} (h : D.rt (.dat x) ρ) : kRet D (.dat x) ρ := h
theorem ev_kRet_lst {x : List PyData} (h : D.rt (.lst x) ρ) : kRet D (.lst x) ρ := h
theorem ev_kRet_own {i : Nat} {xs : List PyData} (e : ρ[i]? = some (some (.lst xs))) (h : D.rt (.lst xs) ρ) : kRet D (.own i) ρ := by
  unfold kRet; dsimp only; rw [e]; exact h
def kIfS (a b : WS) (D : DE) : Bool → Den → Prop := fun k ρ1 => if k = true then a D ρ1 else b D ρ1
theorem ev_ifS {t : WT} {a b : WS} (h : t ρ (kIfS a b D)) : wIfS t a b D ρ := h
theorem ev_kIfS {a b : WS} {k : Bool} (h1 : k = true → a D ρ) (h2 : k = false → b D ρ) : kIfS a b D k ρ := by
  unfold kIfS
  cases k with
  | true => rw [if_pos rfl]; exact h1 rfl
  | false => rw [if_neg (by decide)]; exact h2 rfl
theorem ev_kIfS_t {a b : WS} (h1 : a D ρ) : kIfS a b D true ρ := h1
theorem ev_kIfS_f {a b : WS} (h1 : b D ρ) : kIfS a b D false ρ := h1
def kSet (i : Nat) (D : DE) : DV → Den → Prop := fun d ρ1 => notArg ρ1[i]? ∧ match d with
  | .own _ => False
  | .arg _ => False
  | d => D.nx (ρ1.set i (some d))
theorem ev_set {i : Nat} {w : WE} (h : w ρ (kSet i D)) : wSet i w D ρ := h
theorem ev_kSet_dat {i : Nat} {x : PyData} (n : notArgB ρ[i]? = true) (h : D.nx (ρ.set i (some (.dat x)))) : kSet i D (.dat x) ρ := ⟨notArgB_of n, h⟩
theorem ev_kSet_lst {i : Nat} {x : List PyData} (n : notArgB ρ[i]? = true) (h : D.nx (ρ.set i (some (.lst x)))) : kSet i D (.lst x) ρ := ⟨notArgB_of n, h⟩
theorem ev_kSet_fn {i : Nat} {x : V} (n : notArgB ρ[i]? = true) (h : D.nx (ρ.set i (some (.fn x)))) : kSet i D (.fn x) ρ := ⟨notArgB_of n, h⟩
def kPar (i j : Nat) (D : DE) : List DV → Den → Prop := fun xs ρ1 => match xs with
  | [d, e] => datFn d = true ∧ datFn e = true ∧ notArg ρ1[i]? ∧ notArg ρ1[j]? ∧ D.nx ((ρ1.set i (some d)).set j (some e))
  | _ => False
theorem ev_par {i j : Nat} {wa : WA} (h : wa ρ (kPar i j D)) : wPar i j wa D ρ := h
theorem ev_kPar {i j : Nat} {d e : DV} (o1 : datFn d = true) (o2 : datFn e = true) (n1 : notArgB ρ[i]? = true) (n2 : notArgB ρ[j]? = true) (h : D.nx ((ρ.set i (some d)).set j (some e))) : kPar i j D [d, e] ρ := ⟨o1, o2, notArgB_of n1, notArgB_of n2, h⟩
def kAsg (f : PyData → Den → Option Den) (D : DE) : DV → Den → Prop := fun d ρ1 => match d with
  | .dat x => match f x ρ1 with
    | some ρ2 => D.nx ρ2
    | none => False
  | _ => False
theorem ev_asg {w : WE} {f : PyData → Den → Option Den} (h : w ρ (kAsg f D)) : wAsg w f D ρ := h
theorem ev_kAsg {f : PyData → Den → Option Den} {x : PyData} {ρ2 : Den} (e : f x ρ = some ρ2) (h : D.nx ρ2) : kAsg f D (.dat x) ρ := by
  unfold kAsg; dsimp only; rw [e]; exact h
def kPut3 (D : DE) (x o : DV) : DV → Den → Prop := fun k ρ3 => match x, o, k with
  | .dat d, .own i, .dat (.int n) => match ownL ρ3[i]? with
    | some (b, xs) => match ixN xs.length n with
      | some j => D.nx (ρ3.set i (some (mkO b (xs.set j d))))
      | none => False
    | none => False
  | _, _, _ => False
def kPut2 (wi : WE) (D : DE) (x : DV) : DV → Den → Prop := fun o ρ2 => wi ρ2 (kPut3 D x o)
def kPut1 (wo wi : WE) (D : DE) : DV → Den → Prop := fun x ρ1 => wo ρ1 (kPut2 wi D x)
theorem ev_put {w wo wi : WE} (h : w ρ (kPut1 wo wi D)) : wPut w wo wi D ρ := h
theorem ev_kPut1 {wo wi : WE} {x : DV} (h : wo ρ (kPut2 wi D x)) : kPut1 wo wi D x ρ := h
theorem ev_kPut2 {wi : WE} {x o : DV} (h : wi ρ (kPut3 D x o)) : kPut2 wi D x o ρ := h
theorem ev_kPut3 {d : PyData} {i j : Nat} {n : Int} {b : Bool} {xs : List PyData} (e : ownL ρ[i]? = some (b, xs)) (e2 : ixN xs.length n = some j) (h : D.nx (ρ.set i (some (mkO b (xs.set j d))))) : kPut3 D (.dat d) (.own i) (.dat (.int n)) ρ := by
  unfold kPut3; dsimp only; rw [e]; dsimp only; rw [e2]; exact h
def kAug (i : Nat) (g : Int → Int → Int) (a : Int) (D : DE) : DV → Den → Prop := fun y ρ1 => match y with
  | .dat (.int b) => notArg ρ1[i]? ∧ D.nx (ρ1.set i (some (.dat (.int (g a b)))))
  | _ => False
theorem ev_aug {i : Nat} {g : Int → Int → Int} {w : WE} {a : Int} (e : ρ[i]? = some (some (.dat (.int a)))) (h : w ρ (kAug i g a D)) : wAugI i g w D ρ := by
  unfold wAugI; rw [e]; exact h
theorem ev_kAug {i : Nat} {g : Int → Int → Int} {a b : Int} (n : notArgB ρ[i]? = true) (h : D.nx (ρ.set i (some (.dat (.int (g a b)))))) : kAug i g a D (.dat (.int b)) ρ := ⟨notArgB_of n, h⟩
/-! while: an invariant by n -/
def kWh (b : WS) (W : Nat → Den → Prop) (m : Nat) (D : DE) : Bool → Den → Prop := fun k ρ1 => if k = true then b { D with nx := fun ρ' => ∃ m', m' < m ∧ W m' ρ', ct := fun ρ' => ∃ m', m' < m ∧ W m' ρ', bk := D.nx } ρ1 else D.nx ρ1
theorem ev_while {t : WT} {b : WS} (W : Nat → Den → Prop) (h0 : ∃ m, W m ρ) (h : ∀ m ρ, W m ρ → t ρ (kWh b W m D)) : wWhile t b D ρ := ⟨W, h0, h⟩
theorem ev_kWh {b : WS} {W : Nat → Den → Prop} {m : Nat} {k : Bool} (h1 : k = true → b { D with nx := fun ρ' => ∃ m', m' < m ∧ W m' ρ', ct := fun ρ' => ∃ m', m' < m ∧ W m' ρ', bk := D.nx } ρ) (h2 : k = false → D.nx ρ) : kWh b W m D k ρ := by
  unfold kWh
  cases k with
  | true => rw [if_pos rfl]; exact h1 rfl
  | false => rw [if_neg (by decide)]; exact h2 rfl
/-! for -/
def kFor (f : PyData → Den → Option Den) (wb : WS) (D : DE) : List PyData → Den → Prop := fun items ρ1 => forGo f wb D items ρ1
theorem ev_for {wi : WI} {f : PyData → Den → Option Den} {wb : WS} (h : wi ρ (kFor f wb D)) : wFor wi f wb D ρ := h
theorem ev_kFor {f : PyData → Den → Option Den} {wb : WS} {items : List PyData} (h : forGo f wb D items ρ) : kFor f wb D items ρ := h
/-- an invariant by what is left -/
theorem forGo_ind {f : PyData → Den → Option Den} {wb : WS} {I : List PyData → Den → Prop} (hn : ∀ ρ, I [] ρ → D.nx ρ)
    (hs : ∀ x xs ρ, I (x :: xs) ρ → ∃ ρ1, f x ρ = some ρ1 ∧ ∀ G : Den → Prop, (∀ ρ, I xs ρ → G ρ) → wb { D with nx := G, ct := G, bk := D.nx } ρ1) : ∀ (items : List PyData) (ρ : Den), I items ρ → forGo f wb D items ρ
  | [], ρ, h => hn ρ h
  | x :: xs, ρ, h => by
    obtain ⟨ρ1, e, k⟩ := hs x xs ρ h
    show match f x ρ with
      | some ρ1 => wb { D with nx := forGo f wb D xs, ct := forGo f wb D xs, bk := D.nx } ρ1
      | none => False
    rw [e]
    exact k _ (forGo_ind hn hs xs)
theorem ev_forNil {f : PyData → Den → Option Den} {wb : WS} (h : D.nx ρ) : forGo f wb D [] ρ := h
theorem ev_forCons {f : PyData → Den → Option Den} {wb : WS} {x : PyData} {xs : List PyData} {ρ1 : Den} (e : f x ρ = some ρ1) (h : wb { D with nx := forGo f wb D xs, ct := forGo f wb D xs, bk := D.nx } ρ1) : forGo f wb D (x :: xs) ρ := by
  show match f x ρ with
      | some ρ1 => wb { D with nx := forGo f wb D xs, ct := forGo f wb D xs, bk := D.nx } ρ1
      | none => False
  rw [e]; exact h
/-! what is walked -/
def kSeqI (Q : List PyData → Den → Prop) : DV → Den → Prop := fun x ρ1 => match x with
  | .dat (.list xs) => Q xs ρ1
  | .dat (.tuple xs) => Q xs ρ1
  | .lst xs => Q xs ρ1
  | _ => False
theorem ev_seqI {w : WE} {Q : List PyData → Den → Prop} (h : w ρ (kSeqI Q)) : wSeqI w ρ Q := h
theorem ev_kSeqI_l {xs : List PyData} {Q : List PyData → Den → Prop} (h : Q xs ρ) : kSeqI Q (.dat (.list xs)) ρ := h
theorem ev_kSeqI_t {xs : List PyData} {Q : List PyData → Den → Prop} (h : Q xs ρ) : kSeqI Q (.dat (.tuple xs)) ρ := h
theorem ev_kSeqI_n {xs : List PyData} {Q : List PyData → Den → Prop} (h : Q xs ρ) : kSeqI Q (.lst xs) ρ := h
def kRng1 (Q : List PyData → Den → Prop) : List DV → Den → Prop := fun xs ρ1 => match xs with
  | [.dat (.int j)] => -(2 ^ 62) ≤ j ∧ j < 2 ^ 62 ∧ Q (rangeD 0 j.toNat) ρ1
  | _ => False
theorem ev_rng1 {wa : WA} {Q : List PyData → Den → Prop} (h : wa ρ (kRng1 Q)) : wRng1 wa ρ Q := h
theorem ev_kRng1 {j : Int} {Q : List PyData → Den → Prop} (h1 : -(2 ^ 62) ≤ j) (h2 : j < 2 ^ 62) (h : Q (rangeD 0 j.toNat) ρ) : kRng1 Q [.dat (.int j)] ρ := ⟨h1, h2, h⟩
def kRng2 (Q : List PyData → Den → Prop) : List DV → Den → Prop := fun xs ρ1 => match xs with
  | [.dat (.int i), .dat (.int j)] => (-(2 ^ 62) ≤ i ∧ i < 2 ^ 62 ∧ -(2 ^ 62) ≤ j ∧ j < 2 ^ 62) ∧ Q (rangeD i (j - i).toNat) ρ1
  | _ => False
theorem ev_rng2 {wa : WA} {Q : List PyData → Den → Prop} (h : wa ρ (kRng2 Q)) : wRng2 wa ρ Q := h
theorem ev_kRng2 {i j : Int} {Q : List PyData → Den → Prop} (h1 : -(2 ^ 62) ≤ i ∧ i < 2 ^ 62 ∧ -(2 ^ 62) ≤ j ∧ j < 2 ^ 62) (h : Q (rangeD i (j - i).toNat) ρ) : kRng2 Q [.dat (.int i), .dat (.int j)] ρ := ⟨h1, h⟩
def kRng3 (Q : List PyData → Den → Prop) : List DV → Den → Prop := fun xs ρ1 => match xs with
  | [.dat (.int i), .dat (.int j), .dat (.int c)] => ∃ n, RgC i j c n ∧ Q (rangeC i c n) ρ1
  | _ => False
theorem ev_rng3 {wa : WA} {Q : List PyData → Den → Prop} (h : wa ρ (kRng3 Q)) : wRng3 wa ρ Q := h
theorem ev_kRng3 {i j c : Int} {n : Nat} {Q : List PyData → Den → Prop} (h1 : RgC i j c n) (h : Q (rangeC i c n) ρ) : kRng3 Q [.dat (.int i), .dat (.int j), .dat (.int c)] ρ := ⟨n, h1, h⟩
/-! expressions -/
theorem ev_c {d : PyData} (h : Q (.dat d) ρ) : wC d ρ Q := h
theorem ev_fn {v : V} (h : Q (.fn v) ρ) : wFn v ρ Q := h
theorem ev_name {i : Nat} {d : DV} (e : ρ[i]? = some (some d)) (o : d.isOwn = false) (h : Q d ρ) : wName i ρ Q := by
  unfold wName; rw [e]; dsimp only; rw [if_neg (by rw [o]; decide)]; exact h
theorem ev_nameO {i : Nat} {d : DV} (e : ρ[i]? = some (some d)) (o : d.isOwn = true) (h : Q (.own i) ρ) : wName i ρ Q := by
  unfold wName; rw [e]; dsimp only; rw [if_pos o]; exact h
theorem ev_nameF_dat {i : Nat} {x : PyData} (e : ρ[i]? = some (some (.dat x))) (h : Q (.dat x) ρ) : wNameF i ρ Q := by
  unfold wNameF; rw [e]; exact h
theorem ev_nameF_fn {i : Nat} {x : V} (e : ρ[i]? = some (some (.fn x))) (h : Q (.fn x) ρ) : wNameF i ρ Q := by
  unfold wNameF; rw [e]; exact h
theorem ev_nameF_arg {i : Nat} {x : List PyData} (e : ρ[i]? = some (some (.arg x))) (h : Q (.own i) ρ) : wNameF i ρ Q := by
  unfold wNameF; rw [e]; exact h
theorem ev_nameF_lst {i : Nat} {x : List PyData} (e : ρ[i]? = some (some (.lst x))) (h : Q (.dat (.list x)) (ρ.set i (some (.dat (.list x))))) : wNameF i ρ Q := by
  unfold wNameF; rw [e]; exact h
def kBin2 (o : WO) (x : DV) (Q : DV → Den → Prop) : DV → Den → Prop := fun y ρ2 => o x y ρ2 Q
def kBin1 (o : WO) (wb : WE) (Q : DV → Den → Prop) : DV → Den → Prop := fun x ρ1 => wb ρ1 (kBin2 o x Q)
theorem ev_bin {o : WO} {wa wb : WE} (h : wa ρ (kBin1 o wb Q)) : wBin o wa wb ρ Q := h
theorem ev_kBin1 {o : WO} {wb : WE} {x : DV} (h : wb ρ (kBin2 o x Q)) : kBin1 o wb Q x ρ := h
theorem ev_intT {g : Int → Int → PyData} {i j : Int} (h : Q (.dat (g i j)) ρ) : kBin2 (oInt (fun _ _ => True) g) (.dat (.int i)) Q (.dat (.int j)) ρ := ⟨trivial, h⟩
theorem ev_int {C : Int → Int → Prop} {g : Int → Int → PyData} {i j : Int} (c : C i j) (h : Q (.dat (g i j)) ρ) : kBin2 (oInt C g) (.dat (.int i)) Q (.dat (.int j)) ρ := ⟨c, h⟩
theorem ev_ix {x : DV} {b : Bool} {ds : List PyData} {i : Int} {d : PyData} (e : seqOf ρ x = some (b, ds)) (e2 : atI ds i = some d) (h : Q (.dat d) ρ) : kBin2 oIx x Q (.dat (.int i)) ρ := by
  show (match seqOf ρ x, DV.dat (.int i) with
    | some (_, ds), .dat (.int i) => match atI ds i with
      | some d => Q (.dat d) ρ
      | none => False
    | _, _ => False)
  rw [e]; dsimp only; rw [e2]; exact h
theorem ev_eq {neg : Bool} {x y : DV} {d e : PyData} (e1 : datOf ρ x = some d) (e2 : datOf ρ y = some e) (s1 : SeqAt.shaped d = true) (s2 : SeqAt.shaped e = true) (h : Q (.dat (.bool (if neg then !PyData.eqv d e else PyData.eqv d e))) ρ) : kBin2 (oEq neg) x Q y ρ := by
  show (match datOf ρ x, datOf ρ y with
    | some d, some e => SeqAt.shaped d = true ∧ SeqAt.shaped e = true ∧ Q (.dat (.bool (if neg then !PyData.eqv d e else PyData.eqv d e))) ρ
    | _, _ => False)
  rw [e1, e2]; exact ⟨s1, s2, h⟩
theorem ev_eqI {i j : Int} (h : Q (.dat (.bool (decide (i = j)))) ρ) : kBin2 (oEq false) (.dat (.int i)) Q (.dat (.int j)) ρ := by
  refine ev_eq (d := .int i) (e := .int j) rfl rfl (by rfl) (by rfl) ?_
  rw [PyData.eqv.eq_5]; exact h
theorem ev_neI {i j : Int} (h : Q (.dat (.bool (decide (i ≠ j)))) ρ) : kBin2 (oEq true) (.dat (.int i)) Q (.dat (.int j)) ρ := by
  refine ev_eq (d := .int i) (e := .int j) rfl rfl (by rfl) (by rfl) ?_
  rw [PyData.eqv.eq_5]
  have e : (if true = true then !(i == j) else i == j) = decide (i ≠ j) := by rw [if_pos rfl]; by_cases h : i = j <;> simp [h]
  rw [e]; exact h
theorem ev_isN {neg : Bool} {d : PyData} (h : Q (.dat (.bool (if neg then !isNone d else isNone d))) ρ) : kBin2 (oIsN neg) (.dat d) Q (.dat .none) ρ := h
theorem ev_cat {ds es : List PyData} (l : ds.length + es.length ≤ sizeLine) (h : Q (.dat (.tuple (ds ++ es))) ρ) : kBin2 oCat (.dat (.tuple ds)) Q (.dat (.tuple es)) ρ := ⟨l, h⟩
theorem ev_catLs {x y : DV} {xs ys : List PyData} (e1 : lstOf ρ x = some xs) (e2 : lstOf ρ y = some ys) (l : xs.length + ys.length ≤ sizeLine) (h : Q (.lst (xs ++ ys)) ρ) : kBin2 oCatLs x Q y ρ := by
  show (match lstOf ρ x, lstOf ρ y with
    | some xs, some ys => xs.length + ys.length ≤ sizeLine ∧ Q (.lst (xs ++ ys)) ρ
    | _, _ => False)
  rw [e1, e2]; exact ⟨l, h⟩
def kNeg (Q : DV → Den → Prop) : DV → Den → Prop := fun x ρ1 => match x with
  | .dat (.int i) => Q (.dat (.int (-i))) ρ1
  | _ => False
theorem ev_neg {w : WE} (h : w ρ (kNeg Q)) : wNeg w ρ Q := h
theorem ev_kNeg {i : Int} (h : Q (.dat (.int (-i))) ρ) : kNeg Q (.dat (.int i)) ρ := h
def kNot (QT : Bool → Den → Prop) : Bool → Den → Prop := fun b ρ1 => QT (!b) ρ1
theorem ev_not {w : WT} (h : w ρ (kNot QT)) : wNot w ρ QT := h
theorem ev_kNot {b : Bool} (h : QT (!b) ρ) : kNot QT b ρ := h
def kTest (QT : Bool → Den → Prop) : DV → Den → Prop := fun x ρ1 => match x with
  | .dat (.bool b) => QT b ρ1
  | _ => False
theorem ev_test {w : WE} (h : w ρ (kTest QT)) : wTest w ρ QT := h
theorem ev_kTest {b : Bool} (h : QT b ρ) : kTest QT (.dat (.bool b)) ρ := h
def kTru (QT : Bool → Den → Prop) : DV → Den → Prop := fun x ρ1 => match (datOf ρ1 x).bind truD with
  | some b => QT b ρ1
  | none => False
theorem ev_tru {w : WE} (h : w ρ (kTru QT)) : wTru w ρ QT := h
theorem ev_kTru {x : DV} {b : Bool} (e : (datOf ρ x).bind truD = some b) (h : QT b ρ) : kTru QT x ρ := by
  unfold kTru; rw [e]; exact h
def kAnd (u : WT) (QT : Bool → Den → Prop) : Bool → Den → Prop := fun b ρ1 => if b = true then u ρ1 QT else QT false ρ1
def kOr (u : WT) (QT : Bool → Den → Prop) : Bool → Den → Prop := fun b ρ1 => if b = true then QT true ρ1 else u ρ1 QT
theorem ev_and {w u : WT} (h : w ρ (kAnd u QT)) : wAnd w u ρ QT := h
theorem ev_or {w u : WT} (h : w ρ (kOr u QT)) : wOr w u ρ QT := h
theorem ev_kAnd {u : WT} {b : Bool} (h1 : b = true → u ρ QT) (h2 : b = false → QT false ρ) : kAnd u QT b ρ := by
  unfold kAnd
  cases b with
  | true => rw [if_pos rfl]; exact h1 rfl
  | false => rw [if_neg (by decide)]; exact h2 rfl
theorem ev_kOr {u : WT} {b : Bool} (h1 : b = true → QT true ρ) (h2 : b = false → u ρ QT) : kOr u QT b ρ := by
  unfold kOr
  cases b with
  | true => rw [if_pos rfl]; exact h1 rfl
  | false => rw [if_neg (by decide)]; exact h2 rfl
theorem ev_kAnd_t {u : WT} (h1 : u ρ QT) : kAnd u QT true ρ := h1
theorem ev_kAnd_f {u : WT} (h1 : QT false ρ) : kAnd u QT false ρ := h1
theorem ev_kOr_t {u : WT} (h1 : QT true ρ) : kOr u QT true ρ := h1
theorem ev_kOr_f {u : WT} (h1 : u ρ QT) : kOr u QT false ρ := h1
def kIf (a b : WE) (Q : DV → Den → Prop) : Bool → Den → Prop := fun k ρ1 => if k = true then a ρ1 Q else b ρ1 Q
theorem ev_if {t : WT} {a b : WE} (h : t ρ (kIf a b Q)) : wIf t a b ρ Q := h
theorem ev_kIf {a b : WE} {k : Bool} (h1 : k = true → a ρ Q) (h2 : k = false → b ρ Q) : kIf a b Q k ρ := by
  unfold kIf
  cases k with
  | true => rw [if_pos rfl]; exact h1 rfl
  | false => rw [if_neg (by decide)]; exact h2 rfl
theorem ev_kIf_t {a b : WE} (h1 : a ρ Q) : kIf a b Q true ρ := h1
theorem ev_kIf_f {a b : WE} (h1 : b ρ Q) : kIf a b Q false ρ := h1
def kAndV (u : WE) (Q : DV → Den → Prop) : DV → Den → Prop := fun x ρ1 => match x with
  | .dat (.bool c) => if c = true then u ρ1 Q else Q (.dat (.bool false)) ρ1
  | _ => False
def kOrV (u : WE) (Q : DV → Den → Prop) : DV → Den → Prop := fun x ρ1 => match x with
  | .dat (.bool c) => if c = true then Q (.dat (.bool true)) ρ1 else u ρ1 Q
  | _ => False
theorem ev_andV {w u : WE} (h : w ρ (kAndV u Q)) : wAndV w u ρ Q := h
theorem ev_orV {w u : WE} (h : w ρ (kOrV u Q)) : wOrV w u ρ Q := h
theorem ev_kAndV {u : WE} {b : Bool} (h1 : b = true → u ρ Q) (h2 : b = false → Q (.dat (.bool false)) ρ) : kAndV u Q (.dat (.bool b)) ρ := by
  show (if b = true then u ρ Q else Q (.dat (.bool false)) ρ)
  cases b with
  | true => rw [if_pos rfl]; exact h1 rfl
  | false => rw [if_neg (by decide)]; exact h2 rfl
theorem ev_kOrV {u : WE} {b : Bool} (h1 : b = true → Q (.dat (.bool true)) ρ) (h2 : b = false → u ρ Q) : kOrV u Q (.dat (.bool b)) ρ := by
  show (if b = true then Q (.dat (.bool true)) ρ else u ρ Q)
  cases b with
  | true => rw [if_pos rfl]; exact h1 rfl
  | false => rw [if_neg (by decide)]; exact h2 rfl
theorem ev_kAndV_t {u : WE} (h1 : u ρ Q) : kAndV u Q (.dat (.bool true)) ρ := h1
theorem ev_kAndV_f {u : WE} (h1 : Q (.dat (.bool false)) ρ) : kAndV u Q (.dat (.bool false)) ρ := h1
theorem ev_kOrV_t {u : WE} (h1 : Q (.dat (.bool true)) ρ) : kOrV u Q (.dat (.bool true)) ρ := h1
theorem ev_kOrV_f {u : WE} (h1 : u ρ Q) : kOrV u Q (.dat (.bool false)) ρ := h1
def kNotV (Q : DV → Den → Prop) : DV → Den → Prop := fun x ρ1 => match x with
  | .dat (.bool c) => Q (.dat (.bool (!c))) ρ1
  | _ => False
theorem ev_notV {w : WE} (h : w ρ (kNotV Q)) : wNotV w ρ Q := h
theorem ev_kNotV {b : Bool} (h : Q (.dat (.bool (!b))) ρ) : kNotV Q (.dat (.bool b)) ρ := h
def kIsi (T : String) (Q : DV → Den → Prop) : DV → Den → Prop := fun x ρ1 => match (datOf ρ1 x).bind tyD with
  | some S => match kitB S T with
    | some b => Q (.dat (.bool b)) ρ1
    | none => False
  | none => False
theorem ev_isi {T : String} {w : WE} (h : w ρ (kIsi T Q)) : wIsi T w ρ Q := h
theorem ev_kIsi {T S : String} {x : DV} {b : Bool} (e : (datOf ρ x).bind tyD = some S) (e2 : kitB S T = some b) (h : Q (.dat (.bool b)) ρ) : kIsi T Q x ρ := by
  unfold kIsi; rw [e]; dsimp only; rw [e2]; exact h
/-! arguments -/
theorem ev_nil (h : QA [] ρ) : wNil ρ QA := h
def kCons2 (x : DV) (QA : List DV → Den → Prop) : List DV → Den → Prop := fun xs ρ2 => QA (x :: xs) ρ2
theorem ev_kCons2 {x : DV} {xs : List DV} (h : QA (x :: xs) ρ) : kCons2 x QA xs ρ := h
def kCons1 (wa : WA) (QA : List DV → Den → Prop) : DV → Den → Prop := fun x ρ1 => match x with
  | .dat d => wa ρ1 fun xs ρ2 => QA (.dat d :: xs) ρ2
  | .fn v => wa ρ1 fun xs ρ2 => QA (.fn v :: xs) ρ2
  | .own i => wa ρ1 fun xs ρ2 => QA (.own i :: xs) ρ2
  | .lst l => wa ρ1 fun xs ρ2 => QA (.dat (.list l) :: xs) ρ2
  | _ => False
theorem ev_cons {w : WE} {wa : WA} (h : w ρ (kCons1 wa QA)) : wCons w wa ρ QA := h
theorem ev_kCons1_dat {wa : WA} {d : PyData} (h : wa ρ (kCons2 (.dat d) QA)) : kCons1 wa QA (.dat d) ρ := h
theorem ev_kCons1_fn {wa : WA} {d : V} (h : wa ρ (kCons2 (.fn d) QA)) : kCons1 wa QA (.fn d) ρ := h
theorem ev_kCons1_own {wa : WA} {d : Nat} (h : wa ρ (kCons2 (.own d) QA)) : kCons1 wa QA (.own d) ρ := h
theorem ev_kCons1_lst {wa : WA} {d : List PyData} (h : wa ρ (kCons2 (.dat (.list d)) QA)) : kCons1 wa QA (.lst d) ρ := h
def kStar2 (ds : List PyData) (QA : List DV → Den → Prop) : List DV → Den → Prop := fun xs ρ2 => QA (ds.map .dat ++ xs) ρ2
def kStar1 (wa : WA) (QA : List DV → Den → Prop) : DV → Den → Prop := fun x ρ1 => match seqOf ρ1 x with
  | some (_, ds) => wa ρ1 fun xs ρ2 => QA (ds.map .dat ++ xs) ρ2
  | none => False
theorem ev_star {w : WE} {wa : WA} (h : w ρ (kStar1 wa QA)) : wStar w wa ρ QA := h
theorem ev_kStar1 {wa : WA} {x : DV} {b : Bool} {ds : List PyData} (e : seqOf ρ x = some (b, ds)) (h : wa ρ (kStar2 ds QA)) : kStar1 wa QA x ρ := by
  unfold kStar1; rw [e]; exact h
theorem ev_kStar2 {ds : List PyData} {xs : List DV} (h : QA (ds.map .dat ++ xs) ρ) : kStar2 ds QA xs ρ := h
def kTup (Q : DV → Den → Prop) : List DV → Den → Prop := fun xs ρ1 => match dats xs with
  | some ds => ds.length ≤ sizeLine ∧ Q (.dat (.tuple ds)) ρ1
  | none => False
def kLst (Q : DV → Den → Prop) : List DV → Den → Prop := fun xs ρ1 => match dats xs with
  | some ds => ds.length ≤ sizeLine ∧ Q (.lst ds) ρ1
  | none => False
theorem ev_tup {wa : WA} (h : wa ρ (kTup Q)) : wTup wa ρ Q := h
theorem ev_lst {wa : WA} (h : wa ρ (kLst Q)) : wLst wa ρ Q := h
theorem ev_kTup {xs : List DV} {ds : List PyData} (e : dats xs = some ds) (l : ds.length ≤ sizeLine) (h : Q (.dat (.tuple ds)) ρ) : kTup Q xs ρ := by
  unfold kTup; rw [e]; exact ⟨l, h⟩
theorem ev_kLst {xs : List DV} {ds : List PyData} (e : dats xs = some ds) (l : ds.length ≤ sizeLine) (h : Q (.lst ds) ρ) : kLst Q xs ρ := by
  unfold kLst; rw [e]; exact ⟨l, h⟩
theorem dats_app : ∀ (ds : List PyData) (xs : List DV), dats (ds.map .dat ++ xs) = (dats xs).map (ds ++ ·)
  | [], xs => by simp
  | d :: ds, xs => by
    show (dats (ds.map .dat ++ xs)).map (d :: ·) = _
    rw [dats_app ds xs]
    cases dats xs <;> rfl
/-! cuts -/
abbrev QP := Option Int → Den → Prop
theorem ev_noPart {Q : QP} (h : Q none ρ) : wNoPart ρ Q := h
def kPart (Q : QP) : DV → Den → Prop := fun x ρ1 => match x with
  | .dat (.int i) => Q (some i) ρ1
  | _ => False
theorem ev_part {w : WE} {Q : QP} (h : w ρ (kPart Q)) : wPart w ρ Q := h
theorem ev_kPart {i : Int} {Q : QP} (h : Q (some i) ρ) : kPart Q (.dat (.int i)) ρ := h
def kSl3 (x : DV) (lo : Option Int) (Q : DV → Den → Prop) : QP := fun hi ρ3 => match seqOf ρ3 x with
  | some (true, ds) => Q (.dat (.tuple (cutD ds lo hi))) ρ3
  | some (false, ds) => Q (.lst (cutD ds lo hi)) ρ3
  | none => False
def kSl2 (wh : WP) (x : DV) (Q : DV → Den → Prop) : QP := fun lo ρ2 => wh ρ2 (kSl3 x lo Q)
def kSl1 (wl wh : WP) (Q : DV → Den → Prop) : DV → Den → Prop := fun x ρ1 => wl ρ1 (kSl2 wh x Q)
theorem ev_sl {w : WE} {wl wh : WP} (h : w ρ (kSl1 wl wh Q)) : wSl w wl wh ρ Q := h
theorem ev_kSl1 {wl wh : WP} {x : DV} (h : wl ρ (kSl2 wh x Q)) : kSl1 wl wh Q x ρ := h
theorem ev_kSl2 {wh : WP} {x : DV} {lo : Option Int} (h : wh ρ (kSl3 x lo Q)) : kSl2 wh x Q lo ρ := h
theorem ev_kSl3_t {x : DV} {lo hi : Option Int} {ds : List PyData} (e : seqOf ρ x = some (true, ds)) (h : Q (.dat (.tuple (cutD ds lo hi))) ρ) : kSl3 x lo Q hi ρ := by
  unfold kSl3; rw [e]; exact h
theorem ev_kSl3_l {x : DV} {lo hi : Option Int} {ds : List PyData} (e : seqOf ρ x = some (false, ds)) (h : Q (.lst (cutD ds lo hi)) ρ) : kSl3 x lo Q hi ρ := by
  unfold kSl3; rw [e]; exact h
def kRev (Q : DV → Den → Prop) : DV → Den → Prop := fun x ρ1 => match seqOf ρ1 x with
  | some (true, ds) => Q (.dat (.tuple ds.reverse)) ρ1
  | some (false, ds) => Q (.lst ds.reverse) ρ1
  | none => False
theorem ev_rev {w : WE} (h : w ρ (kRev Q)) : wRev w ρ Q := h
theorem ev_kRev_t {x : DV} {ds : List PyData} (e : seqOf ρ x = some (true, ds)) (h : Q (.dat (.tuple ds.reverse)) ρ) : kRev Q x ρ := by
  unfold kRev; rw [e]; exact h
theorem ev_kRev_l {x : DV} {ds : List PyData} (e : seqOf ρ x = some (false, ds)) (h : Q (.lst ds.reverse) ρ) : kRev Q x ρ := by
  unfold kRev; rw [e]; exact h
/-! calls -/
def kCall (o : WC) (Q : DV → Den → Prop) : List DV → Den → Prop := fun xs ρ1 => o xs ρ1 Q
theorem ev_call {o : WC} {wa : WA} (h : wa ρ (kCall o Q)) : wCall o wa ρ Q := h
theorem ev_len {x : DV} {b : Bool} {ds : List PyData} (e : seqOf ρ x = some (b, ds)) (h : Q (.dat (.int (ds.length : Nat))) ρ) : kCall oLen Q [x] ρ := by
  unfold kCall oLen; dsimp only; rw [e]; exact h
theorem ev_max2 {i j : Int} (h : Q (.dat (.int (max i j))) ρ) : kCall oMax2 Q [.dat (.int i), .dat (.int j)] ρ := h
theorem ev_min2 {i j : Int} (h : Q (.dat (.int (min i j))) ρ) : kCall oMin2 Q [.dat (.int i), .dat (.int j)] ρ := h
theorem ev_tuple {x : DV} {b : Bool} {ds : List PyData} (e : seqOf ρ x = some (b, ds)) (h : Q (.dat (.tuple ds)) ρ) : kCall oTuple Q [x] ρ := by
  unfold kCall oTuple; dsimp only; rw [e]; exact h
theorem ev_list {x : DV} {b : Bool} {ds : List PyData} (e : seqOf ρ x = some (b, ds)) (h : Q (.lst ds) ρ) : kCall oList Q [x] ρ := by
  unfold kCall oList; dsimp only; rw [e]; exact h
theorem ev_int1 {i : Int} (h : Q (.dat (.int i)) ρ) : kCall oInt1 Q [.dat (.int i)] ρ := h
theorem ev_sorted {x : DV} {b : Bool} {ds : List PyData} (e : seqOf ρ x = some (b, ds)) (h1 : PySem.W.AllAlike ds) (h2 : PySem.W.Sortable ds) (h3 : ∀ d ∈ ds, d.depth ≤ 60) (h : Q (.lst (sortD ds)) ρ) : kCall oSorted Q [x] ρ := by
  unfold kCall oSorted; dsimp only; rw [e]; exact ⟨h1, h2, h3, h⟩
def kUser (S : DSpec) (Q : DV → Den → Prop) : List DV → Den → Prop := fun xs ρ1 => (owns xs).Nodup ∧ match toArgs ρ1 xs with
  | some ds => S ds fun r outs => Q r (putBack xs outs ρ1)
  | none => False
theorem ev_user {S : DSpec} {wa : WA} (h : wa ρ (kUser S Q)) : wUser S wa ρ Q := h
theorem ev_kUser {S : DSpec} {xs ds : List DV} (n : (owns xs).Nodup) (e : toArgs ρ xs = some ds) (h : S ds fun r outs => Q r (putBack xs outs ρ)) : kUser S Q xs ρ := by
  unfold kUser; rw [e]; exact ⟨n, h⟩
theorem ev_loc {i : Nat} {S : Addr → Option DSpec} {wa : WA} {f : Addr} {sp : DSpec} (e : ρ[i]? = some (some (.fn (.ref f)))) (e2 : S f = some sp) (h : wa ρ (kUser sp Q)) : wLoc i S wa ρ Q := by
  unfold wLoc; rw [e]; dsimp only; rw [e2]; exact h
/-! append, extend -/
def kApp2 (i : Nat) (Q : DV → Den → Prop) : List DV → Den → Prop := fun ys ρ2 => match ownL ρ2[i]?, ys with
  | some (b, xs), [.dat d] => xs.length < sizeLine ∧ Q (.dat .none) (ρ2.set i (some (mkO b (xs ++ [d]))))
  | _, _ => False
def kApp1 (wa : WA) (Q : DV → Den → Prop) : DV → Den → Prop := fun x ρ1 => match x with
  | .own i => (ownL ρ1[i]?).isSome = true ∧ wa ρ1 (kApp2 i Q)
  | _ => False
theorem ev_app {wo : WE} {wa : WA} (h : wo ρ (kApp1 wa Q)) : wApp wo wa ρ Q := h
theorem ev_kApp1 {wa : WA} {i : Nat} (e : (ownL ρ[i]?).isSome = true) (h : wa ρ (kApp2 i Q)) : kApp1 wa Q (.own i) ρ := ⟨e, h⟩
theorem ev_kApp2 {i : Nat} {b : Bool} {xs : List PyData} {d : PyData} (e : ownL ρ[i]? = some (b, xs)) (l : xs.length < sizeLine) (h : Q (.dat .none) (ρ.set i (some (mkO b (xs ++ [d]))))) : kApp2 i Q [.dat d] ρ := by
  unfold kApp2; rw [e]; exact ⟨l, h⟩
def kExt2 (i : Nat) (Q : DV → Den → Prop) : List DV → Den → Prop := fun ys ρ2 => match ownL ρ2[i]?, ys with
  | some (b, xs), [.dat (.tuple ds)] => xs.length + ds.length ≤ sizeLine ∧ Q (.dat .none) (ρ2.set i (some (mkO b (xs ++ ds))))
  | _, _ => False
def kExt1 (wa : WA) (Q : DV → Den → Prop) : DV → Den → Prop := fun x ρ1 => match x with
  | .own i => (ownL ρ1[i]?).isSome = true ∧ wa ρ1 (kExt2 i Q)
  | _ => False
theorem ev_ext {wo : WE} {wa : WA} (h : wo ρ (kExt1 wa Q)) : wExt wo wa ρ Q := h
theorem ev_kExt1 {wa : WA} {i : Nat} (e : (ownL ρ[i]?).isSome = true) (h : wa ρ (kExt2 i Q)) : kExt1 wa Q (.own i) ρ := ⟨e, h⟩
theorem ev_kExt2 {i : Nat} {b : Bool} {xs ds : List PyData} (e : ownL ρ[i]? = some (b, xs)) (l : xs.length + ds.length ≤ sizeLine) (h : Q (.dat .none) (ρ.set i (some (mkO b (xs ++ ds))))) : kExt2 i Q [.dat (.tuple ds)] ρ := by
  unfold kExt2; rw [e]; exact ⟨l, h⟩
/-! comprehensions -/
def kLc (f : PyData → Den → Option Den) (wt : WT) (we : WE) (vs : List Nat) (Q : DV → Den → Prop) : List PyData → Den → Prop := fun items ρ1 => lcGo f wt we vs Q items [] ρ1
theorem ev_lc {wi : WI} {f : PyData → Den → Option Den} {wt : WT} {we : WE} {vs : List Nat} (h : wi ρ (kLc f wt we vs Q)) : wLc wi f wt we vs ρ Q := h
def kLc2 (f : PyData → Den → Option Den) (wt : WT) (we : WE) (vs : List Nat) (Q : DV → Den → Prop) (xs acc : List PyData) (ρ : Den) : DV → Den → Prop := fun y ρ4 => match y with
  | .dat d => acc.length < sizeLine ∧ lcGo f wt we vs Q xs (acc ++ [d]) (restD ρ ρ4 vs)
  | .lst l => acc.length < sizeLine ∧ lcGo f wt we vs Q xs (acc ++ [.list l]) (restD ρ ρ4 vs)
  | _ => False
theorem ev_lcNil {f : PyData → Den → Option Den} {wt : WT} {we : WE} {vs : List Nat} {acc : List PyData} (h : Q (.lst acc) ρ) : lcGo f wt we vs Q [] acc ρ := h
/-- a turn without a test -/
theorem ev_lcCons {f : PyData → Den → Option Den} {we : WE} {vs : List Nat} {x : PyData} {xs acc : List PyData} {ρ2 : Den} (ok : vsOk ρ vs = true) (e : f x (wipeD ρ vs) = some ρ2) (h : we ρ2 (kLc2 f wYes we vs Q xs acc ρ)) : lcGo f wYes we vs Q (x :: xs) acc ρ := by
  refine ⟨ok, ?_⟩
  rw [e]
  exact h
theorem ev_kLc2 {f : PyData → Den → Option Den} {wt : WT} {we : WE} {vs : List Nat} {xs acc : List PyData} {ρ0 : Den} {d : PyData} (l : acc.length < sizeLine) (h : lcGo f wt we vs Q xs (acc ++ [d]) (restD ρ0 ρ vs)) : kLc2 f wt we vs Q xs acc ρ0 (.dat d) ρ := ⟨l, h⟩
/-- a comprehension without a test, by what it has made and what is left -/
theorem lcGo_ind {f : PyData → Den → Option Den} {we : WE} {vs : List Nat} {I : List PyData → List PyData → Den → Prop} (hn : ∀ acc ρ, I acc [] ρ → Q (.lst acc) ρ)
    (hs : ∀ acc x xs ρ, I acc (x :: xs) ρ → vsOk ρ vs = true ∧ ∃ ρ2, f x (wipeD ρ vs) = some ρ2 ∧ ∀ G : DV → Den → Prop, (∀ d ρ4, acc.length < sizeLine → I (acc ++ [d]) xs (restD ρ ρ4 vs) → G (.dat d) ρ4) → we ρ2 G) : ∀ (items acc : List PyData) (ρ : Den), I acc items ρ → lcGo f wYes we vs Q items acc ρ
  | [], acc, ρ, h => hn acc ρ h
  | x :: xs, acc, ρ, h => by
    obtain ⟨ok, ρ2, e, k⟩ := hs acc x xs ρ h
    exact ev_lcCons ok e (k _ fun d ρ4 l i => ⟨l, lcGo_ind hn hs xs _ _ i⟩)
end
end DL
namespace DL
theorem ev_nx {ρ : Den} {n b c : Den → Prop} {r : DV → Den → Prop} (h : n ρ) : (DE.mk n r b c).nx ρ := h
theorem ev_bk {ρ : Den} {n b c : Den → Prop} {r : DV → Den → Prop} (h : b ρ) : (DE.mk n r b c).bk ρ := h
theorem ev_ct {ρ : Den} {n b c : Den → Prop} {r : DV → Den → Prop} (h : c ρ) : (DE.mk n r b c).ct ρ := h
theorem ev_rt {ρ : Den} {n b c : Den → Prop} {d : DV} {r : DV → Den → Prop} (h : r d ρ) : (DE.mk n r b c).rt d ρ := h
end DL
end
section
set_option Elab.async false
set_option linter.all false
set_option maxRecDepth 100000
set_option maxHeartbeats 1000000
namespace DL
open PySem L2
theorem owns_nil_at : ∀ {xs : List DV}, owns xs = [] → ∀ (k i : Nat), xs[i]? ≠ some (.own k)
  | [], _, k, i => by simp
  | x :: xs, h, k, i => by
    have h2 : owns xs = [] ∧ ∀ j, x ≠ .own j := by
      cases x with
      | own j => cases h
      | _ => exact ⟨h, fun _ z => nomatch z⟩
    cases i with
    | zero => intro z; simp at z; exact h2.2 k z
    | succ i => have := owns_nil_at h2.1 k i; simpa using this
theorem pb1_none (d : Option DV) : pb1 d none = d := by
  cases d with
  | none => rfl
  | some y => cases y <;> rfl
theorem putBack_nil {xs outs : List DV} {ρ : Den} (h : owns xs = []) : putBack xs outs ρ = ρ := by
  apply List.ext_getElem?
  intro j
  rw [show putBack xs outs ρ = pbGo 0 xs outs ρ from rfl, pbGo_get]
  rw [findOut_none fun i => owns_nil_at h _ i]
  cases ρ[j]? with
  | none => rfl
  | some d => rw [Option.map_some, pb1_none]
theorem ev_kUser0 {ρ : Den} {Q : DV → Den → Prop} {S : DSpec} {xs ds : List DV} (n : owns xs = []) (e : toArgs ρ xs = some ds) (h : S ds fun r _ => Q r ρ) : kUser S Q xs ρ := by
  refine ev_kUser (by rw [n]; exact .nil) e ?_
  have e2 : (fun r outs => Q r (putBack xs outs ρ)) = fun r _ => Q r ρ := by funext r outs; rw [putBack_nil n]
  rw [e2]; exact h
end DL
end
section
set_option Elab.async false
set_option linter.all false
set_option maxRecDepth 100000
set_option maxHeartbeats 1000000
namespace K5
open PySem L2 DL
abbrev N_first_ending_beyond : List Str := ["stretches", "number", "low", "high", "middle"]
def W_first_ending_beyond : WS := (wSeq (wPar 2 3 (wCons (wC (.int 0)) (wCons (wCall oLen (wCons (wName 0) wNil)) wNil))) (wSeq (wWhile (wTest (wBin oLt (wName 2) (wName 3))) (wSeq (wSet 4 (wBin oFdiv (wBin oAdd (wName 2) (wName 3)) (wC (.int 2)))) (wIfS (wTest (wBin oGt (wBin oIx (wBin oIx (wName 0) (wName 4)) (wC (.int 1))) (wName 1))) (wSet 3 (wName 4)) (wSet 2 (wBin oAdd (wName 4) (wC (.int 1))))))) (wRet (wName 2))))
abbrev N_first_beginning_from : List Str := ["stretches", "number", "low", "high", "middle"]
def W_first_beginning_from : WS := (wSeq (wPar 2 3 (wCons (wC (.int 0)) (wCons (wCall oLen (wCons (wName 0) wNil)) wNil))) (wSeq (wWhile (wTest (wBin oLt (wName 2) (wName 3))) (wSeq (wSet 4 (wBin oFdiv (wBin oAdd (wName 2) (wName 3)) (wC (.int 2)))) (wIfS (wTest (wBin oGe (wBin oIx (wBin oIx (wName 0) (wName 4)) (wC (.int 0))) (wName 1))) (wSet 3 (wName 4)) (wSet 2 (wBin oAdd (wName 4) (wC (.int 1))))))) (wRet (wName 2))))
abbrev N_merged : List Str := ["stretches", "out", "low", "high", "begin", "end"]
def W_merged : WS := (wSeq (wSet 1 (wLst wNil)) (wSeq (wAsg (wBin oIx (wName 0) (wC (.int 0))) (fTup 2 (fCons (fName 2) (fCons (fName 3) fNil)))) (wSeq (wFor (wSeqI (wSl (wName 0) (wPart (wC (.int 1))) wNoPart)) (fTup 2 (fCons (fName 4) (fCons (fName 5) fNil))) (wIfS (wTest (wBin oGt (wName 4) (wName 3))) (wSeq (wExpr (wApp (wName 1) (wCons (wTup (wCons (wName 2) (wCons (wName 3) wNil))) wNil))) (wPar 2 3 (wCons (wName 4) (wCons (wName 5) wNil)))) (wIfS (wTest (wBin oGt (wName 5) (wName 3))) (wSet 3 (wName 5)) wNext))) (wSeq (wExpr (wApp (wName 1) (wCons (wTup (wCons (wName 2) (wCons (wName 3) wNil))) wNil))) (wRet (wCall oTuple (wCons (wName 1) wNil)))))))
abbrev N_joined_rows : List Str := ["a", "b"]
def W_joined_rows (sp_merged : DSpec) : WS := (wSeq (wIfS (wTest (wBin (oEq false) (wName 0) (wName 1))) (wRet (wName 0)) wNext) (wSeq (wIfS (wTest (wBin oLt (wBin oIx (wBin oIx (wName 0) (wNeg (wC (.int 1)))) (wC (.int 1))) (wBin oIx (wBin oIx (wName 1) (wC (.int 0))) (wC (.int 0))))) (wRet (wBin oCat (wName 0) (wName 1))) wNext) (wSeq (wIfS (wTest (wBin oLt (wBin oIx (wBin oIx (wName 1) (wNeg (wC (.int 1)))) (wC (.int 1))) (wBin oIx (wBin oIx (wName 0) (wC (.int 0))) (wC (.int 0))))) (wRet (wBin oCat (wName 1) (wName 0))) wNext) (wRet (wUser sp_merged (wCons (wCall oSorted (wCons (wTup (wStar (wName 0) (wStar (wName 1) wNil))) wNil)) wNil))))))
abbrev N_put : List Str := ["out", "low", "high", "inside"]
def W_put : WS := (wSeq (wIfS (wNot (wTru (wName 3))) wRetN wNext) (wIfS (wAnd (wTru (wName 0)) (wAnd (wTest (wBin (oEq false) (wBin oIx (wBin oIx (wName 0) (wNeg (wC (.int 1)))) (wC (.int 1))) (wName 1))) (wTest (wBin (oEq false) (wBin oIx (wBin oIx (wName 0) (wNeg (wC (.int 1)))) (wC (.int 2))) (wName 3))))) (wPut (wTup (wCons (wBin oIx (wBin oIx (wName 0) (wNeg (wC (.int 1)))) (wC (.int 0))) (wCons (wName 2) (wCons (wName 3) wNil)))) (wName 0) (wNeg (wC (.int 1)))) (wExpr (wApp (wName 0) (wCons (wTup (wCons (wName 1) (wCons (wName 2) (wCons (wName 3) wNil)))) wNil)))))
abbrev N_put_all : List Str := ["out", "slabs", "begin", "low", "high", "inside"]
def W_put_all (sp_put : DSpec) : WS := (wSeq (wFor (wSeqI (wSl (wName 1) wNoPart (wPart (wC (.int 1))))) (fTup 3 (fCons (fName 3) (fCons (fName 4) (fCons (fName 5) fNil)))) (wExpr (wUser sp_put (wCons (wName 0) (wCons (wCall oMax2 (wCons (wName 3) (wCons (wName 2) wNil))) (wCons (wNameF 4) (wCons (wNameF 5) wNil))))))) (wExpr (wExt (wName 0) (wCons (wSl (wName 1) (wPart (wC (.int 1))) wNoPart) wNil))))
abbrev N_lay_over : List Str := ["out", "a", "b", "rule", "keeps", "i", "j", "at", "from_a", "to_a", "inside_a", "from_b", "to_b", "inside_b"]
def W_lay_over (sp_put sp_put_all : DSpec) (S : Addr → Option DSpec) : WS := (wSeq (wAsg (wTup (wCons (wC (.int 0)) (wCons (wC (.int 0)) wNil))) (fTup 2 (fCons (fName 5) (fCons (fName 6) fNil)))) (wSeq (wSet 7 (wCall oMin2 (wCons (wBin oIx (wBin oIx (wName 1) (wC (.int 0))) (wC (.int 0))) (wCons (wBin oIx (wBin oIx (wName 2) (wC (.int 0))) (wC (.int 0))) wNil)))) (wSeq (wWhile (wAnd (wTest (wBin oLt (wName 5) (wCall oLen (wCons (wName 1) wNil)))) (wTest (wBin oLt (wName 6) (wCall oLen (wCons (wName 2) wNil))))) (wSeq (wAsg (wBin oIx (wName 1) (wName 5)) (fTup 3 (fCons (fName 8) (fCons (fName 9) (fCons (fName 10) fNil))))) (wSeq (wAsg (wBin oIx (wName 2) (wName 6)) (fTup 3 (fCons (fName 11) (fCons (fName 12) (fCons (fName 13) fNil))))) (wSeq (wPar 8 11 (wCons (wCall oMax2 (wCons (wName 8) (wCons (wName 7) wNil))) (wCons (wCall oMax2 (wCons (wName 11) (wCons (wName 7) wNil))) wNil))) (wSeq (wIfS (wTest (wBin oLt (wName 8) (wName 11))) (wSeq (wSet 7 (wCall oMin2 (wCons (wName 9) (wCons (wName 11) wNil)))) (wIfS (wTru (wBin oIx (wName 4) (wC (.int 0)))) (wExpr (wUser sp_put (wCons (wName 0) (wCons (wNameF 8) (wCons (wNameF 7) (wCons (wNameF 10) wNil)))))) wNext)) (wIfS (wTest (wBin oLt (wName 11) (wName 8))) (wSeq (wSet 7 (wCall oMin2 (wCons (wName 12) (wCons (wName 8) wNil)))) (wIfS (wTru (wBin oIx (wName 4) (wC (.int 1)))) (wExpr (wUser sp_put (wCons (wName 0) (wCons (wNameF 11) (wCons (wNameF 7) (wCons (wNameF 13) wNil)))))) wNext)) (wSeq (wSet 7 (wCall oMin2 (wCons (wName 9) (wCons (wName 12) wNil)))) (wExpr (wUser sp_put (wCons (wName 0) (wCons (wNameF 8) (wCons (wNameF 7) (wCons (wLoc 3 S (wCons (wName 10) (wCons (wName 13) wNil))) wNil))))))))) (wSeq (wIfS (wTest (wBin oLe (wName 9) (wName 7))) (wAugI 5 (fun i j => i + j) (wC (.int 1))) wNext) (wIfS (wTest (wBin oLe (wName 12) (wName 7))) (wAugI 6 (fun i j => i + j) (wC (.int 1))) wNext))))))) (wSeq (wIfS (wTru (wBin oIx (wName 4) (wC (.int 0)))) (wExpr (wUser sp_put_all (wCons (wName 0) (wCons (wSl (wName 1) (wPart (wName 5)) wNoPart) (wCons (wNameF 7) wNil))))) wNext) (wIfS (wTru (wBin oIx (wName 4) (wC (.int 1)))) (wExpr (wUser sp_put_all (wCons (wName 0) (wCons (wSl (wName 2) (wPart (wName 6)) wNoPart) (wCons (wNameF 7) wNil))))) wNext)))))
abbrev N_combined : List Str := ["a", "b", "rule", "keeps", "low", "high", "from_a", "from_b", "to_a", "to_b", "out"]
def W_combined (sp_first_ending_beyond sp_first_beginning_from sp_put_all sp_lay_over : DSpec) : WS := (wSeq (wIfS (wNot (wTru (wName 0))) (wRet (wIf (wTru (wBin oIx (wName 3) (wC (.int 1)))) (wName 1) (wTup wNil))) wNext) (wSeq (wIfS (wNot (wTru (wName 1))) (wRet (wIf (wTru (wBin oIx (wName 3) (wC (.int 0)))) (wName 0) (wTup wNil))) wNext) (wSeq (wPar 4 5 (wCons (wCall oMax2 (wCons (wBin oIx (wBin oIx (wName 0) (wC (.int 0))) (wC (.int 0))) (wCons (wBin oIx (wBin oIx (wName 1) (wC (.int 0))) (wC (.int 0))) wNil))) (wCons (wCall oMin2 (wCons (wBin oIx (wBin oIx (wName 0) (wNeg (wC (.int 1)))) (wC (.int 1))) (wCons (wBin oIx (wBin oIx (wName 1) (wNeg (wC (.int 1)))) (wC (.int 1))) wNil))) wNil))) (wSeq (wPar 6 7 (wCons (wUser sp_first_ending_beyond (wCons (wNameF 0) (wCons (wNameF 4) wNil))) (wCons (wUser sp_first_ending_beyond (wCons (wNameF 1) (wCons (wNameF 4) wNil))) wNil))) (wSeq (wSet 8 (wCall oMax2 (wCons (wName 6) (wCons (wUser sp_first_beginning_from (wCons (wNameF 0) (wCons (wNameF 5) wNil))) wNil)))) (wSeq (wSet 9 (wCall oMax2 (wCons (wName 7) (wCons (wUser sp_first_beginning_from (wCons (wNameF 1) (wCons (wNameF 5) wNil))) wNil)))) (wSeq (wSet 10 (wIf (wTru (wBin oIx (wName 3) (wC (.int 0)))) (wCall oList (wCons (wSl (wName 0) wNoPart (wPart (wName 6))) wNil)) (wLst wNil))) (wSeq (wIfS (wTru (wBin oIx (wName 3) (wC (.int 1)))) (wExpr (wExt (wName 10) (wCons (wSl (wName 1) wNoPart (wPart (wName 7))) wNil))) wNext) (wSeq (wIfS (wAnd (wTest (wBin oLt (wName 6) (wName 8))) (wTest (wBin oLt (wName 7) (wName 9)))) (wExpr (wUser sp_lay_over (wCons (wName 10) (wCons (wSl (wName 0) (wPart (wName 6)) (wPart (wName 8))) (wCons (wSl (wName 1) (wPart (wName 7)) (wPart (wName 9))) (wCons (wNameF 2) (wCons (wNameF 3) wNil))))))) (wIfS (wAnd (wTru (wBin oIx (wName 3) (wC (.int 0)))) (wTest (wBin oLt (wName 6) (wName 8)))) (wExpr (wUser sp_put_all (wCons (wName 10) (wCons (wSl (wName 0) (wPart (wName 6)) (wPart (wName 8))) (wCons (wBin oIx (wBin oIx (wName 0) (wName 6)) (wC (.int 0))) wNil))))) (wIfS (wAnd (wTru (wBin oIx (wName 3) (wC (.int 1)))) (wTest (wBin oLt (wName 7) (wName 9)))) (wExpr (wUser sp_put_all (wCons (wName 10) (wCons (wSl (wName 1) (wPart (wName 7)) (wPart (wName 9))) (wCons (wBin oIx (wBin oIx (wName 1) (wName 7)) (wC (.int 0))) wNil))))) wNext))) (wSeq (wIfS (wAnd (wTru (wBin oIx (wName 3) (wC (.int 0)))) (wTest (wBin oLt (wName 8) (wCall oLen (wCons (wName 0) wNil))))) (wExpr (wUser sp_put_all (wCons (wName 10) (wCons (wSl (wName 0) (wPart (wName 8)) wNoPart) (wCons (wBin oIx (wBin oIx (wName 0) (wName 8)) (wC (.int 0))) wNil))))) wNext) (wSeq (wIfS (wAnd (wTru (wBin oIx (wName 3) (wC (.int 1)))) (wTest (wBin oLt (wName 9) (wCall oLen (wCons (wName 1) wNil))))) (wExpr (wUser sp_put_all (wCons (wName 10) (wCons (wSl (wName 1) (wPart (wName 9)) wNoPart) (wCons (wBin oIx (wBin oIx (wName 1) (wName 9)) (wC (.int 0))) wNil))))) wNext) (wRet (wCall oTuple (wCons (wName 10) wNil))))))))))))))
abbrev N_joined_layers : List Str := ["a", "b"]
def W_joined_layers (sp_combined : DSpec) (a_joined_rows : Addr) : WS := (wRet (wUser sp_combined (wCons (wNameF 0) (wCons (wNameF 1) (wCons (wFn (.ref a_joined_rows)) (wCons (wTup (wCons (wC (.bool true)) (wCons (wC (.bool true)) wNil))) wNil))))))
abbrev N_is_integer : List Str := ["thing"]
def W_is_integer : WS := (wRet (wAndV (wIsi "int" (wName 0)) (wNotV (wIsi "bool" (wName 0)))))
abbrev N_is_stretch : List Str := ["thing", "many"]
def W_is_stretch (sp_is_integer : DSpec) : WS := (wRet (wAndV (wIsi "tuple" (wName 0)) (wAndV (wBin (oEq false) (wCall oLen (wCons (wName 0) wNil)) (wName 1)) (wAndV (wUser sp_is_integer (wCons (wBin oIx (wName 0) (wC (.int 0))) wNil)) (wAndV (wUser sp_is_integer (wCons (wBin oIx (wName 0) (wC (.int 1))) wNil)) (wBin oLt (wBin oIx (wName 0) (wC (.int 0))) (wBin oIx (wName 0) (wC (.int 1)))))))))
abbrev N_is_row : List Str := ["thing", "end", "stretch"]
def W_is_row (sp_is_stretch : DSpec) : WS := (wSeq (wIfS (wOr (wNot (wTru (wIsi "tuple" (wName 0)))) (wNot (wTru (wName 0)))) (wRet (wC (.bool false))) wNext) (wSeq (wSet 1 (wC .none)) (wSeq (wFor (wSeqI (wNameF 0)) (fName 2) (wSeq (wIfS (wOr (wNot (wTru (wUser sp_is_stretch (wCons (wNameF 2) (wCons (wC (.int 2)) wNil))))) (wAnd (wTest (wBin (oIsN true) (wName 1) (wC .none))) (wTest (wBin oLe (wBin oIx (wName 2) (wC (.int 0))) (wName 1))))) (wRet (wC (.bool false))) wNext) (wSet 1 (wBin oIx (wName 2) (wC (.int 1)))))) (wRet (wC (.bool true))))))
abbrev N_are_slabs : List Str := ["thing", "is_inside", "last", "slab"]
def W_are_slabs (sp_is_stretch : DSpec) (S : Addr → Option DSpec) : WS := (wSeq (wIfS (wNot (wTru (wIsi "tuple" (wName 0)))) (wRet (wC (.bool false))) wNext) (wSeq (wSet 2 (wC .none)) (wSeq (wFor (wSeqI (wNameF 0)) (fName 3) (wSeq (wIfS (wOr (wNot (wTru (wUser sp_is_stretch (wCons (wNameF 3) (wCons (wC (.int 3)) wNil))))) (wNot (wTru (wLoc 1 S (wCons (wBin oIx (wName 3) (wC (.int 2))) wNil))))) (wRet (wC (.bool false))) wNext) (wSeq (wIfS (wTest (wBin (oIsN true) (wName 2) (wC .none))) (wIfS (wOr (wTest (wBin oLt (wBin oIx (wName 3) (wC (.int 0))) (wBin oIx (wName 2) (wC (.int 1))))) (wAnd (wTest (wBin (oEq false) (wBin oIx (wName 3) (wC (.int 0))) (wBin oIx (wName 2) (wC (.int 1))))) (wTest (wBin (oEq false) (wBin oIx (wName 3) (wC (.int 2))) (wBin oIx (wName 2) (wC (.int 2))))))) (wRet (wC (.bool false))) wNext) wNext) (wSet 2 (wName 3))))) (wRet (wC (.bool true))))))
abbrev N_is_layer : List Str := ["thing"]
def W_is_layer (sp_are_slabs : DSpec) (a_is_row : Addr) : WS := (wRet (wAndV (wUser sp_are_slabs (wCons (wNameF 0) (wCons (wFn (.ref a_is_row)) wNil))) (wBin (oEq true) (wName 0) (wTup wNil))))
abbrev N_is_solid : List Str := ["thing"]
def W_is_solid (sp_are_slabs : DSpec) (a_is_layer : Addr) : WS := (wRet (wUser sp_are_slabs (wCons (wNameF 0) (wCons (wFn (.ref a_is_layer)) wNil))))
abbrev N_box : List Str := ["corner", "other", "row"]
def W_box : WS := (wSeq (wIfS (wOr (wTest (wBin oGe (wBin oIx (wName 0) (wC (.int 0))) (wBin oIx (wName 1) (wC (.int 0))))) (wOr (wTest (wBin oGe (wBin oIx (wName 0) (wC (.int 1))) (wBin oIx (wName 1) (wC (.int 1))))) (wTest (wBin oGe (wBin oIx (wName 0) (wC (.int 2))) (wBin oIx (wName 1) (wC (.int 2))))))) (wRet (wTup wNil)) wNext) (wSeq (wSet 2 (wTup (wCons (wTup (wCons (wBin oIx (wName 0) (wC (.int 0))) (wCons (wBin oIx (wName 1) (wC (.int 0))) wNil))) wNil))) (wRet (wTup (wCons (wTup (wCons (wBin oIx (wName 0) (wC (.int 2))) (wCons (wBin oIx (wName 1) (wC (.int 2))) (wCons (wTup (wCons (wTup (wCons (wBin oIx (wName 0) (wC (.int 1))) (wCons (wBin oIx (wName 1) (wC (.int 1))) (wCons (wName 2) wNil)))) wNil)) wNil)))) wNil)))))
abbrev N_union : List Str := ["a", "b"]
def W_union (sp_combined : DSpec) (a_joined_layers : Addr) : WS := (wRet (wUser sp_combined (wCons (wNameF 0) (wCons (wNameF 1) (wCons (wFn (.ref a_joined_layers)) (wCons (wTup (wCons (wC (.bool true)) (wCons (wC (.bool true)) wNil))) wNil))))))
abbrev N_union_of : List Str := ["solids", "rows", "k"]
def W_union_of (sp_union : DSpec) : WS := (wSeq (wSet 1 (wCall oList (wCons (wName 0) wNil))) (wSeq (wWhile (wTest (wBin oGt (wCall oLen (wCons (wName 1) wNil)) (wC (.int 1)))) (wSet 1 (wLc (wRng3 (wCons (wC (.int 0)) (wCons (wCall oLen (wCons (wName 1) wNil)) (wCons (wC (.int 2)) wNil)))) (fName 2) wYes (wIf (wTest (wBin oLt (wBin oAdd (wName 2) (wC (.int 1))) (wCall oLen (wCons (wName 1) wNil)))) (wUser sp_union (wCons (wBin oIx (wName 1) (wName 2)) (wCons (wBin oIx (wName 1) (wBin oAdd (wName 2) (wC (.int 1)))) wNil))) (wBin oIx (wName 1) (wName 2))) [2]))) (wRet (wIf (wTru (wName 1)) (wBin oIx (wName 1) (wC (.int 0))) (wTup wNil)))))
abbrev N__law_cell_at : List Str := ["script", "k"]
def W__law_cell_at : WS := (wSeq (wIfS (wTest (wBin oLt (wName 1) (wCall oLen (wCons (wName 0) wNil)))) (wRet (wBin oIx (wName 0) (wName 1))) wNext) (wRet (wC (.int 0))))
abbrev N__law_draw : List Str := ["cell", "k", "bound", "primes"]
def W__law_draw : WS := (wSeq (wSet 3 (wTup (wCons (wC (.int 1000003)) (wCons (wC (.int 1000033)) (wCons (wC (.int 1000037)) (wCons (wC (.int 1000039)) (wCons (wC (.int 1000081)) (wCons (wC (.int 1000099)) (wCons (wC (.int 1000117)) (wCons (wC (.int 1000121)) (wCons (wC (.int 1000133)) (wCons (wC (.int 1000151)) (wCons (wC (.int 1000159)) (wCons (wC (.int 1000171)) (wCons (wC (.int 1000183)) (wCons (wC (.int 1000187)) (wCons (wC (.int 1000193)) (wCons (wC (.int 1000199)) wNil)))))))))))))))))) (wRet (wBin oMod (wBin oMod (wCall oInt1 (wCons (wBin oAdd (wBin oMul (wName 0) (wC (.int 48271))) (wBin oMul (wName 1) (wC (.int 69621)))) wNil)) (wBin oIx (wName 3) (wBin oMod (wCall oInt1 (wCons (wName 1) wNil)) (wC (.int 16))))) (wName 2))))
abbrev N__law_number : List Str := ["cell", "k", "bound", "power", "lap", "remains", "small"]
def W__law_number (sp__law_draw : DSpec) : WS := (wSeq (wSet 3 (wC (.int 1))) (wSeq (wFor (wRng1 (wCons (wBin oMod (wCall oInt1 (wCons (wName 1) wNil)) (wC (.int 24))) wNil)) (fName 4) (wSet 3 (wBin oMul (wName 3) (wC (.int 1009))))) (wSeq (wSet 5 (wBin oFdivW (wBin oSub (wName 0) (wBin oPow (wC (.int 10)) (wC (.int 18)))) (wName 3))) (wSeq (wIfS (wTest (wBin oGt (wName 5) (wC (.int 0)))) (wRet (wBin oMod (wBin oMod (wCall oInt1 (wCons (wName 5) wNil)) (wC (.int 1009))) (wName 2))) wNext) (wSeq (wSet 6 (wBin oMod (wCall oInt1 (wCons (wName 0) wNil)) (wC (.int 1000003)))) (wRet (wBin oMod (wUser sp__law_draw (wCons (wBin oMul (wBin oAdd (wName 6) (wBin oMul (wC (.int 977)) (wName 1))) (wBin oAdd (wBin oAdd (wName 6) (wBin oMul (wC (.int 31)) (wName 1))) (wC (.int 5)))) (wCons (wBin oAdd (wBin oMod (wCall oInt1 (wCons (wName 1) wNil)) (wC (.int 9))) (wC (.int 1))) (wCons (wC (.int 999983)) wNil)))) (wName 2))))))))
abbrev N__law_next : List Str := ["draw", "bound", "at", "cell"]
def W__law_next (sp__law_cell_at sp__law_number : DSpec) : WS := (wSeq (wPut (wBin oAdd (wBin oIx (wName 0) (wC (.int 2))) (wC (.int 1))) (wName 0) (wC (.int 2))) (wSeq (wSet 2 (wBin oFdiv (wBin oIx (wName 0) (wC (.int 2))) (wC (.int 12)))) (wSeq (wSet 3 (wBin oAdd (wUser sp__law_cell_at (wCons (wBin oIx (wName 0) (wC (.int 0))) (wCons (wBin oAdd (wBin oIx (wName 0) (wC (.int 1))) (wName 2)) wNil))) (wBin oMul (wC (.int 31)) (wName 2)))) (wRet (wUser sp__law_number (wCons (wNameF 3) (wCons (wBin oAdd (wBin oMod (wCall oInt1 (wCons (wBin oIx (wName 0) (wC (.int 2))) wNil)) (wC (.int 12))) (wC (.int 1))) (wCons (wNameF 1) wNil))))))))
abbrev N__law_boxes : List Str := ["draw", "many", "wide", "found", "turn", "low", "axis", "one"]
def W__law_boxes (sp__law_next : DSpec) : WS := (wSeq (wSet 3 (wLst wNil)) (wSeq (wFor (wRng1 (wCons (wUser sp__law_next (wCons (wName 0) (wCons (wNameF 1) wNil))) wNil)) (fName 4) (wSeq (wSet 5 (wCall oTuple (wCons (wLc (wRng1 (wCons (wC (.int 3)) wNil)) (fName 6) wYes (wBin oSub (wUser sp__law_next (wCons (wName 0) (wCons (wNameF 2) wNil))) (wC (.int 1))) [6]) wNil))) (wExpr (wApp (wName 3) (wCons (wTup (wCons (wName 5) (wCons (wCall oTuple (wCons (wLc (wSeqI (wNameF 5)) (fName 7) wYes (wBin oAdd (wBin oAdd (wName 7) (wC (.int 1))) (wUser sp__law_next (wCons (wName 0) (wCons (wC (.int 3)) wNil)))) [7]) wNil)) wNil))) wNil))))) (wRet (wName 3))))
abbrev N__law_solid : List Str := ["boxes", "low", "high"]
def W__law_solid (sp_box sp_union_of : DSpec) : WS := (wRet (wUser sp_union_of (wCons (wLc (wSeqI (wNameF 0)) (fTup 2 (fCons (fName 1) (fCons (fName 2) fNil))) wYes (wUser sp_box (wCons (wNameF 1) (wCons (wNameF 2) wNil))) [1, 2]) wNil)))
abbrev N__law_bent : List Str := ["draw", "solid", "at", "z0", "z1", "layer", "place", "y0", "y1", "row", "kind"]
def W__law_bent (sp__law_next : DSpec) : WS := (wSeq (wSet 2 (wUser sp__law_next (wCons (wName 0) (wCons (wCall oLen (wCons (wName 1) wNil)) wNil)))) (wSeq (wAsg (wBin oIx (wName 1) (wName 2)) (fTup 3 (fCons (fName 3) (fCons (fName 4) (fCons (fName 5) fNil))))) (wSeq (wSet 6 (wUser sp__law_next (wCons (wName 0) (wCons (wCall oLen (wCons (wName 5) wNil)) wNil)))) (wSeq (wAsg (wBin oIx (wName 5) (wName 6)) (fTup 3 (fCons (fName 7) (fCons (fName 8) (fCons (fName 9) fNil))))) (wSeq (wSet 10 (wUser sp__law_next (wCons (wName 0) (wCons (wC (.int 11)) wNil)))) (wSeq (wIfS (wTest (wBin (oEq false) (wName 10) (wC (.int 0)))) (wRet (wBin oCat (wSl (wName 1) wNoPart (wPart (wName 2))) (wSl (wName 1) (wPart (wBin oAdd (wName 2) (wC (.int 1)))) wNoPart))) wNext) (wSeq (wIfS (wTest (wBin (oEq false) (wName 10) (wC (.int 1)))) (wRet (wRev (wName 1))) wNext) (wSeq (wIfS (wTest (wBin (oEq false) (wName 10) (wC (.int 2)))) (wRet (wBin oCat (wBin oCat (wSl (wName 1) wNoPart (wPart (wName 2))) (wTup (wCons (wTup (wCons (wName 3) (wCons (wBin oAdd (wName 4) (wC (.int 1))) (wCons (wName 5) wNil)))) wNil))) (wSl (wName 1) (wPart (wBin oAdd (wName 2) (wC (.int 1)))) wNoPart))) wNext) (wSeq (wIfS (wTest (wBin (oEq false) (wName 10) (wC (.int 3)))) (wRet (wCall oList (wCons (wName 1) wNil))) wNext) (wSeq (wIfS (wTest (wBin (oEq false) (wName 10) (wC (.int 4)))) (wRet (wBin oCat (wBin oCat (wSl (wName 1) wNoPart (wPart (wName 2))) (wTup (wCons (wTup (wCons (wName 3) (wCons (wName 4) (wCons (wTup wNil) wNil)))) wNil))) (wSl (wName 1) (wPart (wBin oAdd (wName 2) (wC (.int 1)))) wNoPart))) wNext) (wSeq (wIfS (wTest (wBin (oEq false) (wName 10) (wC (.int 5)))) (wRet (wBin oCat (wBin oCat (wSl (wName 1) wNoPart (wPart (wName 2))) (wTup (wCons (wTup (wCons (wName 4) (wCons (wName 3) (wCons (wName 5) wNil)))) wNil))) (wSl (wName 1) (wPart (wBin oAdd (wName 2) (wC (.int 1)))) wNoPart))) wNext) (wSeq (wIfS (wTest (wBin (oEq false) (wName 10) (wC (.int 6)))) (wSet 9 (wBin oCat (wName 9) (wTup (wCons (wTup (wCons (wBin oIx (wBin oIx (wName 9) (wNeg (wC (.int 1)))) (wC (.int 1))) (wCons (wBin oAdd (wBin oIx (wBin oIx (wName 9) (wNeg (wC (.int 1)))) (wC (.int 1))) (wC (.int 1))) wNil))) wNil)))) (wIfS (wTest (wBin (oEq false) (wName 10) (wC (.int 7)))) (wSet 9 (wBin oCat (wTup (wCons (wTup (wCons (wBin oIx (wBin oIx (wName 9) (wC (.int 0))) (wC (.int 0))) (wCons (wC (.bool true)) wNil))) wNil)) (wSl (wName 9) (wPart (wC (.int 1))) wNoPart))) (wIfS (wTest (wBin (oEq false) (wName 10) (wC (.int 8)))) (wSet 9 (wRev (wName 9))) (wIfS (wTest (wBin (oEq false) (wName 10) (wC (.int 9)))) (wSet 8 (wBin oAdd (wName 8) (wC (.int 1)))) (wSet 9 (wTup wNil)))))) (wRet (wBin oCat (wBin oCat (wSl (wName 1) wNoPart (wPart (wName 2))) (wTup (wCons (wTup (wCons (wName 3) (wCons (wName 4) (wCons (wBin oCat (wBin oCat (wSl (wName 5) wNoPart (wPart (wName 6))) (wTup (wCons (wTup (wCons (wName 7) (wCons (wName 8) (wCons (wName 9) wNil)))) wNil))) (wSl (wName 5) (wPart (wBin oAdd (wName 6) (wC (.int 1)))) wNoPart)) wNil)))) wNil))) (wSl (wName 1) (wPart (wBin oAdd (wName 2) (wC (.int 1)))) wNoPart)))))))))))))))
abbrev N__law_is_plain : List Str := ["thing", "one", "two", "pair"]
def W__law_is_plain : WS := (wSeq (wIfS (wNot (wTru (wIsi "tuple" (wName 0)))) (wRet (wC (.bool false))) wNext) (wSeq (wFor (wSeqI (wNameF 0)) (fName 1) (wSeq (wIfS (wOr (wNot (wTru (wIsi "tuple" (wName 1)))) (wOr (wTest (wBin (oEq true) (wCall oLen (wCons (wName 1) wNil)) (wC (.int 3)))) (wOr (wNot (wTru (wIsi "tuple" (wBin oIx (wName 1) (wC (.int 2)))))) (wTest (wBin oGe (wBin oIx (wName 1) (wC (.int 0))) (wBin oIx (wName 1) (wC (.int 1)))))))) (wRet (wC (.bool false))) wNext) (wFor (wSeqI (wBin oIx (wName 1) (wC (.int 2)))) (fName 2) (wSeq (wIfS (wOr (wNot (wTru (wIsi "tuple" (wName 2)))) (wOr (wTest (wBin (oEq true) (wCall oLen (wCons (wName 2) wNil)) (wC (.int 3)))) (wOr (wNot (wTru (wIsi "tuple" (wBin oIx (wName 2) (wC (.int 2)))))) (wTest (wBin oGe (wBin oIx (wName 2) (wC (.int 0))) (wBin oIx (wName 2) (wC (.int 1)))))))) (wRet (wC (.bool false))) wNext) (wFor (wSeqI (wBin oIx (wName 2) (wC (.int 2)))) (fName 3) (wIfS (wOr (wTru (wIsi "bool" (wBin oIx (wName 3) (wC (.int 0))))) (wOr (wTru (wIsi "bool" (wBin oIx (wName 3) (wC (.int 1))))) (wTest (wBin oGe (wBin oIx (wName 3) (wC (.int 0))) (wBin oIx (wName 3) (wC (.int 1))))))) (wRet (wC (.bool false))) wNext)))))) (wRet (wC (.bool true)))))
abbrev N__law_inside : List Str := ["thing", "found", "z0", "z1", "layer", "y0", "y1", "row", "x0", "x1"]
def W__law_inside : WS := (wSeq (wSet 1 (wLst wNil)) (wSeq (wFor (wSeqI (wNameF 0)) (fTup 3 (fCons (fName 2) (fCons (fName 3) (fCons (fName 4) fNil)))) (wFor (wSeqI (wNameF 4)) (fTup 3 (fCons (fName 5) (fCons (fName 6) (fCons (fName 7) fNil)))) (wSet 1 (wBin oCatLs (wName 1) (wLc (wSeqI (wNameF 7)) (fTup 2 (fCons (fName 8) (fCons (fName 9) fNil))) wYes (wTup (wCons (wTup (wCons (wName 8) (wCons (wName 5) (wCons (wName 2) wNil)))) (wCons (wTup (wCons (wName 9) (wCons (wName 6) (wCons (wName 3) wNil)))) wNil))) [8, 9]))))) (wRet (wName 1))))
abbrev N_law : List Str := ["script", "draw", "boxes", "solid", "turn", "late", "due"]
def W_law (sp_is_solid sp__law_boxes sp__law_solid sp__law_bent sp__law_is_plain sp__law_inside : DSpec) : WS := (wSeq (wSet 1 (wLst (wCons (wSl (wName 0) wNoPart (wPart (wC (.int 63)))) (wCons (wC (.int 0)) (wCons (wC (.int 0)) wNil))))) (wSeq (wSet 2 (wUser sp__law_boxes (wCons (wName 1) (wCons (wC (.int 5)) (wCons (wC (.int 5)) wNil))))) (wSeq (wSet 3 (wUser sp__law_solid (wCons (wNameF 2) wNil))) (wSeq (wIfS (wOr (wNot (wTru (wUser sp_is_solid (wCons (wNameF 3) wNil)))) (wOr (wNot (wTru (wUser sp_is_solid (wCons (wTup wNil) wNil)))) (wOr (wTru (wUser sp_is_solid (wCons (wC .none) wNil))) (wOr (wTru (wUser sp_is_solid (wCons (wC (.int 3)) wNil))) (wOr (wTru (wUser sp_is_solid (wCons (wLst wNil) wNil))) (wTru (wUser sp_is_solid (wCons (wTup (wCons (wTup (wCons (wC (.int 0)) (wCons (wC (.int 1)) (wCons (wTup wNil) wNil)))) wNil)) wNil)))))))) (wRet (wC (.bool false))) wNext) (wSeq (wIfS (wTest (wBin (oEq false) (wName 3) (wTup wNil))) (wRet (wC (.bool true))) wNext) (wSeq (wFor (wRng1 (wCons (wC (.int 6)) wNil)) (fName 4) (wSeq (wSet 5 (wUser sp__law_bent (wCons (wName 1) (wCons (wNameF 3) wNil)))) (wSeq (wSet 6 (wAndV (wUser sp__law_is_plain (wCons (wNameF 5) wNil)) (wBin (oEq false) (wUser sp__law_solid (wCons (wUser sp__law_inside (wCons (wNameF 5) wNil)) wNil)) (wName 5)))) (wIfS (wTest (wBin (oEq true) (wUser sp_is_solid (wCons (wNameF 5) wNil)) (wName 6))) (wRet (wC (.bool false))) wNext)))) (wRet (wC (.bool true)))))))))
end K5
end
section
set_option Elab.async false
set_option linter.all false
set_option maxRecDepth 100000
set_option maxHeartbeats 2000000
namespace K5
open PySem L2 DL
def topS (i : Nat) : Stmt := PySem.Challenge.pw_shopwhole_k05_forms_of_solids.main.body.getD i (.Pass ⟨0, 0, 0, 0⟩)
/-! first_ending_beyond -/
abbrev st_first_ending_beyond : Stmt := topS 1
theorem sc_first_ending_beyond : FnScope N_first_ending_beyond ["stretches", "number"] (defScope st_first_ending_beyond) := ⟨rfl, rfl, rfl, by decide +kernel, rfl, by decide +kernel, by decide +kernel⟩
theorem dv_first_ending_beyond {P : Program} {w : World} {K : PySem.W.Frag} {mg : Str → Option Value} {base : Heap} {k : Nat} {f : Addr} {cdv : Value} {A : Around} {outer : List Env} {s : Shared} {H : Hp} (m_len : mg "len" = none) (hr : Room k (cxOf CX0 P w K mg base N_first_ending_beyond "first_ending_beyond" (defScope st_first_ending_beyond) f cdv A outer s H E0).nox.A) : ∃ t, XSs (cxOf CX0 P w K mg base N_first_ending_beyond "first_ending_beyond" (defScope st_first_ending_beyond) f cdv A outer s H E0).nox (defBody st_first_ending_beyond) t (W_first_ending_beyond) :=
  ⟨_, (xss_cons (xs_par (i := 2) (j := 3) rfl sc_first_ending_beyond.nd rfl rfl (by decide) rfl rfl (xa_cons xe_int (xa_cons (xe_callB xc_len (by rfl) m_len (by decide +kernel) (xa_cons (xe_name (pv 0)) xa_nil)) xa_nil)) (by rfl)) (xss_cons (xs_while PassesOwn.never (xt_cmp xo_lt (xe_name (pv 2)) (xe_name (pv 3)) (nomark _)) (xss_cons (xs_set (i := 4) sc_first_ending_beyond.nd rfl (Or.inl rfl) (xe_op xo_fdiv (xe_op xo_add (xe_name (pv 2)) (xe_name (pv 3))) xe_int)) (xss_one (xs_if (xt_cmp xo_gt (xe_ix (xe_ix (xe_name (pv 0)) (xe_name (pv 4)) (fun _ _ => rfl)) xe_int (fun _ _ => rfl)) (xe_name (pv 1)) (nomark _)) (xss_one (xs_set (i := 3) sc_first_ending_beyond.nd rfl (Or.inl rfl) (xe_name (pv 4)))) (xss_one (xs_set (i := 2) sc_first_ending_beyond.nd rfl (Or.inl rfl) (xe_op xo_add (xe_name (pv 4)) xe_int))))))) (xss_one (xs_ret (xe_name (pv 2))))))⟩
theorem ok_first_ending_beyond {P : Program} {w : World} {K : PySem.W.Frag} {mg : Str → Option Value} {base : Heap} {k : Nat} {f : Addr} {fd : FuncData} {sp : DSpec} (m_len : mg "len" = none) (F : Fun K "first_ending_beyond" "first_ending_beyond" st_first_ending_beyond f fd) (hl : ∀ ds K', sp ds K' → ds.length = 2) (hw : ∀ ds K', sp ds K' → W_first_ending_beyond { nx := fun ρ => K' (.dat .none) (outsOf ds ρ), rt := fun r ρ => K' r (outsOf ds ρ) } (startD N_first_ending_beyond ds)) : FnOk P w K mg base CX0 (k + 1) f fd ["stretches", "number"] (spD K sp) :=
  fn_data F sc_first_ending_beyond hl fun cdv A outer s H hr => by
    obtain ⟨t, h⟩ := dv_first_ending_beyond (f := f) (cdv := cdv) (A := A) (outer := outer) (s := s) (H := H) m_len hr
    exact ⟨t, _, h, hw⟩
/-! first_beginning_from -/
abbrev st_first_beginning_from : Stmt := topS 2
theorem sc_first_beginning_from : FnScope N_first_beginning_from ["stretches", "number"] (defScope st_first_beginning_from) := ⟨rfl, rfl, rfl, by decide +kernel, rfl, by decide +kernel, by decide +kernel⟩
theorem dv_first_beginning_from {P : Program} {w : World} {K : PySem.W.Frag} {mg : Str → Option Value} {base : Heap} {k : Nat} {f : Addr} {cdv : Value} {A : Around} {outer : List Env} {s : Shared} {H : Hp} (m_len : mg "len" = none) (hr : Room k (cxOf CX0 P w K mg base N_first_beginning_from "first_beginning_from" (defScope st_first_beginning_from) f cdv A outer s H E0).nox.A) : ∃ t, XSs (cxOf CX0 P w K mg base N_first_beginning_from "first_beginning_from" (defScope st_first_beginning_from) f cdv A outer s H E0).nox (defBody st_first_beginning_from) t (W_first_beginning_from) :=
  ⟨_, (xss_cons (xs_par (i := 2) (j := 3) rfl sc_first_beginning_from.nd rfl rfl (by decide) rfl rfl (xa_cons xe_int (xa_cons (xe_callB xc_len (by rfl) m_len (by decide +kernel) (xa_cons (xe_name (pv 0)) xa_nil)) xa_nil)) (by rfl)) (xss_cons (xs_while PassesOwn.never (xt_cmp xo_lt (xe_name (pv 2)) (xe_name (pv 3)) (nomark _)) (xss_cons (xs_set (i := 4) sc_first_beginning_from.nd rfl (Or.inl rfl) (xe_op xo_fdiv (xe_op xo_add (xe_name (pv 2)) (xe_name (pv 3))) xe_int)) (xss_one (xs_if (xt_cmp xo_ge (xe_ix (xe_ix (xe_name (pv 0)) (xe_name (pv 4)) (fun _ _ => rfl)) xe_int (fun _ _ => rfl)) (xe_name (pv 1)) (nomark _)) (xss_one (xs_set (i := 3) sc_first_beginning_from.nd rfl (Or.inl rfl) (xe_name (pv 4)))) (xss_one (xs_set (i := 2) sc_first_beginning_from.nd rfl (Or.inl rfl) (xe_op xo_add (xe_name (pv 4)) xe_int))))))) (xss_one (xs_ret (xe_name (pv 2))))))⟩
theorem ok_first_beginning_from {P : Program} {w : World} {K : PySem.W.Frag} {mg : Str → Option Value} {base : Heap} {k : Nat} {f : Addr} {fd : FuncData} {sp : DSpec} (m_len : mg "len" = none) (F : Fun K "first_beginning_from" "first_beginning_from" st_first_beginning_from f fd) (hl : ∀ ds K', sp ds K' → ds.length = 2) (hw : ∀ ds K', sp ds K' → W_first_beginning_from { nx := fun ρ => K' (.dat .none) (outsOf ds ρ), rt := fun r ρ => K' r (outsOf ds ρ) } (startD N_first_beginning_from ds)) : FnOk P w K mg base CX0 (k + 1) f fd ["stretches", "number"] (spD K sp) :=
  fn_data F sc_first_beginning_from hl fun cdv A outer s H hr => by
    obtain ⟨t, h⟩ := dv_first_beginning_from (f := f) (cdv := cdv) (A := A) (outer := outer) (s := s) (H := H) m_len hr
    exact ⟨t, _, h, hw⟩
/-! merged -/
abbrev st_merged : Stmt := topS 3
theorem sc_merged : FnScope N_merged ["stretches"] (defScope st_merged) := ⟨rfl, rfl, rfl, by decide +kernel, rfl, by decide +kernel, by decide +kernel⟩
theorem dv_merged {P : Program} {w : World} {K : PySem.W.Frag} {mg : Str → Option Value} {base : Heap} {k : Nat} {f : Addr} {cdv : Value} {A : Around} {outer : List Env} {s : Shared} {H : Hp} (m_tuple : mg "tuple" = none) (hr : Room k (cxOf CX0 P w K mg base N_merged "merged" (defScope st_merged) f cdv A outer s H E0).nox.A) : ∃ t, XSs (cxOf CX0 P w K mg base N_merged "merged" (defScope st_merged) f cdv A outer s H E0).nox (defBody st_merged) t (W_merged) :=
  ⟨_, (xss_cons (xs_set (i := 1) sc_merged.nd rfl (Or.inl rfl) (xe_lst xa_nil)) (xss_cons (xs_asg (xe_ix (xe_name (pv 0)) xe_int (fun _ _ => rfl)) (xg_tup rfl (xgs_cons (xg_name (i := 2) sc_merged.nd rfl (Or.inl rfl)) (xgs_cons (xg_name (i := 3) sc_merged.nd rfl (Or.inl rfl)) xgs_nil)))) (xss_cons (xs_for PassesOwn.never rfl (xi_seq (xe_sl (xe_name (pv 0)) (xp_some xe_int) xp_none)) (xg_tup rfl (xgs_cons (xg_name (i := 4) sc_merged.nd rfl (Or.inl rfl)) (xgs_cons (xg_name (i := 5) sc_merged.nd rfl (Or.inl rfl)) xgs_nil))) (xss_one (xs_if (xt_cmp xo_gt (xe_name (pv 4)) (xe_name (pv 3)) (nomark _)) (xss_cons (xs_expr (xe_append (xe_name (pv 1)) (xa_cons (xe_tup (xa_cons (xe_name (pv 2)) (xa_cons (xe_name (pv 3)) xa_nil))) xa_nil))) (xss_one (xs_par (i := 2) (j := 3) rfl sc_merged.nd rfl rfl (by decide) rfl rfl (xa_cons (xe_name (pv 4)) (xa_cons (xe_name (pv 5)) xa_nil)) (by rfl)))) (xss_one (xs_if (xt_cmp xo_gt (xe_name (pv 5)) (xe_name (pv 3)) (nomark _)) (xss_one (xs_set (i := 3) sc_merged.nd rfl (Or.inl rfl) (xe_name (pv 5)))) xss_nil))))) (xss_cons (xs_expr (xe_append (xe_name (pv 1)) (xa_cons (xe_tup (xa_cons (xe_name (pv 2)) (xa_cons (xe_name (pv 3)) xa_nil))) xa_nil))) (xss_one (xs_ret (xe_callTy xc_tuple (by rfl) m_tuple (by decide +kernel) (xa_cons (xe_name (pv 1)) xa_nil))))))))⟩
theorem ok_merged {P : Program} {w : World} {K : PySem.W.Frag} {mg : Str → Option Value} {base : Heap} {k : Nat} {f : Addr} {fd : FuncData} {sp : DSpec} (m_tuple : mg "tuple" = none) (F : Fun K "merged" "merged" st_merged f fd) (hl : ∀ ds K', sp ds K' → ds.length = 1) (hw : ∀ ds K', sp ds K' → W_merged { nx := fun ρ => K' (.dat .none) (outsOf ds ρ), rt := fun r ρ => K' r (outsOf ds ρ) } (startD N_merged ds)) : FnOk P w K mg base CX0 (k + 1) f fd ["stretches"] (spD K sp) :=
  fn_data F sc_merged hl fun cdv A outer s H hr => by
    obtain ⟨t, h⟩ := dv_merged (f := f) (cdv := cdv) (A := A) (outer := outer) (s := s) (H := H) m_tuple hr
    exact ⟨t, _, h, hw⟩
/-! joined_rows -/
abbrev st_joined_rows : Stmt := topS 4
theorem sc_joined_rows : FnScope N_joined_rows ["a", "b"] (defScope st_joined_rows) := ⟨rfl, rfl, rfl, by decide +kernel, rfl, by decide +kernel, by decide +kernel⟩
theorem dv_joined_rows {P : Program} {w : World} {K : PySem.W.Frag} {mg : Str → Option Value} {base : Heap} {k : Nat} {f : Addr} {cdv : Value} {A : Around} {outer : List Env} {s : Shared} {H : Hp} (sp_merged : DSpec) (m_sorted : mg "sorted" = none) (c_merged : Cal P w K mg base k "merged" sp_merged) (hr : Room k (cxOf CX0 P w K mg base N_joined_rows "joined_rows" (defScope st_joined_rows) f cdv A outer s H E0).nox.A) : ∃ t, XSs (cxOf CX0 P w K mg base N_joined_rows "joined_rows" (defScope st_joined_rows) f cdv A outer s H E0).nox (defBody st_joined_rows) t (W_joined_rows sp_merged) :=
  ⟨_, (xss_cons (xs_if (xt_cmp (xo_eq (Room.units (by exact hr))) (xe_name (pv 0)) (xe_name (pv 1)) (nomark _)) (xss_one (xs_ret (xe_name (pv 0)))) xss_nil) (xss_cons (xs_if (xt_cmp xo_lt (xe_ix (xe_ix (xe_name (pv 0)) (xe_neg xe_int) (fun _ _ => rfl)) xe_int (fun _ _ => rfl)) (xe_ix (xe_ix (xe_name (pv 1)) xe_int (fun _ _ => rfl)) xe_int (fun _ _ => rfl)) (nomark _)) (xss_one (xs_ret (xe_op xo_catT (xe_name (pv 0)) (xe_name (pv 1))))) xss_nil) (xss_cons (xs_if (xt_cmp xo_lt (xe_ix (xe_ix (xe_name (pv 1)) (xe_neg xe_int) (fun _ _ => rfl)) xe_int (fun _ _ => rfl)) (xe_ix (xe_ix (xe_name (pv 0)) xe_int (fun _ _ => rfl)) xe_int (fun _ _ => rfl)) (nomark _)) (xss_one (xs_ret (xe_op xo_catT (xe_name (pv 1)) (xe_name (pv 0))))) xss_nil) (xss_one (xs_ret (xe_callc c_merged (by exact hr) (Nat.le_refl _) (by rfl) (xa_cons (xe_callB (xc_sorted (Room.units (by exact hr))) (by rfl) m_sorted (by decide +kernel) (xa_cons (xe_tup (xa_star (xe_name (pv 0)) (xa_star (xe_name (pv 1)) xa_nil))) xa_nil)) xa_nil)))))))⟩
theorem ok_joined_rows {P : Program} {w : World} {K : PySem.W.Frag} {mg : Str → Option Value} {base : Heap} {k : Nat} {f : Addr} {fd : FuncData} {sp : DSpec} (sp_merged : DSpec) (m_sorted : mg "sorted" = none) (c_merged : Cal P w K mg base k "merged" sp_merged) (F : Fun K "joined_rows" "joined_rows" st_joined_rows f fd) (hl : ∀ ds K', sp ds K' → ds.length = 2) (hw : ∀ ds K', sp ds K' → W_joined_rows sp_merged { nx := fun ρ => K' (.dat .none) (outsOf ds ρ), rt := fun r ρ => K' r (outsOf ds ρ) } (startD N_joined_rows ds)) : FnOk P w K mg base CX0 (k + 1) f fd ["a", "b"] (spD K sp) :=
  fn_data F sc_joined_rows hl fun cdv A outer s H hr => by
    obtain ⟨t, h⟩ := dv_joined_rows (f := f) (cdv := cdv) (A := A) (outer := outer) (s := s) (H := H) sp_merged m_sorted c_merged hr
    exact ⟨t, _, h, hw⟩
/-! put -/
abbrev st_put : Stmt := topS 5
theorem sc_put : FnScope N_put ["out", "low", "high", "inside"] (defScope st_put) := ⟨rfl, rfl, rfl, by decide +kernel, rfl, by decide +kernel, by decide +kernel⟩
theorem dv_put {P : Program} {w : World} {K : PySem.W.Frag} {mg : Str → Option Value} {base : Heap} {k : Nat} {f : Addr} {cdv : Value} {A : Around} {outer : List Env} {s : Shared} {H : Hp} (hr : Room k (cxOf CX0 P w K mg base N_put "put" (defScope st_put) f cdv A outer s H E0).nox.A) : ∃ t, XSs (cxOf CX0 P w K mg base N_put "put" (defScope st_put) f cdv A outer s H E0).nox (defBody st_put) t (W_put) :=
  ⟨_, (xss_cons (xs_if (xt_not (xt_tru (xe_name (pv 3)))) (xss_one xs_retN) xss_nil) (xss_one (xs_if (xw_and (xt_tru (xe_name (pv 0))) (xw_and (xt_cmp (xo_eq (Room.units (by exact hr))) (xe_ix (xe_ix (xe_name (pv 0)) (xe_neg xe_int) (fun _ _ => rfl)) xe_int (fun _ _ => rfl)) (xe_name (pv 1)) (nomark _)) (xw_and1 (xt_cmp (xo_eq (Room.units (by exact hr))) (xe_ix (xe_ix (xe_name (pv 0)) (xe_neg xe_int) (fun _ _ => rfl)) xe_int (fun _ _ => rfl)) (xe_name (pv 3)) (nomark _))))).xt (xss_one (xs_put (xe_tup (xa_cons (xe_ix (xe_ix (xe_name (pv 0)) (xe_neg xe_int) (fun _ _ => rfl)) xe_int (fun _ _ => rfl)) (xa_cons (xe_name (pv 2)) (xa_cons (xe_name (pv 3)) xa_nil)))) (xe_name (pv 0)) (xe_neg xe_int))) (xss_one (xs_expr (xe_append (xe_name (pv 0)) (xa_cons (xe_tup (xa_cons (xe_name (pv 1)) (xa_cons (xe_name (pv 2)) (xa_cons (xe_name (pv 3)) xa_nil)))) xa_nil)))))))⟩
theorem ok_put {P : Program} {w : World} {K : PySem.W.Frag} {mg : Str → Option Value} {base : Heap} {k : Nat} {f : Addr} {fd : FuncData} {sp : DSpec} (F : Fun K "put" "put" st_put f fd) (hl : ∀ ds K', sp ds K' → ds.length = 4) (hw : ∀ ds K', sp ds K' → W_put { nx := fun ρ => K' (.dat .none) (outsOf ds ρ), rt := fun r ρ => K' r (outsOf ds ρ) } (startD N_put ds)) : FnOk P w K mg base CX0 (k + 1) f fd ["out", "low", "high", "inside"] (spD K sp) :=
  fn_data F sc_put hl fun cdv A outer s H hr => by
    obtain ⟨t, h⟩ := dv_put (f := f) (cdv := cdv) (A := A) (outer := outer) (s := s) (H := H) hr
    exact ⟨t, _, h, hw⟩
/-! put_all -/
abbrev st_put_all : Stmt := topS 6
theorem sc_put_all : FnScope N_put_all ["out", "slabs", "begin"] (defScope st_put_all) := ⟨rfl, rfl, rfl, by decide +kernel, rfl, by decide +kernel, by decide +kernel⟩
theorem dv_put_all {P : Program} {w : World} {K : PySem.W.Frag} {mg : Str → Option Value} {base : Heap} {k : Nat} {f : Addr} {cdv : Value} {A : Around} {outer : List Env} {s : Shared} {H : Hp} (sp_put : DSpec) (m_max : mg "max" = none) (c_put : Cal P w K mg base k "put" sp_put) (hr : Room k (cxOf CX0 P w K mg base N_put_all "put_all" (defScope st_put_all) f cdv A outer s H E0).nox.A) : ∃ t, XSs (cxOf CX0 P w K mg base N_put_all "put_all" (defScope st_put_all) f cdv A outer s H E0).nox (defBody st_put_all) t (W_put_all sp_put) :=
  ⟨_, (xss_cons (xs_for PassesOwn.never rfl (xi_seq (xe_sl (xe_name (pv 1)) xp_none (xp_some xe_int))) (xg_tup rfl (xgs_cons (xg_name (i := 3) sc_put_all.nd rfl (Or.inl rfl)) (xgs_cons (xg_name (i := 4) sc_put_all.nd rfl (Or.inl rfl)) (xgs_cons (xg_name (i := 5) sc_put_all.nd rfl (Or.inl rfl)) xgs_nil)))) (xss_one (xs_expr (xe_callc c_put (by exact hr) (Nat.le_refl _) (by rfl) (xa_cons (xe_name (pv 0)) (xa_cons (xe_callB xc_max2 (by rfl) m_max (by decide +kernel) (xa_cons (xe_name (pv 3)) (xa_cons (xe_name (pv 2)) xa_nil))) (xa_cons (xe_nameF (pv 4)) (xa_cons (xe_nameF (pv 5)) xa_nil)))))))) (xss_one (xs_expr (xe_extend (xe_name (pv 0)) (xa_cons (xe_sl (xe_name (pv 1)) (xp_some xe_int) xp_none) xa_nil)))))⟩
theorem ok_put_all {P : Program} {w : World} {K : PySem.W.Frag} {mg : Str → Option Value} {base : Heap} {k : Nat} {f : Addr} {fd : FuncData} {sp : DSpec} (sp_put : DSpec) (m_max : mg "max" = none) (c_put : Cal P w K mg base k "put" sp_put) (F : Fun K "put_all" "put_all" st_put_all f fd) (hl : ∀ ds K', sp ds K' → ds.length = 3) (hw : ∀ ds K', sp ds K' → W_put_all sp_put { nx := fun ρ => K' (.dat .none) (outsOf ds ρ), rt := fun r ρ => K' r (outsOf ds ρ) } (startD N_put_all ds)) : FnOk P w K mg base CX0 (k + 1) f fd ["out", "slabs", "begin"] (spD K sp) :=
  fn_data F sc_put_all hl fun cdv A outer s H hr => by
    obtain ⟨t, h⟩ := dv_put_all (f := f) (cdv := cdv) (A := A) (outer := outer) (s := s) (H := H) sp_put m_max c_put hr
    exact ⟨t, _, h, hw⟩
/-! lay_over -/
abbrev st_lay_over : Stmt := topS 7
theorem sc_lay_over : FnScope N_lay_over ["out", "a", "b", "rule", "keeps"] (defScope st_lay_over) := ⟨rfl, rfl, rfl, by decide +kernel, rfl, by decide +kernel, by decide +kernel⟩
theorem dv_lay_over {P : Program} {w : World} {K : PySem.W.Frag} {mg : Str → Option Value} {base : Heap} {k : Nat} {f : Addr} {cdv : Value} {A : Around} {outer : List Env} {s : Shared} {H : Hp} (sp_put sp_put_all : DSpec) (S : Addr → Option DSpec) (m_len : mg "len" = none) (m_max : mg "max" = none) (m_min : mg "min" = none) (c_put : Cal P w K mg base k "put" sp_put) (c_put_all : Cal P w K mg base k "put_all" sp_put_all) (hS : ∀ f sp, S f = some sp → Held P w K mg base k f (spD K sp)) (hr : Room k (cxOf CX0 P w K mg base N_lay_over "lay_over" (defScope st_lay_over) f cdv A outer s H E0).nox.A) : ∃ t, XSs (cxOf CX0 P w K mg base N_lay_over "lay_over" (defScope st_lay_over) f cdv A outer s H E0).nox (defBody st_lay_over) t (W_lay_over sp_put sp_put_all S) :=
  ⟨_, (xss_cons (xs_asg (xe_tup (xa_cons xe_int (xa_cons xe_int xa_nil))) (xg_tup rfl (xgs_cons (xg_name (i := 5) sc_lay_over.nd rfl (Or.inl rfl)) (xgs_cons (xg_name (i := 6) sc_lay_over.nd rfl (Or.inl rfl)) xgs_nil)))) (xss_cons (xs_set (i := 7) sc_lay_over.nd rfl (Or.inl rfl) (xe_callB xc_min2 (by rfl) m_min (by decide +kernel) (xa_cons (xe_ix (xe_ix (xe_name (pv 1)) xe_int (fun _ _ => rfl)) xe_int (fun _ _ => rfl)) (xa_cons (xe_ix (xe_ix (xe_name (pv 2)) xe_int (fun _ _ => rfl)) xe_int (fun _ _ => rfl)) xa_nil)))) (xss_cons (xs_while PassesOwn.never (xw_and (xt_cmp xo_lt (xe_name (pv 5)) (xe_callB xc_len (by rfl) m_len (by decide +kernel) (xa_cons (xe_name (pv 1)) xa_nil)) (nomark _)) (xw_and1 (xt_cmp xo_lt (xe_name (pv 6)) (xe_callB xc_len (by rfl) m_len (by decide +kernel) (xa_cons (xe_name (pv 2)) xa_nil)) (nomark _)))).xt (xss_cons (xs_asg (xe_ix (xe_name (pv 1)) (xe_name (pv 5)) (fun _ _ => rfl)) (xg_tup rfl (xgs_cons (xg_name (i := 8) sc_lay_over.nd rfl (Or.inl rfl)) (xgs_cons (xg_name (i := 9) sc_lay_over.nd rfl (Or.inl rfl)) (xgs_cons (xg_name (i := 10) sc_lay_over.nd rfl (Or.inl rfl)) xgs_nil))))) (xss_cons (xs_asg (xe_ix (xe_name (pv 2)) (xe_name (pv 6)) (fun _ _ => rfl)) (xg_tup rfl (xgs_cons (xg_name (i := 11) sc_lay_over.nd rfl (Or.inl rfl)) (xgs_cons (xg_name (i := 12) sc_lay_over.nd rfl (Or.inl rfl)) (xgs_cons (xg_name (i := 13) sc_lay_over.nd rfl (Or.inl rfl)) xgs_nil))))) (xss_cons (xs_par (i := 8) (j := 11) rfl sc_lay_over.nd rfl rfl (by decide) rfl rfl (xa_cons (xe_callB xc_max2 (by rfl) m_max (by decide +kernel) (xa_cons (xe_name (pv 8)) (xa_cons (xe_name (pv 7)) xa_nil))) (xa_cons (xe_callB xc_max2 (by rfl) m_max (by decide +kernel) (xa_cons (xe_name (pv 11)) (xa_cons (xe_name (pv 7)) xa_nil))) xa_nil)) (by rfl)) (xss_cons (xs_if (xt_cmp xo_lt (xe_name (pv 8)) (xe_name (pv 11)) (nomark _)) (xss_cons (xs_set (i := 7) sc_lay_over.nd rfl (Or.inl rfl) (xe_callB xc_min2 (by rfl) m_min (by decide +kernel) (xa_cons (xe_name (pv 9)) (xa_cons (xe_name (pv 11)) xa_nil)))) (xss_one (xs_if (xt_tru (xe_ix (xe_name (pv 4)) xe_int (fun _ _ => rfl))) (xss_one (xs_expr (xe_callc c_put (by exact hr) (Nat.le_refl _) (by rfl) (xa_cons (xe_name (pv 0)) (xa_cons (xe_nameF (pv 8)) (xa_cons (xe_nameF (pv 7)) (xa_cons (xe_nameF (pv 10)) xa_nil))))))) xss_nil))) (xss_one (xs_if (xt_cmp xo_lt (xe_name (pv 11)) (xe_name (pv 8)) (nomark _)) (xss_cons (xs_set (i := 7) sc_lay_over.nd rfl (Or.inl rfl) (xe_callB xc_min2 (by rfl) m_min (by decide +kernel) (xa_cons (xe_name (pv 12)) (xa_cons (xe_name (pv 8)) xa_nil)))) (xss_one (xs_if (xt_tru (xe_ix (xe_name (pv 4)) xe_int (fun _ _ => rfl))) (xss_one (xs_expr (xe_callc c_put (by exact hr) (Nat.le_refl _) (by rfl) (xa_cons (xe_name (pv 0)) (xa_cons (xe_nameF (pv 11)) (xa_cons (xe_nameF (pv 7)) (xa_cons (xe_nameF (pv 13)) xa_nil))))))) xss_nil))) (xss_cons (xs_set (i := 7) sc_lay_over.nd rfl (Or.inl rfl) (xe_callB xc_min2 (by rfl) m_min (by decide +kernel) (xa_cons (xe_name (pv 9)) (xa_cons (xe_name (pv 12)) xa_nil)))) (xss_one (xs_expr (xe_callc c_put (by exact hr) (Nat.le_refl _) (by rfl) (xa_cons (xe_name (pv 0)) (xa_cons (xe_nameF (pv 8)) (xa_cons (xe_nameF (pv 7)) (xa_cons (xe_callL hS (by exact hr) rfl (Or.inl rfl) (xa_cons (xe_name (pv 10)) (xa_cons (xe_name (pv 13)) xa_nil))) xa_nil))))))))))) (xss_cons (xs_if (xt_cmp xo_le (xe_name (pv 9)) (xe_name (pv 7)) (nomark _)) (xss_one (xs_augI (i := 5) sc_lay_over.nd rfl (Or.inl rfl) xe_int ip_add)) xss_nil) (xss_one (xs_if (xt_cmp xo_le (xe_name (pv 12)) (xe_name (pv 7)) (nomark _)) (xss_one (xs_augI (i := 6) sc_lay_over.nd rfl (Or.inl rfl) xe_int ip_add)) xss_nil)))))))) (xss_cons (xs_if (xt_tru (xe_ix (xe_name (pv 4)) xe_int (fun _ _ => rfl))) (xss_one (xs_expr (xe_callc c_put_all (by exact hr) (Nat.le_refl _) (by rfl) (xa_cons (xe_name (pv 0)) (xa_cons (xe_sl (xe_name (pv 1)) (xp_some (xe_name (pv 5))) xp_none) (xa_cons (xe_nameF (pv 7)) xa_nil)))))) xss_nil) (xss_one (xs_if (xt_tru (xe_ix (xe_name (pv 4)) xe_int (fun _ _ => rfl))) (xss_one (xs_expr (xe_callc c_put_all (by exact hr) (Nat.le_refl _) (by rfl) (xa_cons (xe_name (pv 0)) (xa_cons (xe_sl (xe_name (pv 2)) (xp_some (xe_name (pv 6))) xp_none) (xa_cons (xe_nameF (pv 7)) xa_nil)))))) xss_nil))))))⟩
theorem ok_lay_over {P : Program} {w : World} {K : PySem.W.Frag} {mg : Str → Option Value} {base : Heap} {k : Nat} {f : Addr} {fd : FuncData} {sp : DSpec} (sp_put sp_put_all : DSpec) (S : Addr → Option DSpec) (m_len : mg "len" = none) (m_max : mg "max" = none) (m_min : mg "min" = none) (c_put : Cal P w K mg base k "put" sp_put) (c_put_all : Cal P w K mg base k "put_all" sp_put_all) (hS : ∀ f sp, S f = some sp → Held P w K mg base k f (spD K sp)) (F : Fun K "lay_over" "lay_over" st_lay_over f fd) (hl : ∀ ds K', sp ds K' → ds.length = 5) (hw : ∀ ds K', sp ds K' → W_lay_over sp_put sp_put_all S { nx := fun ρ => K' (.dat .none) (outsOf ds ρ), rt := fun r ρ => K' r (outsOf ds ρ) } (startD N_lay_over ds)) : FnOk P w K mg base CX0 (k + 1) f fd ["out", "a", "b", "rule", "keeps"] (spD K sp) :=
  fn_data F sc_lay_over hl fun cdv A outer s H hr => by
    obtain ⟨t, h⟩ := dv_lay_over (f := f) (cdv := cdv) (A := A) (outer := outer) (s := s) (H := H) sp_put sp_put_all S m_len m_max m_min c_put c_put_all hS hr
    exact ⟨t, _, h, hw⟩
/-! combined -/
abbrev st_combined : Stmt := topS 8
theorem sc_combined : FnScope N_combined ["a", "b", "rule", "keeps"] (defScope st_combined) := ⟨rfl, rfl, rfl, by decide +kernel, rfl, by decide +kernel, by decide +kernel⟩
theorem dv_combined {P : Program} {w : World} {K : PySem.W.Frag} {mg : Str → Option Value} {base : Heap} {k : Nat} {f : Addr} {cdv : Value} {A : Around} {outer : List Env} {s : Shared} {H : Hp} (sp_first_ending_beyond sp_first_beginning_from sp_put_all sp_lay_over : DSpec) (m_len : mg "len" = none) (m_list : mg "list" = none) (m_max : mg "max" = none) (m_min : mg "min" = none) (m_tuple : mg "tuple" = none) (c_first_ending_beyond : Cal P w K mg base k "first_ending_beyond" sp_first_ending_beyond) (c_first_beginning_from : Cal P w K mg base k "first_beginning_from" sp_first_beginning_from) (c_put_all : Cal P w K mg base k "put_all" sp_put_all) (c_lay_over : Cal P w K mg base k "lay_over" sp_lay_over) (hr : Room k (cxOf CX0 P w K mg base N_combined "combined" (defScope st_combined) f cdv A outer s H E0).nox.A) : ∃ t, XSs (cxOf CX0 P w K mg base N_combined "combined" (defScope st_combined) f cdv A outer s H E0).nox (defBody st_combined) t (W_combined sp_first_ending_beyond sp_first_beginning_from sp_put_all sp_lay_over) :=
  ⟨_, (xss_cons (xs_if (xt_not (xt_tru (xe_name (pv 0)))) (xss_one (xs_ret (xe_if (xt_tru (xe_ix (xe_name (pv 3)) xe_int (fun _ _ => rfl))) (xe_name (pv 1)) (xe_tup xa_nil)))) xss_nil) (xss_cons (xs_if (xt_not (xt_tru (xe_name (pv 1)))) (xss_one (xs_ret (xe_if (xt_tru (xe_ix (xe_name (pv 3)) xe_int (fun _ _ => rfl))) (xe_name (pv 0)) (xe_tup xa_nil)))) xss_nil) (xss_cons (xs_par (i := 4) (j := 5) rfl sc_combined.nd rfl rfl (by decide) rfl rfl (xa_cons (xe_callB xc_max2 (by rfl) m_max (by decide +kernel) (xa_cons (xe_ix (xe_ix (xe_name (pv 0)) xe_int (fun _ _ => rfl)) xe_int (fun _ _ => rfl)) (xa_cons (xe_ix (xe_ix (xe_name (pv 1)) xe_int (fun _ _ => rfl)) xe_int (fun _ _ => rfl)) xa_nil))) (xa_cons (xe_callB xc_min2 (by rfl) m_min (by decide +kernel) (xa_cons (xe_ix (xe_ix (xe_name (pv 0)) (xe_neg xe_int) (fun _ _ => rfl)) xe_int (fun _ _ => rfl)) (xa_cons (xe_ix (xe_ix (xe_name (pv 1)) (xe_neg xe_int) (fun _ _ => rfl)) xe_int (fun _ _ => rfl)) xa_nil))) xa_nil)) (by rfl)) (xss_cons (xs_par (i := 6) (j := 7) rfl sc_combined.nd rfl rfl (by decide) rfl rfl (xa_cons (xe_callc c_first_ending_beyond (by exact hr) (Nat.le_refl _) (by rfl) (xa_cons (xe_nameF (pv 0)) (xa_cons (xe_nameF (pv 4)) xa_nil))) (xa_cons (xe_callc c_first_ending_beyond (by exact hr) (Nat.le_refl _) (by rfl) (xa_cons (xe_nameF (pv 1)) (xa_cons (xe_nameF (pv 4)) xa_nil))) xa_nil)) (by rfl)) (xss_cons (xs_set (i := 8) sc_combined.nd rfl (Or.inl rfl) (xe_callB xc_max2 (by rfl) m_max (by decide +kernel) (xa_cons (xe_name (pv 6)) (xa_cons (xe_callc c_first_beginning_from (by exact hr) (Nat.le_refl _) (by rfl) (xa_cons (xe_nameF (pv 0)) (xa_cons (xe_nameF (pv 5)) xa_nil))) xa_nil)))) (xss_cons (xs_set (i := 9) sc_combined.nd rfl (Or.inl rfl) (xe_callB xc_max2 (by rfl) m_max (by decide +kernel) (xa_cons (xe_name (pv 7)) (xa_cons (xe_callc c_first_beginning_from (by exact hr) (Nat.le_refl _) (by rfl) (xa_cons (xe_nameF (pv 1)) (xa_cons (xe_nameF (pv 5)) xa_nil))) xa_nil)))) (xss_cons (xs_set (i := 10) sc_combined.nd rfl (Or.inl rfl) (xe_if (xt_tru (xe_ix (xe_name (pv 3)) xe_int (fun _ _ => rfl))) (xe_callTy xc_list (by rfl) m_list (by decide +kernel) (xa_cons (xe_sl (xe_name (pv 0)) xp_none (xp_some (xe_name (pv 6)))) xa_nil)) (xe_lst xa_nil))) (xss_cons (xs_if (xt_tru (xe_ix (xe_name (pv 3)) xe_int (fun _ _ => rfl))) (xss_one (xs_expr (xe_extend (xe_name (pv 10)) (xa_cons (xe_sl (xe_name (pv 1)) xp_none (xp_some (xe_name (pv 7)))) xa_nil)))) xss_nil) (xss_cons (xs_if (xw_and (xt_cmp xo_lt (xe_name (pv 6)) (xe_name (pv 8)) (nomark _)) (xw_and1 (xt_cmp xo_lt (xe_name (pv 7)) (xe_name (pv 9)) (nomark _)))).xt (xss_one (xs_expr (xe_callc c_lay_over (by exact hr) (Nat.le_refl _) (by rfl) (xa_cons (xe_name (pv 10)) (xa_cons (xe_sl (xe_name (pv 0)) (xp_some (xe_name (pv 6))) (xp_some (xe_name (pv 8)))) (xa_cons (xe_sl (xe_name (pv 1)) (xp_some (xe_name (pv 7))) (xp_some (xe_name (pv 9)))) (xa_cons (xe_nameF (pv 2)) (xa_cons (xe_nameF (pv 3)) xa_nil)))))))) (xss_one (xs_if (xw_and (xt_tru (xe_ix (xe_name (pv 3)) xe_int (fun _ _ => rfl))) (xw_and1 (xt_cmp xo_lt (xe_name (pv 6)) (xe_name (pv 8)) (nomark _)))).xt (xss_one (xs_expr (xe_callc c_put_all (by exact hr) (Nat.le_refl _) (by rfl) (xa_cons (xe_name (pv 10)) (xa_cons (xe_sl (xe_name (pv 0)) (xp_some (xe_name (pv 6))) (xp_some (xe_name (pv 8)))) (xa_cons (xe_ix (xe_ix (xe_name (pv 0)) (xe_name (pv 6)) (fun _ _ => rfl)) xe_int (fun _ _ => rfl)) xa_nil)))))) (xss_one (xs_if (xw_and (xt_tru (xe_ix (xe_name (pv 3)) xe_int (fun _ _ => rfl))) (xw_and1 (xt_cmp xo_lt (xe_name (pv 7)) (xe_name (pv 9)) (nomark _)))).xt (xss_one (xs_expr (xe_callc c_put_all (by exact hr) (Nat.le_refl _) (by rfl) (xa_cons (xe_name (pv 10)) (xa_cons (xe_sl (xe_name (pv 1)) (xp_some (xe_name (pv 7))) (xp_some (xe_name (pv 9)))) (xa_cons (xe_ix (xe_ix (xe_name (pv 1)) (xe_name (pv 7)) (fun _ _ => rfl)) xe_int (fun _ _ => rfl)) xa_nil)))))) xss_nil))))) (xss_cons (xs_if (xw_and (xt_tru (xe_ix (xe_name (pv 3)) xe_int (fun _ _ => rfl))) (xw_and1 (xt_cmp xo_lt (xe_name (pv 8)) (xe_callB xc_len (by rfl) m_len (by decide +kernel) (xa_cons (xe_name (pv 0)) xa_nil)) (nomark _)))).xt (xss_one (xs_expr (xe_callc c_put_all (by exact hr) (Nat.le_refl _) (by rfl) (xa_cons (xe_name (pv 10)) (xa_cons (xe_sl (xe_name (pv 0)) (xp_some (xe_name (pv 8))) xp_none) (xa_cons (xe_ix (xe_ix (xe_name (pv 0)) (xe_name (pv 8)) (fun _ _ => rfl)) xe_int (fun _ _ => rfl)) xa_nil)))))) xss_nil) (xss_cons (xs_if (xw_and (xt_tru (xe_ix (xe_name (pv 3)) xe_int (fun _ _ => rfl))) (xw_and1 (xt_cmp xo_lt (xe_name (pv 9)) (xe_callB xc_len (by rfl) m_len (by decide +kernel) (xa_cons (xe_name (pv 1)) xa_nil)) (nomark _)))).xt (xss_one (xs_expr (xe_callc c_put_all (by exact hr) (Nat.le_refl _) (by rfl) (xa_cons (xe_name (pv 10)) (xa_cons (xe_sl (xe_name (pv 1)) (xp_some (xe_name (pv 9))) xp_none) (xa_cons (xe_ix (xe_ix (xe_name (pv 1)) (xe_name (pv 9)) (fun _ _ => rfl)) xe_int (fun _ _ => rfl)) xa_nil)))))) xss_nil) (xss_one (xs_ret (xe_callTy xc_tuple (by rfl) m_tuple (by decide +kernel) (xa_cons (xe_name (pv 10)) xa_nil)))))))))))))))⟩
theorem ok_combined {P : Program} {w : World} {K : PySem.W.Frag} {mg : Str → Option Value} {base : Heap} {k : Nat} {f : Addr} {fd : FuncData} {sp : DSpec} (sp_first_ending_beyond sp_first_beginning_from sp_put_all sp_lay_over : DSpec) (m_len : mg "len" = none) (m_list : mg "list" = none) (m_max : mg "max" = none) (m_min : mg "min" = none) (m_tuple : mg "tuple" = none) (c_first_ending_beyond : Cal P w K mg base k "first_ending_beyond" sp_first_ending_beyond) (c_first_beginning_from : Cal P w K mg base k "first_beginning_from" sp_first_beginning_from) (c_put_all : Cal P w K mg base k "put_all" sp_put_all) (c_lay_over : Cal P w K mg base k "lay_over" sp_lay_over) (F : Fun K "combined" "combined" st_combined f fd) (hl : ∀ ds K', sp ds K' → ds.length = 4) (hw : ∀ ds K', sp ds K' → W_combined sp_first_ending_beyond sp_first_beginning_from sp_put_all sp_lay_over { nx := fun ρ => K' (.dat .none) (outsOf ds ρ), rt := fun r ρ => K' r (outsOf ds ρ) } (startD N_combined ds)) : FnOk P w K mg base CX0 (k + 1) f fd ["a", "b", "rule", "keeps"] (spD K sp) :=
  fn_data F sc_combined hl fun cdv A outer s H hr => by
    obtain ⟨t, h⟩ := dv_combined (f := f) (cdv := cdv) (A := A) (outer := outer) (s := s) (H := H) sp_first_ending_beyond sp_first_beginning_from sp_put_all sp_lay_over m_len m_list m_max m_min m_tuple c_first_ending_beyond c_first_beginning_from c_put_all c_lay_over hr
    exact ⟨t, _, h, hw⟩
/-! joined_layers -/
abbrev st_joined_layers : Stmt := topS 9
theorem sc_joined_layers : FnScope N_joined_layers ["a", "b"] (defScope st_joined_layers) := ⟨rfl, rfl, rfl, by decide +kernel, rfl, by decide +kernel, by decide +kernel⟩
theorem dv_joined_layers {P : Program} {w : World} {K : PySem.W.Frag} {mg : Str → Option Value} {base : Heap} {k : Nat} {f : Addr} {cdv : Value} {A : Around} {outer : List Env} {s : Shared} {H : Hp} (sp_combined : DSpec) (a_joined_rows : Addr) (c_combined : Cal P w K mg base k "combined" sp_combined) (v_joined_rows : mg "joined_rows" = some (.ref a_joined_rows)) (hr : Room k (cxOf CX0 P w K mg base N_joined_layers "joined_layers" (defScope st_joined_layers) f cdv A outer s H E0).nox.A) : ∃ t, XSs (cxOf CX0 P w K mg base N_joined_layers "joined_layers" (defScope st_joined_layers) f cdv A outer s H E0).nox (defBody st_joined_layers) t (W_joined_layers sp_combined a_joined_rows) :=
  ⟨_, (xss_one (xs_ret (xe_callc c_combined (by exact hr) (Nat.le_refl _) (by rfl) (xa_cons (xe_nameF (pv 0)) (xa_cons (xe_nameF (pv 1)) (xa_cons (xe_glob (pe_glob (by rfl) v_joined_rows rfl)) (xa_cons (xe_tup (xa_cons xe_bl (xa_cons xe_bl xa_nil))) xa_nil)))))))⟩
theorem ok_joined_layers {P : Program} {w : World} {K : PySem.W.Frag} {mg : Str → Option Value} {base : Heap} {k : Nat} {f : Addr} {fd : FuncData} {sp : DSpec} (sp_combined : DSpec) (a_joined_rows : Addr) (c_combined : Cal P w K mg base k "combined" sp_combined) (v_joined_rows : mg "joined_rows" = some (.ref a_joined_rows)) (F : Fun K "joined_layers" "joined_layers" st_joined_layers f fd) (hl : ∀ ds K', sp ds K' → ds.length = 2) (hw : ∀ ds K', sp ds K' → W_joined_layers sp_combined a_joined_rows { nx := fun ρ => K' (.dat .none) (outsOf ds ρ), rt := fun r ρ => K' r (outsOf ds ρ) } (startD N_joined_layers ds)) : FnOk P w K mg base CX0 (k + 1) f fd ["a", "b"] (spD K sp) :=
  fn_data F sc_joined_layers hl fun cdv A outer s H hr => by
    obtain ⟨t, h⟩ := dv_joined_layers (f := f) (cdv := cdv) (A := A) (outer := outer) (s := s) (H := H) sp_combined a_joined_rows c_combined v_joined_rows hr
    exact ⟨t, _, h, hw⟩
/-! is_integer -/
abbrev st_is_integer : Stmt := topS 11
theorem sc_is_integer : FnScope N_is_integer ["thing"] (defScope st_is_integer) := ⟨rfl, rfl, rfl, by decide +kernel, rfl, by decide +kernel, by decide +kernel⟩
theorem dv_is_integer {P : Program} {w : World} {K : PySem.W.Frag} {mg : Str → Option Value} {base : Heap} {k : Nat} {f : Addr} {cdv : Value} {A : Around} {outer : List Env} {s : Shared} {H : Hp} (m_bool : mg "bool" = none) (m_int : mg "int" = none) (m_isinstance : mg "isinstance" = none) (hr : Room k (cxOf CX0 P w K mg base N_is_integer "is_integer" (defScope st_is_integer) f cdv A outer s H E0).nox.A) : ∃ t, XSs (cxOf CX0 P w K mg base N_is_integer "is_integer" (defScope st_is_integer) f cdv A outer s H E0).nox (defBody st_is_integer) t (W_is_integer) :=
  ⟨_, (xss_one (xs_ret (xe_and (xe_isi m_isinstance m_int (xe_name (pv 0)) (by rfl) (by rfl) (by decide +kernel) (by decide +kernel)) (xe_one (xe_not (xe_isi m_isinstance m_bool (xe_name (pv 0)) (by rfl) (by rfl) (by decide +kernel) (by decide +kernel)))))))⟩
theorem ok_is_integer {P : Program} {w : World} {K : PySem.W.Frag} {mg : Str → Option Value} {base : Heap} {k : Nat} {f : Addr} {fd : FuncData} {sp : DSpec} (m_bool : mg "bool" = none) (m_int : mg "int" = none) (m_isinstance : mg "isinstance" = none) (F : Fun K "is_integer" "is_integer" st_is_integer f fd) (hl : ∀ ds K', sp ds K' → ds.length = 1) (hw : ∀ ds K', sp ds K' → W_is_integer { nx := fun ρ => K' (.dat .none) (outsOf ds ρ), rt := fun r ρ => K' r (outsOf ds ρ) } (startD N_is_integer ds)) : FnOk P w K mg base CX0 (k + 1) f fd ["thing"] (spD K sp) :=
  fn_data F sc_is_integer hl fun cdv A outer s H hr => by
    obtain ⟨t, h⟩ := dv_is_integer (f := f) (cdv := cdv) (A := A) (outer := outer) (s := s) (H := H) m_bool m_int m_isinstance hr
    exact ⟨t, _, h, hw⟩
/-! is_stretch -/
abbrev st_is_stretch : Stmt := topS 13
theorem sc_is_stretch : FnScope N_is_stretch ["thing", "many"] (defScope st_is_stretch) := ⟨rfl, rfl, rfl, by decide +kernel, rfl, by decide +kernel, by decide +kernel⟩
theorem dv_is_stretch {P : Program} {w : World} {K : PySem.W.Frag} {mg : Str → Option Value} {base : Heap} {k : Nat} {f : Addr} {cdv : Value} {A : Around} {outer : List Env} {s : Shared} {H : Hp} (sp_is_integer : DSpec) (m_isinstance : mg "isinstance" = none) (m_len : mg "len" = none) (m_tuple : mg "tuple" = none) (c_is_integer : Cal P w K mg base k "is_integer" sp_is_integer) (hr : Room k (cxOf CX0 P w K mg base N_is_stretch "is_stretch" (defScope st_is_stretch) f cdv A outer s H E0).nox.A) : ∃ t, XSs (cxOf CX0 P w K mg base N_is_stretch "is_stretch" (defScope st_is_stretch) f cdv A outer s H E0).nox (defBody st_is_stretch) t (W_is_stretch sp_is_integer) :=
  ⟨_, (xss_one (xs_ret (xe_and (xe_isi m_isinstance m_tuple (xe_name (pv 0)) (by rfl) (by rfl) (by decide +kernel) (by decide +kernel)) (xe_and (xe_cmp (xo_eq (Room.units (by exact hr))) (xe_callB xc_len (by rfl) m_len (by decide +kernel) (xa_cons (xe_name (pv 0)) xa_nil)) (xe_name (pv 1)) (nomark _)) (xe_and (xe_callc c_is_integer (by exact hr) (Nat.le_refl _) (by rfl) (xa_cons (xe_ix (xe_name (pv 0)) xe_int (fun _ _ => rfl)) xa_nil)) (xe_and (xe_callc c_is_integer (by exact hr) (Nat.le_refl _) (by rfl) (xa_cons (xe_ix (xe_name (pv 0)) xe_int (fun _ _ => rfl)) xa_nil)) (xe_one (xe_cmp xo_lt (xe_ix (xe_name (pv 0)) xe_int (fun _ _ => rfl)) (xe_ix (xe_name (pv 0)) xe_int (fun _ _ => rfl)) (nomark _)))))))))⟩
theorem ok_is_stretch {P : Program} {w : World} {K : PySem.W.Frag} {mg : Str → Option Value} {base : Heap} {k : Nat} {f : Addr} {fd : FuncData} {sp : DSpec} (sp_is_integer : DSpec) (m_isinstance : mg "isinstance" = none) (m_len : mg "len" = none) (m_tuple : mg "tuple" = none) (c_is_integer : Cal P w K mg base k "is_integer" sp_is_integer) (F : Fun K "is_stretch" "is_stretch" st_is_stretch f fd) (hl : ∀ ds K', sp ds K' → ds.length = 2) (hw : ∀ ds K', sp ds K' → W_is_stretch sp_is_integer { nx := fun ρ => K' (.dat .none) (outsOf ds ρ), rt := fun r ρ => K' r (outsOf ds ρ) } (startD N_is_stretch ds)) : FnOk P w K mg base CX0 (k + 1) f fd ["thing", "many"] (spD K sp) :=
  fn_data F sc_is_stretch hl fun cdv A outer s H hr => by
    obtain ⟨t, h⟩ := dv_is_stretch (f := f) (cdv := cdv) (A := A) (outer := outer) (s := s) (H := H) sp_is_integer m_isinstance m_len m_tuple c_is_integer hr
    exact ⟨t, _, h, hw⟩
/-! is_row -/
abbrev st_is_row : Stmt := topS 14
theorem sc_is_row : FnScope N_is_row ["thing"] (defScope st_is_row) := ⟨rfl, rfl, rfl, by decide +kernel, rfl, by decide +kernel, by decide +kernel⟩
theorem dv_is_row {P : Program} {w : World} {K : PySem.W.Frag} {mg : Str → Option Value} {base : Heap} {k : Nat} {f : Addr} {cdv : Value} {A : Around} {outer : List Env} {s : Shared} {H : Hp} (sp_is_stretch : DSpec) (m_isinstance : mg "isinstance" = none) (m_tuple : mg "tuple" = none) (c_is_stretch : Cal P w K mg base k "is_stretch" sp_is_stretch) (hr : Room k (cxOf CX0 P w K mg base N_is_row "is_row" (defScope st_is_row) f cdv A outer s H E0).nox.A) : ∃ t, XSs (cxOf CX0 P w K mg base N_is_row "is_row" (defScope st_is_row) f cdv A outer s H E0).nox (defBody st_is_row) t (W_is_row sp_is_stretch) :=
  ⟨_, (xss_cons (xs_if (xw_or (xt_not (xt_tru (xe_isi m_isinstance m_tuple (xe_name (pv 0)) (by rfl) (by rfl) (by decide +kernel) (by decide +kernel)))) (xw_or1 (xt_not (xt_tru (xe_name (pv 0)))))).xt (xss_one (xs_ret xe_bl)) xss_nil) (xss_cons (xs_set (i := 1) sc_is_row.nd rfl (Or.inl rfl) xe_non) (xss_cons (xs_for PassesOwn.never rfl (xi_seq (xe_nameF (pv 0))) (xg_name (i := 2) sc_is_row.nd rfl (Or.inl rfl)) (xss_cons (xs_if (xw_or (xt_not (xt_tru (xe_callc c_is_stretch (by exact hr) (Nat.le_refl _) (by rfl) (xa_cons (xe_nameF (pv 2)) (xa_cons xe_int xa_nil))))) (xw_or1 (xw_and (xt_cmp xo_isNot (xe_name (pv 1)) xe_non (nomark _)) (xw_and1 (xt_cmp xo_le (xe_ix (xe_name (pv 2)) xe_int (fun _ _ => rfl)) (xe_name (pv 1)) (nomark _)))).xt)).xt (xss_one (xs_ret xe_bl)) xss_nil) (xss_one (xs_set (i := 1) sc_is_row.nd rfl (Or.inl rfl) (xe_ix (xe_name (pv 2)) xe_int (fun _ _ => rfl)))))) (xss_one (xs_ret xe_bl)))))⟩
theorem ok_is_row {P : Program} {w : World} {K : PySem.W.Frag} {mg : Str → Option Value} {base : Heap} {k : Nat} {f : Addr} {fd : FuncData} {sp : DSpec} (sp_is_stretch : DSpec) (m_isinstance : mg "isinstance" = none) (m_tuple : mg "tuple" = none) (c_is_stretch : Cal P w K mg base k "is_stretch" sp_is_stretch) (F : Fun K "is_row" "is_row" st_is_row f fd) (hl : ∀ ds K', sp ds K' → ds.length = 1) (hw : ∀ ds K', sp ds K' → W_is_row sp_is_stretch { nx := fun ρ => K' (.dat .none) (outsOf ds ρ), rt := fun r ρ => K' r (outsOf ds ρ) } (startD N_is_row ds)) : FnOk P w K mg base CX0 (k + 1) f fd ["thing"] (spD K sp) :=
  fn_data F sc_is_row hl fun cdv A outer s H hr => by
    obtain ⟨t, h⟩ := dv_is_row (f := f) (cdv := cdv) (A := A) (outer := outer) (s := s) (H := H) sp_is_stretch m_isinstance m_tuple c_is_stretch hr
    exact ⟨t, _, h, hw⟩
/-! are_slabs -/
abbrev st_are_slabs : Stmt := topS 15
theorem sc_are_slabs : FnScope N_are_slabs ["thing", "is_inside"] (defScope st_are_slabs) := ⟨rfl, rfl, rfl, by decide +kernel, rfl, by decide +kernel, by decide +kernel⟩
theorem dv_are_slabs {P : Program} {w : World} {K : PySem.W.Frag} {mg : Str → Option Value} {base : Heap} {k : Nat} {f : Addr} {cdv : Value} {A : Around} {outer : List Env} {s : Shared} {H : Hp} (sp_is_stretch : DSpec) (S : Addr → Option DSpec) (m_isinstance : mg "isinstance" = none) (m_tuple : mg "tuple" = none) (c_is_stretch : Cal P w K mg base k "is_stretch" sp_is_stretch) (hS : ∀ f sp, S f = some sp → Held P w K mg base k f (spD K sp)) (hr : Room k (cxOf CX0 P w K mg base N_are_slabs "are_slabs" (defScope st_are_slabs) f cdv A outer s H E0).nox.A) : ∃ t, XSs (cxOf CX0 P w K mg base N_are_slabs "are_slabs" (defScope st_are_slabs) f cdv A outer s H E0).nox (defBody st_are_slabs) t (W_are_slabs sp_is_stretch S) :=
  ⟨_, (xss_cons (xs_if (xt_not (xt_tru (xe_isi m_isinstance m_tuple (xe_name (pv 0)) (by rfl) (by rfl) (by decide +kernel) (by decide +kernel)))) (xss_one (xs_ret xe_bl)) xss_nil) (xss_cons (xs_set (i := 2) sc_are_slabs.nd rfl (Or.inl rfl) xe_non) (xss_cons (xs_for PassesOwn.never rfl (xi_seq (xe_nameF (pv 0))) (xg_name (i := 3) sc_are_slabs.nd rfl (Or.inl rfl)) (xss_cons (xs_if (xw_or (xt_not (xt_tru (xe_callc c_is_stretch (by exact hr) (Nat.le_refl _) (by rfl) (xa_cons (xe_nameF (pv 3)) (xa_cons xe_int xa_nil))))) (xw_or1 (xt_not (xt_tru (xe_callL hS (by exact hr) rfl (Or.inl rfl) (xa_cons (xe_ix (xe_name (pv 3)) xe_int (fun _ _ => rfl)) xa_nil)))))).xt (xss_one (xs_ret xe_bl)) xss_nil) (xss_cons (xs_if (xt_cmp xo_isNot (xe_name (pv 2)) xe_non (nomark _)) (xss_one (xs_if (xw_or (xt_cmp xo_lt (xe_ix (xe_name (pv 3)) xe_int (fun _ _ => rfl)) (xe_ix (xe_name (pv 2)) xe_int (fun _ _ => rfl)) (nomark _)) (xw_or1 (xw_and (xt_cmp (xo_eq (Room.units (by exact hr))) (xe_ix (xe_name (pv 3)) xe_int (fun _ _ => rfl)) (xe_ix (xe_name (pv 2)) xe_int (fun _ _ => rfl)) (nomark _)) (xw_and1 (xt_cmp (xo_eq (Room.units (by exact hr))) (xe_ix (xe_name (pv 3)) xe_int (fun _ _ => rfl)) (xe_ix (xe_name (pv 2)) xe_int (fun _ _ => rfl)) (nomark _)))).xt)).xt (xss_one (xs_ret xe_bl)) xss_nil)) xss_nil) (xss_one (xs_set (i := 2) sc_are_slabs.nd rfl (Or.inl rfl) (xe_name (pv 3))))))) (xss_one (xs_ret xe_bl)))))⟩
theorem ok_are_slabs {P : Program} {w : World} {K : PySem.W.Frag} {mg : Str → Option Value} {base : Heap} {k : Nat} {f : Addr} {fd : FuncData} {sp : DSpec} (sp_is_stretch : DSpec) (S : Addr → Option DSpec) (m_isinstance : mg "isinstance" = none) (m_tuple : mg "tuple" = none) (c_is_stretch : Cal P w K mg base k "is_stretch" sp_is_stretch) (hS : ∀ f sp, S f = some sp → Held P w K mg base k f (spD K sp)) (F : Fun K "are_slabs" "are_slabs" st_are_slabs f fd) (hl : ∀ ds K', sp ds K' → ds.length = 2) (hw : ∀ ds K', sp ds K' → W_are_slabs sp_is_stretch S { nx := fun ρ => K' (.dat .none) (outsOf ds ρ), rt := fun r ρ => K' r (outsOf ds ρ) } (startD N_are_slabs ds)) : FnOk P w K mg base CX0 (k + 1) f fd ["thing", "is_inside"] (spD K sp) :=
  fn_data F sc_are_slabs hl fun cdv A outer s H hr => by
    obtain ⟨t, h⟩ := dv_are_slabs (f := f) (cdv := cdv) (A := A) (outer := outer) (s := s) (H := H) sp_is_stretch S m_isinstance m_tuple c_is_stretch hS hr
    exact ⟨t, _, h, hw⟩
/-! is_layer -/
abbrev st_is_layer : Stmt := topS 16
theorem sc_is_layer : FnScope N_is_layer ["thing"] (defScope st_is_layer) := ⟨rfl, rfl, rfl, by decide +kernel, rfl, by decide +kernel, by decide +kernel⟩
theorem dv_is_layer {P : Program} {w : World} {K : PySem.W.Frag} {mg : Str → Option Value} {base : Heap} {k : Nat} {f : Addr} {cdv : Value} {A : Around} {outer : List Env} {s : Shared} {H : Hp} (sp_are_slabs : DSpec) (a_is_row : Addr) (c_are_slabs : Cal P w K mg base k "are_slabs" sp_are_slabs) (v_is_row : mg "is_row" = some (.ref a_is_row)) (hr : Room k (cxOf CX0 P w K mg base N_is_layer "is_layer" (defScope st_is_layer) f cdv A outer s H E0).nox.A) : ∃ t, XSs (cxOf CX0 P w K mg base N_is_layer "is_layer" (defScope st_is_layer) f cdv A outer s H E0).nox (defBody st_is_layer) t (W_is_layer sp_are_slabs a_is_row) :=
  ⟨_, (xss_one (xs_ret (xe_and (xe_callc c_are_slabs (by exact hr) (Nat.le_refl _) (by rfl) (xa_cons (xe_nameF (pv 0)) (xa_cons (xe_glob (pe_glob (by rfl) v_is_row rfl)) xa_nil))) (xe_one (xe_cmp (xo_ne (Room.units (by exact hr))) (xe_name (pv 0)) (xe_tup xa_nil) (nomark _))))))⟩
theorem ok_is_layer {P : Program} {w : World} {K : PySem.W.Frag} {mg : Str → Option Value} {base : Heap} {k : Nat} {f : Addr} {fd : FuncData} {sp : DSpec} (sp_are_slabs : DSpec) (a_is_row : Addr) (c_are_slabs : Cal P w K mg base k "are_slabs" sp_are_slabs) (v_is_row : mg "is_row" = some (.ref a_is_row)) (F : Fun K "is_layer" "is_layer" st_is_layer f fd) (hl : ∀ ds K', sp ds K' → ds.length = 1) (hw : ∀ ds K', sp ds K' → W_is_layer sp_are_slabs a_is_row { nx := fun ρ => K' (.dat .none) (outsOf ds ρ), rt := fun r ρ => K' r (outsOf ds ρ) } (startD N_is_layer ds)) : FnOk P w K mg base CX0 (k + 1) f fd ["thing"] (spD K sp) :=
  fn_data F sc_is_layer hl fun cdv A outer s H hr => by
    obtain ⟨t, h⟩ := dv_is_layer (f := f) (cdv := cdv) (A := A) (outer := outer) (s := s) (H := H) sp_are_slabs a_is_row c_are_slabs v_is_row hr
    exact ⟨t, _, h, hw⟩
/-! is_solid -/
abbrev st_is_solid : Stmt := topS 17
theorem sc_is_solid : FnScope N_is_solid ["thing"] (defScope st_is_solid) := ⟨rfl, rfl, rfl, by decide +kernel, rfl, by decide +kernel, by decide +kernel⟩
theorem dv_is_solid {P : Program} {w : World} {K : PySem.W.Frag} {mg : Str → Option Value} {base : Heap} {k : Nat} {f : Addr} {cdv : Value} {A : Around} {outer : List Env} {s : Shared} {H : Hp} (sp_are_slabs : DSpec) (a_is_layer : Addr) (c_are_slabs : Cal P w K mg base k "are_slabs" sp_are_slabs) (v_is_layer : mg "is_layer" = some (.ref a_is_layer)) (hr : Room k (cxOf CX0 P w K mg base N_is_solid "is_solid" (defScope st_is_solid) f cdv A outer s H E0).nox.A) : ∃ t, XSs (cxOf CX0 P w K mg base N_is_solid "is_solid" (defScope st_is_solid) f cdv A outer s H E0).nox (defBody st_is_solid) t (W_is_solid sp_are_slabs a_is_layer) :=
  ⟨_, (xss_one (xs_ret (xe_callc c_are_slabs (by exact hr) (Nat.le_refl _) (by rfl) (xa_cons (xe_nameF (pv 0)) (xa_cons (xe_glob (pe_glob (by rfl) v_is_layer rfl)) xa_nil)))))⟩
theorem ok_is_solid {P : Program} {w : World} {K : PySem.W.Frag} {mg : Str → Option Value} {base : Heap} {k : Nat} {f : Addr} {fd : FuncData} {sp : DSpec} (sp_are_slabs : DSpec) (a_is_layer : Addr) (c_are_slabs : Cal P w K mg base k "are_slabs" sp_are_slabs) (v_is_layer : mg "is_layer" = some (.ref a_is_layer)) (F : Fun K "is_solid" "is_solid" st_is_solid f fd) (hl : ∀ ds K', sp ds K' → ds.length = 1) (hw : ∀ ds K', sp ds K' → W_is_solid sp_are_slabs a_is_layer { nx := fun ρ => K' (.dat .none) (outsOf ds ρ), rt := fun r ρ => K' r (outsOf ds ρ) } (startD N_is_solid ds)) : FnOk P w K mg base CX0 (k + 1) f fd ["thing"] (spD K sp) :=
  fn_data F sc_is_solid hl fun cdv A outer s H hr => by
    obtain ⟨t, h⟩ := dv_is_solid (f := f) (cdv := cdv) (A := A) (outer := outer) (s := s) (H := H) sp_are_slabs a_is_layer c_are_slabs v_is_layer hr
    exact ⟨t, _, h, hw⟩
/-! box -/
abbrev st_box : Stmt := topS 18
theorem sc_box : FnScope N_box ["corner", "other"] (defScope st_box) := ⟨rfl, rfl, rfl, by decide +kernel, rfl, by decide +kernel, by decide +kernel⟩
theorem dv_box {P : Program} {w : World} {K : PySem.W.Frag} {mg : Str → Option Value} {base : Heap} {k : Nat} {f : Addr} {cdv : Value} {A : Around} {outer : List Env} {s : Shared} {H : Hp} (hr : Room k (cxOf CX0 P w K mg base N_box "box" (defScope st_box) f cdv A outer s H E0).nox.A) : ∃ t, XSs (cxOf CX0 P w K mg base N_box "box" (defScope st_box) f cdv A outer s H E0).nox (defBody st_box) t (W_box) :=
  ⟨_, (xss_cons (xs_if (xw_or (xt_cmp xo_ge (xe_ix (xe_name (pv 0)) xe_int (fun _ _ => rfl)) (xe_ix (xe_name (pv 1)) xe_int (fun _ _ => rfl)) (nomark _)) (xw_or (xt_cmp xo_ge (xe_ix (xe_name (pv 0)) xe_int (fun _ _ => rfl)) (xe_ix (xe_name (pv 1)) xe_int (fun _ _ => rfl)) (nomark _)) (xw_or1 (xt_cmp xo_ge (xe_ix (xe_name (pv 0)) xe_int (fun _ _ => rfl)) (xe_ix (xe_name (pv 1)) xe_int (fun _ _ => rfl)) (nomark _))))).xt (xss_one (xs_ret (xe_tup xa_nil))) xss_nil) (xss_cons (xs_set (i := 2) sc_box.nd rfl (Or.inl rfl) (xe_tup (xa_cons (xe_tup (xa_cons (xe_ix (xe_name (pv 0)) xe_int (fun _ _ => rfl)) (xa_cons (xe_ix (xe_name (pv 1)) xe_int (fun _ _ => rfl)) xa_nil))) xa_nil))) (xss_one (xs_ret (xe_tup (xa_cons (xe_tup (xa_cons (xe_ix (xe_name (pv 0)) xe_int (fun _ _ => rfl)) (xa_cons (xe_ix (xe_name (pv 1)) xe_int (fun _ _ => rfl)) (xa_cons (xe_tup (xa_cons (xe_tup (xa_cons (xe_ix (xe_name (pv 0)) xe_int (fun _ _ => rfl)) (xa_cons (xe_ix (xe_name (pv 1)) xe_int (fun _ _ => rfl)) (xa_cons (xe_name (pv 2)) xa_nil)))) xa_nil)) xa_nil)))) xa_nil))))))⟩
theorem ok_box {P : Program} {w : World} {K : PySem.W.Frag} {mg : Str → Option Value} {base : Heap} {k : Nat} {f : Addr} {fd : FuncData} {sp : DSpec} (F : Fun K "box" "box" st_box f fd) (hl : ∀ ds K', sp ds K' → ds.length = 2) (hw : ∀ ds K', sp ds K' → W_box { nx := fun ρ => K' (.dat .none) (outsOf ds ρ), rt := fun r ρ => K' r (outsOf ds ρ) } (startD N_box ds)) : FnOk P w K mg base CX0 (k + 1) f fd ["corner", "other"] (spD K sp) :=
  fn_data F sc_box hl fun cdv A outer s H hr => by
    obtain ⟨t, h⟩ := dv_box (f := f) (cdv := cdv) (A := A) (outer := outer) (s := s) (H := H) hr
    exact ⟨t, _, h, hw⟩
/-! union -/
abbrev st_union : Stmt := topS 19
theorem sc_union : FnScope N_union ["a", "b"] (defScope st_union) := ⟨rfl, rfl, rfl, by decide +kernel, rfl, by decide +kernel, by decide +kernel⟩
theorem dv_union {P : Program} {w : World} {K : PySem.W.Frag} {mg : Str → Option Value} {base : Heap} {k : Nat} {f : Addr} {cdv : Value} {A : Around} {outer : List Env} {s : Shared} {H : Hp} (sp_combined : DSpec) (a_joined_layers : Addr) (c_combined : Cal P w K mg base k "combined" sp_combined) (v_joined_layers : mg "joined_layers" = some (.ref a_joined_layers)) (hr : Room k (cxOf CX0 P w K mg base N_union "union" (defScope st_union) f cdv A outer s H E0).nox.A) : ∃ t, XSs (cxOf CX0 P w K mg base N_union "union" (defScope st_union) f cdv A outer s H E0).nox (defBody st_union) t (W_union sp_combined a_joined_layers) :=
  ⟨_, (xss_one (xs_ret (xe_callc c_combined (by exact hr) (Nat.le_refl _) (by rfl) (xa_cons (xe_nameF (pv 0)) (xa_cons (xe_nameF (pv 1)) (xa_cons (xe_glob (pe_glob (by rfl) v_joined_layers rfl)) (xa_cons (xe_tup (xa_cons xe_bl (xa_cons xe_bl xa_nil))) xa_nil)))))))⟩
theorem ok_union {P : Program} {w : World} {K : PySem.W.Frag} {mg : Str → Option Value} {base : Heap} {k : Nat} {f : Addr} {fd : FuncData} {sp : DSpec} (sp_combined : DSpec) (a_joined_layers : Addr) (c_combined : Cal P w K mg base k "combined" sp_combined) (v_joined_layers : mg "joined_layers" = some (.ref a_joined_layers)) (F : Fun K "union" "union" st_union f fd) (hl : ∀ ds K', sp ds K' → ds.length = 2) (hw : ∀ ds K', sp ds K' → W_union sp_combined a_joined_layers { nx := fun ρ => K' (.dat .none) (outsOf ds ρ), rt := fun r ρ => K' r (outsOf ds ρ) } (startD N_union ds)) : FnOk P w K mg base CX0 (k + 1) f fd ["a", "b"] (spD K sp) :=
  fn_data F sc_union hl fun cdv A outer s H hr => by
    obtain ⟨t, h⟩ := dv_union (f := f) (cdv := cdv) (A := A) (outer := outer) (s := s) (H := H) sp_combined a_joined_layers c_combined v_joined_layers hr
    exact ⟨t, _, h, hw⟩
/-! union_of -/
abbrev st_union_of : Stmt := topS 20
theorem sc_union_of : FnScope N_union_of ["solids"] (defScope st_union_of) := ⟨rfl, rfl, rfl, by decide +kernel, rfl, by decide +kernel, by decide +kernel⟩
theorem dv_union_of {P : Program} {w : World} {K : PySem.W.Frag} {mg : Str → Option Value} {base : Heap} {k : Nat} {f : Addr} {cdv : Value} {A : Around} {outer : List Env} {s : Shared} {H : Hp} (sp_union : DSpec) (m_len : mg "len" = none) (m_list : mg "list" = none) (m_range : mg "range" = none) (c_union : Cal P w K mg base k "union" sp_union) (hr : Room k (cxOf CX0 P w K mg base N_union_of "union_of" (defScope st_union_of) f cdv A outer s H E0).nox.A) : ∃ t, XSs (cxOf CX0 P w K mg base N_union_of "union_of" (defScope st_union_of) f cdv A outer s H E0).nox (defBody st_union_of) t (W_union_of sp_union) :=
  ⟨_, (xss_cons (xs_set (i := 1) sc_union_of.nd rfl (Or.inr rfl) (xe_callTy xc_list (by rfl) m_list (by decide +kernel) (xa_cons (xe_name (pv 0)) xa_nil))) (xss_cons (xs_while PassesOwn.never (xt_cmp xo_gt (xe_callB xc_len (by rfl) m_len (by decide +kernel) (xa_cons (xe_name (pv 1)) xa_nil)) xe_int (nomark _)) (xss_one (xs_set (i := 1) sc_union_of.nd rfl (Or.inr rfl) (xe_lcD (own := [("k", 2)]) rfl sc_union_of.nd (xi_range3 (pi_range3 (by rfl) m_range (xa_cons xe_int (xa_cons (xe_callB xc_len (by rfl) m_len (by decide +kernel) (xa_cons (xe_name (pv 1)) xa_nil)) (xa_cons xe_int xa_nil))).pa) (xa_cons xe_int (xa_cons (xe_callB xc_len (by rfl) m_len (by decide +kernel) (xa_cons (xe_name (pv 1)) xa_nil)) (xa_cons xe_int xa_nil)))) (blkOk_by (N := N_union_of) (sc := defScope st_union_of) (by decide +kernel)) (fun _ _ _ _ _ => (xg_name (i := 2) sc_union_of.nd rfl (Or.inl rfl))) (fun _ _ _ _ _ => xts_nil) (fun _ _ _ _ _ => (xe_if (xt_cmp xo_lt (xe_op xo_add (xe_name (pv 2)) xe_int) (xe_callB xc_len (by rfl) m_len (by decide +kernel) (xa_cons (xe_name (pv 1)) xa_nil)) (nomark _)) (xe_callc c_union (by exact hr) (Nat.le_refl _) (by rfl) (xa_cons (xe_ix (xe_name (pv 1)) (xe_name (pv 2)) (fun _ _ => rfl)) (xa_cons (xe_ix (xe_name (pv 1)) (xe_op xo_add (xe_name (pv 2)) xe_int) (fun _ _ => rfl)) xa_nil))) (xe_ix (xe_name (pv 1)) (xe_name (pv 2)) (fun _ _ => rfl)))))))) (xss_one (xs_ret (xe_if (xt_tru (xe_name (pv 1))) (xe_ix (xe_name (pv 1)) xe_int (fun _ _ => rfl)) (xe_tup xa_nil))))))⟩
theorem ok_union_of {P : Program} {w : World} {K : PySem.W.Frag} {mg : Str → Option Value} {base : Heap} {k : Nat} {f : Addr} {fd : FuncData} {sp : DSpec} (sp_union : DSpec) (m_len : mg "len" = none) (m_list : mg "list" = none) (m_range : mg "range" = none) (c_union : Cal P w K mg base k "union" sp_union) (F : Fun K "union_of" "union_of" st_union_of f fd) (hl : ∀ ds K', sp ds K' → ds.length = 1) (hw : ∀ ds K', sp ds K' → W_union_of sp_union { nx := fun ρ => K' (.dat .none) (outsOf ds ρ), rt := fun r ρ => K' r (outsOf ds ρ) } (startD N_union_of ds)) : FnOk P w K mg base CX0 (k + 1) f fd ["solids"] (spD K sp) :=
  fn_data F sc_union_of hl fun cdv A outer s H hr => by
    obtain ⟨t, h⟩ := dv_union_of (f := f) (cdv := cdv) (A := A) (outer := outer) (s := s) (H := H) sp_union m_len m_list m_range c_union hr
    exact ⟨t, _, h, hw⟩
/-! _law_cell_at -/
abbrev st__law_cell_at : Stmt := topS 26
theorem sc__law_cell_at : FnScope N__law_cell_at ["script", "k"] (defScope st__law_cell_at) := ⟨rfl, rfl, rfl, by decide +kernel, rfl, by decide +kernel, by decide +kernel⟩
theorem dv__law_cell_at {P : Program} {w : World} {K : PySem.W.Frag} {mg : Str → Option Value} {base : Heap} {k : Nat} {f : Addr} {cdv : Value} {A : Around} {outer : List Env} {s : Shared} {H : Hp} (m_len : mg "len" = none) (hr : Room k (cxOf CX0 P w K mg base N__law_cell_at "_law_cell_at" (defScope st__law_cell_at) f cdv A outer s H E0).nox.A) : ∃ t, XSs (cxOf CX0 P w K mg base N__law_cell_at "_law_cell_at" (defScope st__law_cell_at) f cdv A outer s H E0).nox (defBody st__law_cell_at) t (W__law_cell_at) :=
  ⟨_, (xss_cons (xs_if (xt_cmp xo_lt (xe_name (pv 1)) (xe_callB xc_len (by rfl) m_len (by decide +kernel) (xa_cons (xe_name (pv 0)) xa_nil)) (nomark _)) (xss_one (xs_ret (xe_ix (xe_name (pv 0)) (xe_name (pv 1)) (fun _ _ => rfl)))) xss_nil) (xss_one (xs_ret xe_int)))⟩
theorem ok__law_cell_at {P : Program} {w : World} {K : PySem.W.Frag} {mg : Str → Option Value} {base : Heap} {k : Nat} {f : Addr} {fd : FuncData} {sp : DSpec} (m_len : mg "len" = none) (F : Fun K "_law_cell_at" "_law_cell_at" st__law_cell_at f fd) (hl : ∀ ds K', sp ds K' → ds.length = 2) (hw : ∀ ds K', sp ds K' → W__law_cell_at { nx := fun ρ => K' (.dat .none) (outsOf ds ρ), rt := fun r ρ => K' r (outsOf ds ρ) } (startD N__law_cell_at ds)) : FnOk P w K mg base CX0 (k + 1) f fd ["script", "k"] (spD K sp) :=
  fn_data F sc__law_cell_at hl fun cdv A outer s H hr => by
    obtain ⟨t, h⟩ := dv__law_cell_at (f := f) (cdv := cdv) (A := A) (outer := outer) (s := s) (H := H) m_len hr
    exact ⟨t, _, h, hw⟩
/-! _law_draw -/
abbrev st__law_draw : Stmt := topS 27
theorem sc__law_draw : FnScope N__law_draw ["cell", "k", "bound"] (defScope st__law_draw) := ⟨rfl, rfl, rfl, by decide +kernel, rfl, by decide +kernel, by decide +kernel⟩
theorem dv__law_draw {P : Program} {w : World} {K : PySem.W.Frag} {mg : Str → Option Value} {base : Heap} {k : Nat} {f : Addr} {cdv : Value} {A : Around} {outer : List Env} {s : Shared} {H : Hp} (m_int : mg "int" = none) (hr : Room k (cxOf CX0 P w K mg base N__law_draw "_law_draw" (defScope st__law_draw) f cdv A outer s H E0).nox.A) : ∃ t, XSs (cxOf CX0 P w K mg base N__law_draw "_law_draw" (defScope st__law_draw) f cdv A outer s H E0).nox (defBody st__law_draw) t (W__law_draw) :=
  ⟨_, (xss_cons (xs_set (i := 3) sc__law_draw.nd rfl (Or.inl rfl) (xe_tup (xa_cons xe_int (xa_cons xe_int (xa_cons xe_int (xa_cons xe_int (xa_cons xe_int (xa_cons xe_int (xa_cons xe_int (xa_cons xe_int (xa_cons xe_int (xa_cons xe_int (xa_cons xe_int (xa_cons xe_int (xa_cons xe_int (xa_cons xe_int (xa_cons xe_int (xa_cons xe_int xa_nil)))))))))))))))))) (xss_one (xs_ret (xe_op xo_mod (xe_op xo_mod (xe_callTy xc_int (by rfl) m_int (by decide +kernel) (xa_cons (xe_op xo_add (xe_op xo_mul (xe_name (pv 0)) xe_int) (xe_op xo_mul (xe_name (pv 1)) xe_int)) xa_nil)) (xe_ix (xe_name (pv 3)) (xe_op xo_mod (xe_callTy xc_int (by rfl) m_int (by decide +kernel) (xa_cons (xe_name (pv 1)) xa_nil)) xe_int) (fun _ _ => rfl))) (xe_name (pv 2))))))⟩
theorem ok__law_draw {P : Program} {w : World} {K : PySem.W.Frag} {mg : Str → Option Value} {base : Heap} {k : Nat} {f : Addr} {fd : FuncData} {sp : DSpec} (m_int : mg "int" = none) (F : Fun K "_law_draw" "_law_draw" st__law_draw f fd) (hl : ∀ ds K', sp ds K' → ds.length = 3) (hw : ∀ ds K', sp ds K' → W__law_draw { nx := fun ρ => K' (.dat .none) (outsOf ds ρ), rt := fun r ρ => K' r (outsOf ds ρ) } (startD N__law_draw ds)) : FnOk P w K mg base CX0 (k + 1) f fd ["cell", "k", "bound"] (spD K sp) :=
  fn_data F sc__law_draw hl fun cdv A outer s H hr => by
    obtain ⟨t, h⟩ := dv__law_draw (f := f) (cdv := cdv) (A := A) (outer := outer) (s := s) (H := H) m_int hr
    exact ⟨t, _, h, hw⟩
/-! _law_number -/
abbrev st__law_number : Stmt := topS 28
theorem sc__law_number : FnScope N__law_number ["cell", "k", "bound"] (defScope st__law_number) := ⟨rfl, rfl, rfl, by decide +kernel, rfl, by decide +kernel, by decide +kernel⟩
theorem dv__law_number {P : Program} {w : World} {K : PySem.W.Frag} {mg : Str → Option Value} {base : Heap} {k : Nat} {f : Addr} {cdv : Value} {A : Around} {outer : List Env} {s : Shared} {H : Hp} (sp__law_draw : DSpec) (m_int : mg "int" = none) (m_range : mg "range" = none) (c__law_draw : Cal P w K mg base k "_law_draw" sp__law_draw) (hr : Room k (cxOf CX0 P w K mg base N__law_number "_law_number" (defScope st__law_number) f cdv A outer s H E0).nox.A) : ∃ t, XSs (cxOf CX0 P w K mg base N__law_number "_law_number" (defScope st__law_number) f cdv A outer s H E0).nox (defBody st__law_number) t (W__law_number sp__law_draw) :=
  ⟨_, (xss_cons (xs_set (i := 3) sc__law_number.nd rfl (Or.inl rfl) xe_int) (xss_cons (xs_for PassesOwn.never rfl (xi_range1 (by rfl) m_range (xa_cons (xe_op xo_mod (xe_callTy xc_int (by rfl) m_int (by decide +kernel) (xa_cons (xe_name (pv 1)) xa_nil)) xe_int) xa_nil)) (xg_name (i := 4) sc__law_number.nd rfl (Or.inl rfl)) (xss_one (xs_set (i := 3) sc__law_number.nd rfl (Or.inl rfl) (xe_op xo_mul (xe_name (pv 3)) xe_int)))) (xss_cons (xs_set (i := 5) sc__law_number.nd rfl (Or.inl rfl) (xe_op xo_fdivW (xe_op xo_sub (xe_name (pv 0)) (xe_op xo_pow xe_int xe_int)) (xe_name (pv 3)))) (xss_cons (xs_if (xt_cmp xo_gt (xe_name (pv 5)) xe_int (nomark _)) (xss_one (xs_ret (xe_op xo_mod (xe_op xo_mod (xe_callTy xc_int (by rfl) m_int (by decide +kernel) (xa_cons (xe_name (pv 5)) xa_nil)) xe_int) (xe_name (pv 2))))) xss_nil) (xss_cons (xs_set (i := 6) sc__law_number.nd rfl (Or.inl rfl) (xe_op xo_mod (xe_callTy xc_int (by rfl) m_int (by decide +kernel) (xa_cons (xe_name (pv 0)) xa_nil)) xe_int)) (xss_one (xs_ret (xe_op xo_mod (xe_callc c__law_draw (by exact hr) (Nat.le_refl _) (by rfl) (xa_cons (xe_op xo_mul (xe_op xo_add (xe_name (pv 6)) (xe_op xo_mul xe_int (xe_name (pv 1)))) (xe_op xo_add (xe_op xo_add (xe_name (pv 6)) (xe_op xo_mul xe_int (xe_name (pv 1)))) xe_int)) (xa_cons (xe_op xo_add (xe_op xo_mod (xe_callTy xc_int (by rfl) m_int (by decide +kernel) (xa_cons (xe_name (pv 1)) xa_nil)) xe_int) xe_int) (xa_cons xe_int xa_nil)))) (xe_name (pv 2))))))))))⟩
theorem ok__law_number {P : Program} {w : World} {K : PySem.W.Frag} {mg : Str → Option Value} {base : Heap} {k : Nat} {f : Addr} {fd : FuncData} {sp : DSpec} (sp__law_draw : DSpec) (m_int : mg "int" = none) (m_range : mg "range" = none) (c__law_draw : Cal P w K mg base k "_law_draw" sp__law_draw) (F : Fun K "_law_number" "_law_number" st__law_number f fd) (hl : ∀ ds K', sp ds K' → ds.length = 3) (hw : ∀ ds K', sp ds K' → W__law_number sp__law_draw { nx := fun ρ => K' (.dat .none) (outsOf ds ρ), rt := fun r ρ => K' r (outsOf ds ρ) } (startD N__law_number ds)) : FnOk P w K mg base CX0 (k + 1) f fd ["cell", "k", "bound"] (spD K sp) :=
  fn_data F sc__law_number hl fun cdv A outer s H hr => by
    obtain ⟨t, h⟩ := dv__law_number (f := f) (cdv := cdv) (A := A) (outer := outer) (s := s) (H := H) sp__law_draw m_int m_range c__law_draw hr
    exact ⟨t, _, h, hw⟩
/-! _law_next -/
abbrev st__law_next : Stmt := topS 29
theorem sc__law_next : FnScope N__law_next ["draw", "bound"] (defScope st__law_next) := ⟨rfl, rfl, rfl, by decide +kernel, rfl, by decide +kernel, by decide +kernel⟩
theorem dv__law_next {P : Program} {w : World} {K : PySem.W.Frag} {mg : Str → Option Value} {base : Heap} {k : Nat} {f : Addr} {cdv : Value} {A : Around} {outer : List Env} {s : Shared} {H : Hp} (sp__law_cell_at sp__law_number : DSpec) (m_int : mg "int" = none) (c__law_cell_at : Cal P w K mg base k "_law_cell_at" sp__law_cell_at) (c__law_number : Cal P w K mg base k "_law_number" sp__law_number) (hr : Room k (cxOf CX0 P w K mg base N__law_next "_law_next" (defScope st__law_next) f cdv A outer s H E0).nox.A) : ∃ t, XSs (cxOf CX0 P w K mg base N__law_next "_law_next" (defScope st__law_next) f cdv A outer s H E0).nox (defBody st__law_next) t (W__law_next sp__law_cell_at sp__law_number) :=
  ⟨_, (xss_cons (xs_put (xe_op xo_add (xe_ix (xe_name (pv 0)) xe_int (fun _ _ => rfl)) xe_int) (xe_name (pv 0)) xe_int) (xss_cons (xs_set (i := 2) sc__law_next.nd rfl (Or.inl rfl) (xe_op xo_fdiv (xe_ix (xe_name (pv 0)) xe_int (fun _ _ => rfl)) xe_int)) (xss_cons (xs_set (i := 3) sc__law_next.nd rfl (Or.inl rfl) (xe_op xo_add (xe_callc c__law_cell_at (by exact hr) (Nat.le_refl _) (by rfl) (xa_cons (xe_ix (xe_name (pv 0)) xe_int (fun _ _ => rfl)) (xa_cons (xe_op xo_add (xe_ix (xe_name (pv 0)) xe_int (fun _ _ => rfl)) (xe_name (pv 2))) xa_nil))) (xe_op xo_mul xe_int (xe_name (pv 2))))) (xss_one (xs_ret (xe_callc c__law_number (by exact hr) (Nat.le_refl _) (by rfl) (xa_cons (xe_nameF (pv 3)) (xa_cons (xe_op xo_add (xe_op xo_mod (xe_callTy xc_int (by rfl) m_int (by decide +kernel) (xa_cons (xe_ix (xe_name (pv 0)) xe_int (fun _ _ => rfl)) xa_nil)) xe_int) xe_int) (xa_cons (xe_nameF (pv 1)) xa_nil)))))))))⟩
theorem ok__law_next {P : Program} {w : World} {K : PySem.W.Frag} {mg : Str → Option Value} {base : Heap} {k : Nat} {f : Addr} {fd : FuncData} {sp : DSpec} (sp__law_cell_at sp__law_number : DSpec) (m_int : mg "int" = none) (c__law_cell_at : Cal P w K mg base k "_law_cell_at" sp__law_cell_at) (c__law_number : Cal P w K mg base k "_law_number" sp__law_number) (F : Fun K "_law_next" "_law_next" st__law_next f fd) (hl : ∀ ds K', sp ds K' → ds.length = 2) (hw : ∀ ds K', sp ds K' → W__law_next sp__law_cell_at sp__law_number { nx := fun ρ => K' (.dat .none) (outsOf ds ρ), rt := fun r ρ => K' r (outsOf ds ρ) } (startD N__law_next ds)) : FnOk P w K mg base CX0 (k + 1) f fd ["draw", "bound"] (spD K sp) :=
  fn_data F sc__law_next hl fun cdv A outer s H hr => by
    obtain ⟨t, h⟩ := dv__law_next (f := f) (cdv := cdv) (A := A) (outer := outer) (s := s) (H := H) sp__law_cell_at sp__law_number m_int c__law_cell_at c__law_number hr
    exact ⟨t, _, h, hw⟩
/-! _law_boxes -/
abbrev st__law_boxes : Stmt := topS 31
theorem sc__law_boxes : FnScope N__law_boxes ["draw", "many", "wide"] (defScope st__law_boxes) := ⟨rfl, rfl, rfl, by decide +kernel, rfl, by decide +kernel, by decide +kernel⟩
theorem dv__law_boxes {P : Program} {w : World} {K : PySem.W.Frag} {mg : Str → Option Value} {base : Heap} {k : Nat} {f : Addr} {cdv : Value} {A : Around} {outer : List Env} {s : Shared} {H : Hp} (sp__law_next : DSpec) (m_range : mg "range" = none) (m_tuple : mg "tuple" = none) (c__law_next : Cal P w K mg base k "_law_next" sp__law_next) (hr : Room k (cxOf CX0 P w K mg base N__law_boxes "_law_boxes" (defScope st__law_boxes) f cdv A outer s H E0).nox.A) : ∃ t, XSs (cxOf CX0 P w K mg base N__law_boxes "_law_boxes" (defScope st__law_boxes) f cdv A outer s H E0).nox (defBody st__law_boxes) t (W__law_boxes sp__law_next) :=
  ⟨_, (xss_cons (xs_set (i := 3) sc__law_boxes.nd rfl (Or.inl rfl) (xe_lst xa_nil)) (xss_cons (xs_for PassesOwn.never rfl (xi_range1 (by rfl) m_range (xa_cons (xe_callc c__law_next (by exact hr) (Nat.le_refl _) (by rfl) (xa_cons (xe_name (pv 0)) (xa_cons (xe_nameF (pv 1)) xa_nil))) xa_nil)) (xg_name (i := 4) sc__law_boxes.nd rfl (Or.inl rfl)) (xss_cons (xs_set (i := 5) sc__law_boxes.nd rfl (Or.inl rfl) (xe_callTy xc_tuple (by rfl) m_tuple (by decide +kernel) (xa_cons (xe_lcD (own := [("axis", 6)]) rfl sc__law_boxes.nd (xi_range1 (by rfl) m_range (xa_cons xe_int xa_nil)) (blkOk_by (N := N__law_boxes) (sc := defScope st__law_boxes) (by decide +kernel)) (fun _ _ _ _ _ => (xg_name (i := 6) sc__law_boxes.nd rfl (Or.inl rfl))) (fun _ _ _ _ _ => xts_nil) (fun _ _ _ _ _ => (xe_op xo_sub (xe_callc c__law_next (by exact hr) (Nat.le_refl _) (by rfl) (xa_cons (xe_name (pv 0)) (xa_cons (xe_nameF (pv 2)) xa_nil))) xe_int))) xa_nil))) (xss_one (xs_expr (xe_append (xe_name (pv 3)) (xa_cons (xe_tup (xa_cons (xe_name (pv 5)) (xa_cons (xe_callTy xc_tuple (by rfl) m_tuple (by decide +kernel) (xa_cons (xe_lcD (own := [("one", 7)]) rfl sc__law_boxes.nd (xi_seq (xe_nameF (pv 5))) (blkOk_by (N := N__law_boxes) (sc := defScope st__law_boxes) (by decide +kernel)) (fun _ _ _ _ _ => (xg_name (i := 7) sc__law_boxes.nd rfl (Or.inl rfl))) (fun _ _ _ _ _ => xts_nil) (fun _ _ _ _ _ => (xe_op xo_add (xe_op xo_add (xe_name (pv 7)) xe_int) (xe_callc c__law_next (by exact hr) (Nat.le_refl _) (by rfl) (xa_cons (xe_name (pv 0)) (xa_cons xe_int xa_nil)))))) xa_nil)) xa_nil))) xa_nil)))))) (xss_one (xs_ret (xe_name (pv 3))))))⟩
theorem ok__law_boxes {P : Program} {w : World} {K : PySem.W.Frag} {mg : Str → Option Value} {base : Heap} {k : Nat} {f : Addr} {fd : FuncData} {sp : DSpec} (sp__law_next : DSpec) (m_range : mg "range" = none) (m_tuple : mg "tuple" = none) (c__law_next : Cal P w K mg base k "_law_next" sp__law_next) (F : Fun K "_law_boxes" "_law_boxes" st__law_boxes f fd) (hl : ∀ ds K', sp ds K' → ds.length = 3) (hw : ∀ ds K', sp ds K' → W__law_boxes sp__law_next { nx := fun ρ => K' (.dat .none) (outsOf ds ρ), rt := fun r ρ => K' r (outsOf ds ρ) } (startD N__law_boxes ds)) : FnOk P w K mg base CX0 (k + 1) f fd ["draw", "many", "wide"] (spD K sp) :=
  fn_data F sc__law_boxes hl fun cdv A outer s H hr => by
    obtain ⟨t, h⟩ := dv__law_boxes (f := f) (cdv := cdv) (A := A) (outer := outer) (s := s) (H := H) sp__law_next m_range m_tuple c__law_next hr
    exact ⟨t, _, h, hw⟩
/-! _law_solid -/
abbrev st__law_solid : Stmt := topS 33
theorem sc__law_solid : FnScope N__law_solid ["boxes"] (defScope st__law_solid) := ⟨rfl, rfl, rfl, by decide +kernel, rfl, by decide +kernel, by decide +kernel⟩
theorem dv__law_solid {P : Program} {w : World} {K : PySem.W.Frag} {mg : Str → Option Value} {base : Heap} {k : Nat} {f : Addr} {cdv : Value} {A : Around} {outer : List Env} {s : Shared} {H : Hp} (sp_box sp_union_of : DSpec) (c_box : Cal P w K mg base k "box" sp_box) (c_union_of : Cal P w K mg base k "union_of" sp_union_of) (hr : Room k (cxOf CX0 P w K mg base N__law_solid "_law_solid" (defScope st__law_solid) f cdv A outer s H E0).nox.A) : ∃ t, XSs (cxOf CX0 P w K mg base N__law_solid "_law_solid" (defScope st__law_solid) f cdv A outer s H E0).nox (defBody st__law_solid) t (W__law_solid sp_box sp_union_of) :=
  ⟨_, (xss_one (xs_ret (xe_callc c_union_of (by exact hr) (Nat.le_refl _) (by rfl) (xa_cons (xe_lcD (own := [("low", 1), ("high", 2)]) rfl sc__law_solid.nd (xi_seq (xe_nameF (pv 0))) (blkOk_by (N := N__law_solid) (sc := defScope st__law_solid) (by decide +kernel)) (fun _ _ _ _ _ => (xg_tup rfl (xgs_cons (xg_name (i := 1) sc__law_solid.nd rfl (Or.inl rfl)) (xgs_cons (xg_name (i := 2) sc__law_solid.nd rfl (Or.inl rfl)) xgs_nil)))) (fun _ _ _ _ _ => xts_nil) (fun _ _ _ _ _ => (xe_callc c_box (by exact hr) (Nat.le_refl _) (by rfl) (xa_cons (xe_nameF (pv 1)) (xa_cons (xe_nameF (pv 2)) xa_nil))))) xa_nil))))⟩
theorem ok__law_solid {P : Program} {w : World} {K : PySem.W.Frag} {mg : Str → Option Value} {base : Heap} {k : Nat} {f : Addr} {fd : FuncData} {sp : DSpec} (sp_box sp_union_of : DSpec) (c_box : Cal P w K mg base k "box" sp_box) (c_union_of : Cal P w K mg base k "union_of" sp_union_of) (F : Fun K "_law_solid" "_law_solid" st__law_solid f fd) (hl : ∀ ds K', sp ds K' → ds.length = 1) (hw : ∀ ds K', sp ds K' → W__law_solid sp_box sp_union_of { nx := fun ρ => K' (.dat .none) (outsOf ds ρ), rt := fun r ρ => K' r (outsOf ds ρ) } (startD N__law_solid ds)) : FnOk P w K mg base CX0 (k + 1) f fd ["boxes"] (spD K sp) :=
  fn_data F sc__law_solid hl fun cdv A outer s H hr => by
    obtain ⟨t, h⟩ := dv__law_solid (f := f) (cdv := cdv) (A := A) (outer := outer) (s := s) (H := H) sp_box sp_union_of c_box c_union_of hr
    exact ⟨t, _, h, hw⟩
/-! _law_bent -/
abbrev st__law_bent : Stmt := topS 36
theorem sc__law_bent : FnScope N__law_bent ["draw", "solid"] (defScope st__law_bent) := ⟨rfl, rfl, rfl, by decide +kernel, rfl, by decide +kernel, by decide +kernel⟩
theorem dv__law_bent {P : Program} {w : World} {K : PySem.W.Frag} {mg : Str → Option Value} {base : Heap} {k : Nat} {f : Addr} {cdv : Value} {A : Around} {outer : List Env} {s : Shared} {H : Hp} (sp__law_next : DSpec) (m_len : mg "len" = none) (m_list : mg "list" = none) (c__law_next : Cal P w K mg base k "_law_next" sp__law_next) (hr : Room k (cxOf CX0 P w K mg base N__law_bent "_law_bent" (defScope st__law_bent) f cdv A outer s H E0).nox.A) : ∃ t, XSs (cxOf CX0 P w K mg base N__law_bent "_law_bent" (defScope st__law_bent) f cdv A outer s H E0).nox (defBody st__law_bent) t (W__law_bent sp__law_next) :=
  ⟨_, (xss_cons (xs_set (i := 2) sc__law_bent.nd rfl (Or.inl rfl) (xe_callc c__law_next (by exact hr) (Nat.le_refl _) (by rfl) (xa_cons (xe_name (pv 0)) (xa_cons (xe_callB xc_len (by rfl) m_len (by decide +kernel) (xa_cons (xe_name (pv 1)) xa_nil)) xa_nil)))) (xss_cons (xs_asg (xe_ix (xe_name (pv 1)) (xe_name (pv 2)) (fun _ _ => rfl)) (xg_tup rfl (xgs_cons (xg_name (i := 3) sc__law_bent.nd rfl (Or.inl rfl)) (xgs_cons (xg_name (i := 4) sc__law_bent.nd rfl (Or.inl rfl)) (xgs_cons (xg_name (i := 5) sc__law_bent.nd rfl (Or.inl rfl)) xgs_nil))))) (xss_cons (xs_set (i := 6) sc__law_bent.nd rfl (Or.inl rfl) (xe_callc c__law_next (by exact hr) (Nat.le_refl _) (by rfl) (xa_cons (xe_name (pv 0)) (xa_cons (xe_callB xc_len (by rfl) m_len (by decide +kernel) (xa_cons (xe_name (pv 5)) xa_nil)) xa_nil)))) (xss_cons (xs_asg (xe_ix (xe_name (pv 5)) (xe_name (pv 6)) (fun _ _ => rfl)) (xg_tup rfl (xgs_cons (xg_name (i := 7) sc__law_bent.nd rfl (Or.inl rfl)) (xgs_cons (xg_name (i := 8) sc__law_bent.nd rfl (Or.inl rfl)) (xgs_cons (xg_name (i := 9) sc__law_bent.nd rfl (Or.inl rfl)) xgs_nil))))) (xss_cons (xs_set (i := 10) sc__law_bent.nd rfl (Or.inl rfl) (xe_callc c__law_next (by exact hr) (Nat.le_refl _) (by rfl) (xa_cons (xe_name (pv 0)) (xa_cons xe_int xa_nil)))) (xss_cons (xs_if (xt_cmp (xo_eq (Room.units (by exact hr))) (xe_name (pv 10)) xe_int (nomark _)) (xss_one (xs_ret (xe_op xo_catT (xe_sl (xe_name (pv 1)) xp_none (xp_some (xe_name (pv 2)))) (xe_sl (xe_name (pv 1)) (xp_some (xe_op xo_add (xe_name (pv 2)) xe_int)) xp_none)))) xss_nil) (xss_cons (xs_if (xt_cmp (xo_eq (Room.units (by exact hr))) (xe_name (pv 10)) xe_int (nomark _)) (xss_one (xs_ret (xe_rev (xe_name (pv 1))))) xss_nil) (xss_cons (xs_if (xt_cmp (xo_eq (Room.units (by exact hr))) (xe_name (pv 10)) xe_int (nomark _)) (xss_one (xs_ret (xe_op xo_catT (xe_op xo_catT (xe_sl (xe_name (pv 1)) xp_none (xp_some (xe_name (pv 2)))) (xe_tup (xa_cons (xe_tup (xa_cons (xe_name (pv 3)) (xa_cons (xe_op xo_add (xe_name (pv 4)) xe_int) (xa_cons (xe_name (pv 5)) xa_nil)))) xa_nil))) (xe_sl (xe_name (pv 1)) (xp_some (xe_op xo_add (xe_name (pv 2)) xe_int)) xp_none)))) xss_nil) (xss_cons (xs_if (xt_cmp (xo_eq (Room.units (by exact hr))) (xe_name (pv 10)) xe_int (nomark _)) (xss_one (xs_ret (xe_callTy xc_list (by rfl) m_list (by decide +kernel) (xa_cons (xe_name (pv 1)) xa_nil)))) xss_nil) (xss_cons (xs_if (xt_cmp (xo_eq (Room.units (by exact hr))) (xe_name (pv 10)) xe_int (nomark _)) (xss_one (xs_ret (xe_op xo_catT (xe_op xo_catT (xe_sl (xe_name (pv 1)) xp_none (xp_some (xe_name (pv 2)))) (xe_tup (xa_cons (xe_tup (xa_cons (xe_name (pv 3)) (xa_cons (xe_name (pv 4)) (xa_cons (xe_tup xa_nil) xa_nil)))) xa_nil))) (xe_sl (xe_name (pv 1)) (xp_some (xe_op xo_add (xe_name (pv 2)) xe_int)) xp_none)))) xss_nil) (xss_cons (xs_if (xt_cmp (xo_eq (Room.units (by exact hr))) (xe_name (pv 10)) xe_int (nomark _)) (xss_one (xs_ret (xe_op xo_catT (xe_op xo_catT (xe_sl (xe_name (pv 1)) xp_none (xp_some (xe_name (pv 2)))) (xe_tup (xa_cons (xe_tup (xa_cons (xe_name (pv 4)) (xa_cons (xe_name (pv 3)) (xa_cons (xe_name (pv 5)) xa_nil)))) xa_nil))) (xe_sl (xe_name (pv 1)) (xp_some (xe_op xo_add (xe_name (pv 2)) xe_int)) xp_none)))) xss_nil) (xss_cons (xs_if (xt_cmp (xo_eq (Room.units (by exact hr))) (xe_name (pv 10)) xe_int (nomark _)) (xss_one (xs_set (i := 9) sc__law_bent.nd rfl (Or.inl rfl) (xe_op xo_catT (xe_name (pv 9)) (xe_tup (xa_cons (xe_tup (xa_cons (xe_ix (xe_ix (xe_name (pv 9)) (xe_neg xe_int) (fun _ _ => rfl)) xe_int (fun _ _ => rfl)) (xa_cons (xe_op xo_add (xe_ix (xe_ix (xe_name (pv 9)) (xe_neg xe_int) (fun _ _ => rfl)) xe_int (fun _ _ => rfl)) xe_int) xa_nil))) xa_nil))))) (xss_one (xs_if (xt_cmp (xo_eq (Room.units (by exact hr))) (xe_name (pv 10)) xe_int (nomark _)) (xss_one (xs_set (i := 9) sc__law_bent.nd rfl (Or.inl rfl) (xe_op xo_catT (xe_tup (xa_cons (xe_tup (xa_cons (xe_ix (xe_ix (xe_name (pv 9)) xe_int (fun _ _ => rfl)) xe_int (fun _ _ => rfl)) (xa_cons xe_bl xa_nil))) xa_nil)) (xe_sl (xe_name (pv 9)) (xp_some xe_int) xp_none)))) (xss_one (xs_if (xt_cmp (xo_eq (Room.units (by exact hr))) (xe_name (pv 10)) xe_int (nomark _)) (xss_one (xs_set (i := 9) sc__law_bent.nd rfl (Or.inl rfl) (xe_rev (xe_name (pv 9))))) (xss_one (xs_if (xt_cmp (xo_eq (Room.units (by exact hr))) (xe_name (pv 10)) xe_int (nomark _)) (xss_one (xs_set (i := 8) sc__law_bent.nd rfl (Or.inl rfl) (xe_op xo_add (xe_name (pv 8)) xe_int))) (xss_one (xs_set (i := 9) sc__law_bent.nd rfl (Or.inl rfl) (xe_tup xa_nil)))))))))) (xss_one (xs_ret (xe_op xo_catT (xe_op xo_catT (xe_sl (xe_name (pv 1)) xp_none (xp_some (xe_name (pv 2)))) (xe_tup (xa_cons (xe_tup (xa_cons (xe_name (pv 3)) (xa_cons (xe_name (pv 4)) (xa_cons (xe_op xo_catT (xe_op xo_catT (xe_sl (xe_name (pv 5)) xp_none (xp_some (xe_name (pv 6)))) (xe_tup (xa_cons (xe_tup (xa_cons (xe_name (pv 7)) (xa_cons (xe_name (pv 8)) (xa_cons (xe_name (pv 9)) xa_nil)))) xa_nil))) (xe_sl (xe_name (pv 5)) (xp_some (xe_op xo_add (xe_name (pv 6)) xe_int)) xp_none)) xa_nil)))) xa_nil))) (xe_sl (xe_name (pv 1)) (xp_some (xe_op xo_add (xe_name (pv 2)) xe_int)) xp_none))))))))))))))))⟩
theorem ok__law_bent {P : Program} {w : World} {K : PySem.W.Frag} {mg : Str → Option Value} {base : Heap} {k : Nat} {f : Addr} {fd : FuncData} {sp : DSpec} (sp__law_next : DSpec) (m_len : mg "len" = none) (m_list : mg "list" = none) (c__law_next : Cal P w K mg base k "_law_next" sp__law_next) (F : Fun K "_law_bent" "_law_bent" st__law_bent f fd) (hl : ∀ ds K', sp ds K' → ds.length = 2) (hw : ∀ ds K', sp ds K' → W__law_bent sp__law_next { nx := fun ρ => K' (.dat .none) (outsOf ds ρ), rt := fun r ρ => K' r (outsOf ds ρ) } (startD N__law_bent ds)) : FnOk P w K mg base CX0 (k + 1) f fd ["draw", "solid"] (spD K sp) :=
  fn_data F sc__law_bent hl fun cdv A outer s H hr => by
    obtain ⟨t, h⟩ := dv__law_bent (f := f) (cdv := cdv) (A := A) (outer := outer) (s := s) (H := H) sp__law_next m_len m_list c__law_next hr
    exact ⟨t, _, h, hw⟩
/-! _law_is_plain -/
abbrev st__law_is_plain : Stmt := topS 37
theorem sc__law_is_plain : FnScope N__law_is_plain ["thing"] (defScope st__law_is_plain) := ⟨rfl, rfl, rfl, by decide +kernel, rfl, by decide +kernel, by decide +kernel⟩
theorem dv__law_is_plain {P : Program} {w : World} {K : PySem.W.Frag} {mg : Str → Option Value} {base : Heap} {k : Nat} {f : Addr} {cdv : Value} {A : Around} {outer : List Env} {s : Shared} {H : Hp} (m_bool : mg "bool" = none) (m_isinstance : mg "isinstance" = none) (m_len : mg "len" = none) (m_tuple : mg "tuple" = none) (hr : Room k (cxOf CX0 P w K mg base N__law_is_plain "_law_is_plain" (defScope st__law_is_plain) f cdv A outer s H E0).nox.A) : ∃ t, XSs (cxOf CX0 P w K mg base N__law_is_plain "_law_is_plain" (defScope st__law_is_plain) f cdv A outer s H E0).nox (defBody st__law_is_plain) t (W__law_is_plain) :=
  ⟨_, (xss_cons (xs_if (xt_not (xt_tru (xe_isi m_isinstance m_tuple (xe_name (pv 0)) (by rfl) (by rfl) (by decide +kernel) (by decide +kernel)))) (xss_one (xs_ret xe_bl)) xss_nil) (xss_cons (xs_for PassesOwn.never rfl (xi_seq (xe_nameF (pv 0))) (xg_name (i := 1) sc__law_is_plain.nd rfl (Or.inl rfl)) (xss_cons (xs_if (xw_or (xt_not (xt_tru (xe_isi m_isinstance m_tuple (xe_name (pv 1)) (by rfl) (by rfl) (by decide +kernel) (by decide +kernel)))) (xw_or (xt_cmp (xo_ne (Room.units (by exact hr))) (xe_callB xc_len (by rfl) m_len (by decide +kernel) (xa_cons (xe_name (pv 1)) xa_nil)) xe_int (nomark _)) (xw_or (xt_not (xt_tru (xe_isi m_isinstance m_tuple (xe_ix (xe_name (pv 1)) xe_int (fun _ _ => rfl)) (by rfl) (by rfl) (by decide +kernel) (by decide +kernel)))) (xw_or1 (xt_cmp xo_ge (xe_ix (xe_name (pv 1)) xe_int (fun _ _ => rfl)) (xe_ix (xe_name (pv 1)) xe_int (fun _ _ => rfl)) (nomark _)))))).xt (xss_one (xs_ret xe_bl)) xss_nil) (xss_one (xs_for PassesOwn.never rfl (xi_seq (xe_ix (xe_name (pv 1)) xe_int (fun _ _ => rfl))) (xg_name (i := 2) sc__law_is_plain.nd rfl (Or.inl rfl)) (xss_cons (xs_if (xw_or (xt_not (xt_tru (xe_isi m_isinstance m_tuple (xe_name (pv 2)) (by rfl) (by rfl) (by decide +kernel) (by decide +kernel)))) (xw_or (xt_cmp (xo_ne (Room.units (by exact hr))) (xe_callB xc_len (by rfl) m_len (by decide +kernel) (xa_cons (xe_name (pv 2)) xa_nil)) xe_int (nomark _)) (xw_or (xt_not (xt_tru (xe_isi m_isinstance m_tuple (xe_ix (xe_name (pv 2)) xe_int (fun _ _ => rfl)) (by rfl) (by rfl) (by decide +kernel) (by decide +kernel)))) (xw_or1 (xt_cmp xo_ge (xe_ix (xe_name (pv 2)) xe_int (fun _ _ => rfl)) (xe_ix (xe_name (pv 2)) xe_int (fun _ _ => rfl)) (nomark _)))))).xt (xss_one (xs_ret xe_bl)) xss_nil) (xss_one (xs_for PassesOwn.never rfl (xi_seq (xe_ix (xe_name (pv 2)) xe_int (fun _ _ => rfl))) (xg_name (i := 3) sc__law_is_plain.nd rfl (Or.inl rfl)) (xss_one (xs_if (xw_or (xt_tru (xe_isi m_isinstance m_bool (xe_ix (xe_name (pv 3)) xe_int (fun _ _ => rfl)) (by rfl) (by rfl) (by decide +kernel) (by decide +kernel))) (xw_or (xt_tru (xe_isi m_isinstance m_bool (xe_ix (xe_name (pv 3)) xe_int (fun _ _ => rfl)) (by rfl) (by rfl) (by decide +kernel) (by decide +kernel))) (xw_or1 (xt_cmp xo_ge (xe_ix (xe_name (pv 3)) xe_int (fun _ _ => rfl)) (xe_ix (xe_name (pv 3)) xe_int (fun _ _ => rfl)) (nomark _))))).xt (xss_one (xs_ret xe_bl)) xss_nil))))))))) (xss_one (xs_ret xe_bl))))⟩
theorem ok__law_is_plain {P : Program} {w : World} {K : PySem.W.Frag} {mg : Str → Option Value} {base : Heap} {k : Nat} {f : Addr} {fd : FuncData} {sp : DSpec} (m_bool : mg "bool" = none) (m_isinstance : mg "isinstance" = none) (m_len : mg "len" = none) (m_tuple : mg "tuple" = none) (F : Fun K "_law_is_plain" "_law_is_plain" st__law_is_plain f fd) (hl : ∀ ds K', sp ds K' → ds.length = 1) (hw : ∀ ds K', sp ds K' → W__law_is_plain { nx := fun ρ => K' (.dat .none) (outsOf ds ρ), rt := fun r ρ => K' r (outsOf ds ρ) } (startD N__law_is_plain ds)) : FnOk P w K mg base CX0 (k + 1) f fd ["thing"] (spD K sp) :=
  fn_data F sc__law_is_plain hl fun cdv A outer s H hr => by
    obtain ⟨t, h⟩ := dv__law_is_plain (f := f) (cdv := cdv) (A := A) (outer := outer) (s := s) (H := H) m_bool m_isinstance m_len m_tuple hr
    exact ⟨t, _, h, hw⟩
/-! _law_inside -/
abbrev st__law_inside : Stmt := topS 38
theorem sc__law_inside : FnScope N__law_inside ["thing"] (defScope st__law_inside) := ⟨rfl, rfl, rfl, by decide +kernel, rfl, by decide +kernel, by decide +kernel⟩
theorem dv__law_inside {P : Program} {w : World} {K : PySem.W.Frag} {mg : Str → Option Value} {base : Heap} {k : Nat} {f : Addr} {cdv : Value} {A : Around} {outer : List Env} {s : Shared} {H : Hp} (hr : Room k (cxOf CX0 P w K mg base N__law_inside "_law_inside" (defScope st__law_inside) f cdv A outer s H E0).nox.A) : ∃ t, XSs (cxOf CX0 P w K mg base N__law_inside "_law_inside" (defScope st__law_inside) f cdv A outer s H E0).nox (defBody st__law_inside) t (W__law_inside) :=
  ⟨_, (xss_cons (xs_set (i := 1) sc__law_inside.nd rfl (Or.inl rfl) (xe_lst xa_nil)) (xss_cons (xs_for PassesOwn.never rfl (xi_seq (xe_nameF (pv 0))) (xg_tup rfl (xgs_cons (xg_name (i := 2) sc__law_inside.nd rfl (Or.inr rfl)) (xgs_cons (xg_name (i := 3) sc__law_inside.nd rfl (Or.inr rfl)) (xgs_cons (xg_name (i := 4) sc__law_inside.nd rfl (Or.inl rfl)) xgs_nil)))) (xss_one (xs_for PassesOwn.never rfl (xi_seq (xe_nameF (pv 4))) (xg_tup rfl (xgs_cons (xg_name (i := 5) sc__law_inside.nd rfl (Or.inr rfl)) (xgs_cons (xg_name (i := 6) sc__law_inside.nd rfl (Or.inr rfl)) (xgs_cons (xg_name (i := 7) sc__law_inside.nd rfl (Or.inl rfl)) xgs_nil)))) (xss_one (xs_set (i := 1) sc__law_inside.nd rfl (Or.inl rfl) (xe_op xo_catLs (xe_name (pv 1)) (xe_lcD (own := [("x0", 8), ("x1", 9)]) rfl sc__law_inside.nd (xi_seq (xe_nameF (pv 7))) (blkOk_by (N := N__law_inside) (sc := defScope st__law_inside) (by decide +kernel)) (fun _ _ _ _ _ => (xg_tup rfl (xgs_cons (xg_name (i := 8) sc__law_inside.nd rfl (Or.inl rfl)) (xgs_cons (xg_name (i := 9) sc__law_inside.nd rfl (Or.inl rfl)) xgs_nil)))) (fun _ _ _ _ _ => xts_nil) (fun _ _ _ _ _ => (xe_tup (xa_cons (xe_tup (xa_cons (xe_name (pv 8)) (xa_cons (xe_name (pv 5)) (xa_cons (xe_name (pv 2)) xa_nil)))) (xa_cons (xe_tup (xa_cons (xe_name (pv 9)) (xa_cons (xe_name (pv 6)) (xa_cons (xe_name (pv 3)) xa_nil)))) xa_nil))))))))))) (xss_one (xs_ret (xe_name (pv 1))))))⟩
theorem ok__law_inside {P : Program} {w : World} {K : PySem.W.Frag} {mg : Str → Option Value} {base : Heap} {k : Nat} {f : Addr} {fd : FuncData} {sp : DSpec} (F : Fun K "_law_inside" "_law_inside" st__law_inside f fd) (hl : ∀ ds K', sp ds K' → ds.length = 1) (hw : ∀ ds K', sp ds K' → W__law_inside { nx := fun ρ => K' (.dat .none) (outsOf ds ρ), rt := fun r ρ => K' r (outsOf ds ρ) } (startD N__law_inside ds)) : FnOk P w K mg base CX0 (k + 1) f fd ["thing"] (spD K sp) :=
  fn_data F sc__law_inside hl fun cdv A outer s H hr => by
    obtain ⟨t, h⟩ := dv__law_inside (f := f) (cdv := cdv) (A := A) (outer := outer) (s := s) (H := H) hr
    exact ⟨t, _, h, hw⟩
/-! law -/
abbrev st_law : Stmt := topS 39
theorem sc_law : FnScope N_law ["script"] (defScope st_law) := ⟨rfl, rfl, rfl, by decide +kernel, rfl, by decide +kernel, by decide +kernel⟩
theorem dv_law {P : Program} {w : World} {K : PySem.W.Frag} {mg : Str → Option Value} {base : Heap} {k : Nat} {f : Addr} {cdv : Value} {A : Around} {outer : List Env} {s : Shared} {H : Hp} (sp_is_solid sp__law_boxes sp__law_solid sp__law_bent sp__law_is_plain sp__law_inside : DSpec) (m_range : mg "range" = none) (c_is_solid : Cal P w K mg base k "is_solid" sp_is_solid) (c__law_boxes : Cal P w K mg base k "_law_boxes" sp__law_boxes) (c__law_solid : Cal P w K mg base k "_law_solid" sp__law_solid) (c__law_bent : Cal P w K mg base k "_law_bent" sp__law_bent) (c__law_is_plain : Cal P w K mg base k "_law_is_plain" sp__law_is_plain) (c__law_inside : Cal P w K mg base k "_law_inside" sp__law_inside) (hr : Room k (cxOf CX0 P w K mg base N_law "law" (defScope st_law) f cdv A outer s H E0).nox.A) : ∃ t, XSs (cxOf CX0 P w K mg base N_law "law" (defScope st_law) f cdv A outer s H E0).nox (defBody st_law) t (W_law sp_is_solid sp__law_boxes sp__law_solid sp__law_bent sp__law_is_plain sp__law_inside) :=
  ⟨_, (xss_cons (xs_set (i := 1) sc_law.nd rfl (Or.inl rfl) (xe_lst (xa_cons (xe_sl (xe_name (pv 0)) xp_none (xp_some xe_int)) (xa_cons xe_int (xa_cons xe_int xa_nil))))) (xss_cons (xs_set (i := 2) sc_law.nd rfl (Or.inl rfl) (xe_callc c__law_boxes (by exact hr) (Nat.le_refl _) (by rfl) (xa_cons (xe_name (pv 1)) (xa_cons xe_int (xa_cons xe_int xa_nil))))) (xss_cons (xs_set (i := 3) sc_law.nd rfl (Or.inl rfl) (xe_callc c__law_solid (by exact hr) (Nat.le_refl _) (by rfl) (xa_cons (xe_nameF (pv 2)) xa_nil))) (xss_cons (xs_if (xw_or (xt_not (xt_tru (xe_callc c_is_solid (by exact hr) (Nat.le_refl _) (by rfl) (xa_cons (xe_nameF (pv 3)) xa_nil)))) (xw_or (xt_not (xt_tru (xe_callc c_is_solid (by exact hr) (Nat.le_refl _) (by rfl) (xa_cons (xe_tup xa_nil) xa_nil)))) (xw_or (xt_tru (xe_callc c_is_solid (by exact hr) (Nat.le_refl _) (by rfl) (xa_cons xe_non xa_nil))) (xw_or (xt_tru (xe_callc c_is_solid (by exact hr) (Nat.le_refl _) (by rfl) (xa_cons xe_int xa_nil))) (xw_or (xt_tru (xe_callc c_is_solid (by exact hr) (Nat.le_refl _) (by rfl) (xa_cons (xe_lst xa_nil) xa_nil))) (xw_or1 (xt_tru (xe_callc c_is_solid (by exact hr) (Nat.le_refl _) (by rfl) (xa_cons (xe_tup (xa_cons (xe_tup (xa_cons xe_int (xa_cons xe_int (xa_cons (xe_tup xa_nil) xa_nil)))) xa_nil)) xa_nil))))))))).xt (xss_one (xs_ret xe_bl)) xss_nil) (xss_cons (xs_if (xt_cmp (xo_eq (Room.units (by exact hr))) (xe_name (pv 3)) (xe_tup xa_nil) (nomark _)) (xss_one (xs_ret xe_bl)) xss_nil) (xss_cons (xs_for PassesOwn.never rfl (xi_range1 (by rfl) m_range (xa_cons xe_int xa_nil)) (xg_name (i := 4) sc_law.nd rfl (Or.inl rfl)) (xss_cons (xs_set (i := 5) sc_law.nd rfl (Or.inl rfl) (xe_callc c__law_bent (by exact hr) (Nat.le_refl _) (by rfl) (xa_cons (xe_name (pv 1)) (xa_cons (xe_nameF (pv 3)) xa_nil)))) (xss_cons (xs_set (i := 6) sc_law.nd rfl (Or.inl rfl) (xe_and (xe_callc c__law_is_plain (by exact hr) (Nat.le_refl _) (by rfl) (xa_cons (xe_nameF (pv 5)) xa_nil)) (xe_one (xe_cmp (xo_eq (Room.units (by exact hr))) (xe_callc c__law_solid (by exact hr) (Nat.le_refl _) (by rfl) (xa_cons (xe_callc c__law_inside (by exact hr) (Nat.le_refl _) (by rfl) (xa_cons (xe_nameF (pv 5)) xa_nil)) xa_nil)) (xe_name (pv 5)) (nomark _))))) (xss_one (xs_if (xt_cmp (xo_ne (Room.units (by exact hr))) (xe_callc c_is_solid (by exact hr) (Nat.le_refl _) (by rfl) (xa_cons (xe_nameF (pv 5)) xa_nil)) (xe_name (pv 6)) (nomark _)) (xss_one (xs_ret xe_bl)) xss_nil))))) (xss_one (xs_ret xe_bl))))))))⟩
theorem ok_law {P : Program} {w : World} {K : PySem.W.Frag} {mg : Str → Option Value} {base : Heap} {k : Nat} {f : Addr} {fd : FuncData} {sp : DSpec} (sp_is_solid sp__law_boxes sp__law_solid sp__law_bent sp__law_is_plain sp__law_inside : DSpec) (m_range : mg "range" = none) (c_is_solid : Cal P w K mg base k "is_solid" sp_is_solid) (c__law_boxes : Cal P w K mg base k "_law_boxes" sp__law_boxes) (c__law_solid : Cal P w K mg base k "_law_solid" sp__law_solid) (c__law_bent : Cal P w K mg base k "_law_bent" sp__law_bent) (c__law_is_plain : Cal P w K mg base k "_law_is_plain" sp__law_is_plain) (c__law_inside : Cal P w K mg base k "_law_inside" sp__law_inside) (F : Fun K "law" "law" st_law f fd) (hl : ∀ ds K', sp ds K' → ds.length = 1) (hw : ∀ ds K', sp ds K' → W_law sp_is_solid sp__law_boxes sp__law_solid sp__law_bent sp__law_is_plain sp__law_inside { nx := fun ρ => K' (.dat .none) (outsOf ds ρ), rt := fun r ρ => K' r (outsOf ds ρ) } (startD N_law ds)) : FnOk P w K mg base CX0 (k + 1) f fd ["script"] (spD K sp) :=
  fn_data F sc_law hl fun cdv A outer s H hr => by
    obtain ⟨t, h⟩ := dv_law (f := f) (cdv := cdv) (A := A) (outer := outer) (s := s) (H := H) sp_is_solid sp__law_boxes sp__law_solid sp__law_bent sp__law_is_plain sp__law_inside m_range c_is_solid c__law_boxes c__law_solid c__law_bent c__law_is_plain c__law_inside hr
    exact ⟨t, _, h, hw⟩
end K5
end
section
set_option Elab.async false
set_option linter.all false
set_option maxRecDepth 100000
set_option maxHeartbeats 1000000
namespace K5
open PySem L2 DL SM
local macro_rules | `(tactic| walk_at "ev") => `(tactic| first
  | (with_reducible refine ev_seq ?_)
  | (with_reducible refine ev_next ?_)
  | (with_reducible refine ev_break ?_)
  | (with_reducible refine ev_cont ?_)
  | (with_reducible refine ev_expr ?_)
  | (with_reducible refine ev_kExpr ?_)
  | (with_reducible refine ev_ret ?_)
  | (with_reducible refine ev_retN ?_)
  | (with_reducible refine ev_kRet_dat ?_)
  | (with_reducible refine ev_kRet_lst ?_)
  | (with_reducible refine ev_ifS ?_)
  | (with_reducible refine ev_kIfS_t ?_)
  | (with_reducible refine ev_kIfS_f ?_)
  | (with_reducible refine ev_set ?_)
  | (with_reducible refine ev_par ?_)
  | (with_reducible refine ev_asg ?_)
  | (with_reducible refine ev_put ?_)
  | (with_reducible refine ev_kPut1 ?_)
  | (with_reducible refine ev_kPut2 ?_)
  | (with_reducible refine ev_for ?_)
  | (with_reducible refine ev_kFor ?_)
  | (with_reducible refine ev_seqI ?_)
  | (with_reducible refine ev_kSeqI_l ?_)
  | (with_reducible refine ev_kSeqI_t ?_)
  | (with_reducible refine ev_kSeqI_n ?_)
  | (with_reducible refine ev_rng1 ?_)
  | (with_reducible refine ev_rng2 ?_)
  | (with_reducible refine ev_rng3 ?_)
  | (with_reducible refine ev_c ?_)
  | (with_reducible refine ev_fn ?_)
  | (with_reducible refine ev_bin ?_)
  | (with_reducible refine ev_kBin1 ?_)
  | (with_reducible refine ev_intT ?_)
  | (with_reducible refine ev_eqI ?_)
  | (with_reducible refine ev_neI ?_)
  | (with_reducible refine ev_isN ?_)
  | (with_reducible refine ev_neg ?_)
  | (with_reducible refine ev_kNeg ?_)
  | (with_reducible refine ev_not ?_)
  | (with_reducible refine ev_kNot ?_)
  | (with_reducible refine ev_test ?_)
  | (with_reducible refine ev_kTest ?_)
  | (with_reducible refine ev_tru ?_)
  | (with_reducible refine ev_and ?_)
  | (with_reducible refine ev_or ?_)
  | (with_reducible refine ev_kAnd_t ?_)
  | (with_reducible refine ev_kAnd_f ?_)
  | (with_reducible refine ev_kOr_t ?_)
  | (with_reducible refine ev_kOr_f ?_)
  | (with_reducible refine ev_if ?_)
  | (with_reducible refine ev_kIf_t ?_)
  | (with_reducible refine ev_kIf_f ?_)
  | (with_reducible refine ev_andV ?_)
  | (with_reducible refine ev_orV ?_)
  | (with_reducible refine ev_kAndV_t ?_)
  | (with_reducible refine ev_kAndV_f ?_)
  | (with_reducible refine ev_kOrV_t ?_)
  | (with_reducible refine ev_kOrV_f ?_)
  | (with_reducible refine ev_notV ?_)
  | (with_reducible refine ev_kNotV ?_)
  | (with_reducible refine ev_isi ?_)
  | (with_reducible refine ev_nil ?_)
  | (with_reducible refine ev_kCons2 ?_)
  | (with_reducible refine ev_cons ?_)
  | (with_reducible refine ev_kCons1_dat ?_)
  | (with_reducible refine ev_kCons1_fn ?_)
  | (with_reducible refine ev_kCons1_own ?_)
  | (with_reducible refine ev_kCons1_lst ?_)
  | (with_reducible refine ev_star ?_)
  | (with_reducible refine ev_kStar2 ?_)
  | (with_reducible refine ev_tup ?_)
  | (with_reducible refine ev_lst ?_)
  | (with_reducible refine ev_noPart ?_)
  | (with_reducible refine ev_part ?_)
  | (with_reducible refine ev_kPart ?_)
  | (with_reducible refine ev_sl ?_)
  | (with_reducible refine ev_kSl1 ?_)
  | (with_reducible refine ev_kSl2 ?_)
  | (with_reducible refine ev_rev ?_)
  | (with_reducible refine ev_call ?_)
  | (with_reducible refine ev_max2 ?_)
  | (with_reducible refine ev_min2 ?_)
  | (with_reducible refine ev_int1 ?_)
  | (with_reducible refine ev_user ?_)
  | (with_reducible refine ev_app ?_)
  | (with_reducible refine ev_ext ?_)
  | (with_reducible refine ev_lc ?_)
  | ((with_reducible refine' ev_name ?k0 ?k1 ?_); (case k0 => rfl); (case k1 => rfl))
  | ((with_reducible refine' ev_nameO ?k0 ?k1 ?_); (case k0 => rfl); (case k1 => rfl))
  | ((with_reducible refine' ev_nameF_dat ?k0 ?_); (case k0 => rfl))
  | ((with_reducible refine' ev_nameF_fn ?k0 ?_); (case k0 => rfl))
  | ((with_reducible refine' ev_nameF_arg ?k0 ?_); (case k0 => rfl))
  | ((with_reducible refine' ev_nameF_lst ?k0 ?_); (case k0 => rfl))
  | ((with_reducible refine' ev_kSet_dat ?k0 ?_); (case k0 => rfl))
  | ((with_reducible refine' ev_kSet_lst ?k0 ?_); (case k0 => rfl))
  | ((with_reducible refine' ev_kSet_fn ?k0 ?_); (case k0 => rfl))
  | ((with_reducible refine' ev_kPar ?k0 ?k1 ?k2 ?k3 ?_); (case k0 => rfl); (case k1 => rfl); (case k2 => rfl); (case k3 => rfl))
  | ((with_reducible refine' ev_kAsg ?k0 ?_); (case k0 => rfl))
  | ((with_reducible refine' ev_aug ?k0 ?_); (case k0 => rfl))
  | ((with_reducible refine' ev_kAug ?k0 ?_); (case k0 => rfl))
  | ((with_reducible refine' ev_kPut3 ?k0 ?k1 ?_); (case k0 => rfl); (case k1 => rfl))
  | ((with_reducible refine' ev_ix ?k0 ?k1 ?_); (case k0 => rfl); (case k1 => rfl))
  | ((with_reducible refine' ev_kTru ?k0 ?_); (case k0 => rfl))
  | ((with_reducible refine' ev_kIsi ?k0 ?k1 ?_); (case k0 => rfl); (case k1 => rfl))
  | ((with_reducible refine' ev_kStar1 ?k0 ?_); (case k0 => rfl))
  | ((with_reducible refine' ev_kSl3_t ?k0 ?_); (case k0 => rfl))
  | ((with_reducible refine' ev_kSl3_l ?k0 ?_); (case k0 => rfl))
  | ((with_reducible refine' ev_kRev_t ?k0 ?_); (case k0 => rfl))
  | ((with_reducible refine' ev_kRev_l ?k0 ?_); (case k0 => rfl))
  | ((with_reducible refine' ev_len ?k0 ?_); (case k0 => rfl))
  | ((with_reducible refine' ev_tuple ?k0 ?_); (case k0 => rfl))
  | ((with_reducible refine' ev_list ?k0 ?_); (case k0 => rfl))
  | ((with_reducible refine' ev_kApp1 ?k0 ?_); (case k0 => rfl))
  | ((with_reducible refine' ev_kExt1 ?k0 ?_); (case k0 => rfl))
  | ((with_reducible refine' ev_kRet_own ?k0 ?_); (case k0 => rfl))
  | ((with_reducible refine' ev_kTup ?k0 ?k1 ?_); (case k0 => rfl); (case k1 => simp [sizeLine]))
  | ((with_reducible refine' ev_kLst ?k0 ?k1 ?_); (case k0 => rfl); (case k1 => simp [sizeLine]))
  | (with_reducible refine ev_nx ?_)
  | (with_reducible refine ev_rt ?_)
  | (with_reducible refine ev_bk ?_)
  | (with_reducible refine ev_ct ?_)
)
local macro_rules | `(tactic| walk_at "evs") => `(tactic| repeat (walk_at "ev"))
def sp_put : DSpec := fun ds K' => ∃ (β : Type) (_ : DecidableEq β) (enc : β → PyData) (isE : β → Bool) (R : List (Slab β)) (lo hi : Int) (x : β),
  ds = [.arg (R.map (eS enc)), .dat (.int lo), .dat (.int hi), .dat (enc x)] ∧ truD (enc x) = some (!isE x) ∧ (∀ y, (enc y).eqv (enc x) = true ↔ y = x) ∧ (∀ y, SeqAt.shaped (enc y) = true) ∧ R.length < sizeLine ∧
  K' (.dat .none) [.arg ((putM isE R lo hi x).map (eS enc)), .dat (.int lo), .dat (.int hi), .dat (enc x)]
theorem ixN_last (n : Nat) : ixN (n + 1) (-1) = some n := by
  unfold ixN
  rw [if_neg (by omega), if_pos (by omega)]
  congr 1
  omega
theorem set_last {α : Type} (xs : List α) (x y : α) : (xs ++ [x]).set xs.length y = xs ++ [y] := by
  rw [List.set_append_right _ _ (Nat.le_refl _), Nat.sub_self]; rfl
theorem nil_or_last {α : Type} (R : List α) : R = [] ∨ ∃ L l, R = L ++ [l] := by
  rcases List.eq_nil_or_concat R with h | ⟨L, l, h⟩
  · exact .inl h
  · exact .inr ⟨L, l, by rw [h, List.concat_eq_append]⟩
theorem wp_put : ∀ ds K', sp_put ds K' → W_put { nx := fun ρ => K' (.dat .none) (outsOf ds ρ), rt := fun r ρ => K' r (outsOf ds ρ) } (startD N_put ds) := by
  rintro ds K' ⟨β, _, enc, isE, R, lo, hi, x, rfl, ht, he, hs, hl, q⟩
  have app : (∀ l, R.getLast? = some l → ¬ (l.2.1 = lo ∧ l.2.2 = x)) → isE x = false → wExpr (wApp (wName 0) (wCons (wTup (wCons (wName 1) (wCons (wName 2) (wCons (wName 3) wNil)))) wNil)) { nx := fun ρ => K' (.dat .none) (outsOf [.arg (R.map (eS enc)), .dat (.int lo), .dat (.int hi), .dat (enc x)] ρ), rt := fun r ρ => K' r (outsOf [.arg (R.map (eS enc)), .dat (.int lo), .dat (.int hi), .dat (enc x)] ρ) } (startD N_put [.arg (R.map (eS enc)), .dat (.int lo), .dat (.int hi), .dat (enc x)]) := by
    intro hn hx
    walk_at "evs"
    refine ev_kApp2 rfl (by rw [List.length_map]; exact hl) ?_
    walk_at "evs"
    have e : putM isE R lo hi x = R ++ [(lo, hi, x)] := by
      unfold putM
      rw [if_neg (by rw [hx]; decide)]
      cases hR : R.getLast? with
      | none => rw [List.getLast?_eq_none_iff.mp hR]; rfl
      | some l => dsimp only; rw [if_neg (hn l hR)]
    rw [e, List.map_append] at q
    exact q
  unfold W_put
  walk_at "evs"
  refine ev_kTru (b := !isE x) ht ?_
  walk_at "evs"
  refine ev_kIfS (fun h => ?_) (fun h => ?_)
  · walk_at "evs"
    have hx : isE x = true := by simpa using h
    have e : putM isE R lo hi x = R := by unfold putM; rw [if_pos hx]
    rw [e] at q
    exact q
  have hx : isE x = false := by simpa using h
  walk_at "evs"
  rcases nil_or_last R with rfl | ⟨L, l, rfl⟩
  · refine ev_kAnd_f (ev_kIfS_f ?_)
    exact app (fun l e => nomatch e) hx
  refine ev_kAnd (fun _ => ?_) (fun z => by simp at z)
  have hm : ∀ i : Nat, (List.map (eS enc) (L ++ [l])) = L.map (eS enc) ++ [eS enc l] := fun _ => by rw [List.map_append]; rfl
  have hat : atI (List.map (eS enc) (L ++ [l])) (-1) = some (eS enc l) := by rw [List.map_append]; exact atI_last _ _
  have last : (L ++ [l]).getLast? = some l := by simp
  walk_at "evs"
  refine ev_ix (b := false) rfl hat ?_
  walk_at "evs"
  refine ev_kAnd (fun h1 => ?_) (fun h1 => ?_)
  · walk_at "evs"
    refine ev_ix (b := false) rfl hat ?_
    walk_at "evs"
    refine ev_eq rfl rfl (hs _) (hs _) ?_
    walk_at "evs"
    refine ev_kIfS (fun h2 => ?_) (fun h2 => ?_)
    · walk_at "evs"
      refine ev_ix (b := false) rfl hat ?_
      walk_at "evs"
      refine ev_kPut3 (b := true) (j := L.length) rfl (by rw [List.length_map, List.length_append]; exact ixN_last _) ?_
      walk_at "evs"
      have e : putM isE (L ++ [l]) lo hi x = L ++ [(l.1, hi, x)] := by
        unfold putM
        rw [if_neg (by rw [hx]; decide), last]
        dsimp only
        rw [if_pos ⟨of_decide_eq_true h1, (he _).mp h2⟩, List.dropLast_concat]
      rw [e, List.map_append] at q
      rw [List.map_append]
      have e2 : (List.map (eS enc) L ++ List.map (eS enc) [l]).set L.length (eS enc (l.1, hi, x)) = List.map (eS enc) L ++ [eS enc (l.1, hi, x)] := by
        have := set_last (L.map (eS enc)) (eS enc l) (eS enc (l.1, hi, x))
        rw [List.length_map] at this
        exact this
      have q' : K' (.dat .none) [.arg ((List.map (eS enc) L ++ List.map (eS enc) [l]).set L.length (eS enc (l.1, hi, x))), .dat (.int lo), .dat (.int hi), .dat (enc x)] := by rw [e2]; exact q
      exact q'
    · refine app (fun k e => ?_) hx
      rw [last] at e
      cases e
      rintro ⟨_, z⟩
      rw [z, (he _).mpr rfl] at h2
      cases h2
  · refine ev_kIfS_f (app (fun k e => ?_) hx)
    rw [last] at e
    cases e
    rintro ⟨z, _⟩
    exact absurd z (of_decide_eq_false h1)

end K5
end
section
set_option Elab.async false
set_option linter.all false
set_option maxRecDepth 100000
set_option maxHeartbeats 1000000
namespace K5
open PySem L2 DL SM
local macro_rules | `(tactic| walk_at "ev") => `(tactic| first
  | (with_reducible refine ev_seq ?_)
  | (with_reducible refine ev_next ?_)
  | (with_reducible refine ev_break ?_)
  | (with_reducible refine ev_cont ?_)
  | (with_reducible refine ev_expr ?_)
  | (with_reducible refine ev_kExpr ?_)
  | (with_reducible refine ev_ret ?_)
  | (with_reducible refine ev_retN ?_)
  | (with_reducible refine ev_kRet_dat ?_)
  | (with_reducible refine ev_kRet_lst ?_)
  | (with_reducible refine ev_ifS ?_)
  | (with_reducible refine ev_kIfS_t ?_)
  | (with_reducible refine ev_kIfS_f ?_)
  | (with_reducible refine ev_set ?_)
  | (with_reducible refine ev_par ?_)
  | (with_reducible refine ev_asg ?_)
  | (with_reducible refine ev_put ?_)
  | (with_reducible refine ev_kPut1 ?_)
  | (with_reducible refine ev_kPut2 ?_)
  | (with_reducible refine ev_for ?_)
  | (with_reducible refine ev_kFor ?_)
  | (with_reducible refine ev_seqI ?_)
  | (with_reducible refine ev_kSeqI_l ?_)
  | (with_reducible refine ev_kSeqI_t ?_)
  | (with_reducible refine ev_kSeqI_n ?_)
  | (with_reducible refine ev_rng1 ?_)
  | (with_reducible refine ev_rng2 ?_)
  | (with_reducible refine ev_rng3 ?_)
  | (with_reducible refine ev_c ?_)
  | (with_reducible refine ev_fn ?_)
  | (with_reducible refine ev_bin ?_)
  | (with_reducible refine ev_kBin1 ?_)
  | (with_reducible refine ev_intT ?_)
  | (with_reducible refine ev_eqI ?_)
  | (with_reducible refine ev_neI ?_)
  | (with_reducible refine ev_isN ?_)
  | (with_reducible refine ev_neg ?_)
  | (with_reducible refine ev_kNeg ?_)
  | (with_reducible refine ev_not ?_)
  | (with_reducible refine ev_kNot ?_)
  | (with_reducible refine ev_test ?_)
  | (with_reducible refine ev_kTest ?_)
  | (with_reducible refine ev_tru ?_)
  | (with_reducible refine ev_and ?_)
  | (with_reducible refine ev_or ?_)
  | (with_reducible refine ev_kAnd_t ?_)
  | (with_reducible refine ev_kAnd_f ?_)
  | (with_reducible refine ev_kOr_t ?_)
  | (with_reducible refine ev_kOr_f ?_)
  | (with_reducible refine ev_if ?_)
  | (with_reducible refine ev_kIf_t ?_)
  | (with_reducible refine ev_kIf_f ?_)
  | (with_reducible refine ev_andV ?_)
  | (with_reducible refine ev_orV ?_)
  | (with_reducible refine ev_kAndV_t ?_)
  | (with_reducible refine ev_kAndV_f ?_)
  | (with_reducible refine ev_kOrV_t ?_)
  | (with_reducible refine ev_kOrV_f ?_)
  | (with_reducible refine ev_notV ?_)
  | (with_reducible refine ev_kNotV ?_)
  | (with_reducible refine ev_isi ?_)
  | (with_reducible refine ev_nil ?_)
  | (with_reducible refine ev_kCons2 ?_)
  | (with_reducible refine ev_cons ?_)
  | (with_reducible refine ev_kCons1_dat ?_)
  | (with_reducible refine ev_kCons1_fn ?_)
  | (with_reducible refine ev_kCons1_own ?_)
  | (with_reducible refine ev_kCons1_lst ?_)
  | (with_reducible refine ev_star ?_)
  | (with_reducible refine ev_kStar2 ?_)
  | (with_reducible refine ev_tup ?_)
  | (with_reducible refine ev_lst ?_)
  | (with_reducible refine ev_noPart ?_)
  | (with_reducible refine ev_part ?_)
  | (with_reducible refine ev_kPart ?_)
  | (with_reducible refine ev_sl ?_)
  | (with_reducible refine ev_kSl1 ?_)
  | (with_reducible refine ev_kSl2 ?_)
  | (with_reducible refine ev_rev ?_)
  | (with_reducible refine ev_call ?_)
  | (with_reducible refine ev_max2 ?_)
  | (with_reducible refine ev_min2 ?_)
  | (with_reducible refine ev_int1 ?_)
  | (with_reducible refine ev_user ?_)
  | (with_reducible refine ev_app ?_)
  | (with_reducible refine ev_ext ?_)
  | (with_reducible refine ev_lc ?_)
  | ((with_reducible refine' ev_name ?k0 ?k1 ?_); (case k0 => rfl); (case k1 => rfl))
  | ((with_reducible refine' ev_nameO ?k0 ?k1 ?_); (case k0 => rfl); (case k1 => rfl))
  | ((with_reducible refine' ev_nameF_dat ?k0 ?_); (case k0 => rfl))
  | ((with_reducible refine' ev_nameF_fn ?k0 ?_); (case k0 => rfl))
  | ((with_reducible refine' ev_nameF_arg ?k0 ?_); (case k0 => rfl))
  | ((with_reducible refine' ev_nameF_lst ?k0 ?_); (case k0 => rfl))
  | ((with_reducible refine' ev_kSet_dat ?k0 ?_); (case k0 => rfl))
  | ((with_reducible refine' ev_kSet_lst ?k0 ?_); (case k0 => rfl))
  | ((with_reducible refine' ev_kSet_fn ?k0 ?_); (case k0 => rfl))
  | ((with_reducible refine' ev_kPar ?k0 ?k1 ?k2 ?k3 ?_); (case k0 => rfl); (case k1 => rfl); (case k2 => rfl); (case k3 => rfl))
  | ((with_reducible refine' ev_kAsg ?k0 ?_); (case k0 => rfl))
  | ((with_reducible refine' ev_aug ?k0 ?_); (case k0 => rfl))
  | ((with_reducible refine' ev_kAug ?k0 ?_); (case k0 => rfl))
  | ((with_reducible refine' ev_kPut3 ?k0 ?k1 ?_); (case k0 => rfl); (case k1 => rfl))
  | ((with_reducible refine' ev_ix ?k0 ?k1 ?_); (case k0 => rfl); (case k1 => rfl))
  | ((with_reducible refine' ev_kTru ?k0 ?_); (case k0 => rfl))
  | ((with_reducible refine' ev_kIsi ?k0 ?k1 ?_); (case k0 => rfl); (case k1 => rfl))
  | ((with_reducible refine' ev_kStar1 ?k0 ?_); (case k0 => rfl))
  | ((with_reducible refine' ev_kSl3_t ?k0 ?_); (case k0 => rfl))
  | ((with_reducible refine' ev_kSl3_l ?k0 ?_); (case k0 => rfl))
  | ((with_reducible refine' ev_kRev_t ?k0 ?_); (case k0 => rfl))
  | ((with_reducible refine' ev_kRev_l ?k0 ?_); (case k0 => rfl))
  | ((with_reducible refine' ev_len ?k0 ?_); (case k0 => rfl))
  | ((with_reducible refine' ev_tuple ?k0 ?_); (case k0 => rfl))
  | ((with_reducible refine' ev_list ?k0 ?_); (case k0 => rfl))
  | ((with_reducible refine' ev_kApp1 ?k0 ?_); (case k0 => rfl))
  | ((with_reducible refine' ev_kExt1 ?k0 ?_); (case k0 => rfl))
  | ((with_reducible refine' ev_kRet_own ?k0 ?_); (case k0 => rfl))
  | ((with_reducible refine' ev_kTup ?k0 ?k1 ?_); (case k0 => rfl); (case k1 => simp [sizeLine]))
  | ((with_reducible refine' ev_kLst ?k0 ?k1 ?_); (case k0 => rfl); (case k1 => simp [sizeLine]))
  | (with_reducible refine ev_nx ?_)
  | (with_reducible refine ev_rt ?_)
  | (with_reducible refine ev_bk ?_)
  | (with_reducible refine ev_ct ?_)
)
local macro_rules | `(tactic| walk_at "evs") => `(tactic| repeat (walk_at "ev"))
section
variable {β : Type} {E : Int → Prop} {G : β → Prop} {L : List (Slab β)}
theorem form_at {i : Nat} {s : Slab β} (h : Form E G L) (e : L[i]? = some s) :
    (∀ t ∈ L.take (i + 1), t.2.1 ≤ s.2.1 ∧ t.1 ≤ s.1) ∧ ∀ t ∈ L.drop i, s.2.1 ≤ t.2.1 ∧ s.1 ≤ t.1 := by
  letI : DecidableEq β := fun a b => Classical.propDecidable (a = b)
  have hi : i < L.length := (List.getElem?_eq_some_iff.mp e).1
  have hs : L[i] = s := (List.getElem?_eq_some_iff.mp e).2
  have ok := Form.mem h s (List.mem_of_getElem? e)
  have ed : L.drop i = s :: L.drop (i + 1) := by rw [List.drop_eq_getElem_cons hi, hs]
  have hc : Form E G (L.take i ++ L.drop i) := by rw [List.take_append_drop]; exact h
  refine ⟨fun t m => ?_, fun t m => ?_⟩
  · rw [List.take_add_one, e] at m
    rcases List.mem_append.mp m with m | m
    · have := form_cross hc t m s (by rw [ed]; exact List.mem_cons_self)
      have := ok.lt
      have := (Form.mem h t (List.mem_of_mem_take m)).lt
      omega
    · have : t = s := by simpa using m
      rw [this]; omega
  · rw [ed] at m
    rcases List.mem_cons.mp m with rfl | m
    · omega
    · have hf : Form E G (s :: L.drop (i + 1)) := by rw [← ed]; exact form_drop i h
      have := Form.above hf t m
      have := ok.lt
      have := (Form.mem h t (List.mem_of_mem_drop m)).lt
      omega
end
theorem atI_of {α : Type} {xs : List α} {i : Nat} {x : α} (e : xs[i]? = some x) : atI xs (i : Int) = some x := atI_nat e
theorem atI_map {α γ : Type} {f : α → γ} {xs : List α} {i : Nat} {x : α} (e : xs[i]? = some x) : atI (xs.map f) (i : Int) = some (f x) := atI_nat (by rw [List.getElem?_map, e]; rfl)
def sp_first_ending_beyond : DSpec := fun ds K' => ∃ (β : Type) (enc : β → PyData) (E : Int → Prop) (G : β → Prop) (L : List (Slab β)) (n : Int),
  ds = [.dat (eSl enc L), .dat (.int n)] ∧ Form E G L ∧ ∀ r : Nat, r ≤ L.length → (∀ s ∈ L.take r, s.2.1 ≤ n) → (∀ s ∈ L.drop r, n < s.2.1) → ∀ outs, K' (.dat (.int r)) outs
def sp_first_beginning_from : DSpec := fun ds K' => ∃ (β : Type) (enc : β → PyData) (E : Int → Prop) (G : β → Prop) (L : List (Slab β)) (n : Int),
  ds = [.dat (eSl enc L), .dat (.int n)] ∧ Form E G L ∧ ∀ r : Nat, r ≤ L.length → (∀ s ∈ L.take r, s.1 < n) → (∀ s ∈ L.drop r, n ≤ s.1) → ∀ outs, K' (.dat (.int r)) outs
theorem half {lo hi : Nat} (h : lo < hi) : ((lo : Int) + (hi : Int)) / 2 = (((lo + hi) / 2 : Nat) : Int) := by omega
theorem wp_first_ending_beyond : ∀ ds K', sp_first_ending_beyond ds K' → W_first_ending_beyond { nx := fun ρ => K' (.dat .none) (outsOf ds ρ), rt := fun r ρ => K' r (outsOf ds ρ) } (startD N_first_ending_beyond ds) := by
  rintro ds K' ⟨β, enc, E, G, L, n, rfl, hf, q⟩
  unfold W_first_ending_beyond
  walk_at "evs"
  refine ev_while (fun m ρ => ∃ (lo hi : Nat) (y : Option DV), ρ = [some (.dat (eSl enc L)), some (.dat (.int n)), some (.dat (.int lo)), some (.dat (.int hi)), y] ∧ lo ≤ hi ∧ hi ≤ L.length ∧ m = hi - lo ∧ (∀ s ∈ L.take lo, s.2.1 ≤ n) ∧ (∀ s ∈ L.drop hi, n < s.2.1) ∧ notArgB (some y) = true) ⟨L.length, 0, L.length, none, by rw [show (L.length : Int) = ((L.map (eS enc)).length : Nat) by rw [List.length_map]]; rfl, by omega, by omega, by omega, by simp, by simp, rfl⟩ ?_
  rintro m ρ ⟨lo, hi, y, rfl, h1, h2, rfl, h3, h4, hy⟩
  walk_at "evs"
  refine ev_kWh (fun hc => ?_) (fun hc => ?_)
  · have hlt : lo < hi := by have := of_decide_eq_true hc; omega
    walk_at "evs"
    refine ev_int ⟨by decide, by decide⟩ ?_
    rw [half hlt]
    refine ev_kSet_dat hy ?_
    walk_at "evs"
    obtain ⟨s, hs⟩ : ∃ s, L[(lo + hi) / 2]? = some s := ⟨_, List.getElem?_eq_getElem (by omega)⟩
    refine ev_ix (b := true) rfl (atI_map hs) ?_
    walk_at "evs"
    obtain ⟨g1, g2⟩ := form_at hf hs
    refine ev_kIfS (fun h => ?_) (fun h => ?_)
    · have hn := of_decide_eq_true h
      walk_at "evs"
      exact ⟨(lo + hi) / 2 - lo, by omega, lo, (lo + hi) / 2, _, rfl, by omega, by omega, rfl, h3, fun t m => by have := g2 t m; omega, rfl⟩
    · have hn := of_decide_eq_false h
      walk_at "evs"
      exact ⟨hi - ((lo + hi) / 2 + 1), by omega, (lo + hi) / 2 + 1, hi, _, rfl, by omega, h2, rfl, fun t m => by have := g1 t m; omega, h4, rfl⟩
  · have hge : lo = hi := by have := of_decide_eq_false hc; omega
    subst hge
    walk_at "evs"
    exact q lo h2 h3 h4 _
theorem wp_first_beginning_from : ∀ ds K', sp_first_beginning_from ds K' → W_first_beginning_from { nx := fun ρ => K' (.dat .none) (outsOf ds ρ), rt := fun r ρ => K' r (outsOf ds ρ) } (startD N_first_beginning_from ds) := by
  rintro ds K' ⟨β, enc, E, G, L, n, rfl, hf, q⟩
  unfold W_first_beginning_from
  walk_at "evs"
  refine ev_while (fun m ρ => ∃ (lo hi : Nat) (y : Option DV), ρ = [some (.dat (eSl enc L)), some (.dat (.int n)), some (.dat (.int lo)), some (.dat (.int hi)), y] ∧ lo ≤ hi ∧ hi ≤ L.length ∧ m = hi - lo ∧ (∀ s ∈ L.take lo, s.1 < n) ∧ (∀ s ∈ L.drop hi, n ≤ s.1) ∧ notArgB (some y) = true) ⟨L.length, 0, L.length, none, by rw [show (L.length : Int) = ((L.map (eS enc)).length : Nat) by rw [List.length_map]]; rfl, by omega, by omega, by omega, by simp, by simp, rfl⟩ ?_
  rintro m ρ ⟨lo, hi, y, rfl, h1, h2, rfl, h3, h4, hy⟩
  walk_at "evs"
  refine ev_kWh (fun hc => ?_) (fun hc => ?_)
  · have hlt : lo < hi := by have := of_decide_eq_true hc; omega
    walk_at "evs"
    refine ev_int ⟨by decide, by decide⟩ ?_
    rw [half hlt]
    refine ev_kSet_dat hy ?_
    walk_at "evs"
    obtain ⟨s, hs⟩ : ∃ s, L[(lo + hi) / 2]? = some s := ⟨_, List.getElem?_eq_getElem (by omega)⟩
    refine ev_ix (b := true) rfl (atI_map hs) ?_
    walk_at "evs"
    obtain ⟨g1, g2⟩ := form_at hf hs
    refine ev_kIfS (fun h => ?_) (fun h => ?_)
    · have hn := of_decide_eq_true h
      walk_at "evs"
      exact ⟨(lo + hi) / 2 - lo, by omega, lo, (lo + hi) / 2, _, rfl, by omega, by omega, rfl, h3, fun t m => by have := g2 t m; omega, rfl⟩
    · have hn := of_decide_eq_false h
      walk_at "evs"
      exact ⟨hi - ((lo + hi) / 2 + 1), by omega, (lo + hi) / 2 + 1, hi, _, rfl, by omega, h2, rfl, fun t m => by have := g1 t m; omega, h4, rfl⟩
  · have hge : lo = hi := by have := of_decide_eq_false hc; omega
    subst hge
    walk_at "evs"
    exact q lo h2 h3 h4 _

end K5
end
section
set_option Elab.async false
set_option linter.all false
set_option maxRecDepth 100000
set_option maxHeartbeats 1000000
namespace K5
open PySem L2 DL SM
local macro_rules | `(tactic| walk_at "ev") => `(tactic| first
  | (with_reducible refine ev_seq ?_)
  | (with_reducible refine ev_next ?_)
  | (with_reducible refine ev_break ?_)
  | (with_reducible refine ev_cont ?_)
  | (with_reducible refine ev_expr ?_)
  | (with_reducible refine ev_kExpr ?_)
  | (with_reducible refine ev_ret ?_)
  | (with_reducible refine ev_retN ?_)
  | (with_reducible refine ev_kRet_dat ?_)
  | (with_reducible refine ev_kRet_lst ?_)
  | (with_reducible refine ev_ifS ?_)
  | (with_reducible refine ev_kIfS_t ?_)
  | (with_reducible refine ev_kIfS_f ?_)
  | (with_reducible refine ev_set ?_)
  | (with_reducible refine ev_par ?_)
  | (with_reducible refine ev_asg ?_)
  | (with_reducible refine ev_put ?_)
  | (with_reducible refine ev_kPut1 ?_)
  | (with_reducible refine ev_kPut2 ?_)
  | (with_reducible refine ev_for ?_)
  | (with_reducible refine ev_kFor ?_)
  | (with_reducible refine ev_seqI ?_)
  | (with_reducible refine ev_kSeqI_l ?_)
  | (with_reducible refine ev_kSeqI_t ?_)
  | (with_reducible refine ev_kSeqI_n ?_)
  | (with_reducible refine ev_rng1 ?_)
  | (with_reducible refine ev_rng2 ?_)
  | (with_reducible refine ev_rng3 ?_)
  | (with_reducible refine ev_c ?_)
  | (with_reducible refine ev_fn ?_)
  | (with_reducible refine ev_bin ?_)
  | (with_reducible refine ev_kBin1 ?_)
  | (with_reducible refine ev_intT ?_)
  | (with_reducible refine ev_eqI ?_)
  | (with_reducible refine ev_neI ?_)
  | (with_reducible refine ev_isN ?_)
  | (with_reducible refine ev_neg ?_)
  | (with_reducible refine ev_kNeg ?_)
  | (with_reducible refine ev_not ?_)
  | (with_reducible refine ev_kNot ?_)
  | (with_reducible refine ev_test ?_)
  | (with_reducible refine ev_kTest ?_)
  | (with_reducible refine ev_tru ?_)
  | (with_reducible refine ev_and ?_)
  | (with_reducible refine ev_or ?_)
  | (with_reducible refine ev_kAnd_t ?_)
  | (with_reducible refine ev_kAnd_f ?_)
  | (with_reducible refine ev_kOr_t ?_)
  | (with_reducible refine ev_kOr_f ?_)
  | (with_reducible refine ev_if ?_)
  | (with_reducible refine ev_kIf_t ?_)
  | (with_reducible refine ev_kIf_f ?_)
  | (with_reducible refine ev_andV ?_)
  | (with_reducible refine ev_orV ?_)
  | (with_reducible refine ev_kAndV_t ?_)
  | (with_reducible refine ev_kAndV_f ?_)
  | (with_reducible refine ev_kOrV_t ?_)
  | (with_reducible refine ev_kOrV_f ?_)
  | (with_reducible refine ev_notV ?_)
  | (with_reducible refine ev_kNotV ?_)
  | (with_reducible refine ev_isi ?_)
  | (with_reducible refine ev_nil ?_)
  | (with_reducible refine ev_kCons2 ?_)
  | (with_reducible refine ev_cons ?_)
  | (with_reducible refine ev_kCons1_dat ?_)
  | (with_reducible refine ev_kCons1_fn ?_)
  | (with_reducible refine ev_kCons1_own ?_)
  | (with_reducible refine ev_kCons1_lst ?_)
  | (with_reducible refine ev_star ?_)
  | (with_reducible refine ev_kStar2 ?_)
  | (with_reducible refine ev_tup ?_)
  | (with_reducible refine ev_lst ?_)
  | (with_reducible refine ev_noPart ?_)
  | (with_reducible refine ev_part ?_)
  | (with_reducible refine ev_kPart ?_)
  | (with_reducible refine ev_sl ?_)
  | (with_reducible refine ev_kSl1 ?_)
  | (with_reducible refine ev_kSl2 ?_)
  | (with_reducible refine ev_rev ?_)
  | (with_reducible refine ev_call ?_)
  | (with_reducible refine ev_max2 ?_)
  | (with_reducible refine ev_min2 ?_)
  | (with_reducible refine ev_int1 ?_)
  | (with_reducible refine ev_user ?_)
  | (with_reducible refine ev_app ?_)
  | (with_reducible refine ev_ext ?_)
  | (with_reducible refine ev_lc ?_)
  | ((with_reducible refine' ev_name ?k0 ?k1 ?_); (case k0 => rfl); (case k1 => rfl))
  | ((with_reducible refine' ev_nameO ?k0 ?k1 ?_); (case k0 => rfl); (case k1 => rfl))
  | ((with_reducible refine' ev_nameF_dat ?k0 ?_); (case k0 => rfl))
  | ((with_reducible refine' ev_nameF_fn ?k0 ?_); (case k0 => rfl))
  | ((with_reducible refine' ev_nameF_arg ?k0 ?_); (case k0 => rfl))
  | ((with_reducible refine' ev_nameF_lst ?k0 ?_); (case k0 => rfl))
  | ((with_reducible refine' ev_kSet_dat ?k0 ?_); (case k0 => rfl))
  | ((with_reducible refine' ev_kSet_lst ?k0 ?_); (case k0 => rfl))
  | ((with_reducible refine' ev_kSet_fn ?k0 ?_); (case k0 => rfl))
  | ((with_reducible refine' ev_kPar ?k0 ?k1 ?k2 ?k3 ?_); (case k0 => rfl); (case k1 => rfl); (case k2 => rfl); (case k3 => rfl))
  | ((with_reducible refine' ev_kAsg ?k0 ?_); (case k0 => rfl))
  | ((with_reducible refine' ev_aug ?k0 ?_); (case k0 => rfl))
  | ((with_reducible refine' ev_kAug ?k0 ?_); (case k0 => rfl))
  | ((with_reducible refine' ev_kPut3 ?k0 ?k1 ?_); (case k0 => rfl); (case k1 => rfl))
  | ((with_reducible refine' ev_ix ?k0 ?k1 ?_); (case k0 => rfl); (case k1 => rfl))
  | ((with_reducible refine' ev_kTru ?k0 ?_); (case k0 => rfl))
  | ((with_reducible refine' ev_kIsi ?k0 ?k1 ?_); (case k0 => rfl); (case k1 => rfl))
  | ((with_reducible refine' ev_kStar1 ?k0 ?_); (case k0 => rfl))
  | ((with_reducible refine' ev_kSl3_t ?k0 ?_); (case k0 => rfl))
  | ((with_reducible refine' ev_kSl3_l ?k0 ?_); (case k0 => rfl))
  | ((with_reducible refine' ev_kRev_t ?k0 ?_); (case k0 => rfl))
  | ((with_reducible refine' ev_kRev_l ?k0 ?_); (case k0 => rfl))
  | ((with_reducible refine' ev_len ?k0 ?_); (case k0 => rfl))
  | ((with_reducible refine' ev_tuple ?k0 ?_); (case k0 => rfl))
  | ((with_reducible refine' ev_list ?k0 ?_); (case k0 => rfl))
  | ((with_reducible refine' ev_kApp1 ?k0 ?_); (case k0 => rfl))
  | ((with_reducible refine' ev_kExt1 ?k0 ?_); (case k0 => rfl))
  | ((with_reducible refine' ev_kRet_own ?k0 ?_); (case k0 => rfl))
  | ((with_reducible refine' ev_kTup ?k0 ?k1 ?_); (case k0 => rfl); (case k1 => simp [sizeLine]))
  | ((with_reducible refine' ev_kLst ?k0 ?k1 ?_); (case k0 => rfl); (case k1 => simp [sizeLine]))
  | (with_reducible refine ev_nx ?_)
  | (with_reducible refine ev_rt ?_)
  | (with_reducible refine ev_bk ?_)
  | (with_reducible refine ev_ct ?_)
)
local macro_rules | `(tactic| walk_at "evs") => `(tactic| repeat (walk_at "ev"))
theorem cut_hi {α : Type} (xs : List α) (n : Nat) : cutD xs none (some (n : Int)) = xs.take n := by
  unfold cutD
  rw [HT.sIx_nat, HT.sIx_none]
  rw [Nat.sub_zero, List.drop_zero, ← List.take_take, List.take_length]
theorem cut_lo {α : Type} (xs : List α) (n : Nat) : cutD xs (some (n : Int)) none = xs.drop n := by
  unfold cutD
  rw [HT.sIx_nat, HT.sIx_none]
  by_cases h : n ≤ xs.length
  · rw [Nat.min_eq_left h]
    exact List.take_of_length_le (by rw [List.length_drop]; exact Nat.le_refl _)
  · rw [Nat.min_eq_right (by omega), List.drop_eq_nil_of_le (by omega : xs.length ≤ n), List.drop_length, List.take_nil]
theorem cut_both {α : Type} (xs : List α) (n m : Nat) (h : n ≤ m) (hm : m ≤ xs.length) : cutD xs (some (n : Int)) (some (m : Int)) = (xs.drop n).take (m - n) := by
  unfold cutD
  rw [HT.sIx_nat, HT.sIx_nat, Nat.min_eq_left hm, Nat.min_eq_left (by omega)]
theorem cut_hi1 {α : Type} (xs : List α) : cutD xs none (some 1) = xs.take 1 := cut_hi xs 1
theorem cut_lo1 {α : Type} (xs : List α) : cutD xs (some 1) none = xs.drop 1 := cut_lo xs 1
structure EncOk {β : Type} (enc : β → PyData) (isE : β → Bool) : Prop where
  tru : ∀ x, truD (enc x) = some (!isE x)
  eqv : ∀ x y, (enc x).eqv (enc y) = true ↔ x = y
  sh : ∀ x, SeqAt.shaped (enc x) = true
theorem putM_len {β : Type} [DecidableEq β] {isE : β → Bool} {R : List (Slab β)} {lo hi : Int} {x : β} : (putM isE R lo hi x).length ≤ R.length + 1 := by
  unfold putM
  split
  · omega
  · split
    · split
      · rw [List.length_append, List.length_dropLast]; simp
      · simp
    · simp
def sp_put_all : DSpec := fun ds K' => ∃ (β : Type) (_ : DecidableEq β) (enc : β → PyData) (isE : β → Bool) (R L : List (Slab β)) (b : Int),
  ds = [.arg (R.map (eS enc)), .dat (eSl enc L), .dat (.int b)] ∧ EncOk enc isE ∧ R.length + L.length < sizeLine ∧
  K' (.dat .none) [.arg ((putAllM isE R L b).map (eS enc)), .dat (eSl enc L), .dat (.int b)]
theorem wp_put_all : ∀ ds K', sp_put_all ds K' → W_put_all sp_put { nx := fun ρ => K' (.dat .none) (outsOf ds ρ), rt := fun r ρ => K' r (outsOf ds ρ) } (startD N_put_all ds) := by
  rintro ds K' ⟨β, _, enc, isE, R, L, b, rfl, ok, hl, q⟩
  unfold W_put_all
  walk_at "evs"
  rw [cut_hi1]
  walk_at "evs"
  cases L with
  | nil =>
    refine ev_forNil ?_
    walk_at "evs"
    rw [cut_lo1]
    refine ev_kExt2 rfl (by simp; omega) ?_
    walk_at "evs"
    have q' : K' (.dat .none) [.arg (R.map (eS enc)), .dat (eSl enc []), .dat (.int b)] := q
    rw [← List.append_nil (R.map (eS enc))] at q'
    exact q'
  | cons s r =>
    refine ev_forCons rfl ?_
    walk_at "evs"
    refine ev_kUser (by simp [owns]) rfl ⟨β, inferInstance, enc, isE, R, max s.1 b, s.2.1, s.2.2, rfl, ok.tru _, fun y => ok.eqv y _, ok.sh, by simp at hl; omega, ?_⟩
    walk_at "evs"
    refine ev_forNil ?_
    walk_at "evs"
    rw [cut_lo1]
    have := putM_len (isE := isE) (R := R) (lo := max s.1 b) (hi := s.2.1) (x := s.2.2)
    refine ev_kExt2 rfl (by simp at hl ⊢; omega) ?_
    walk_at "evs"
    have q' : K' (.dat .none) [.arg ((putM isE R (max s.1 b) s.2.1 s.2.2 ++ r).map (eS enc)), .dat (eSl enc (s :: r)), .dat (.int b)] := q
    rw [List.map_append] at q'
    exact q'

end K5
end
section
set_option Elab.async false
set_option linter.all false
set_option maxRecDepth 100000
set_option maxHeartbeats 1000000
namespace K5
open PySem L2 DL SM
local macro_rules | `(tactic| walk_at "ev") => `(tactic| first
  | (with_reducible refine ev_seq ?_)
  | (with_reducible refine ev_next ?_)
  | (with_reducible refine ev_break ?_)
  | (with_reducible refine ev_cont ?_)
  | (with_reducible refine ev_expr ?_)
  | (with_reducible refine ev_kExpr ?_)
  | (with_reducible refine ev_ret ?_)
  | (with_reducible refine ev_retN ?_)
  | (with_reducible refine ev_kRet_dat ?_)
  | (with_reducible refine ev_kRet_lst ?_)
  | (with_reducible refine ev_ifS ?_)
  | (with_reducible refine ev_kIfS_t ?_)
  | (with_reducible refine ev_kIfS_f ?_)
  | (with_reducible refine ev_set ?_)
  | (with_reducible refine ev_par ?_)
  | (with_reducible refine ev_asg ?_)
  | (with_reducible refine ev_put ?_)
  | (with_reducible refine ev_kPut1 ?_)
  | (with_reducible refine ev_kPut2 ?_)
  | (with_reducible refine ev_for ?_)
  | (with_reducible refine ev_kFor ?_)
  | (with_reducible refine ev_seqI ?_)
  | (with_reducible refine ev_kSeqI_l ?_)
  | (with_reducible refine ev_kSeqI_t ?_)
  | (with_reducible refine ev_kSeqI_n ?_)
  | (with_reducible refine ev_rng1 ?_)
  | (with_reducible refine ev_rng2 ?_)
  | (with_reducible refine ev_rng3 ?_)
  | (with_reducible refine ev_c ?_)
  | (with_reducible refine ev_fn ?_)
  | (with_reducible refine ev_bin ?_)
  | (with_reducible refine ev_kBin1 ?_)
  | (with_reducible refine ev_intT ?_)
  | (with_reducible refine ev_eqI ?_)
  | (with_reducible refine ev_neI ?_)
  | (with_reducible refine ev_isN ?_)
  | (with_reducible refine ev_neg ?_)
  | (with_reducible refine ev_kNeg ?_)
  | (with_reducible refine ev_not ?_)
  | (with_reducible refine ev_kNot ?_)
  | (with_reducible refine ev_test ?_)
  | (with_reducible refine ev_kTest ?_)
  | (with_reducible refine ev_tru ?_)
  | (with_reducible refine ev_and ?_)
  | (with_reducible refine ev_or ?_)
  | (with_reducible refine ev_kAnd_t ?_)
  | (with_reducible refine ev_kAnd_f ?_)
  | (with_reducible refine ev_kOr_t ?_)
  | (with_reducible refine ev_kOr_f ?_)
  | (with_reducible refine ev_if ?_)
  | (with_reducible refine ev_kIf_t ?_)
  | (with_reducible refine ev_kIf_f ?_)
  | (with_reducible refine ev_andV ?_)
  | (with_reducible refine ev_orV ?_)
  | (with_reducible refine ev_kAndV_t ?_)
  | (with_reducible refine ev_kAndV_f ?_)
  | (with_reducible refine ev_kOrV_t ?_)
  | (with_reducible refine ev_kOrV_f ?_)
  | (with_reducible refine ev_notV ?_)
  | (with_reducible refine ev_kNotV ?_)
  | (with_reducible refine ev_isi ?_)
  | (with_reducible refine ev_nil ?_)
  | (with_reducible refine ev_kCons2 ?_)
  | (with_reducible refine ev_cons ?_)
  | (with_reducible refine ev_kCons1_dat ?_)
  | (with_reducible refine ev_kCons1_fn ?_)
  | (with_reducible refine ev_kCons1_own ?_)
  | (with_reducible refine ev_kCons1_lst ?_)
  | (with_reducible refine ev_star ?_)
  | (with_reducible refine ev_kStar2 ?_)
  | (with_reducible refine ev_tup ?_)
  | (with_reducible refine ev_lst ?_)
  | (with_reducible refine ev_noPart ?_)
  | (with_reducible refine ev_part ?_)
  | (with_reducible refine ev_kPart ?_)
  | (with_reducible refine ev_sl ?_)
  | (with_reducible refine ev_kSl1 ?_)
  | (with_reducible refine ev_kSl2 ?_)
  | (with_reducible refine ev_rev ?_)
  | (with_reducible refine ev_call ?_)
  | (with_reducible refine ev_max2 ?_)
  | (with_reducible refine ev_min2 ?_)
  | (with_reducible refine ev_int1 ?_)
  | (with_reducible refine ev_user ?_)
  | (with_reducible refine ev_app ?_)
  | (with_reducible refine ev_ext ?_)
  | (with_reducible refine ev_lc ?_)
  | ((with_reducible refine' ev_name ?k0 ?k1 ?_); (case k0 => rfl); (case k1 => rfl))
  | ((with_reducible refine' ev_nameO ?k0 ?k1 ?_); (case k0 => rfl); (case k1 => rfl))
  | ((with_reducible refine' ev_nameF_dat ?k0 ?_); (case k0 => rfl))
  | ((with_reducible refine' ev_nameF_fn ?k0 ?_); (case k0 => rfl))
  | ((with_reducible refine' ev_nameF_arg ?k0 ?_); (case k0 => rfl))
  | ((with_reducible refine' ev_nameF_lst ?k0 ?_); (case k0 => rfl))
  | ((with_reducible refine' ev_kSet_dat ?k0 ?_); (case k0 => rfl))
  | ((with_reducible refine' ev_kSet_lst ?k0 ?_); (case k0 => rfl))
  | ((with_reducible refine' ev_kSet_fn ?k0 ?_); (case k0 => rfl))
  | ((with_reducible refine' ev_kPar ?k0 ?k1 ?k2 ?k3 ?_); (case k0 => rfl); (case k1 => rfl); (case k2 => rfl); (case k3 => rfl))
  | ((with_reducible refine' ev_kAsg ?k0 ?_); (case k0 => rfl))
  | ((with_reducible refine' ev_aug ?k0 ?_); (case k0 => rfl))
  | ((with_reducible refine' ev_kAug ?k0 ?_); (case k0 => rfl))
  | ((with_reducible refine' ev_kPut3 ?k0 ?k1 ?_); (case k0 => rfl); (case k1 => rfl))
  | ((with_reducible refine' ev_ix ?k0 ?k1 ?_); (case k0 => rfl); (case k1 => rfl))
  | ((with_reducible refine' ev_kTru ?k0 ?_); (case k0 => rfl))
  | ((with_reducible refine' ev_kIsi ?k0 ?k1 ?_); (case k0 => rfl); (case k1 => rfl))
  | ((with_reducible refine' ev_kStar1 ?k0 ?_); (case k0 => rfl))
  | ((with_reducible refine' ev_kSl3_t ?k0 ?_); (case k0 => rfl))
  | ((with_reducible refine' ev_kSl3_l ?k0 ?_); (case k0 => rfl))
  | ((with_reducible refine' ev_kRev_t ?k0 ?_); (case k0 => rfl))
  | ((with_reducible refine' ev_kRev_l ?k0 ?_); (case k0 => rfl))
  | ((with_reducible refine' ev_len ?k0 ?_); (case k0 => rfl))
  | ((with_reducible refine' ev_tuple ?k0 ?_); (case k0 => rfl))
  | ((with_reducible refine' ev_list ?k0 ?_); (case k0 => rfl))
  | ((with_reducible refine' ev_kApp1 ?k0 ?_); (case k0 => rfl))
  | ((with_reducible refine' ev_kExt1 ?k0 ?_); (case k0 => rfl))
  | ((with_reducible refine' ev_kRet_own ?k0 ?_); (case k0 => rfl))
  | ((with_reducible refine' ev_kTup ?k0 ?k1 ?_); (case k0 => rfl); (case k1 => simp [sizeLine]))
  | ((with_reducible refine' ev_kLst ?k0 ?k1 ?_); (case k0 => rfl); (case k1 => simp [sizeLine]))
  | (with_reducible refine ev_nx ?_)
  | (with_reducible refine ev_rt ?_)
  | (with_reducible refine ev_bk ?_)
  | (with_reducible refine ev_ct ?_)
)
local macro_rules | `(tactic| walk_at "evs") => `(tactic| repeat (walk_at "ev"))
theorem at_unit {l : List (Slab Unit)} {z : Int} : at' l z = some () ↔ ∃ s ∈ l, s.1 ≤ z ∧ z < s.2.1 := by
  induction l with
  | nil => simp [at']
  | cons s r ih =>
    unfold at'
    by_cases h : s.1 ≤ z ∧ z < s.2.1
    · rw [if_pos h]
      exact ⟨fun _ => ⟨s, List.mem_cons_self, h⟩, fun _ => rfl⟩
    · rw [if_neg h, ih]
      constructor
      · rintro ⟨t, m, g⟩; exact ⟨t, List.mem_cons_of_mem _ m, g⟩
      · rintro ⟨t, m, g⟩
        rcases List.mem_cons.mp m with rfl | m
        · exact absurd g h
        · exact ⟨t, m, g⟩
theorem opt_unit {x y : Option Unit} (h : x = some () ↔ y = some ()) : x = y := by
  cases x with
  | none =>
    cases y with
    | none => rfl
    | some u => have := h.mpr rfl; cases this
  | some u =>
    have := h.mp rfl
    rw [this]
theorem at_same {l m : List (Slab Unit)} (h : ∀ s, s ∈ l ↔ s ∈ m) (z : Int) : at' l z = at' m z := opt_unit (by
  rw [at_unit, at_unit]
  constructor
  · rintro ⟨s, a, b⟩; exact ⟨s, (h s).mp a, b⟩
  · rintro ⟨s, a, b⟩; exact ⟨s, (h s).mpr a, b⟩)
def sp_merged : DSpec := fun ds K' => ∃ (xs : List (Slab Unit)) (E : Int → Prop),
  ds = [.dat (.list (xs.map eU))] ∧ xs ≠ [] ∧ (∀ s ∈ xs, s.1 < s.2.1 ∧ E s.1 ∧ E s.2.1) ∧ xs.Pairwise (fun s t => s.1 ≤ t.1) ∧ xs.length ≤ 3000000 ∧ ∀ R, Form E AnyU R → R ≠ [] → (∀ z, at' R z = at' xs z) → ∀ outs, K' (.dat (eRow R)) outs
theorem wp_merged : ∀ ds K', sp_merged ds K' → W_merged { nx := fun ρ => K' (.dat .none) (outsOf ds ρ), rt := fun r ρ => K' r (outsOf ds ρ) } (startD N_merged ds) := by
  rintro ds K' ⟨xs, E, rfl, hne, hE, hp, hl, q⟩
  have szl : sizeLine = 16777216 := rfl
  unfold W_merged
  walk_at "evs"
  cases xs with
  | nil => exact absurd rfl hne
  | cons x0 rest =>
  refine ev_ix (b := false) rfl (show atI ((x0 :: rest).map eU) 0 = some (eU x0) from atI_map (i := 0) rfl) ?_
  walk_at "evs"
  rw [cut_lo1]
  walk_at "evs"
  have ok0 := hE x0 List.mem_cons_self
  refine forGo_ind (I := fun left ρ => ∃ (O done todo : List (Slab Unit)) (lo hi : Int) (y4 y5 : Option DV), ρ = [some (.dat (.list ((x0 :: rest).map eU))), some (.lst (O.map eU)), some (.dat (.int lo)), some (.dat (.int hi)), y4, y5] ∧ left = todo.map eU ∧ x0 :: rest = done ++ todo ∧ O.length < done.length ∧
      Form E AnyU (O ++ [(lo, hi, ())]) ∧ (∀ z, at' (O ++ [(lo, hi, ())]) z = at' done z) ∧ (∀ s ∈ todo, lo ≤ s.1) ∧ todo.Pairwise (fun s t => s.1 ≤ t.1) ∧ notArgB (some y4) = true ∧ notArgB (some y5) = true) ?_ ?_ _ _ ?_
  · rintro ρ ⟨O, done, todo, lo, hi, y4, y5, rfl, hle, hd, hO, hf, ha, hs, hpw, n4, n5⟩
    cases todo with
    | cons _ _ => cases hle
    | nil =>
      have hdl : done.length ≤ 3000000 := by
        have := congrArg List.length hd
        simp at this hl
        omega
      walk_at "evs"
      refine ev_kApp2 rfl (by rw [List.length_map]; omega) ?_
      walk_at "evs"
      have e : List.map eU O ++ [PyData.tuple [.int lo, .int hi]] = (O ++ [(lo, hi, ())]).map eU := by rw [List.map_append]; rfl
      have e2 : done = x0 :: rest := by rw [hd, List.append_nil]
      have := q (O ++ [(lo, hi, ())]) hf (by simp) (fun z => by rw [ha, e2])
      unfold eRow at this
      rw [← e] at this
      exact this _
  · rintro x xs' ρ ⟨O, done, todo, lo, hi, y4, y5, rfl, hle, hd, hO, hf, ha, hs, hpw, n4, n5⟩
    cases todo with
    | nil => cases hle
    | cons s todo =>
      rw [List.map_cons] at hle
      have h1 := List.cons.inj hle
      obtain ⟨rfl, hxs⟩ := h1
      have hsm : s ∈ x0 :: rest := by rw [hd]; exact List.mem_append_right _ List.mem_cons_self
      have okS := hE s hsm
      have hlo := hs s List.mem_cons_self
      have hd' : x0 :: rest = (done ++ [s]) ++ todo := by rw [hd]; simp
      have hdl : done.length ≤ 3000000 := by
        have := congrArg List.length hd
        simp at this hl
        omega
      obtain ⟨f1, f2, f3⟩ := form_append.mp hf
      have okL : Ok E AnyU (lo, hi, ()) := f2.1
      have ll : lo < hi := okL.lt
      have hp2 := List.pairwise_cons.mp hpw
      refine ⟨[some (.dat (.list ((x0 :: rest).map eU))), some (.lst (O.map eU)), some (.dat (.int lo)), some (.dat (.int hi)), some (.dat (.int s.1)), some (.dat (.int s.2.1))], by simp [fTup, fCons, fName, fNil, eU, n4, n5], fun Gn hG => ?_⟩
      have split_at : ∀ z, at' (O ++ [(lo, hi, ())]) z = (at' O z).or (if lo ≤ z ∧ z < hi then some () else none) := fun z => by rw [at_append]; simp only [at']
      have done_at : ∀ z, at' (done ++ [s]) z = ((at' O z).or (if lo ≤ z ∧ z < hi then some () else none)).or (if s.1 ≤ z ∧ z < s.2.1 then some () else none) := fun z => by
        rw [at_append, ← ha, split_at]
        simp only [at']
      walk_at "evs"
      refine ev_kIfS (fun c => ?_) (fun c => ?_)
      · have c := of_decide_eq_true c
        walk_at "evs"
        refine ev_kApp2 rfl (by rw [List.length_map]; omega) ?_
        walk_at "evs"
        refine hG _ ⟨O ++ [(lo, hi, ())], done ++ [s], todo, s.1, s.2.1, some (.dat (.int s.1)), some (.dat (.int s.2.1)), ?_, hxs, hd', by simp; omega, ?_, fun z => ?_, hp2.1, hp2.2, rfl, rfl⟩
        · rw [List.map_append]; rfl
        · refine form_append.mpr ⟨hf, form_one ⟨okS.1, okS.2.1, okS.2.2, trivial⟩, fun u t e1 e2 => ?_⟩
          simp at e1 e2
          subst e1; subst e2
          exact ⟨by show hi ≤ s.1; omega, fun z => by have z : hi = s.1 := z; omega⟩
        · rw [at_append, split_at, done_at]
          simp only [at']
      · have c := of_decide_eq_false c
        walk_at "evs"
        refine ev_kIfS (fun c2 => ?_) (fun c2 => ?_)
        · have c2 := of_decide_eq_true c2
          walk_at "evs"
          refine hG _ ⟨O, done ++ [s], todo, lo, s.2.1, some (.dat (.int s.1)), some (.dat (.int s.2.1)), rfl, hxs, hd', by simp; omega, ?_, fun z => ?_, fun t m => hs t (List.mem_cons_of_mem _ m), hp2.2, rfl, rfl⟩
          · refine form_append.mpr ⟨f1, form_one ⟨by show lo < s.2.1; omega, okL.e1, okS.2.2, trivial⟩, fun u t e1 e2 => ?_⟩
            simp at e2
            subst e2
            exact f3 u (lo, hi, ()) e1 rfl
          · rw [done_at, at_append, Option.or_assoc]
            congr 1
            simp only [at']
            by_cases g1 : lo ≤ z ∧ z < hi
            · rw [if_pos g1, if_pos ⟨g1.1, by omega⟩]; rfl
            · rw [if_neg g1]
              by_cases g2 : s.1 ≤ z ∧ z < s.2.1
              · rw [if_pos g2, if_pos ⟨by omega, g2.2⟩]; rfl
              · rw [if_neg g2, if_neg (by omega)]; rfl
        · have c2 := of_decide_eq_false c2
          walk_at "evs"
          refine hG _ ⟨O, done ++ [s], todo, lo, hi, some (.dat (.int s.1)), some (.dat (.int s.2.1)), rfl, hxs, hd', by simp; omega, hf, fun z => ?_, fun t m => hs t (List.mem_cons_of_mem _ m), hp2.2, rfl, rfl⟩
          rw [done_at, split_at, Option.or_assoc]
          congr 1
          by_cases g1 : lo ≤ z ∧ z < hi
          · rw [if_pos g1]; rfl
          · rw [if_neg g1, if_neg (by omega)]; rfl
  · have hp2 := List.pairwise_cons.mp hp
    exact ⟨[], [x0], rest, x0.1, x0.2.1, none, none, rfl, rfl, rfl, by simp, form_one ⟨ok0.1, ok0.2.1, ok0.2.2, trivial⟩, fun z => by simp only [at', List.nil_append], hp2.1, hp2.2, rfl, rfl⟩

/-! rows put together -/
theorem opt_or_comm (x y : Option Unit) : x.or y = y.or x := by cases x <;> cases y <;> rfl
def leU (s t : Slab Unit) : Bool := decide (s.1 < t.1 ∨ s.1 = t.1 ∧ s.2.1 ≤ t.2.1)
theorem sort_eU (l : List (Slab Unit)) : sortD (l.map eU) = (l.mergeSort leU).map eU := by
  have h := List.map_mergeSort (f := eU) (r := leU) (s := PySem.W.dataLe false id) (l := l) fun a _ b _ => by
    have := PySem.W.dataLe_ii (fun s : Slab Unit => s.1) (fun s => s.2.1)
    exact (congrFun (congrFun this a) b).symm
  exact h.symm
theorem leU_sorted (l : List (Slab Unit)) : (l.mergeSort leU).Pairwise (fun s t => s.1 ≤ t.1) := by
  have h := List.pairwise_mergeSort (le := leU) (fun a b c h1 h2 => by
    have h1 := of_decide_eq_true h1
    have h2 := of_decide_eq_true h2
    exact decide_eq_true (by omega)) (fun a b => by
    by_cases h : leU a b = true
    · rw [h]; rfl
    · have h' : leU a b = false := by simpa using h
      have := of_decide_eq_false h'
      have : leU b a = true := decide_eq_true (by omega)
      rw [h', this]; rfl) l
  exact h.imp fun h => by have := of_decide_eq_true h; omega
theorem mem_sort {l : List (Slab Unit)} {s : Slab Unit} : s ∈ l.mergeSort leU ↔ s ∈ l := (List.mergeSort_perm l leU).mem_iff
def sp_joined_rows : DSpec := fun ds K' => ∃ (E : Int → Prop) (a b : Row),
  ds = [.dat (eRow a), .dat (eRow b)] ∧ Form E AnyU a ∧ Form E AnyU b ∧ a ≠ [] ∧ b ≠ [] ∧ a.length ≤ 1000000 ∧ b.length ≤ 1000000 ∧ ∀ R, Form E AnyU R → R ≠ [] → (∀ z, at' R z = (at' a z).or (at' b z)) → ∀ outs, K' (.dat (eRow R)) outs
theorem wp_joined_rows : ∀ ds K', sp_joined_rows ds K' → W_joined_rows sp_merged { nx := fun ρ => K' (.dat .none) (outsOf ds ρ), rt := fun r ρ => K' r (outsOf ds ρ) } (startD N_joined_rows ds) := by
  rintro ds K' ⟨E, a, b, rfl, ha, hb, na, nb, la, lb, q⟩
  have szl : sizeLine = 16777216 := rfl
  unfold W_joined_rows
  have at0 : ∀ {c : Row} {s : Slab Unit}, c.head? = some s → atI (c.map eU) 0 = some (eU s) := fun {c s} e => by
    cases c with
    | nil => cases e
    | cons u r => cases e; exact atI_map (i := 0) rfl
  have at1 : ∀ {c : Row} {s : Slab Unit}, c.getLast? = some s → atI (c.map eU) (-1) = some (eU s) := fun {c s} e => by
    rcases nil_or_last c with rfl | ⟨L, l, rfl⟩
    · cases e
    · have : l = s := by simpa using e
      subst this
      rw [List.map_append]
      exact atI_last _ _
  have ends : ∀ {c : Row}, c ≠ [] → (∃ s, c.head? = some s) ∧ ∃ s, c.getLast? = some s := fun {c} h => by
    rcases nil_or_last c with rfl | ⟨L, l, rfl⟩
    · exact absurd rfl h
    · refine ⟨?_, l, by simp⟩
      cases L with
      | nil => exact ⟨l, rfl⟩
      | cons x r => exact ⟨x, rfl⟩
  obtain ⟨⟨a0, ea⟩, al, ela⟩ := ends na
  obtain ⟨⟨b0, eb⟩, bl, elb⟩ := ends nb
  walk_at "evs"
  refine ev_eq (d := eRow a) (e := eRow b) rfl rfl (Pd.shaped (pd_eRow 0 a)) (Pd.shaped (pd_eRow 0 b)) ?_
  walk_at "evs"
  refine ev_kIfS (fun c => ?_) (fun c => ?_)
  · have c : (eRow a).eqv (eRow b) = true := c
    rw [Pd.eqv (pd_eRow 0 a) (pd_eRow 0 b)] at c
    have e := eRow_inj c
    subst e
    walk_at "evs"
    exact q a ha na (fun z => by cases at' a z <;> rfl) _
  walk_at "evs"
  refine ev_ix (b := true) rfl (at1 ela) ?_
  walk_at "evs"
  refine ev_ix (b := true) rfl (at0 eb) ?_
  walk_at "evs"
  have jn : ∀ {c d : Row} {x y : Slab Unit}, Form E AnyU c → Form E AnyU d → c.getLast? = some x → d.head? = some y → x.2.1 < y.1 → Form E AnyU (c ++ d) := fun {c d x y} hc hd e1 e2 h => form_append.mpr ⟨hc, hd, fun s t f1 f2 => by
    rw [e1] at f1; rw [e2] at f2
    cases f1; cases f2
    exact ⟨by omega, fun z => by omega⟩⟩
  refine ev_kIfS (fun c1 => ?_) (fun c1 => ?_)
  · have c1 := of_decide_eq_true c1
    walk_at "evs"
    refine ev_cat (by rw [List.length_map, List.length_map]; omega) ?_
    walk_at "evs"
    have := q (a ++ b) (jn ha hb ela eb c1) (by simp [na]) (fun z => at_append)
    unfold eRow at this
    rw [List.map_append] at this
    exact this _
  walk_at "evs"
  refine ev_ix (b := true) rfl (at1 elb) ?_
  walk_at "evs"
  refine ev_ix (b := true) rfl (at0 ea) ?_
  walk_at "evs"
  refine ev_kIfS (fun c2 => ?_) (fun c2 => ?_)
  · have c2 := of_decide_eq_true c2
    walk_at "evs"
    refine ev_cat (by rw [List.length_map, List.length_map]; omega) ?_
    walk_at "evs"
    have := q (b ++ a) (jn hb ha elb ea c2) (by simp [na]) (fun z => by rw [at_append, opt_or_comm])
    unfold eRow at this
    rw [List.map_append] at this
    exact this _
  walk_at "evs"
  refine ev_kTup (ds := (a ++ b).map eU) ?_ (by rw [List.length_map, List.length_append]; omega) ?_
  · rw [dats_app, dats_app, List.map_append]
    simp [dats]
  walk_at "evs"
  refine ev_sorted (b := true) (ds := (a ++ b).map eU) rfl (PySem.W.AllAlike.of fun _ _ => rfl) (PySem.W.Sortable.tuples fun s => ⟨_, _, rfl⟩) (fun d m => ?_) ?_
  · obtain ⟨s, _, rfl⟩ := List.mem_map.mp m
    exact Nat.le_trans (pd_eU 0 s).can.2 (by decide)
  rw [sort_eU]
  walk_at "evs"
  refine ev_kUser0 rfl rfl ⟨(a ++ b).mergeSort leU, E, rfl, ?_, fun s m => ?_, leU_sorted _, ?_, fun R f1 f2 f3 outs => ?_⟩
  · intro z
    have := (List.mergeSort_perm (a ++ b) leU).length_eq
    rw [z] at this
    simp at this
    exact na (List.eq_nil_of_length_eq_zero (by omega))
  · rw [mem_sort] at m
    rcases List.mem_append.mp m with m | m
    · have := Form.mem ha s m; exact ⟨this.lt, this.e1, this.e2⟩
    · have := Form.mem hb s m; exact ⟨this.lt, this.e1, this.e2⟩
  · rw [(List.mergeSort_perm (a ++ b) leU).length_eq, List.length_append]; omega
  · walk_at "evs"
    exact q R f1 f2 (fun z => by rw [f3, at_same (fun s => mem_sort) z, at_append]) _

end K5
end
section
set_option Elab.async false
set_option linter.all false
set_option maxRecDepth 100000
set_option maxHeartbeats 1000000
namespace K5
open PySem L2 DL SM
local macro_rules | `(tactic| walk_at "ev") => `(tactic| first
  | (with_reducible refine ev_seq ?_)
  | (with_reducible refine ev_next ?_)
  | (with_reducible refine ev_break ?_)
  | (with_reducible refine ev_cont ?_)
  | (with_reducible refine ev_expr ?_)
  | (with_reducible refine ev_kExpr ?_)
  | (with_reducible refine ev_ret ?_)
  | (with_reducible refine ev_retN ?_)
  | (with_reducible refine ev_kRet_dat ?_)
  | (with_reducible refine ev_kRet_lst ?_)
  | (with_reducible refine ev_ifS ?_)
  | (with_reducible refine ev_kIfS_t ?_)
  | (with_reducible refine ev_kIfS_f ?_)
  | (with_reducible refine ev_set ?_)
  | (with_reducible refine ev_par ?_)
  | (with_reducible refine ev_asg ?_)
  | (with_reducible refine ev_put ?_)
  | (with_reducible refine ev_kPut1 ?_)
  | (with_reducible refine ev_kPut2 ?_)
  | (with_reducible refine ev_for ?_)
  | (with_reducible refine ev_kFor ?_)
  | (with_reducible refine ev_seqI ?_)
  | (with_reducible refine ev_kSeqI_l ?_)
  | (with_reducible refine ev_kSeqI_t ?_)
  | (with_reducible refine ev_kSeqI_n ?_)
  | (with_reducible refine ev_rng1 ?_)
  | (with_reducible refine ev_rng2 ?_)
  | (with_reducible refine ev_rng3 ?_)
  | (with_reducible refine ev_c ?_)
  | (with_reducible refine ev_fn ?_)
  | (with_reducible refine ev_bin ?_)
  | (with_reducible refine ev_kBin1 ?_)
  | (with_reducible refine ev_intT ?_)
  | (with_reducible refine ev_eqI ?_)
  | (with_reducible refine ev_neI ?_)
  | (with_reducible refine ev_isN ?_)
  | (with_reducible refine ev_neg ?_)
  | (with_reducible refine ev_kNeg ?_)
  | (with_reducible refine ev_not ?_)
  | (with_reducible refine ev_kNot ?_)
  | (with_reducible refine ev_test ?_)
  | (with_reducible refine ev_kTest ?_)
  | (with_reducible refine ev_tru ?_)
  | (with_reducible refine ev_and ?_)
  | (with_reducible refine ev_or ?_)
  | (with_reducible refine ev_kAnd_t ?_)
  | (with_reducible refine ev_kAnd_f ?_)
  | (with_reducible refine ev_kOr_t ?_)
  | (with_reducible refine ev_kOr_f ?_)
  | (with_reducible refine ev_if ?_)
  | (with_reducible refine ev_kIf_t ?_)
  | (with_reducible refine ev_kIf_f ?_)
  | (with_reducible refine ev_andV ?_)
  | (with_reducible refine ev_orV ?_)
  | (with_reducible refine ev_kAndV_t ?_)
  | (with_reducible refine ev_kAndV_f ?_)
  | (with_reducible refine ev_kOrV_t ?_)
  | (with_reducible refine ev_kOrV_f ?_)
  | (with_reducible refine ev_notV ?_)
  | (with_reducible refine ev_kNotV ?_)
  | (with_reducible refine ev_isi ?_)
  | (with_reducible refine ev_nil ?_)
  | (with_reducible refine ev_kCons2 ?_)
  | (with_reducible refine ev_cons ?_)
  | (with_reducible refine ev_kCons1_dat ?_)
  | (with_reducible refine ev_kCons1_fn ?_)
  | (with_reducible refine ev_kCons1_own ?_)
  | (with_reducible refine ev_kCons1_lst ?_)
  | (with_reducible refine ev_star ?_)
  | (with_reducible refine ev_kStar2 ?_)
  | (with_reducible refine ev_tup ?_)
  | (with_reducible refine ev_lst ?_)
  | (with_reducible refine ev_noPart ?_)
  | (with_reducible refine ev_part ?_)
  | (with_reducible refine ev_kPart ?_)
  | (with_reducible refine ev_sl ?_)
  | (with_reducible refine ev_kSl1 ?_)
  | (with_reducible refine ev_kSl2 ?_)
  | (with_reducible refine ev_rev ?_)
  | (with_reducible refine ev_call ?_)
  | (with_reducible refine ev_max2 ?_)
  | (with_reducible refine ev_min2 ?_)
  | (with_reducible refine ev_int1 ?_)
  | (with_reducible refine ev_user ?_)
  | (with_reducible refine ev_app ?_)
  | (with_reducible refine ev_ext ?_)
  | (with_reducible refine ev_lc ?_)
  | ((with_reducible refine' ev_name ?k0 ?k1 ?_); (case k0 => rfl); (case k1 => rfl))
  | ((with_reducible refine' ev_nameO ?k0 ?k1 ?_); (case k0 => rfl); (case k1 => rfl))
  | ((with_reducible refine' ev_nameF_dat ?k0 ?_); (case k0 => rfl))
  | ((with_reducible refine' ev_nameF_fn ?k0 ?_); (case k0 => rfl))
  | ((with_reducible refine' ev_nameF_arg ?k0 ?_); (case k0 => rfl))
  | ((with_reducible refine' ev_nameF_lst ?k0 ?_); (case k0 => rfl))
  | ((with_reducible refine' ev_kSet_dat ?k0 ?_); (case k0 => rfl))
  | ((with_reducible refine' ev_kSet_lst ?k0 ?_); (case k0 => rfl))
  | ((with_reducible refine' ev_kSet_fn ?k0 ?_); (case k0 => rfl))
  | ((with_reducible refine' ev_kPar ?k0 ?k1 ?k2 ?k3 ?_); (case k0 => rfl); (case k1 => rfl); (case k2 => rfl); (case k3 => rfl))
  | ((with_reducible refine' ev_kAsg ?k0 ?_); (case k0 => rfl))
  | ((with_reducible refine' ev_aug ?k0 ?_); (case k0 => rfl))
  | ((with_reducible refine' ev_kAug ?k0 ?_); (case k0 => rfl))
  | ((with_reducible refine' ev_kPut3 ?k0 ?k1 ?_); (case k0 => rfl); (case k1 => rfl))
  | ((with_reducible refine' ev_ix ?k0 ?k1 ?_); (case k0 => rfl); (case k1 => rfl))
  | ((with_reducible refine' ev_kTru ?k0 ?_); (case k0 => rfl))
  | ((with_reducible refine' ev_kIsi ?k0 ?k1 ?_); (case k0 => rfl); (case k1 => rfl))
  | ((with_reducible refine' ev_kStar1 ?k0 ?_); (case k0 => rfl))
  | ((with_reducible refine' ev_kSl3_t ?k0 ?_); (case k0 => rfl))
  | ((with_reducible refine' ev_kSl3_l ?k0 ?_); (case k0 => rfl))
  | ((with_reducible refine' ev_kRev_t ?k0 ?_); (case k0 => rfl))
  | ((with_reducible refine' ev_kRev_l ?k0 ?_); (case k0 => rfl))
  | ((with_reducible refine' ev_len ?k0 ?_); (case k0 => rfl))
  | ((with_reducible refine' ev_tuple ?k0 ?_); (case k0 => rfl))
  | ((with_reducible refine' ev_list ?k0 ?_); (case k0 => rfl))
  | ((with_reducible refine' ev_kApp1 ?k0 ?_); (case k0 => rfl))
  | ((with_reducible refine' ev_kExt1 ?k0 ?_); (case k0 => rfl))
  | ((with_reducible refine' ev_kRet_own ?k0 ?_); (case k0 => rfl))
  | ((with_reducible refine' ev_kTup ?k0 ?k1 ?_); (case k0 => rfl); (case k1 => simp [sizeLine]))
  | ((with_reducible refine' ev_kLst ?k0 ?k1 ?_); (case k0 => rfl); (case k1 => simp [sizeLine]))
  | (with_reducible refine ev_nx ?_)
  | (with_reducible refine ev_rt ?_)
  | (with_reducible refine ev_bk ?_)
  | (with_reducible refine ev_ct ?_)
)
local macro_rules | `(tactic| walk_at "evs") => `(tactic| repeat (walk_at "ev"))
theorem ev_seq_cut {a b : WS} {D : DE} {ρ : Den} (P : Den → Prop) (h2 : ∀ ρ, P ρ → b D ρ) (h1 : ∀ N : Den → Prop, (∀ ρ, P ρ → N ρ) → a { D with nx := N } ρ) : wSeq a b D ρ := h1 _ h2
theorem ev_while_cut {t : WT} {b : WS} {D : DE} {ρ : Den} (W : Nat → Den → Prop) (P : Den → Prop) (h0 : ∃ m, W m ρ) (hP : ∀ ρ, P ρ → D.nx ρ) (h : ∀ N : Den → Prop, (∀ ρ, P ρ → N ρ) → ∀ m ρ, W m ρ → t ρ (kWh b W m { D with nx := N })) : wWhile t b D ρ := ⟨W, h0, h D.nx hP⟩
/-- what is asked of the rule that a combination is given -/
def RuleOk {β : Type} (enc : β → PyData) (G : β → Prop) (rule : β → β → β) (sp : DSpec) : Prop := ∀ x y (K1 : DV → List DV → Prop), G x → G y → (∀ outs, K1 (.dat (enc (rule x y))) outs) → sp [.dat (enc x), .dat (enc y)] K1
structure CombOk {β : Type} (enc : β → PyData) (isE : β → Bool) (E : Int → Prop) (G : β → Prop) (rule : β → β → β) (M : Nat) : Prop where
  en : EncOk enc isE
  few : Few E M
  hM : M ≤ 1000000
  hG : ∀ x, G x → isE x = false
  hr : ∀ x y, G x → G y → isE (rule x y) = false → G (rule x y)
def sp_lay_over (S : Addr → Option DSpec) : DSpec := fun ds K' => ∃ (β : Type) (_ : DecidableEq β) (enc : β → PyData) (isE : β → Bool) (E : Int → Prop) (G : β → Prop) (rule : β → β → β) (M : Nat) (a b R0 : List (Slab β)) (sa sb : Slab β) (f : Addr) (sp : DSpec) (k1 k2 : Bool),
  ds = [.arg (R0.map (eS enc)), .dat (eSl enc a), .dat (eSl enc b), .fn (.ref f), .dat (.tuple [.bool k1, .bool k2])] ∧ S f = some sp ∧ RuleOk enc G rule sp ∧ CombOk enc isE E G rule M ∧ Form E G a ∧ Form E G b ∧ Form E G R0 ∧
  a.head? = some sa ∧ b.head? = some sb ∧ (∀ s ∈ R0, s.2.1 ≤ min sa.1 sb.1) ∧
  ∀ R2, Form E G R2 → (∀ z, at' R2 z = (at' R0 z).or (comb (k1, k2) rule isE (at' a z) (at' b z))) → K' (.dat .none) [.arg (R2.map (eS enc)), .dat (eSl enc a), .dat (eSl enc b), .fn (.ref f), .dat (.tuple [.bool k1, .bool k2])]
set_option maxHeartbeats 4000000 in
theorem wp_lay_over (S : Addr → Option DSpec) : ∀ ds K', sp_lay_over S ds K' → W_lay_over sp_put sp_put_all S { nx := fun ρ => K' (.dat .none) (outsOf ds ρ), rt := fun r ρ => K' r (outsOf ds ρ) } (startD N_lay_over ds) := by
  rintro ds K' ⟨β, _, enc, isE, E, G, rule, M, a, b, R0, sa0, sb0, f, sp, k1, k2, rfl, hS, hR, ok, ha, hb, h0, ea, eb, hR0, q⟩
  unfold W_lay_over
  have at0 : ∀ {c : List (Slab β)} {s : Slab β}, c.head? = some s → atI (c.map (eS enc)) 0 = some (eS enc s) := fun {c s} e => by
    cases c with
    | nil => cases e
    | cons u r => cases e; exact atI_map (i := 0) rfl
  have few : ∀ {R : List (Slab β)}, Form E G R → R.length ≤ 1000000 := fun h => Nat.le_trans (Form.few ok.few h) ok.hM
  have szl : sizeLine = 16777216 := rfl
  walk_at "evs"
  refine ev_ix (b := true) rfl (at0 ea) ?_
  walk_at "evs"
  refine ev_ix (b := true) rfl (at0 eb) ?_
  walk_at "evs"
  have tail : ∀ (n : Den → Prop) (r : DV → Den → Prop) (b' c' : Den → Prop) (R' o1 o2 o3 o4 x8 x10 x11 x13 : Option DV) (i j vi vj p ta tb : Int), (vi = if ta ≤ p then i + 1 else i) → (vj = if tb ≤ p then j + 1 else j) → n [R', o1, o2, o3, o4, some (.dat (.int vi)), some (.dat (.int vj)), some (.dat (.int p)), x8, some (.dat (.int ta)), x10, x11, some (.dat (.int tb)), x13] →
      wSeq (wIfS (wTest (wBin oLe (wName 9) (wName 7))) (wAugI 5 (fun i j => i + j) (wC (.int 1))) wNext) (wIfS (wTest (wBin oLe (wName 12) (wName 7))) (wAugI 6 (fun i j => i + j) (wC (.int 1))) wNext) (DE.mk n r b' c') [R', o1, o2, o3, o4, some (.dat (.int i)), some (.dat (.int j)), some (.dat (.int p)), x8, some (.dat (.int ta)), x10, x11, some (.dat (.int tb)), x13] := by
    intro n r b' c' R' o1 o2 o3 o4 x8 x10 x11 x13 i j vi vj p ta tb ei ej h
    walk_at "evs"
    refine ev_kIfS (fun h1 => ?_) (fun h1 => ?_)
    · rw [if_pos (of_decide_eq_true h1)] at ei
      subst ei
      walk_at "evs"
      refine ev_kIfS (fun h2 => ?_) (fun h2 => ?_)
      · rw [if_pos (of_decide_eq_true h2)] at ej
        subst ej
        walk_at "evs"
        exact h
      · rw [if_neg (of_decide_eq_false h2)] at ej
        subst ej
        walk_at "evs"
        exact h
    · rw [if_neg (of_decide_eq_false h1)] at ei
      subst ei
      walk_at "evs"
      refine ev_kIfS (fun h2 => ?_) (fun h2 => ?_)
      · rw [if_pos (of_decide_eq_true h2)] at ej
        subst ej
        walk_at "evs"
        exact h
      · rw [if_neg (of_decide_eq_false h2)] at ej
        subst ej
        walk_at "evs"
        exact h
  have cst : ∀ (c : Prop) [Decidable c] (i : Nat), (((if c then i + 1 else i : Nat)) : Int) = if c then (i : Int) + 1 else i := fun c _ i => by split <;> simp
  refine ev_while_cut (fun m ρ => ∃ (i j d : Nat) (p : Int) (R : List (Slab β)) (y1 y2 y3 y4 y5 y6 : Option DV), ρ = [some (.arg (R.map (eS enc))), some (.dat (eSl enc a)), some (.dat (eSl enc b)), some (.fn (.ref f)), some (.dat (.tuple [.bool k1, .bool k2])), some (.dat (.int i)), some (.dat (.int j)), some (.dat (.int p)), y1, y2, y3, y4, y5, y6] ∧
    LO (k1, k2) rule isE E G a b R0 i j p R ∧ m = 2 * ((a.length - i) + (b.length - j)) + d ∧ d ≤ 1 ∧ (d = 0 → ∀ sa sb, a[i]? = some sa → b[j]? = some sb → max sa.1 p = max sb.1 p) ∧ notArgB (some y1) = true ∧ notArgB (some y2) = true ∧ notArgB (some y3) = true ∧ notArgB (some y4) = true ∧ notArgB (some y5) = true ∧ notArgB (some y6) = true)
    (fun ρ => ∃ (i j : Nat) (p : Int) (R : List (Slab β)) (y1 y2 y3 y4 y5 y6 : Option DV), ρ = [some (.arg (R.map (eS enc))), some (.dat (eSl enc a)), some (.dat (eSl enc b)), some (.fn (.ref f)), some (.dat (.tuple [.bool k1, .bool k2])), some (.dat (.int i)), some (.dat (.int j)), some (.dat (.int p)), y1, y2, y3, y4, y5, y6] ∧ LO (k1, k2) rule isE E G a b R0 i j p R ∧ (i = a.length ∨ j = b.length))
    ⟨2 * (a.length + b.length) + 1, 0, 0, 1, min sa0.1 sb0.1, R0, none, none, none, none, none, none, rfl, LO.start ha hb h0 ea eb hR0, by omega, by omega, by omega, rfl, rfl, rfl, rfl, rfl, rfl⟩ ?_ ?_
  · rintro ρ ⟨i, j, p, R, y1, y2, y3, y4, y5, y6, rfl, lo, hij⟩
    have hRl := few lo.fR
    have hal := few ha
    have hbl := few hb
    have p1 : ∀ {R : List (Slab β)}, R.length ≤ 1000000 → (putAllM isE R (a.drop i) p).length ≤ 3000000 := fun {R} h => by
      have h2 : (a.drop i).length ≤ 1000000 := Nat.le_trans (by rw [List.length_drop]; omega) hal
      unfold putAllM
      split
      · omega
      · rename_i s r e
        have := putM_len (isE := isE) (R := R) (lo := max s.1 p) (hi := s.2.1) (x := s.2.2)
        rw [e] at h2
        simp only [List.length_append, List.length_cons] at h2 ⊢
        omega
    walk_at "evs"
    refine ev_kIfS (fun e1 => ?_) (fun e1 => ?_)
    · have e1 : k1 = true := e1
      subst e1
      walk_at "evs"
      rw [cut_lo, ← List.map_drop]
      walk_at "evs"
      refine ev_kUser (by simp [owns]) rfl ⟨β, inferInstance, enc, isE, R, a.drop i, p, rfl, ok.en, by rw [List.length_drop]; omega, ?_⟩
      walk_at "evs"
      refine ev_kIfS (fun e2 => ?_) (fun e2 => ?_)
      · have e2 : k2 = true := e2
        subst e2
        have := p1 hRl
        walk_at "evs"
        rw [cut_lo, ← List.map_drop]
        walk_at "evs"
        refine ev_kUser (by simp [owns]) rfl ⟨β, inferInstance, enc, isE, putAllM isE R (a.drop i) p, b.drop j, p, rfl, ok.en, by rw [List.length_drop]; omega, ?_⟩
        walk_at "evs"
        obtain ⟨f1, f2⟩ := LO.done ha hb ok.hG lo hij rfl rfl
        exact q _ f1 f2
      · have e2 : k2 = false := e2
        subst e2
        walk_at "evs"
        obtain ⟨f1, f2⟩ := LO.done ha hb ok.hG lo hij rfl rfl
        exact q _ f1 f2
    · have e1 : k1 = false := e1
      subst e1
      walk_at "evs"
      refine ev_kIfS (fun e2 => ?_) (fun e2 => ?_)
      · have e2 : k2 = true := e2
        subst e2
        walk_at "evs"
        rw [cut_lo, ← List.map_drop]
        walk_at "evs"
        refine ev_kUser (by simp [owns]) rfl ⟨β, inferInstance, enc, isE, R, b.drop j, p, rfl, ok.en, by rw [List.length_drop]; omega, ?_⟩
        walk_at "evs"
        obtain ⟨f1, f2⟩ := LO.done ha hb ok.hG lo hij rfl rfl
        exact q _ f1 f2
      · have e2 : k2 = false := e2
        subst e2
        walk_at "evs"
        obtain ⟨f1, f2⟩ := LO.done ha hb ok.hG lo hij rfl rfl
        exact q _ f1 f2
  rintro N hN m ρ ⟨i, j, d, p, R, y1, y2, y3, y4, y5, y6, rfl, lo, rfl, hd, hd0, n1, n2, n3, n4, n5, n6⟩
  walk_at "evs"
  refine ev_kAnd (fun h1 => ?_) (fun h1 => ?_)
  · have hi : i < a.length := by have := of_decide_eq_true h1; rw [List.length_map] at this; omega
    walk_at "evs"
    refine ev_kWh (fun h2 => ?_) (fun h2 => ?_)
    · have hj : j < b.length := by have := of_decide_eq_true h2; rw [List.length_map] at this; omega
      obtain ⟨sa, hsa⟩ : ∃ s, a[i]? = some s := ⟨_, List.getElem?_eq_getElem hi⟩
      obtain ⟨sb, hsb⟩ : ∃ s, b[j]? = some s := ⟨_, List.getElem?_eq_getElem hj⟩
      obtain ⟨st1, st2, st3⟩ := LO.step ha hb ok.hG ok.hr lo hsa hsb
      have pa := lo.an sa hsa
      have pb := lo.bn sb hsb
      have ga := (Form.mem ha sa (List.mem_of_getElem? hsa))
      have gb := (Form.mem hb sb (List.mem_of_getElem? hsb))
      have hRl := few lo.fR
      -- the turn's end
      have fin : ∀ (R' : List (Slab β)) (p' : Int) (x8 x10 x11 x13 : Option DV), LO (k1, k2) rule isE E G a b R0 (if sa.2.1 ≤ p' then i + 1 else i) (if sb.2.1 ≤ p' then j + 1 else j) p' R' → (sa.2.1 ≤ p' ∨ sb.2.1 ≤ p' ∨ (d = 1 ∧ max sa.1 p' = max sb.1 p')) → notArgB (some x8) = true → notArgB (some x10) = true → notArgB (some x11) = true → notArgB (some x13) = true →
          ∃ m', m' < 2 * ((a.length - i) + (b.length - j)) + d ∧ ∃ (i2 j2 d2 : Nat) (p2 : Int) (R2 : List (Slab β)) (y1 y2 y3 y4 y5 y6 : Option DV), [some (.arg (R'.map (eS enc))), some (.dat (eSl enc a)), some (.dat (eSl enc b)), some (.fn (.ref f)), some (.dat (.tuple [.bool k1, .bool k2])), some (.dat (.int (if sa.2.1 ≤ p' then i + 1 else i : Nat))), some (.dat (.int (if sb.2.1 ≤ p' then j + 1 else j : Nat))), some (.dat (.int p')), x8, some (.dat (.int sa.2.1)), x10, x11, some (.dat (.int sb.2.1)), x13] =
            [some (.arg (R2.map (eS enc))), some (.dat (eSl enc a)), some (.dat (eSl enc b)), some (.fn (.ref f)), some (.dat (.tuple [.bool k1, .bool k2])), some (.dat (.int i2)), some (.dat (.int j2)), some (.dat (.int p2)), y1, y2, y3, y4, y5, y6] ∧
            LO (k1, k2) rule isE E G a b R0 i2 j2 p2 R2 ∧ m' = 2 * ((a.length - i2) + (b.length - j2)) + d2 ∧ d2 ≤ 1 ∧ (d2 = 0 → ∀ sa sb, a[i2]? = some sa → b[j2]? = some sb → max sa.1 p2 = max sb.1 p2) ∧ notArgB (some y1) = true ∧ notArgB (some y2) = true ∧ notArgB (some y3) = true ∧ notArgB (some y4) = true ∧ notArgB (some y5) = true ∧ notArgB (some y6) = true := by
        intro R' p' x8 x10 x11 x13 l' pr g1 g2 g3 g4
        by_cases c1 : sa.2.1 ≤ p'
        · refine ⟨2 * ((a.length - (if sa.2.1 ≤ p' then i + 1 else i)) + (b.length - (if sb.2.1 ≤ p' then j + 1 else j))) + 1, ?_, _, _, 1, p', R', x8, _, x10, x11, _, x13, rfl, l', rfl, by omega, (fun z => by omega), g1, rfl, g2, g3, rfl, g4⟩
          rw [if_pos c1]
          split <;> omega
        · by_cases c2 : sb.2.1 ≤ p'
          · refine ⟨2 * ((a.length - (if sa.2.1 ≤ p' then i + 1 else i)) + (b.length - (if sb.2.1 ≤ p' then j + 1 else j))) + 1, ?_, _, _, 1, p', R', x8, _, x10, x11, _, x13, rfl, l', rfl, by omega, (fun z => by omega), g1, rfl, g2, g3, rfl, g4⟩
            rw [if_pos c2, if_neg c1]
            omega
          · rcases pr with h | h | ⟨h, hm⟩
            · exact absurd h c1
            · exact absurd h c2
            · refine ⟨2 * ((a.length - (if sa.2.1 ≤ p' then i + 1 else i)) + (b.length - (if sb.2.1 ≤ p' then j + 1 else j))) + 0, ?_, _, _, 0, p', R', x8, _, x10, x11, _, x13, rfl, l', rfl, by omega, (fun _ ta tb e1 e2 => ?_), g1, rfl, g2, g3, rfl, g4⟩
              · rw [if_neg c2, if_neg c1]
                omega
              · rw [if_neg c1, hsa] at e1
                rw [if_neg c2, hsb] at e2
                cases e1; cases e2
                exact hm
      walk_at "evs"
      refine ev_ix (b := true) rfl (atI_map hsa) ?_
      refine ev_kAsg (ρ2 := [some (.arg (R.map (eS enc))), some (.dat (eSl enc a)), some (.dat (eSl enc b)), some (.fn (.ref f)), some (.dat (.tuple [.bool k1, .bool k2])), some (.dat (.int i)), some (.dat (.int j)), some (.dat (.int p)), some (.dat (.int sa.1)), some (.dat (.int sa.2.1)), some (.dat (enc sa.2.2)), y4, y5, y6]) (by simp [fTup, fCons, fName, fNil, eS, n1, n2, n3]) ?_
      walk_at "evs"
      refine ev_ix (b := true) rfl (atI_map hsb) ?_
      refine ev_kAsg (ρ2 := [some (.arg (R.map (eS enc))), some (.dat (eSl enc a)), some (.dat (eSl enc b)), some (.fn (.ref f)), some (.dat (.tuple [.bool k1, .bool k2])), some (.dat (.int i)), some (.dat (.int j)), some (.dat (.int p)), some (.dat (.int sa.1)), some (.dat (.int sa.2.1)), some (.dat (enc sa.2.2)), some (.dat (.int sb.1)), some (.dat (.int sb.2.1)), some (.dat (enc sb.2.2))]) (by simp [fTup, fCons, fName, fNil, eS, n4, n5, n6]) ?_
      walk_at "evs"
      refine ev_kIfS (fun c1 => ?_) (fun c1 => ?_)
      · have c1 := of_decide_eq_true c1
        have hd1 : d = 1 := by
          rcases Nat.lt_or_ge d 1 with h | h
          · have := hd0 (by omega) sa sb hsa hsb; omega
          · omega
        walk_at "evs"
        have l1 := st1 c1
        have pr : sa.2.1 ≤ min sa.2.1 (max sb.1 p) ∨ sb.2.1 ≤ min sa.2.1 (max sb.1 p) ∨ (d = 1 ∧ max sa.1 (min sa.2.1 (max sb.1 p)) = max sb.1 (min sa.2.1 (max sb.1 p))) := by
          by_cases z : sa.2.1 ≤ max sb.1 p
          · exact .inl (by omega)
          · exact .inr (.inr ⟨hd1, by omega⟩)
        refine ev_kIfS (fun e1 => ?_) (fun e1 => ?_)
        · have e1 : k1 = true := e1
          subst e1
          walk_at "evs"
          refine ev_kUser (by simp [owns]) rfl ⟨β, inferInstance, enc, isE, R, max sa.1 p, min sa.2.1 (max sb.1 p), sa.2.2, rfl, ok.en.tru _, fun y => ok.en.eqv y _, ok.en.sh, by omega, ?_⟩
          with_reducible refine ev_kExpr ?_
          with_reducible refine ev_nx ?_
          exact tail _ _ _ _ _ _ _ _ _ _ _ _ _ i j _ _ _ _ _ (cst _ _) (cst _ _) (fin _ _ _ _ _ _ l1 pr rfl rfl rfl rfl)
        · have e1 : k1 = false := e1
          subst e1
          with_reducible refine ev_next ?_
          with_reducible refine ev_nx ?_
          exact tail _ _ _ _ _ _ _ _ _ _ _ _ _ i j _ _ _ _ _ (cst _ _) (cst _ _) (fin _ _ _ _ _ _ l1 pr rfl rfl rfl rfl)
      · have c1 := of_decide_eq_false c1
        walk_at "evs"
        refine ev_kIfS (fun c2 => ?_) (fun c2 => ?_)
        · have c2 := of_decide_eq_true c2
          have hd1 : d = 1 := by
            rcases Nat.lt_or_ge d 1 with h | h
            · have := hd0 (by omega) sa sb hsa hsb; omega
            · omega
          walk_at "evs"
          have l1 := st2 c2
          have pr : sa.2.1 ≤ min sb.2.1 (max sa.1 p) ∨ sb.2.1 ≤ min sb.2.1 (max sa.1 p) ∨ (d = 1 ∧ max sa.1 (min sb.2.1 (max sa.1 p)) = max sb.1 (min sb.2.1 (max sa.1 p))) := by
            by_cases z : sb.2.1 ≤ max sa.1 p
            · exact .inr (.inl (by omega))
            · exact .inr (.inr ⟨hd1, by omega⟩)
          refine ev_kIfS (fun e1 => ?_) (fun e1 => ?_)
          · have e1 : k2 = true := e1
            subst e1
            walk_at "evs"
            refine ev_kUser (by simp [owns]) rfl ⟨β, inferInstance, enc, isE, R, max sb.1 p, min sb.2.1 (max sa.1 p), sb.2.2, rfl, ok.en.tru _, fun y => ok.en.eqv y _, ok.en.sh, by omega, ?_⟩
            with_reducible refine ev_kExpr ?_
            with_reducible refine ev_nx ?_
            exact tail _ _ _ _ _ _ _ _ _ _ _ _ _ i j _ _ _ _ _ (cst _ _) (cst _ _) (fin _ _ _ _ _ _ l1 pr rfl rfl rfl rfl)
          · have e1 : k2 = false := e1
            subst e1
            with_reducible refine ev_next ?_
            with_reducible refine ev_nx ?_
            exact tail _ _ _ _ _ _ _ _ _ _ _ _ _ i j _ _ _ _ _ (cst _ _) (cst _ _) (fin _ _ _ _ _ _ l1 pr rfl rfl rfl rfl)
        · have c2 := of_decide_eq_false c2
          have l1 := st3 (by omega)
          have pr : sa.2.1 ≤ min sa.2.1 sb.2.1 ∨ sb.2.1 ≤ min sa.2.1 sb.2.1 ∨ (d = 1 ∧ max sa.1 (min sa.2.1 sb.2.1) = max sb.1 (min sa.2.1 sb.2.1)) := by
            by_cases z : sa.2.1 ≤ sb.2.1
            · exact .inl (by omega)
            · exact .inr (.inl (by omega))
          walk_at "evs"
          refine ev_loc rfl hS ?_
          walk_at "evs"
          refine ev_kUser0 rfl rfl (hR _ _ _ ga.g gb.g fun outs => ?_)
          walk_at "evs"
          refine ev_kUser (by simp [owns]) rfl ⟨β, inferInstance, enc, isE, R, max sa.1 p, min sa.2.1 sb.2.1, rule sa.2.2 sb.2.2, rfl, ok.en.tru _, fun y => ok.en.eqv y _, ok.en.sh, by omega, ?_⟩
          with_reducible refine ev_kExpr ?_
          with_reducible refine ev_nx ?_
          exact tail _ _ _ _ _ _ _ _ _ _ _ _ _ i j _ _ _ _ _ (cst _ _) (cst _ _) (fin _ _ _ _ _ _ l1 pr rfl rfl rfl rfl)
    · have hj : j = b.length := by have := of_decide_eq_false h2; rw [List.length_map] at this; have := lo.jl; omega
      exact hN _ ⟨i, j, p, R, y1, y2, y3, y4, y5, y6, rfl, lo, .inr hj⟩
  · have hi : i = a.length := by have := of_decide_eq_false h1; rw [List.length_map] at this; have := lo.il; omega
    exact ev_kWh (fun z => nomatch z) fun _ => hN _ ⟨i, j, p, R, y1, y2, y3, y4, y5, y6, rfl, lo, .inl hi⟩

end K5
end
section
set_option Elab.async false
set_option linter.all false
set_option maxRecDepth 100000
set_option maxHeartbeats 1000000
namespace K5
open PySem L2 DL SM
local macro_rules | `(tactic| walk_at "ev") => `(tactic| first
  | (with_reducible refine ev_seq ?_)
  | (with_reducible refine ev_next ?_)
  | (with_reducible refine ev_break ?_)
  | (with_reducible refine ev_cont ?_)
  | (with_reducible refine ev_expr ?_)
  | (with_reducible refine ev_kExpr ?_)
  | (with_reducible refine ev_ret ?_)
  | (with_reducible refine ev_retN ?_)
  | (with_reducible refine ev_kRet_dat ?_)
  | (with_reducible refine ev_kRet_lst ?_)
  | (with_reducible refine ev_ifS ?_)
  | (with_reducible refine ev_kIfS_t ?_)
  | (with_reducible refine ev_kIfS_f ?_)
  | (with_reducible refine ev_set ?_)
  | (with_reducible refine ev_par ?_)
  | (with_reducible refine ev_asg ?_)
  | (with_reducible refine ev_put ?_)
  | (with_reducible refine ev_kPut1 ?_)
  | (with_reducible refine ev_kPut2 ?_)
  | (with_reducible refine ev_for ?_)
  | (with_reducible refine ev_kFor ?_)
  | (with_reducible refine ev_seqI ?_)
  | (with_reducible refine ev_kSeqI_l ?_)
  | (with_reducible refine ev_kSeqI_t ?_)
  | (with_reducible refine ev_kSeqI_n ?_)
  | (with_reducible refine ev_rng1 ?_)
  | (with_reducible refine ev_rng2 ?_)
  | (with_reducible refine ev_rng3 ?_)
  | (with_reducible refine ev_c ?_)
  | (with_reducible refine ev_fn ?_)
  | (with_reducible refine ev_bin ?_)
  | (with_reducible refine ev_kBin1 ?_)
  | (with_reducible refine ev_intT ?_)
  | (with_reducible refine ev_eqI ?_)
  | (with_reducible refine ev_neI ?_)
  | (with_reducible refine ev_isN ?_)
  | (with_reducible refine ev_neg ?_)
  | (with_reducible refine ev_kNeg ?_)
  | (with_reducible refine ev_not ?_)
  | (with_reducible refine ev_kNot ?_)
  | (with_reducible refine ev_test ?_)
  | (with_reducible refine ev_kTest ?_)
  | (with_reducible refine ev_tru ?_)
  | (with_reducible refine ev_and ?_)
  | (with_reducible refine ev_or ?_)
  | (with_reducible refine ev_kAnd_t ?_)
  | (with_reducible refine ev_kAnd_f ?_)
  | (with_reducible refine ev_kOr_t ?_)
  | (with_reducible refine ev_kOr_f ?_)
  | (with_reducible refine ev_if ?_)
  | (with_reducible refine ev_kIf_t ?_)
  | (with_reducible refine ev_kIf_f ?_)
  | (with_reducible refine ev_andV ?_)
  | (with_reducible refine ev_orV ?_)
  | (with_reducible refine ev_kAndV_t ?_)
  | (with_reducible refine ev_kAndV_f ?_)
  | (with_reducible refine ev_kOrV_t ?_)
  | (with_reducible refine ev_kOrV_f ?_)
  | (with_reducible refine ev_notV ?_)
  | (with_reducible refine ev_kNotV ?_)
  | (with_reducible refine ev_isi ?_)
  | (with_reducible refine ev_nil ?_)
  | (with_reducible refine ev_kCons2 ?_)
  | (with_reducible refine ev_cons ?_)
  | (with_reducible refine ev_kCons1_dat ?_)
  | (with_reducible refine ev_kCons1_fn ?_)
  | (with_reducible refine ev_kCons1_own ?_)
  | (with_reducible refine ev_kCons1_lst ?_)
  | (with_reducible refine ev_star ?_)
  | (with_reducible refine ev_kStar2 ?_)
  | (with_reducible refine ev_tup ?_)
  | (with_reducible refine ev_lst ?_)
  | (with_reducible refine ev_noPart ?_)
  | (with_reducible refine ev_part ?_)
  | (with_reducible refine ev_kPart ?_)
  | (with_reducible refine ev_sl ?_)
  | (with_reducible refine ev_kSl1 ?_)
  | (with_reducible refine ev_kSl2 ?_)
  | (with_reducible refine ev_rev ?_)
  | (with_reducible refine ev_call ?_)
  | (with_reducible refine ev_max2 ?_)
  | (with_reducible refine ev_min2 ?_)
  | (with_reducible refine ev_int1 ?_)
  | (with_reducible refine ev_user ?_)
  | (with_reducible refine ev_app ?_)
  | (with_reducible refine ev_ext ?_)
  | (with_reducible refine ev_lc ?_)
  | ((with_reducible refine' ev_name ?k0 ?k1 ?_); (case k0 => rfl); (case k1 => rfl))
  | ((with_reducible refine' ev_nameO ?k0 ?k1 ?_); (case k0 => rfl); (case k1 => rfl))
  | ((with_reducible refine' ev_nameF_dat ?k0 ?_); (case k0 => rfl))
  | ((with_reducible refine' ev_nameF_fn ?k0 ?_); (case k0 => rfl))
  | ((with_reducible refine' ev_nameF_arg ?k0 ?_); (case k0 => rfl))
  | ((with_reducible refine' ev_nameF_lst ?k0 ?_); (case k0 => rfl))
  | ((with_reducible refine' ev_kSet_dat ?k0 ?_); (case k0 => rfl))
  | ((with_reducible refine' ev_kSet_lst ?k0 ?_); (case k0 => rfl))
  | ((with_reducible refine' ev_kSet_fn ?k0 ?_); (case k0 => rfl))
  | ((with_reducible refine' ev_kPar ?k0 ?k1 ?k2 ?k3 ?_); (case k0 => rfl); (case k1 => rfl); (case k2 => rfl); (case k3 => rfl))
  | ((with_reducible refine' ev_kAsg ?k0 ?_); (case k0 => rfl))
  | ((with_reducible refine' ev_aug ?k0 ?_); (case k0 => rfl))
  | ((with_reducible refine' ev_kAug ?k0 ?_); (case k0 => rfl))
  | ((with_reducible refine' ev_kPut3 ?k0 ?k1 ?_); (case k0 => rfl); (case k1 => rfl))
  | ((with_reducible refine' ev_ix ?k0 ?k1 ?_); (case k0 => rfl); (case k1 => rfl))
  | ((with_reducible refine' ev_kTru ?k0 ?_); (case k0 => rfl))
  | ((with_reducible refine' ev_kIsi ?k0 ?k1 ?_); (case k0 => rfl); (case k1 => rfl))
  | ((with_reducible refine' ev_kStar1 ?k0 ?_); (case k0 => rfl))
  | ((with_reducible refine' ev_kSl3_t ?k0 ?_); (case k0 => rfl))
  | ((with_reducible refine' ev_kSl3_l ?k0 ?_); (case k0 => rfl))
  | ((with_reducible refine' ev_kRev_t ?k0 ?_); (case k0 => rfl))
  | ((with_reducible refine' ev_kRev_l ?k0 ?_); (case k0 => rfl))
  | ((with_reducible refine' ev_len ?k0 ?_); (case k0 => rfl))
  | ((with_reducible refine' ev_tuple ?k0 ?_); (case k0 => rfl))
  | ((with_reducible refine' ev_list ?k0 ?_); (case k0 => rfl))
  | ((with_reducible refine' ev_kApp1 ?k0 ?_); (case k0 => rfl))
  | ((with_reducible refine' ev_kExt1 ?k0 ?_); (case k0 => rfl))
  | ((with_reducible refine' ev_kRet_own ?k0 ?_); (case k0 => rfl))
  | ((with_reducible refine' ev_kTup ?k0 ?k1 ?_); (case k0 => rfl); (case k1 => simp [sizeLine]))
  | ((with_reducible refine' ev_kLst ?k0 ?k1 ?_); (case k0 => rfl); (case k1 => simp [sizeLine]))
  | (with_reducible refine ev_nx ?_)
  | (with_reducible refine ev_rt ?_)
  | (with_reducible refine ev_bk ?_)
  | (with_reducible refine ev_ct ?_)
)
local macro_rules | `(tactic| walk_at "evs") => `(tactic| repeat (walk_at "ev"))
abbrev W_comb_end : WS := (wSeq (wIfS (wAnd (wTru (wBin oIx (wName 3) (wC (.int 0)))) (wTest (wBin oLt (wName 8) (wCall oLen (wCons (wName 0) wNil))))) (wExpr (wUser sp_put_all (wCons (wName 10) (wCons (wSl (wName 0) (wPart (wName 8)) wNoPart) (wCons (wBin oIx (wBin oIx (wName 0) (wName 8)) (wC (.int 0))) wNil))))) wNext) (wSeq (wIfS (wAnd (wTru (wBin oIx (wName 3) (wC (.int 1)))) (wTest (wBin oLt (wName 9) (wCall oLen (wCons (wName 1) wNil))))) (wExpr (wUser sp_put_all (wCons (wName 10) (wCons (wSl (wName 1) (wPart (wName 9)) wNoPart) (wCons (wBin oIx (wBin oIx (wName 1) (wName 9)) (wC (.int 0))) wNil))))) wNext) (wRet (wCall oTuple (wCons (wName 10) wNil)))))
abbrev W_comb_mid (S : Addr → Option DSpec) : WS := (wIfS (wAnd (wTest (wBin oLt (wName 6) (wName 8))) (wTest (wBin oLt (wName 7) (wName 9)))) (wExpr (wUser (sp_lay_over S) (wCons (wName 10) (wCons (wSl (wName 0) (wPart (wName 6)) (wPart (wName 8))) (wCons (wSl (wName 1) (wPart (wName 7)) (wPart (wName 9))) (wCons (wNameF 2) (wCons (wNameF 3) wNil))))))) (wIfS (wAnd (wTru (wBin oIx (wName 3) (wC (.int 0)))) (wTest (wBin oLt (wName 6) (wName 8)))) (wExpr (wUser sp_put_all (wCons (wName 10) (wCons (wSl (wName 0) (wPart (wName 6)) (wPart (wName 8))) (wCons (wBin oIx (wBin oIx (wName 0) (wName 6)) (wC (.int 0))) wNil))))) (wIfS (wAnd (wTru (wBin oIx (wName 3) (wC (.int 1)))) (wTest (wBin oLt (wName 7) (wName 9)))) (wExpr (wUser sp_put_all (wCons (wName 10) (wCons (wSl (wName 1) (wPart (wName 7)) (wPart (wName 9))) (wCons (wBin oIx (wBin oIx (wName 1) (wName 7)) (wC (.int 0))) wNil))))) wNext)))
theorem putAllM_len {β : Type} [DecidableEq β] {isE : β → Bool} {R L : List (Slab β)} {b : Int} : (putAllM isE R L b).length ≤ R.length + L.length := by
  unfold putAllM
  split
  · simp
  · rename_i s r
    have := putM_len (isE := isE) (R := R) (lo := max s.1 b) (hi := s.2.1) (x := s.2.2)
    simp only [List.length_append, List.length_cons]
    omega
theorem comb_end {β : Type} [DecidableEq β] {enc : β → PyData} {isE : β → Bool} (ok : EncOk enc isE) {n b' c' : Den → Prop} {r : DV → Den → Prop} {a b M R1 R2 : List (Slab β)} {k1 k2 : Bool} {ta tb : Nat} {v2 : V} {x4 x5 x6 x7 : PyData} (hM : M.length ≤ 4000000) (ha : a.length ≤ 1000000) (hb : b.length ≤ 1000000)
    (h1 : R1 = if k1 = true then putAllM isE M (a.drop ta) ((a[ta]?.map (·.1)).getD 0) else M) (h2 : R2 = if k2 = true then putAllM isE R1 (b.drop tb) ((b[tb]?.map (·.1)).getD 0) else R1) (q : ∀ ρ, r (.dat (eSl enc R2)) ρ) :
    W_comb_end (DE.mk n r b' c') [some (.dat (eSl enc a)), some (.dat (eSl enc b)), some (.fn v2), some (.dat (.tuple [.bool k1, .bool k2])), some (.dat x4), some (.dat x5), some (.dat x6), some (.dat x7), some (.dat (.int ta)), some (.dat (.int tb)), some (.lst (M.map (eS enc)))] := by
  have szl : sizeLine = 16777216 := rfl
  have last : ∀ (R : List (Slab β)) (o2 o3 o4 o5 o6 o7 o8 o9 : Option DV) (o0 o1 : Option DV), R = R2 → wRet (wCall oTuple (wCons (wName 10) wNil)) (DE.mk n r b' c') [o0, o1, o2, o3, o4, o5, o6, o7, o8, o9, some (.lst (R.map (eS enc)))] := by
    intro R o2 o3 o4 o5 o6 o7 o8 o9 o0 o1 e
    subst e
    walk_at "evs"
    exact q _
  have second : R1.length ≤ 6000000 → ∀ (x8 : PyData), (wSeq (wIfS (wAnd (wTru (wBin oIx (wName 3) (wC (.int 1)))) (wTest (wBin oLt (wName 9) (wCall oLen (wCons (wName 1) wNil))))) (wExpr (wUser sp_put_all (wCons (wName 10) (wCons (wSl (wName 1) (wPart (wName 9)) wNoPart) (wCons (wBin oIx (wBin oIx (wName 1) (wName 9)) (wC (.int 0))) wNil))))) wNext) (wRet (wCall oTuple (wCons (wName 10) wNil)))) (DE.mk n r b' c')
      [some (.dat (eSl enc a)), some (.dat (eSl enc b)), some (.fn v2), some (.dat (.tuple [.bool k1, .bool k2])), some (.dat x4), some (.dat x5), some (.dat x6), some (.dat x7), some (.dat x8), some (.dat (.int tb)), some (.lst (R1.map (eS enc)))] := by
    intro hl x8
    have no : (k2 = true → b.length ≤ tb) → R1 = R2 := fun h => by
      rw [h2]
      split
      · rename_i k
        rw [List.drop_eq_nil_of_le (h k)]; rfl
      · rfl
    with_reducible refine ev_seq (ev_ifS (ev_and ?_))
    walk_at "evs"
    refine ev_kAnd (fun e2 => ?_) (fun e2 => ?_)
    · have e2 : k2 = true := e2
      walk_at "evs"
      refine ev_kIfS (fun c => ?_) (fun c => ?_)
      · have hlt : tb < b.length := by have := of_decide_eq_true c; rw [List.length_map] at this; omega
        obtain ⟨s, hs⟩ : ∃ s, b[tb]? = some s := ⟨_, List.getElem?_eq_getElem hlt⟩
        walk_at "evs"
        rw [cut_lo, ← List.map_drop]
        walk_at "evs"
        refine ev_ix (b := true) rfl (atI_map hs) ?_
        walk_at "evs"
        refine ev_kUser (by simp [owns]) rfl ⟨β, inferInstance, enc, isE, R1, b.drop tb, s.1, rfl, ok, by rw [List.length_drop]; omega, ?_⟩
        with_reducible refine ev_kExpr ?_
        with_reducible refine ev_nx ?_
        refine last _ _ _ _ _ _ _ _ _ _ _ ?_
        rw [h2, if_pos e2, hs]
        rfl
      · have hge : b.length ≤ tb := by have := of_decide_eq_false c; rw [List.length_map] at this; omega
        with_reducible refine ev_next ?_
        with_reducible refine ev_nx ?_
        exact last _ _ _ _ _ _ _ _ _ _ _ (no fun _ => hge)
    · have e2 : k2 = false := e2
      with_reducible refine ev_kIfS_f ?_
      with_reducible refine ev_next ?_
      with_reducible refine ev_nx ?_
      exact last _ _ _ _ _ _ _ _ _ _ _ (no fun z => by rw [e2] at z; cases z)
  have no : (k1 = true → a.length ≤ ta) → M = R1 := fun h => by
    rw [h1]
    split
    · rename_i k
      rw [List.drop_eq_nil_of_le (h k)]; rfl
    · rfl
  have l1 : R1.length ≤ 6000000 := by
    rw [h1]
    split
    · have := putAllM_len (isE := isE) (R := M) (L := a.drop ta) (b := (a[ta]?.map (·.1)).getD 0)
      rw [List.length_drop] at this
      omega
    · omega
  with_reducible refine ev_seq (ev_ifS (ev_and ?_))
  walk_at "evs"
  refine ev_kAnd (fun e2 => ?_) (fun e2 => ?_)
  · have e2 : k1 = true := e2
    walk_at "evs"
    refine ev_kIfS (fun c => ?_) (fun c => ?_)
    · have hlt : ta < a.length := by have := of_decide_eq_true c; rw [List.length_map] at this; omega
      obtain ⟨s, hs⟩ : ∃ s, a[ta]? = some s := ⟨_, List.getElem?_eq_getElem hlt⟩
      walk_at "evs"
      rw [cut_lo, ← List.map_drop]
      walk_at "evs"
      refine ev_ix (b := true) rfl (atI_map hs) ?_
      walk_at "evs"
      refine ev_kUser (by simp [owns]) rfl ⟨β, inferInstance, enc, isE, M, a.drop ta, s.1, rfl, ok, by rw [List.length_drop]; omega, ?_⟩
      with_reducible refine ev_kExpr ?_
      with_reducible refine ev_nx ?_
      have e3 : putAllM isE M (a.drop ta) s.1 = R1 := by rw [h1, if_pos e2, hs]; rfl
      rw [e3]
      exact second l1 (.int ta)
    · have hge : a.length ≤ ta := by have := of_decide_eq_false c; rw [List.length_map] at this; omega
      with_reducible refine ev_next ?_
      with_reducible refine ev_nx ?_
      rw [no fun _ => hge]
      exact second l1 (.int ta)
  · have e2 : k1 = false := e2
    with_reducible refine ev_kIfS_f ?_
    with_reducible refine ev_next ?_
    with_reducible refine ev_nx ?_
    rw [no fun z => by rw [e2] at z; cases z]
    exact second l1 (.int ta)
theorem comb_mid {S : Addr → Option DSpec} {β : Type} [DecidableEq β] {enc : β → PyData} {isE : β → Bool} {E : Int → Prop} {G : β → Prop} {rule : β → β → β} {Mx : Nat} {a b : List (Slab β)} {a0 b0 : Slab β} {f : Addr} {sp : DSpec} {k1 k2 : Bool} {fa ta fb tb : Nat} {x4 x5 : PyData} {n b' c' : Den → Prop} {r : DV → Den → Prop}
    (hS : S f = some sp) (hR : RuleOk enc G rule sp) (ok : CombOk enc isE E G rule Mx) (ha : Form E G a) (hb : Form E G b) (ea : a.head? = some a0) (eb : b.head? = some b0) (fa1 : ∀ s ∈ a.take fa, s.2.1 ≤ max a0.1 b0.1) (fb1 : ∀ s ∈ b.take fb, s.2.1 ≤ max a0.1 b0.1) (hta : ta ≤ a.length) (htb : tb ≤ b.length)
    (q : ∀ M, Form E G M → (∀ z, at' M z = (at' (pre (k1, k2) a b fa fb) z).or (comb (k1, k2) rule isE (at' ((a.drop fa).take (ta - fa)) z) (at' ((b.drop fb).take (tb - fb)) z))) → n [some (.dat (eSl enc a)), some (.dat (eSl enc b)), some (.fn (.ref f)), some (.dat (.tuple [.bool k1, .bool k2])), some (.dat x4), some (.dat x5), some (.dat (.int fa)), some (.dat (.int fb)), some (.dat (.int ta)), some (.dat (.int tb)), some (.lst (M.map (eS enc)))]) :
    W_comb_mid S (DE.mk n r b' c') [some (.dat (eSl enc a)), some (.dat (eSl enc b)), some (.fn (.ref f)), some (.dat (.tuple [.bool k1, .bool k2])), some (.dat x4), some (.dat x5), some (.dat (.int fa)), some (.dat (.int fb)), some (.dat (.int ta)), some (.dat (.int tb)), some (.lst ((pre (k1, k2) a b fa fb).map (eS enc)))] := by
  have szl : sizeLine = 16777216 := rfl
  have few : ∀ {R : List (Slab β)}, Form E G R → R.length ≤ 1000000 := fun h => Nat.le_trans (Form.few ok.few h) ok.hM
  have fp := pre_form (keeps := (k1, k2)) ha hb ea eb fa1 fb1
  have lp := few fp
  have la := few ha
  have lb := few hb
  have cutm : ∀ {l : List (Slab β)} {i j : Nat}, i < j → j ≤ l.length → cutD (l.map (eS enc)) (some (i : Int)) (some (j : Int)) = ((l.drop i).take (j - i)).map (eS enc) := fun {l i j} h1 h2 => by
    rw [cut_both _ _ _ (by omega) (by rw [List.length_map]; exact h2), List.map_take, List.map_drop]
  -- the two kinds of one alone
  have onlyA : tb ≤ fb → wIfS (wAnd (wTru (wBin oIx (wName 3) (wC (.int 0)))) (wTest (wBin oLt (wName 6) (wName 8)))) (wExpr (wUser sp_put_all (wCons (wName 10) (wCons (wSl (wName 0) (wPart (wName 6)) (wPart (wName 8))) (wCons (wBin oIx (wBin oIx (wName 0) (wName 6)) (wC (.int 0))) wNil))))) (wIfS (wAnd (wTru (wBin oIx (wName 3) (wC (.int 1)))) (wTest (wBin oLt (wName 7) (wName 9)))) (wExpr (wUser sp_put_all (wCons (wName 10) (wCons (wSl (wName 1) (wPart (wName 7)) (wPart (wName 9))) (wCons (wBin oIx (wBin oIx (wName 1) (wName 7)) (wC (.int 0))) wNil))))) wNext) (DE.mk n r b' c') [some (.dat (eSl enc a)), some (.dat (eSl enc b)), some (.fn (.ref f)), some (.dat (.tuple [.bool k1, .bool k2])), some (.dat x4), some (.dat x5), some (.dat (.int fa)), some (.dat (.int fb)), some (.dat (.int ta)), some (.dat (.int tb)), some (.lst ((pre (k1, k2) a b fa fb).map (eS enc)))] := by
    intro hn
    have skip : (k1 = true → ta ≤ fa) → wIfS (wAnd (wTru (wBin oIx (wName 3) (wC (.int 1)))) (wTest (wBin oLt (wName 7) (wName 9)))) (wExpr (wUser sp_put_all (wCons (wName 10) (wCons (wSl (wName 1) (wPart (wName 7)) (wPart (wName 9))) (wCons (wBin oIx (wBin oIx (wName 1) (wName 7)) (wC (.int 0))) wNil))))) wNext (DE.mk n r b' c') [some (.dat (eSl enc a)), some (.dat (eSl enc b)), some (.fn (.ref f)), some (.dat (.tuple [.bool k1, .bool k2])), some (.dat x4), some (.dat x5), some (.dat (.int fa)), some (.dat (.int fb)), some (.dat (.int ta)), some (.dat (.int tb)), some (.lst ((pre (k1, k2) a b fa fb).map (eS enc)))] := by
      intro hk
      obtain ⟨g1, g2⟩ := mid_no (isE := isE) (rule := rule) (keeps := (k1, k2)) ha hb ea eb fa1 fb1 (.inr hn) hk (fun _ => hn)
      walk_at "evs"
      refine ev_kAnd (fun e2 => ?_) (fun e2 => ?_)
      · walk_at "evs"
        refine ev_kIfS (fun c => ?_) (fun c => ?_)
        · have := of_decide_eq_true c; omega
        · walk_at "evs"
          exact q _ g1 g2
      · with_reducible refine ev_kIfS_f ?_
        walk_at "evs"
        exact q _ g1 g2
    with_reducible refine ev_ifS (ev_and ?_)
    walk_at "evs"
    refine ev_kAnd (fun e2 => ?_) (fun e2 => ?_)
    · have e2 : k1 = true := e2
      walk_at "evs"
      refine ev_kIfS (fun c => ?_) (fun c => ?_)
      · have hlt : fa < ta := by have := of_decide_eq_true c; omega
        obtain ⟨s, hs⟩ : ∃ s, a[fa]? = some s := ⟨_, List.getElem?_eq_getElem (by omega)⟩
        obtain ⟨g1, g2⟩ := mid_a (rule := rule) (keeps := (k1, k2)) ha hb ok.hG ea eb fa1 fb1 hn hlt hs e2
        walk_at "evs"
        rw [cutm hlt hta]
        walk_at "evs"
        refine ev_ix (b := true) rfl (atI_map hs) ?_
        walk_at "evs"
        refine ev_kUser (by simp [owns]) rfl ⟨β, inferInstance, enc, isE, pre (k1, k2) a b fa fb, (a.drop fa).take (ta - fa), s.1, rfl, ok.en, by rw [List.length_take, List.length_drop]; omega, ?_⟩
        walk_at "evs"
        exact q _ g1 g2
      · have hle : ta ≤ fa := by have := of_decide_eq_false c; omega
        exact skip fun _ => hle
    · have e2 : k1 = false := e2
      with_reducible refine ev_kIfS_f ?_
      exact skip fun z => by rw [e2] at z; cases z
  with_reducible refine ev_ifS (ev_and ?_)
  walk_at "evs"
  refine ev_kAnd (fun c1 => ?_) (fun c1 => ?_)
  · have c1 : fa < ta := by have := of_decide_eq_true c1; omega
    walk_at "evs"
    refine ev_kIfS (fun c2 => ?_) (fun c2 => ?_)
    · have c2 : fb < tb := by have := of_decide_eq_true c2; omega
      obtain ⟨s, hs⟩ : ∃ s, a[fa]? = some s := ⟨_, List.getElem?_eq_getElem (by omega)⟩
      obtain ⟨t, ht⟩ : ∃ s, b[fb]? = some s := ⟨_, List.getElem?_eq_getElem (by omega)⟩
      walk_at "evs"
      rw [cutm c1 hta]
      walk_at "evs"
      rw [cutm c2 htb]
      walk_at "evs"
      refine ev_kUser (by simp [owns]) rfl ⟨β, inferInstance, enc, isE, E, G, rule, Mx, (a.drop fa).take (ta - fa), (b.drop fb).take (tb - fb), pre (k1, k2) a b fa fb, s, t, f, sp, k1, k2, rfl, hS, hR, ok, form_take _ (form_drop _ ha), form_take _ (form_drop _ hb), fp, head_mid c1 hs, head_mid c2 ht, fun u m => ?_, fun R2 g1 g2 => ?_⟩
      · have h1 := pre_below_a (keeps := (k1, k2)) ha hb ea eb fa1 fb1 hs u m
        have h2 := pre_below_b (keeps := (k1, k2)) ha hb ea eb fa1 fb1 ht u m
        omega
      · walk_at "evs"
        exact q _ g1 g2
    · have c2 : tb ≤ fb := by have := of_decide_eq_false c2; omega
      exact onlyA c2
  · have c1 : ta ≤ fa := by have := of_decide_eq_false c1; omega
    with_reducible refine ev_kIfS_f ?_
    by_cases hn : tb ≤ fb
    · exact onlyA hn
    -- slabs of b alone
    have second : wIfS (wAnd (wTru (wBin oIx (wName 3) (wC (.int 1)))) (wTest (wBin oLt (wName 7) (wName 9)))) (wExpr (wUser sp_put_all (wCons (wName 10) (wCons (wSl (wName 1) (wPart (wName 7)) (wPart (wName 9))) (wCons (wBin oIx (wBin oIx (wName 1) (wName 7)) (wC (.int 0))) wNil))))) wNext (DE.mk n r b' c') [some (.dat (eSl enc a)), some (.dat (eSl enc b)), some (.fn (.ref f)), some (.dat (.tuple [.bool k1, .bool k2])), some (.dat x4), some (.dat x5), some (.dat (.int fa)), some (.dat (.int fb)), some (.dat (.int ta)), some (.dat (.int tb)), some (.lst ((pre (k1, k2) a b fa fb).map (eS enc)))] := by
      with_reducible refine ev_ifS (ev_and ?_)
      walk_at "evs"
      refine ev_kAnd (fun e2 => ?_) (fun e2 => ?_)
      · have e2 : k2 = true := e2
        walk_at "evs"
        refine ev_kIfS (fun c => ?_) (fun c => ?_)
        · have hlt : fb < tb := by omega
          obtain ⟨s, hs⟩ : ∃ s, b[fb]? = some s := ⟨_, List.getElem?_eq_getElem (by omega)⟩
          obtain ⟨g1, g2⟩ := mid_b (rule := rule) (keeps := (k1, k2)) ha hb ok.hG ea eb fa1 fb1 c1 hlt hs e2
          walk_at "evs"
          rw [cutm hlt htb]
          walk_at "evs"
          refine ev_ix (b := true) rfl (atI_map hs) ?_
          walk_at "evs"
          refine ev_kUser (by simp [owns]) rfl ⟨β, inferInstance, enc, isE, pre (k1, k2) a b fa fb, (b.drop fb).take (tb - fb), s.1, rfl, ok.en, by rw [List.length_take, List.length_drop]; omega, ?_⟩
          walk_at "evs"
          exact q _ g1 g2
        · have := of_decide_eq_false c; omega
      · have e2 : k2 = false := e2
        with_reducible refine ev_kIfS_f ?_
        obtain ⟨g1, g2⟩ := mid_no (isE := isE) (rule := rule) (keeps := (k1, k2)) ha hb ea eb fa1 fb1 (.inl c1) (fun _ => c1) (fun z => by have z : k2 = true := z; rw [e2] at z; cases z)
        walk_at "evs"
        exact q _ g1 g2
    with_reducible refine ev_ifS (ev_and ?_)
    walk_at "evs"
    refine ev_kAnd (fun e2 => ?_) (fun e2 => ?_)
    · walk_at "evs"
      refine ev_kIfS (fun c => ?_) (fun c => ?_)
      · have := of_decide_eq_true c; omega
      · exact second
    · with_reducible refine ev_kIfS_f ?_
      exact second
def sp_combined (S : Addr → Option DSpec) : DSpec := fun ds K' => ∃ (β : Type) (_ : DecidableEq β) (enc : β → PyData) (isE : β → Bool) (E : Int → Prop) (G : β → Prop) (rule : β → β → β) (M : Nat) (a b : List (Slab β)) (f : Addr) (sp : DSpec) (k1 k2 : Bool),
  ds = [.dat (eSl enc a), .dat (eSl enc b), .fn (.ref f), .dat (.tuple [.bool k1, .bool k2])] ∧ S f = some sp ∧ RuleOk enc G rule sp ∧ CombOk enc isE E G rule M ∧ Form E G a ∧ Form E G b ∧
  ∀ R2, Form E G R2 → (∀ z, at' R2 z = comb (k1, k2) rule isE (at' a z) (at' b z)) → ∀ outs, K' (.dat (eSl enc R2)) outs
theorem wp_combined (S : Addr → Option DSpec) : ∀ ds K', sp_combined S ds K' → W_combined sp_first_ending_beyond sp_first_beginning_from sp_put_all (sp_lay_over S) { nx := fun ρ => K' (.dat .none) (outsOf ds ρ), rt := fun r ρ => K' r (outsOf ds ρ) } (startD N_combined ds) := by
  rintro ds K' ⟨β, _, enc, isE, E, G, rule, Mx, a, b, f, sp, k1, k2, rfl, hS, hR, ok, ha, hb, q⟩
  unfold W_combined
  have szl : sizeLine = 16777216 := rfl
  have few : ∀ {R : List (Slab β)}, Form E G R → R.length ≤ 1000000 := fun h => Nat.le_trans (Form.few ok.few h) ok.hM
  have la := few ha
  have lb := few hb
  walk_at "evs"
  cases a with
  | nil =>
    refine ev_kIfS (fun _ => ?_) (fun z => nomatch z)
    walk_at "evs"
    refine ev_kIf (fun e => ?_) (fun e => ?_)
    · have e : k2 = true := e
      walk_at "evs"
      refine q b hb (fun z => ?_) _
      simp only [at']
      rw [comb_none_l, if_pos e]
    · have e : k2 = false := e
      walk_at "evs"
      refine q [] trivial (fun z => ?_) _
      simp only [at']
      rw [comb_none_l, if_neg (by show ¬ k2 = true; rw [e]; decide)]
  | cons a0 ra =>
    refine ev_kIfS (fun z => nomatch z) (fun _ => ?_)
    walk_at "evs"
    cases b with
    | nil =>
      refine ev_kIfS (fun _ => ?_) (fun z => nomatch z)
      walk_at "evs"
      refine ev_kIf (fun e => ?_) (fun e => ?_)
      · have e : k1 = true := e
        walk_at "evs"
        refine q (a0 :: ra) ha (fun z => ?_) _
        rw [show at' ([] : List (Slab β)) z = none from rfl, comb_none_r, if_pos e]
      · have e : k1 = false := e
        walk_at "evs"
        refine q [] trivial (fun z => ?_) _
        rw [show at' ([] : List (Slab β)) z = none from rfl, comb_none_r, if_neg (by show ¬ k1 = true; rw [e]; decide)]
    | cons b0 rb =>
      refine ev_kIfS (fun z => nomatch z) (fun _ => ?_)
      have ea : (a0 :: ra).head? = some a0 := rfl
      have eb : (b0 :: rb).head? = some b0 := rfl
      generalize a0 :: ra = a at *
      generalize b0 :: rb = b at *
      have at0 : ∀ {c : List (Slab β)} {s : Slab β}, c.head? = some s → atI (c.map (eS enc)) 0 = some (eS enc s) := fun {c s} e => by
        cases c with
        | nil => cases e
        | cons u r => cases e; exact atI_map (i := 0) rfl
      have at1 : ∀ {c : List (Slab β)} {s : Slab β}, c.getLast? = some s → atI (c.map (eS enc)) (-1) = some (eS enc s) := fun {c s} e => by
        rcases nil_or_last c with rfl | ⟨L, l, rfl⟩
        · cases e
        · have : l = s := by simpa using e
          subst this
          rw [List.map_append]
          exact atI_last _ _
      have lst : ∀ {c : List (Slab β)} {s : Slab β}, c.head? = some s → ∃ l, c.getLast? = some l := fun {c s} e => by
        rcases nil_or_last c with rfl | ⟨L, l, rfl⟩
        · cases e
        · exact ⟨l, by simp⟩
      obtain ⟨al, ela⟩ := lst ea
      obtain ⟨bl, elb⟩ := lst eb
      walk_at "evs"
      refine ev_ix (b := true) rfl (at0 ea) ?_
      walk_at "evs"
      refine ev_ix (b := true) rfl (at0 eb) ?_
      walk_at "evs"
      refine ev_ix (b := true) rfl (at1 ela) ?_
      walk_at "evs"
      refine ev_ix (b := true) rfl (at1 elb) ?_
      walk_at "evs"
      refine ev_kUser0 rfl rfl ⟨β, enc, E, G, a, max a0.1 b0.1, rfl, ha, fun fa lfa fa1 fa2 _ => ?_⟩
      walk_at "evs"
      refine ev_kUser0 rfl rfl ⟨β, enc, E, G, b, max a0.1 b0.1, rfl, hb, fun fb lfb fb1 fb2 _ => ?_⟩
      walk_at "evs"
      refine ev_kUser0 rfl rfl ⟨β, enc, E, G, a, min al.2.1 bl.2.1, rfl, ha, fun ta' lta' ta1' ta2' _ => ?_⟩
      walk_at "evs"
      refine ev_kUser0 rfl rfl ⟨β, enc, E, G, b, min al.2.1 bl.2.1, rfl, hb, fun tb' ltb' tb1' tb2' _ => ?_⟩
      walk_at "evs"
      have mx : ∀ x y : Nat, max (x : Int) (y : Int) = ((max x y : Nat) : Int) := fun x y => by omega
      rw [mx, mx]
      have dropr : ∀ {l : List (Slab β)} {i j : Nat} {s : Slab β}, i ≤ j → s ∈ l.drop j → s ∈ l.drop i := fun {l i j s} h m => by
        have : l.drop j = (l.drop i).drop (j - i) := by rw [List.drop_drop]; congr 1; omega
        rw [this] at m
        exact List.mem_of_mem_drop m
      have ta2 : ∀ s ∈ a.drop (max fa ta'), min al.2.1 bl.2.1 ≤ s.1 := fun s m => ta2' s (dropr (Nat.le_max_right _ _) m)
      have tb2 : ∀ s ∈ b.drop (max fb tb'), min al.2.1 bl.2.1 ≤ s.1 := fun s m => tb2' s (dropr (Nat.le_max_right _ _) m)
      have lta : fa ≤ max fa ta' := Nat.le_max_left _ _
      have ltb : fb ≤ max fb tb' := Nat.le_max_left _ _
      have hta : max fa ta' ≤ a.length := Nat.max_le.mpr ⟨lfa, lta'⟩
      have htb : max fb tb' ≤ b.length := Nat.max_le.mpr ⟨lfb, ltb'⟩
      generalize max fa ta' = ta at *
      generalize max fb tb' = tb at *
      -- behind the slabs ahead
      have go : ∀ (r : DV → Den → Prop) (n b' c' : Den → Prop), (∀ R ρ, r R ρ = K' R (outsOf [.dat (eSl enc a), .dat (eSl enc b), .fn (.ref f), .dat (.tuple [.bool k1, .bool k2])] ρ)) → ∀ (P : List (Slab β)), P = pre (k1, k2) a b fa fb →
          wSeq (W_comb_mid S) W_comb_end (DE.mk n r b' c') [some (.dat (eSl enc a)), some (.dat (eSl enc b)), some (.fn (.ref f)), some (.dat (.tuple [.bool k1, .bool k2])), some (.dat (.int (max a0.1 b0.1))), some (.dat (.int (min al.2.1 bl.2.1))), some (.dat (.int fa)), some (.dat (.int fb)), some (.dat (.int ta)), some (.dat (.int tb)), some (.lst (P.map (eS enc)))] := by
        intro r n b' c' hr P hP
        subst hP
        with_reducible refine ev_seq ?_
        refine comb_mid hS hR ok ha hb ea eb fa1 fb1 hta htb fun M g1 g2 => ?_
        have hM := few g1
        refine comb_end ok.en (by omega) la lb rfl rfl fun ρ => ?_
        rw [hr]
        obtain ⟨f1, f2⟩ := comb_done (keeps := (k1, k2)) (isE := isE) (rule := rule) ha hb ok.hG ea eb ela elb fa1 fa2 fb1 fb2 lta ltb ta2 tb2 g1 g2 rfl rfl
        exact q _ f1 f2 _
      have fp := pre_form (keeps := (k1, k2)) ha hb ea eb fa1 fb1
      have lp := few fp
      refine ev_kIf (fun e1 => ?_) (fun e1 => ?_)
      · have e1 : k1 = true := e1
        subst e1
        walk_at "evs"
        rw [cut_hi, ← List.map_take]
        walk_at "evs"
        refine ev_kIfS (fun e2 => ?_) (fun e2 => ?_)
        · have e2 : k2 = true := e2
          subst e2
          walk_at "evs"
          rw [cut_hi, ← List.map_take]
          refine ev_kExt2 rfl (by rw [List.length_map, List.length_map, List.length_take, List.length_take]; omega) ?_
          with_reducible refine ev_kExpr ?_
          with_reducible refine ev_nx ?_
          rw [← List.map_append]
          exact go _ _ _ _ (fun _ _ => rfl) (a.take fa ++ b.take fb) rfl
        · have e2 : k2 = false := e2
          subst e2
          with_reducible refine ev_next ?_
          with_reducible refine ev_nx ?_
          exact go _ _ _ _ (fun _ _ => rfl) (a.take fa) (by unfold pre; simp)
      · have e1 : k1 = false := e1
        subst e1
        walk_at "evs"
        refine ev_kIfS (fun e2 => ?_) (fun e2 => ?_)
        · have e2 : k2 = true := e2
          subst e2
          walk_at "evs"
          rw [cut_hi, ← List.map_take]
          refine ev_kExt2 rfl (by rw [List.length_map, List.length_take]; simp; omega) ?_
          with_reducible refine ev_kExpr ?_
          with_reducible refine ev_nx ?_
          rw [List.nil_append]
          exact go _ _ _ _ (fun _ _ => rfl) (b.take fb) (by unfold pre; simp)
        · have e2 : k2 = false := e2
          subst e2
          with_reducible refine ev_next ?_
          with_reducible refine ev_nx ?_
          exact go _ _ _ _ (fun _ _ => rfl) [] (by unfold pre; simp)

end K5
end
section
set_option Elab.async false
set_option linter.all false
set_option maxRecDepth 100000
set_option maxHeartbeats 1000000
namespace K5
open PySem L2 DL SM
local macro_rules | `(tactic| walk_at "ev") => `(tactic| first
  | (with_reducible refine ev_seq ?_)
  | (with_reducible refine ev_next ?_)
  | (with_reducible refine ev_break ?_)
  | (with_reducible refine ev_cont ?_)
  | (with_reducible refine ev_expr ?_)
  | (with_reducible refine ev_kExpr ?_)
  | (with_reducible refine ev_ret ?_)
  | (with_reducible refine ev_retN ?_)
  | (with_reducible refine ev_kRet_dat ?_)
  | (with_reducible refine ev_kRet_lst ?_)
  | (with_reducible refine ev_ifS ?_)
  | (with_reducible refine ev_kIfS_t ?_)
  | (with_reducible refine ev_kIfS_f ?_)
  | (with_reducible refine ev_set ?_)
  | (with_reducible refine ev_par ?_)
  | (with_reducible refine ev_asg ?_)
  | (with_reducible refine ev_put ?_)
  | (with_reducible refine ev_kPut1 ?_)
  | (with_reducible refine ev_kPut2 ?_)
  | (with_reducible refine ev_for ?_)
  | (with_reducible refine ev_kFor ?_)
  | (with_reducible refine ev_seqI ?_)
  | (with_reducible refine ev_kSeqI_l ?_)
  | (with_reducible refine ev_kSeqI_t ?_)
  | (with_reducible refine ev_kSeqI_n ?_)
  | (with_reducible refine ev_rng1 ?_)
  | (with_reducible refine ev_rng2 ?_)
  | (with_reducible refine ev_rng3 ?_)
  | (with_reducible refine ev_c ?_)
  | (with_reducible refine ev_fn ?_)
  | (with_reducible refine ev_bin ?_)
  | (with_reducible refine ev_kBin1 ?_)
  | (with_reducible refine ev_intT ?_)
  | (with_reducible refine ev_eqI ?_)
  | (with_reducible refine ev_neI ?_)
  | (with_reducible refine ev_isN ?_)
  | (with_reducible refine ev_neg ?_)
  | (with_reducible refine ev_kNeg ?_)
  | (with_reducible refine ev_not ?_)
  | (with_reducible refine ev_kNot ?_)
  | (with_reducible refine ev_test ?_)
  | (with_reducible refine ev_kTest ?_)
  | (with_reducible refine ev_tru ?_)
  | (with_reducible refine ev_and ?_)
  | (with_reducible refine ev_or ?_)
  | (with_reducible refine ev_kAnd_t ?_)
  | (with_reducible refine ev_kAnd_f ?_)
  | (with_reducible refine ev_kOr_t ?_)
  | (with_reducible refine ev_kOr_f ?_)
  | (with_reducible refine ev_if ?_)
  | (with_reducible refine ev_kIf_t ?_)
  | (with_reducible refine ev_kIf_f ?_)
  | (with_reducible refine ev_andV ?_)
  | (with_reducible refine ev_orV ?_)
  | (with_reducible refine ev_kAndV_t ?_)
  | (with_reducible refine ev_kAndV_f ?_)
  | (with_reducible refine ev_kOrV_t ?_)
  | (with_reducible refine ev_kOrV_f ?_)
  | (with_reducible refine ev_notV ?_)
  | (with_reducible refine ev_kNotV ?_)
  | (with_reducible refine ev_isi ?_)
  | (with_reducible refine ev_nil ?_)
  | (with_reducible refine ev_kCons2 ?_)
  | (with_reducible refine ev_cons ?_)
  | (with_reducible refine ev_kCons1_dat ?_)
  | (with_reducible refine ev_kCons1_fn ?_)
  | (with_reducible refine ev_kCons1_own ?_)
  | (with_reducible refine ev_kCons1_lst ?_)
  | (with_reducible refine ev_star ?_)
  | (with_reducible refine ev_kStar2 ?_)
  | (with_reducible refine ev_tup ?_)
  | (with_reducible refine ev_lst ?_)
  | (with_reducible refine ev_noPart ?_)
  | (with_reducible refine ev_part ?_)
  | (with_reducible refine ev_kPart ?_)
  | (with_reducible refine ev_sl ?_)
  | (with_reducible refine ev_kSl1 ?_)
  | (with_reducible refine ev_kSl2 ?_)
  | (with_reducible refine ev_rev ?_)
  | (with_reducible refine ev_call ?_)
  | (with_reducible refine ev_max2 ?_)
  | (with_reducible refine ev_min2 ?_)
  | (with_reducible refine ev_int1 ?_)
  | (with_reducible refine ev_user ?_)
  | (with_reducible refine ev_app ?_)
  | (with_reducible refine ev_ext ?_)
  | (with_reducible refine ev_lc ?_)
  | ((with_reducible refine' ev_name ?k0 ?k1 ?_); (case k0 => rfl); (case k1 => rfl))
  | ((with_reducible refine' ev_nameO ?k0 ?k1 ?_); (case k0 => rfl); (case k1 => rfl))
  | ((with_reducible refine' ev_nameF_dat ?k0 ?_); (case k0 => rfl))
  | ((with_reducible refine' ev_nameF_fn ?k0 ?_); (case k0 => rfl))
  | ((with_reducible refine' ev_nameF_arg ?k0 ?_); (case k0 => rfl))
  | ((with_reducible refine' ev_nameF_lst ?k0 ?_); (case k0 => rfl))
  | ((with_reducible refine' ev_kSet_dat ?k0 ?_); (case k0 => rfl))
  | ((with_reducible refine' ev_kSet_lst ?k0 ?_); (case k0 => rfl))
  | ((with_reducible refine' ev_kSet_fn ?k0 ?_); (case k0 => rfl))
  | ((with_reducible refine' ev_kPar ?k0 ?k1 ?k2 ?k3 ?_); (case k0 => rfl); (case k1 => rfl); (case k2 => rfl); (case k3 => rfl))
  | ((with_reducible refine' ev_kAsg ?k0 ?_); (case k0 => rfl))
  | ((with_reducible refine' ev_aug ?k0 ?_); (case k0 => rfl))
  | ((with_reducible refine' ev_kAug ?k0 ?_); (case k0 => rfl))
  | ((with_reducible refine' ev_kPut3 ?k0 ?k1 ?_); (case k0 => rfl); (case k1 => rfl))
  | ((with_reducible refine' ev_ix ?k0 ?k1 ?_); (case k0 => rfl); (case k1 => rfl))
  | ((with_reducible refine' ev_kTru ?k0 ?_); (case k0 => rfl))
  | ((with_reducible refine' ev_kIsi ?k0 ?k1 ?_); (case k0 => rfl); (case k1 => rfl))
  | ((with_reducible refine' ev_kStar1 ?k0 ?_); (case k0 => rfl))
  | ((with_reducible refine' ev_kSl3_t ?k0 ?_); (case k0 => rfl))
  | ((with_reducible refine' ev_kSl3_l ?k0 ?_); (case k0 => rfl))
  | ((with_reducible refine' ev_kRev_t ?k0 ?_); (case k0 => rfl))
  | ((with_reducible refine' ev_kRev_l ?k0 ?_); (case k0 => rfl))
  | ((with_reducible refine' ev_len ?k0 ?_); (case k0 => rfl))
  | ((with_reducible refine' ev_tuple ?k0 ?_); (case k0 => rfl))
  | ((with_reducible refine' ev_list ?k0 ?_); (case k0 => rfl))
  | ((with_reducible refine' ev_kApp1 ?k0 ?_); (case k0 => rfl))
  | ((with_reducible refine' ev_kExt1 ?k0 ?_); (case k0 => rfl))
  | ((with_reducible refine' ev_kRet_own ?k0 ?_); (case k0 => rfl))
  | ((with_reducible refine' ev_kTup ?k0 ?k1 ?_); (case k0 => rfl); (case k1 => simp [sizeLine]))
  | ((with_reducible refine' ev_kLst ?k0 ?k1 ?_); (case k0 => rfl); (case k1 => simp [sizeLine]))
  | (with_reducible refine ev_nx ?_)
  | (with_reducible refine ev_rt ?_)
  | (with_reducible refine ev_bk ?_)
  | (with_reducible refine ev_ct ?_)
)
local macro_rules | `(tactic| walk_at "evs") => `(tactic| repeat (walk_at "ev"))
theorem rs2 (n : Nat) : Builtin.Range.rangeSize 0 n 2 = (((n + 1) / 2 : Nat) : Int) := by
  unfold Builtin.Range.rangeSize
  rw [if_pos (by decide)]
  split <;> omega
theorem rg2 (n : Nat) (h : n ≤ 1000000) : RgC 0 n 2 ((n + 1) / 2) := by
  have fl : ∀ i : Int, 0 ≤ i → i ≤ 2000000 → Builtin.Range.rangeFitsLong i = true := fun i h1 h2 => by
    unfold Builtin.Range.rangeFitsLong
    simp
    omega
  refine ⟨by decide, by decide, ?_, rs2 n⟩
  unfold Builtin.Range.small
  rw [rs2, fl 0 (by omega) (by omega), fl n (by omega) (by omega), fl 2 (by omega) (by omega), fl _ (by omega) (by omega), if_pos (by decide), fl _ (by omega) (by omega)]
  simp
theorem encOk_row : EncOk eRow List.isEmpty where
  tru := fun x => by cases x <;> rfl
  eqv := fun x y => by rw [Pd.eqv (pd_eRow 0 x) (pd_eRow 0 y)]; exact ⟨eRow_inj, fun e => by rw [e]⟩
  sh := fun x => Pd.shaped (pd_eRow 0 x)
theorem encOk_lay : EncOk eLay List.isEmpty where
  tru := fun x => by cases x <;> rfl
  eqv := fun x y => by rw [Pd.eqv (pd_eLay 0 x) (pd_eLay 0 y)]; exact ⟨eLay_inj x y, fun e => by rw [e]⟩
  sh := fun x => Pd.shaped (pd_eLay 0 x)
theorem rule_rows {E : Int → Prop} {M : Nat} (few : Few E M) (hM : M ≤ 1000000) : RuleOk eRow (FRow E) joinR sp_joined_rows := fun x y K1 gx gy k =>
  ⟨E, x, y, rfl, gx.1, gy.1, gx.2, gy.2, Nat.le_trans (Form.few few gx.1) hM, Nat.le_trans (Form.few few gy.1) hM, fun R f1 _ f3 outs => by
    obtain ⟨h1, h2, _⟩ := joinR_ok gx.1 gy.1
    have e : R = joinR x y := ext f1 h1 fun z => by rw [f3, h2]
    rw [e]; exact k outs⟩
theorem comb_rows {E : Int → Prop} {M : Nat} (few : Few E M) (hM : M ≤ 1000000) : CombOk eRow List.isEmpty E (FRow E) joinR M := ⟨encOk_row, few, hM, fun x g => ne_isE g.2, row_hr joinR_rule⟩
def sp_joined_layers : DSpec := fun ds K' => ∃ (E : Int → Prop) (M : Nat) (a b : Lay), ds = [.dat (eLay a), .dat (eLay b)] ∧ Few E M ∧ M ≤ 1000000 ∧ Form E (FRow E) a ∧ Form E (FRow E) b ∧ ∀ outs, K' (.dat (eLay (joinL a b))) outs
theorem wp_joined_layers (aR : Addr) : ∀ ds K', sp_joined_layers ds K' → W_joined_layers (sp_combined (only aR sp_joined_rows)) aR { nx := fun ρ => K' (.dat .none) (outsOf ds ρ), rt := fun r ρ => K' r (outsOf ds ρ) } (startD N_joined_layers ds) := by
  rintro ds K' ⟨E, M, a, b, rfl, few, hM, ha, hb, q⟩
  unfold W_joined_layers
  walk_at "evs"
  refine ev_kUser0 rfl rfl ⟨Row, SM.decRow, eRow, List.isEmpty, E, FRow E, joinR, M, a, b, aR, sp_joined_rows, true, true, rfl, only_self, rule_rows few hM, comb_rows few hM, ha, hb, fun R f1 f2 outs => ?_⟩
  walk_at "evs"
  have e : joinL a b = R := canon_eq f1 f2
  rw [← show eLay (joinL a b) = eSl eRow R by rw [e]]
  exact q _
theorem rule_lays {E : Int → Prop} {M : Nat} (few : Few E M) (hM : M ≤ 1000000) : RuleOk eLay (FLay E) joinL sp_joined_layers := fun x y K1 gx gy k => ⟨E, M, x, y, rfl, few, hM, gx.1, gy.1, k⟩
theorem comb_lays {E : Int → Prop} {M : Nat} (few : Few E M) (hM : M ≤ 1000000) : CombOk eLay List.isEmpty E (FLay E) joinL M := ⟨encOk_lay, few, hM, fun x g => ne_isE g.2, lay_hr op_or joinR_rule⟩
def sp_union : DSpec := fun ds K' => ∃ (E : Int → Prop) (M : Nat) (a b : Sol), ds = [.dat (eSol a), .dat (eSol b)] ∧ Few E M ∧ M ≤ 1000000 ∧ FSol E a ∧ FSol E b ∧ ∀ outs, K' (.dat (eSol (joinS a b))) outs
theorem wp_union (aL : Addr) : ∀ ds K', sp_union ds K' → W_union (sp_combined (only aL sp_joined_layers)) aL { nx := fun ρ => K' (.dat .none) (outsOf ds ρ), rt := fun r ρ => K' r (outsOf ds ρ) } (startD N_union ds) := by
  rintro ds K' ⟨E, M, a, b, rfl, few, hM, ha, hb, q⟩
  unfold W_union
  walk_at "evs"
  refine ev_kUser0 rfl rfl ⟨Lay, SM.decLay, eLay, List.isEmpty, E, FLay E, joinL, M, a, b, aL, sp_joined_layers, true, true, rfl, only_self, rule_lays few hM, comb_lays few hM, ha, hb, fun R f1 f2 outs => ?_⟩
  walk_at "evs"
  have e : joinS a b = R := canon_eq f1 f2
  rw [← show eSol (joinS a b) = eSl eLay R by rw [e]]
  exact q _
def sp_union_of : DSpec := fun ds K' => ∃ (E : Int → Prop) (M : Nat) (rows : List Sol), ds = [.dat (.list (rows.map eSol))] ∧ Few E M ∧ M ≤ 1000000 ∧ (∀ s ∈ rows, FSol E s) ∧ rows.length ≤ 1000000 ∧ ∀ U, FSol E U → (∀ p, cS U p = rows.any (cS · p)) → ∀ outs, K' (.dat (eSol U)) outs
theorem take_two {α : Type} {l : List α} {t : Nat} {x y : α} (h1 : l[2 * t]? = some x) (h2 : l[2 * t + 1]? = some y) : l.take (2 * (t + 1)) = l.take (2 * t) ++ [x, y] := by
  rw [show 2 * (t + 1) = (2 * t + 1) + 1 by omega, List.take_add_one, List.take_add_one, h1, h2]
  simp
theorem wp_union_of : ∀ ds K', sp_union_of ds K' → W_union_of sp_union { nx := fun ρ => K' (.dat .none) (outsOf ds ρ), rt := fun r ρ => K' r (outsOf ds ρ) } (startD N_union_of ds) := by
  rintro ds K' ⟨E, M, rows0, rfl, few, hM, hF0, hl0, q⟩
  have szl : sizeLine = 16777216 := rfl
  unfold W_union_of
  walk_at "evs"
  refine ev_while_cut (fun m ρ => ∃ rows : List Sol, ρ = [some (.dat (.list (rows0.map eSol))), some (.lst (rows.map eSol)), none] ∧ m = rows.length ∧ rows.length ≤ 1000000 ∧ (∀ s ∈ rows, FSol E s) ∧ ∀ p, rows.any (cS · p) = rows0.any (cS · p))
    (fun ρ => ∃ rows : List Sol, ρ = [some (.dat (.list (rows0.map eSol))), some (.lst (rows.map eSol)), none] ∧ rows.length ≤ 1 ∧ (∀ s ∈ rows, FSol E s) ∧ ∀ p, rows.any (cS · p) = rows0.any (cS · p))
    ⟨_, rows0, rfl, rfl, hl0, hF0, fun _ => rfl⟩ ?_ ?_
  · rintro ρ ⟨rows, rfl, hl, hF, hc⟩
    walk_at "evs"
    cases rows with
    | nil =>
      refine ev_kIf_f ?_
      walk_at "evs"
      exact q [] trivial (fun p => hc p) _
    | cons s r =>
      have : r = [] := by
        cases r with
        | nil => rfl
        | cons _ _ => simp at hl
      subst this
      refine ev_kIf_t ?_
      walk_at "evs"
      refine q s (hF s List.mem_cons_self) (fun p => ?_) _
      have := hc p
      rw [← this]
      simp
  · rintro N hN m ρ ⟨rows, rfl, rfl, hl, hF, hc⟩
    walk_at "evs"
    refine ev_kWh (fun c => ?_) (fun c => ?_)
    · have c : 1 < rows.length := by have := of_decide_eq_true c; rw [List.length_map] at this; omega
      walk_at "evs"
      rw [List.length_map]
      refine ev_kRng3 (rg2 rows.length hl) ?_
      refine lcGo_ind (I := fun acc left ρ => ∃ (t : Nat) (acc' : List Sol), ρ = [some (.dat (.list (rows0.map eSol))), some (.lst (rows.map eSol)), none] ∧ acc = acc'.map eSol ∧ acc'.length = t ∧ t ≤ (rows.length + 1) / 2 ∧ left = (rangeC 0 2 ((rows.length + 1) / 2)).drop t ∧ (∀ s ∈ acc', FSol E s) ∧ ∀ p, acc'.any (cS · p) = (rows.take (2 * t)).any (cS · p)) ?_ ?_ _ _ _ ?_
      · rintro acc ρ ⟨t, acc', rfl, rfl, rfl, ht, hle, hFa, hca⟩
        have ht2 : acc'.length = (rows.length + 1) / 2 := by
          have := congrArg List.length hle
          rw [List.length_drop, rangeC_len] at this
          simp at this
          omega
        walk_at "evs"
        refine ⟨acc'.length, by omega, acc', rfl, rfl, by omega, hFa, fun p => ?_⟩
        rw [hca, List.take_of_length_le (by omega), hc]
      · rintro acc x xs ρ ⟨t, acc', rfl, rfl, rfl, ht, hle, hFa, hca⟩
        have hlt : acc'.length < (rows.length + 1) / 2 := by
          have := congrArg List.length hle
          rw [List.length_drop, rangeC_len] at this
          simp at this
          omega
        have hx : (rangeC 0 2 ((rows.length + 1) / 2))[acc'.length]? = some x := by
          rw [← List.head?_drop, ← hle]; rfl
        obtain ⟨_, rfl⟩ := rangeC_get hx
        have hxs : xs = (rangeC 0 2 ((rows.length + 1) / 2)).drop (acc'.length + 1) := by
          rw [← List.tail_drop, ← hle]; rfl
        refine ⟨rfl, _, rfl, fun Gn hG => ?_⟩
        have ek : (0 : Int) + (acc'.length : Int) * 2 = ((2 * acc'.length : Nat) : Int) := by omega
        rw [ek]
        obtain ⟨u, hu⟩ : ∃ s, rows[2 * acc'.length]? = some s := ⟨_, List.getElem?_eq_getElem (by omega)⟩
        have fu := hF u (List.mem_of_getElem? hu)
        have sz : (acc'.map eSol).length < sizeLine := by rw [List.length_map]; omega
        walk_at "evs"
        refine ev_kIf (fun c2 => ?_) (fun c2 => ?_)
        · have c2 : 2 * acc'.length + 1 < rows.length := by have := of_decide_eq_true c2; rw [List.length_map] at this; omega
          obtain ⟨v, hv⟩ : ∃ s, rows[2 * acc'.length + 1]? = some s := ⟨_, List.getElem?_eq_getElem c2⟩
          have fv := hF v (List.mem_of_getElem? hv)
          walk_at "evs"
          refine ev_ix (b := false) rfl (atI_map hu) ?_
          walk_at "evs"
          refine ev_ix (b := false) rfl (show atI (rows.map eSol) (((2 * acc'.length : Nat) : Int) + 1) = some (eSol v) from atI_map (i := 2 * acc'.length + 1) hv) ?_
          walk_at "evs"
          refine ev_kUser0 rfl rfl ⟨E, M, u, v, rfl, few, hM, fu, fv, fun outs => ?_⟩
          obtain ⟨j1, _, j3⟩ := combS_ok op_or joinR_rule fu fv
          refine hG _ _ sz ⟨acc'.length + 1, acc' ++ [joinS u v], rfl, by simp, by simp, by omega, hxs, fun s m => ?_, fun p => ?_⟩
          · rcases List.mem_append.mp m with m | m
            · exact hFa s m
            · have : s = joinS u v := by simpa using m
              rw [this]; exact j1
          · rw [take_two hu hv, List.any_append, List.any_append, hca]
            simp [j3]
        · have c2 : rows.length = 2 * acc'.length + 1 := by have := of_decide_eq_false c2; rw [List.length_map] at this; omega
          walk_at "evs"
          refine ev_ix (b := false) rfl (atI_map hu) ?_
          refine hG _ _ sz ⟨acc'.length + 1, acc' ++ [u], rfl, by simp, by simp, by omega, hxs, fun s m => ?_, fun p => ?_⟩
          · rcases List.mem_append.mp m with m | m
            · exact hFa s m
            · have : s = u := by simpa using m
              rw [this]; exact fu
          · have e : rows.take (2 * (acc'.length + 1)) = rows.take (2 * acc'.length) ++ [u] := by
              rw [List.take_of_length_le (by omega), ← List.take_append_drop (2 * acc'.length) rows]
              congr 1
              · rw [List.take_append_drop]
              · rw [List.drop_eq_getElem_cons (by omega : 2 * acc'.length < rows.length), List.drop_eq_nil_of_le (by omega)]
                rw [List.getElem?_eq_getElem (by omega)] at hu
                rw [Option.some.inj hu]
            rw [e, List.any_append, List.any_append, hca]
      · exact ⟨0, [], rfl, rfl, rfl, by omega, rfl, (fun s m => nomatch m), fun p => by simp⟩
    · have c : rows.length ≤ 1 := by have := of_decide_eq_false c; rw [List.length_map] at this; omega
      exact hN _ ⟨rows, rfl, c, hF, hc⟩

end K5
end
section
set_option Elab.async false
set_option linter.all false
set_option maxRecDepth 100000
set_option maxHeartbeats 1000000
namespace K5
open PySem L2 DL SM
local macro_rules | `(tactic| walk_at "ev") => `(tactic| first
  | (with_reducible refine ev_seq ?_)
  | (with_reducible refine ev_next ?_)
  | (with_reducible refine ev_break ?_)
  | (with_reducible refine ev_cont ?_)
  | (with_reducible refine ev_expr ?_)
  | (with_reducible refine ev_kExpr ?_)
  | (with_reducible refine ev_ret ?_)
  | (with_reducible refine ev_retN ?_)
  | (with_reducible refine ev_kRet_dat ?_)
  | (with_reducible refine ev_kRet_lst ?_)
  | (with_reducible refine ev_ifS ?_)
  | (with_reducible refine ev_kIfS_t ?_)
  | (with_reducible refine ev_kIfS_f ?_)
  | (with_reducible refine ev_set ?_)
  | (with_reducible refine ev_par ?_)
  | (with_reducible refine ev_asg ?_)
  | (with_reducible refine ev_put ?_)
  | (with_reducible refine ev_kPut1 ?_)
  | (with_reducible refine ev_kPut2 ?_)
  | (with_reducible refine ev_for ?_)
  | (with_reducible refine ev_kFor ?_)
  | (with_reducible refine ev_seqI ?_)
  | (with_reducible refine ev_kSeqI_l ?_)
  | (with_reducible refine ev_kSeqI_t ?_)
  | (with_reducible refine ev_kSeqI_n ?_)
  | (with_reducible refine ev_rng1 ?_)
  | (with_reducible refine ev_rng2 ?_)
  | (with_reducible refine ev_rng3 ?_)
  | (with_reducible refine ev_c ?_)
  | (with_reducible refine ev_fn ?_)
  | (with_reducible refine ev_bin ?_)
  | (with_reducible refine ev_kBin1 ?_)
  | (with_reducible refine ev_intT ?_)
  | (with_reducible refine ev_eqI ?_)
  | (with_reducible refine ev_neI ?_)
  | (with_reducible refine ev_isN ?_)
  | (with_reducible refine ev_neg ?_)
  | (with_reducible refine ev_kNeg ?_)
  | (with_reducible refine ev_not ?_)
  | (with_reducible refine ev_kNot ?_)
  | (with_reducible refine ev_test ?_)
  | (with_reducible refine ev_kTest ?_)
  | (with_reducible refine ev_tru ?_)
  | (with_reducible refine ev_and ?_)
  | (with_reducible refine ev_or ?_)
  | (with_reducible refine ev_kAnd_t ?_)
  | (with_reducible refine ev_kAnd_f ?_)
  | (with_reducible refine ev_kOr_t ?_)
  | (with_reducible refine ev_kOr_f ?_)
  | (with_reducible refine ev_if ?_)
  | (with_reducible refine ev_kIf_t ?_)
  | (with_reducible refine ev_kIf_f ?_)
  | (with_reducible refine ev_andV ?_)
  | (with_reducible refine ev_orV ?_)
  | (with_reducible refine ev_kAndV_t ?_)
  | (with_reducible refine ev_kAndV_f ?_)
  | (with_reducible refine ev_kOrV_t ?_)
  | (with_reducible refine ev_kOrV_f ?_)
  | (with_reducible refine ev_notV ?_)
  | (with_reducible refine ev_kNotV ?_)
  | (with_reducible refine ev_isi ?_)
  | (with_reducible refine ev_nil ?_)
  | (with_reducible refine ev_kCons2 ?_)
  | (with_reducible refine ev_cons ?_)
  | (with_reducible refine ev_kCons1_dat ?_)
  | (with_reducible refine ev_kCons1_fn ?_)
  | (with_reducible refine ev_kCons1_own ?_)
  | (with_reducible refine ev_kCons1_lst ?_)
  | (with_reducible refine ev_star ?_)
  | (with_reducible refine ev_kStar2 ?_)
  | (with_reducible refine ev_tup ?_)
  | (with_reducible refine ev_lst ?_)
  | (with_reducible refine ev_noPart ?_)
  | (with_reducible refine ev_part ?_)
  | (with_reducible refine ev_kPart ?_)
  | (with_reducible refine ev_sl ?_)
  | (with_reducible refine ev_kSl1 ?_)
  | (with_reducible refine ev_kSl2 ?_)
  | (with_reducible refine ev_rev ?_)
  | (with_reducible refine ev_call ?_)
  | (with_reducible refine ev_max2 ?_)
  | (with_reducible refine ev_min2 ?_)
  | (with_reducible refine ev_int1 ?_)
  | (with_reducible refine ev_user ?_)
  | (with_reducible refine ev_app ?_)
  | (with_reducible refine ev_ext ?_)
  | (with_reducible refine ev_lc ?_)
  | ((with_reducible refine' ev_name ?k0 ?k1 ?_); (case k0 => rfl); (case k1 => rfl))
  | ((with_reducible refine' ev_nameO ?k0 ?k1 ?_); (case k0 => rfl); (case k1 => rfl))
  | ((with_reducible refine' ev_nameF_dat ?k0 ?_); (case k0 => rfl))
  | ((with_reducible refine' ev_nameF_fn ?k0 ?_); (case k0 => rfl))
  | ((with_reducible refine' ev_nameF_arg ?k0 ?_); (case k0 => rfl))
  | ((with_reducible refine' ev_nameF_lst ?k0 ?_); (case k0 => rfl))
  | ((with_reducible refine' ev_kSet_dat ?k0 ?_); (case k0 => rfl))
  | ((with_reducible refine' ev_kSet_lst ?k0 ?_); (case k0 => rfl))
  | ((with_reducible refine' ev_kSet_fn ?k0 ?_); (case k0 => rfl))
  | ((with_reducible refine' ev_kPar ?k0 ?k1 ?k2 ?k3 ?_); (case k0 => rfl); (case k1 => rfl); (case k2 => rfl); (case k3 => rfl))
  | ((with_reducible refine' ev_kAsg ?k0 ?_); (case k0 => rfl))
  | ((with_reducible refine' ev_aug ?k0 ?_); (case k0 => rfl))
  | ((with_reducible refine' ev_kAug ?k0 ?_); (case k0 => rfl))
  | ((with_reducible refine' ev_kPut3 ?k0 ?k1 ?_); (case k0 => rfl); (case k1 => rfl))
  | ((with_reducible refine' ev_ix ?k0 ?k1 ?_); (case k0 => rfl); (case k1 => rfl))
  | ((with_reducible refine' ev_kTru ?k0 ?_); (case k0 => rfl))
  | ((with_reducible refine' ev_kIsi ?k0 ?k1 ?_); (case k0 => rfl); (case k1 => rfl))
  | ((with_reducible refine' ev_kStar1 ?k0 ?_); (case k0 => rfl))
  | ((with_reducible refine' ev_kSl3_t ?k0 ?_); (case k0 => rfl))
  | ((with_reducible refine' ev_kSl3_l ?k0 ?_); (case k0 => rfl))
  | ((with_reducible refine' ev_kRev_t ?k0 ?_); (case k0 => rfl))
  | ((with_reducible refine' ev_kRev_l ?k0 ?_); (case k0 => rfl))
  | ((with_reducible refine' ev_len ?k0 ?_); (case k0 => rfl))
  | ((with_reducible refine' ev_tuple ?k0 ?_); (case k0 => rfl))
  | ((with_reducible refine' ev_list ?k0 ?_); (case k0 => rfl))
  | ((with_reducible refine' ev_kApp1 ?k0 ?_); (case k0 => rfl))
  | ((with_reducible refine' ev_kExt1 ?k0 ?_); (case k0 => rfl))
  | ((with_reducible refine' ev_kRet_own ?k0 ?_); (case k0 => rfl))
  | ((with_reducible refine' ev_kTup ?k0 ?k1 ?_); (case k0 => rfl); (case k1 => simp [sizeLine]))
  | ((with_reducible refine' ev_kLst ?k0 ?k1 ?_); (case k0 => rfl); (case k1 => simp [sizeLine]))
  | (with_reducible refine ev_nx ?_)
  | (with_reducible refine ev_rt ?_)
  | (with_reducible refine ev_bk ?_)
  | (with_reducible refine ev_ct ?_)
)
local macro_rules | `(tactic| walk_at "evs") => `(tactic| repeat (walk_at "ev"))
/-! ### data without dicts -/
inductive Nd : PyData → Prop
  | int (i : Int) : Nd (.int i)
  | bl (b : Bool) : Nd (.bool b)
  | non : Nd .none
  | tup (xs : List PyData) : (∀ x ∈ xs, Nd x) → Nd (.tuple xs)
  | lst (xs : List PyData) : (∀ x ∈ xs, Nd x) → Nd (.list xs)
def isInt : PyData → Bool
  | .int _ => true
  | _ => false
def isBl : PyData → Bool
  | .bool _ => true
  | _ => false
def isTup : PyData → Bool
  | .tuple _ => true
  | _ => false
section
variable {ρ : Den} {Q : DV → Den → Prop} {d : PyData}
theorem ev_isiInt (h : Nd d) (q : Q (.dat (.bool (isInt d || isBl d))) ρ) : kIsi "int" Q (.dat d) ρ := by
  cases h with
  | int i => exact ev_kIsi (S := "int") (b := true) rfl (by decide +kernel) q
  | bl b => exact ev_kIsi (S := "bool") (b := true) rfl (by decide +kernel) q
  | non => exact ev_kIsi (S := "NoneType") (b := false) rfl (by decide +kernel) q
  | tup xs _ => exact ev_kIsi (S := "tuple") (b := false) rfl (by decide +kernel) q
  | lst xs _ => exact ev_kIsi (S := "list") (b := false) rfl (by decide +kernel) q
theorem ev_isiBl (h : Nd d) (q : Q (.dat (.bool (isBl d))) ρ) : kIsi "bool" Q (.dat d) ρ := by
  cases h with
  | int i => exact ev_kIsi (S := "int") (b := false) rfl (by decide +kernel) q
  | bl b => exact ev_kIsi (S := "bool") (b := true) rfl (by decide +kernel) q
  | non => exact ev_kIsi (S := "NoneType") (b := false) rfl (by decide +kernel) q
  | tup xs _ => exact ev_kIsi (S := "tuple") (b := false) rfl (by decide +kernel) q
  | lst xs _ => exact ev_kIsi (S := "list") (b := false) rfl (by decide +kernel) q
theorem ev_isiTup (h : Nd d) (q : Q (.dat (.bool (isTup d))) ρ) : kIsi "tuple" Q (.dat d) ρ := by
  cases h with
  | int i => exact ev_kIsi (S := "int") (b := false) rfl (by decide +kernel) q
  | bl b => exact ev_kIsi (S := "bool") (b := false) rfl (by decide +kernel) q
  | non => exact ev_kIsi (S := "NoneType") (b := false) rfl (by decide +kernel) q
  | tup xs _ => exact ev_kIsi (S := "tuple") (b := true) rfl (by decide +kernel) q
  | lst xs _ => exact ev_kIsi (S := "list") (b := false) rfl (by decide +kernel) q
end
theorem isTup_of {d : PyData} (h : isTup d = true) : ∃ xs, d = .tuple xs := by cases d <;> first | exact ⟨_, rfl⟩ | cases h
theorem isInt_of {d : PyData} (h : isInt d = true) : ∃ i, d = .int i := by cases d <;> first | exact ⟨_, rfl⟩ | cases h
theorem Nd.mem {xs : List PyData} (h : Nd (.tuple xs)) : ∀ x ∈ xs, Nd x := by cases h with | tup _ h => exact h
def sp_is_integer : DSpec := fun ds K' => ∃ d, ds = [.dat d] ∧ Nd d ∧ ∀ outs, K' (.dat (.bool (isInt d))) outs
theorem wp_is_integer : ∀ ds K', sp_is_integer ds K' → W_is_integer { nx := fun ρ => K' (.dat .none) (outsOf ds ρ), rt := fun r ρ => K' r (outsOf ds ρ) } (startD N_is_integer ds) := by
  rintro ds K' ⟨d, rfl, nd, q⟩
  unfold W_is_integer
  walk_at "evs"
  refine ev_isiInt nd ?_
  refine ev_kAndV (fun h => ?_) (fun h => ?_)
  · walk_at "evs"
    refine ev_isiBl nd ?_
    walk_at "evs"
    cases nd <;> first | exact q _ | cases h
  · walk_at "evs"
    cases nd <;> first | exact q _ | cases h
/-- a stretch, or slab, of n items -/
def isSt (n : Nat) (d : PyData) : Bool := match d with
  | .tuple (.int a :: .int b :: r) => decide (r.length + 2 = n) && decide (a < b)
  | _ => false
theorem isSt_of {n : Nat} {d : PyData} (h : isSt n d = true) : ∃ a b r, d = .tuple (.int a :: .int b :: r) ∧ r.length + 2 = n ∧ a < b := by
  unfold isSt at h
  split at h
  · simp at h; exact ⟨_, _, _, rfl, h.1, h.2⟩
  · cases h
def sp_is_stretch : DSpec := fun ds K' => ∃ d n, ds = [.dat d, .dat (.int (n : Nat))] ∧ Nd d ∧ 2 ≤ n ∧ ∀ outs, K' (.dat (.bool (isSt n d))) outs
theorem wp_is_stretch : ∀ ds K', sp_is_stretch ds K' → W_is_stretch sp_is_integer { nx := fun ρ => K' (.dat .none) (outsOf ds ρ), rt := fun r ρ => K' r (outsOf ds ρ) } (startD N_is_stretch ds) := by
  rintro ds K' ⟨d, n, rfl, nd, hn, q⟩
  unfold W_is_stretch
  walk_at "evs"
  refine ev_isiTup nd ?_
  refine ev_kAndV (fun h => ?_) (fun h => ?_)
  · obtain ⟨xs, rfl⟩ := isTup_of h
    walk_at "evs"
    refine ev_kAndV (fun h2 => ?_) (fun h2 => ?_)
    · have hl : xs.length = n := by have := of_decide_eq_true h2; omega
      match xs, hl with
      | [], hl => simp at hl; omega
      | [_], hl => simp at hl; omega
      | x :: y :: r, hl =>
      have hl2 : r.length + 2 = n := by simpa using hl
      have nx := nd.mem x List.mem_cons_self
      have ny := nd.mem y (List.mem_cons_of_mem _ List.mem_cons_self)
      walk_at "evs"
      refine ev_ix (b := true) rfl (show atI (x :: y :: r) 0 = some x from atI_nat (j := 0) rfl) ?_
      walk_at "evs"
      refine ev_kUser0 rfl rfl ⟨x, rfl, nx, fun outs => ?_⟩
      refine ev_kAndV (fun h3 => ?_) (fun h3 => ?_)
      · obtain ⟨i, rfl⟩ := isInt_of h3
        walk_at "evs"
        refine ev_ix (b := true) rfl (show atI (PyData.int i :: y :: r) 1 = some y from atI_nat (j := 1) rfl) ?_
        walk_at "evs"
        refine ev_kUser0 rfl rfl ⟨y, rfl, ny, fun outs => ?_⟩
        refine ev_kAndV (fun h4 => ?_) (fun h4 => ?_)
        · obtain ⟨j, rfl⟩ := isInt_of h4
          walk_at "evs"
          refine ev_ix (b := true) rfl (show atI (PyData.int i :: .int j :: r) 0 = some (.int i) from atI_nat (j := 0) rfl) ?_
          walk_at "evs"
          refine ev_ix (b := true) rfl (show atI (PyData.int i :: .int j :: r) 1 = some (.int j) from atI_nat (j := 1) rfl) ?_
          walk_at "evs"
          have e : isSt n (.tuple (.int i :: .int j :: r)) = decide (i < j) := by
            show (decide (r.length + 2 = n) && decide (i < j)) = _
            rw [decide_eq_true hl2]; rfl
          rw [e] at q
          exact q _
        · walk_at "evs"
          have e : isSt n (.tuple (.int i :: y :: r)) = false := by
            cases y <;> first | rfl | cases h4
          rw [e] at q
          exact q _
      · walk_at "evs"
        have e : isSt n (.tuple (x :: y :: r)) = false := by
          cases x <;> first | rfl | cases h3
        rw [e] at q
        exact q _
    · walk_at "evs"
      have hl : xs.length ≠ n := by have := of_decide_eq_false h2; omega
      have e : isSt n (.tuple xs) = false := by
        cases z : isSt n (.tuple xs) with
        | false => rfl
        | true =>
          obtain ⟨a, b, r, e, h1, _⟩ := isSt_of z
          cases e
          simp at hl
          omega
      rw [e] at q
      exact q _
  · walk_at "evs"
    have e : isSt n d = false := by
      cases d <;> first | rfl | cases h
    rw [e] at q
    exact q _
/-! ### forms of slabs, step by step -/
def Tr : Int → Prop := fun _ => True
section
variable {β : Type} {E : Int → Prop} {G : β → Prop}
theorem form_snoc {R : List (Slab β)} {s : Slab β} (h : Form E G R) (o : Ok E G s) (hl : ∀ l, R.getLast? = some l → Lk l s) : Form E G (R ++ [s]) :=
  form_append.mpr ⟨h, form_one o, fun a b e1 e2 => by cases e2; exact hl a e1⟩
/-- a form that begins so -/
theorem form_begins {α : Type} {f : Slab β → α} (hi : ∀ s t, f s = f t → s = t) {L R : List (Slab β)} {x : α} {rest : List α} (h : Form E G L) (e : L.map f = R.map f ++ x :: rest) : ∃ s, x = f s ∧ Ok E G s ∧ ∀ l, R.getLast? = some l → Lk l s := by
  obtain ⟨L1, L2, rfl, e1, e2⟩ := List.map_eq_append_iff.mp e
  have e3 : L1 = R := map_inj hi e1
  subst e3
  obtain ⟨s, L3, rfl, e4, e5⟩ := List.map_eq_cons_iff.mp e2
  obtain ⟨h1, h2, h3⟩ := form_append.mp h
  exact ⟨s, e4.symm, h2.1, fun l hl => h3 l s hl rfl⟩
end
theorem eU_inj' : ∀ s t : Slab Unit, eU s = eU t → s = t := fun _ _ => eU_inj
/-- what is told of a part: whether it is one of a kind -/
def Says {β : Type} (enc : β → PyData) (G : β → Prop) (sp : DSpec) : Prop := ∀ x (K1 : DV → List DV → Prop), Nd x → (∀ b, (b = true ↔ ∃ y, G y ∧ x = enc y) → ∀ outs, K1 (.dat (.bool b)) outs) → sp [.dat x] K1
def endOf (R : Row) : PyData := match R.getLast? with
  | none => .none
  | some l => .int l.2.1
def sp_is_row : DSpec := fun ds K' => ∃ d, ds = [.dat d] ∧ Nd d ∧ ∀ b, (b = true ↔ ∃ r, FRow Tr r ∧ d = eRow r) → ∀ outs, K' (.dat (.bool b)) outs
theorem wp_is_row : ∀ ds K', sp_is_row ds K' → W_is_row sp_is_stretch { nx := fun ρ => K' (.dat .none) (outsOf ds ρ), rt := fun r ρ => K' r (outsOf ds ρ) } (startD N_is_row ds) := by
  rintro ds K' ⟨d, rfl, nd, q⟩
  unfold W_is_row
  have no : (¬ ∃ r, FRow Tr r ∧ d = eRow r) → ∀ outs, K' (.dat (.bool false)) outs := fun h => q false ⟨(fun z => nomatch z), fun z => absurd z h⟩
  walk_at "evs"
  refine ev_isiTup nd ?_
  walk_at "evs"
  refine ev_kOr (fun h => ?_) (fun h => ?_)
  · have h : isTup d = false := by simpa using h
    walk_at "evs"
    exact no (by rintro ⟨r, _, rfl⟩; cases h) _
  have h : isTup d = true := by simpa using h
  obtain ⟨xs, rfl⟩ := isTup_of h
  walk_at "evs"
  refine ev_kIfS (fun h => ?_) (fun h => ?_)
  · walk_at "evs"
    refine no ?_ _
    rintro ⟨r, ⟨_, h1⟩, e⟩
    have e : xs = r.map eU := by simpa [eRow] using e
    subst e
    cases r with
    | nil => exact h1 rfl
    | cons s r => simp at h
  · have hne : xs ≠ [] := by intro z; subst z; simp at h
    walk_at "evs"
    refine forGo_ind (I := fun left ρ => ∃ (R : Row) (y : Option DV), ρ = [some (.dat (.tuple xs)), some (.dat (endOf R)), y] ∧ xs = R.map eU ++ left ∧ Form Tr AnyU R ∧ notArgB (some y) = true) ?_ ?_ _ _ ⟨[], _, rfl, rfl, trivial, rfl⟩
    · rintro ρ ⟨R, y, rfl, e, hf, hy⟩
      walk_at "evs"
      rw [List.append_nil] at e
      refine q true ⟨fun _ => ⟨R, ⟨hf, fun z => ?_⟩, by rw [e]; rfl⟩, fun _ => rfl⟩ _
      subst z
      exact hne e
    · rintro x rest ρ ⟨R, y, rfl, e, hf, hy⟩
      have nx : Nd x := nd.mem x (by rw [e]; simp)
      refine ⟨_, by simp [fName, hy]; rfl, fun N hN => ?_⟩
      have bad : (∀ s, x = eU s → Ok Tr AnyU s → (∀ l, R.getLast? = some l → Lk l s) → False) → ∀ outs, K' (.dat (.bool false)) outs := fun hb => no (by
        rintro ⟨r, ⟨h1, _⟩, e2⟩
        have e2 : r.map eU = R.map eU ++ x :: rest := by
          have : xs = r.map eU := by simpa [eRow] using e2
          rw [← this, e]
        obtain ⟨s, g1, g2, g3⟩ := form_begins eU_inj' h1 e2
        exact hb s g1 g2 g3)
      walk_at "evs"
      refine ev_kUser0 rfl rfl ⟨x, 2, rfl, nx, by omega, fun outs => ?_⟩
      walk_at "evs"
      refine ev_kOr (fun h1 => ?_) (fun h1 => ?_)
      · have h1 : isSt 2 x = false := by simpa using h1
        walk_at "evs"
        refine bad (fun s e1 o _ => ?_) _
        subst e1
        have : isSt 2 (eU s) = true := by
          show (decide (0 + 2 = 2) && decide (s.1 < s.2.1)) = true
          rw [decide_eq_true o.lt]; rfl
        rw [this] at h1; cases h1
      · have h1 : isSt 2 x = true := by simpa using h1
        obtain ⟨a, b, r, rfl, hr, hab⟩ := isSt_of h1
        have hr : r = [] := List.length_eq_zero_iff.mp (by omega)
        subst hr
        have ok : Ok Tr AnyU (a, b, ()) := ⟨hab, trivial, trivial, trivial⟩
        have stay : (∀ l, R.getLast? = some l → l.2.1 < a) → N [some (.dat (.tuple xs)), some (.dat (.int b)), some (.dat (.tuple [.int a, .int b]))] := fun hl => by
          refine hN _ ⟨R ++ [(a, b, ())], some (.dat (.tuple [.int a, .int b])), ?_, ?_, form_snoc hf ok fun l e1 => ⟨Int.le_of_lt (hl l e1), fun z => ?_⟩, rfl⟩
          · simp [endOf]
          · rw [e]; simp [eU]
          · have := hl l e1
            have z : l.2.1 = a := z
            omega
        walk_at "evs"
        cases hR : R.getLast? with
        | none =>
          have e1 : endOf R = .none := by unfold endOf; rw [hR]
          rw [e1]
          walk_at "evs"
          refine ev_kAnd_f ?_
          walk_at "evs"
          exact stay fun l z => by rw [hR] at z; cases z
        | some l =>
          have e1 : endOf R = .int l.2.1 := by unfold endOf; rw [hR]
          rw [e1]
          walk_at "evs"
          refine ev_kAnd_t ?_
          walk_at "evs"
          refine ev_kIfS (fun h2 => ?_) (fun h2 => ?_)
          · have h2 := of_decide_eq_true h2
            walk_at "evs"
            refine bad (fun s e2 o hl => ?_) _
            have e3 : s = (a, b, ()) := eU_inj (e2.symm)
            subst e3
            obtain ⟨g1, g2⟩ := hl l hR
            have g1 : l.2.1 ≤ a := g1
            exact g2 (show l.2.1 = a by omega) rfl
          · have h2 := of_decide_eq_false h2
            walk_at "evs"
            exact stay fun l' z => by rw [hR] at z; cases z; omega

end K5
end
section
set_option Elab.async false
set_option linter.all false
set_option maxRecDepth 100000
set_option maxHeartbeats 1000000
namespace K5
open PySem L2 DL SM
local macro_rules | `(tactic| walk_at "ev") => `(tactic| first
  | (with_reducible refine ev_seq ?_)
  | (with_reducible refine ev_next ?_)
  | (with_reducible refine ev_break ?_)
  | (with_reducible refine ev_cont ?_)
  | (with_reducible refine ev_expr ?_)
  | (with_reducible refine ev_kExpr ?_)
  | (with_reducible refine ev_ret ?_)
  | (with_reducible refine ev_retN ?_)
  | (with_reducible refine ev_kRet_dat ?_)
  | (with_reducible refine ev_kRet_lst ?_)
  | (with_reducible refine ev_ifS ?_)
  | (with_reducible refine ev_kIfS_t ?_)
  | (with_reducible refine ev_kIfS_f ?_)
  | (with_reducible refine ev_set ?_)
  | (with_reducible refine ev_par ?_)
  | (with_reducible refine ev_asg ?_)
  | (with_reducible refine ev_put ?_)
  | (with_reducible refine ev_kPut1 ?_)
  | (with_reducible refine ev_kPut2 ?_)
  | (with_reducible refine ev_for ?_)
  | (with_reducible refine ev_kFor ?_)
  | (with_reducible refine ev_seqI ?_)
  | (with_reducible refine ev_kSeqI_l ?_)
  | (with_reducible refine ev_kSeqI_t ?_)
  | (with_reducible refine ev_kSeqI_n ?_)
  | (with_reducible refine ev_rng1 ?_)
  | (with_reducible refine ev_rng2 ?_)
  | (with_reducible refine ev_rng3 ?_)
  | (with_reducible refine ev_c ?_)
  | (with_reducible refine ev_fn ?_)
  | (with_reducible refine ev_bin ?_)
  | (with_reducible refine ev_kBin1 ?_)
  | (with_reducible refine ev_intT ?_)
  | (with_reducible refine ev_eqI ?_)
  | (with_reducible refine ev_neI ?_)
  | (with_reducible refine ev_isN ?_)
  | (with_reducible refine ev_neg ?_)
  | (with_reducible refine ev_kNeg ?_)
  | (with_reducible refine ev_not ?_)
  | (with_reducible refine ev_kNot ?_)
  | (with_reducible refine ev_test ?_)
  | (with_reducible refine ev_kTest ?_)
  | (with_reducible refine ev_tru ?_)
  | (with_reducible refine ev_and ?_)
  | (with_reducible refine ev_or ?_)
  | (with_reducible refine ev_kAnd_t ?_)
  | (with_reducible refine ev_kAnd_f ?_)
  | (with_reducible refine ev_kOr_t ?_)
  | (with_reducible refine ev_kOr_f ?_)
  | (with_reducible refine ev_if ?_)
  | (with_reducible refine ev_kIf_t ?_)
  | (with_reducible refine ev_kIf_f ?_)
  | (with_reducible refine ev_andV ?_)
  | (with_reducible refine ev_orV ?_)
  | (with_reducible refine ev_kAndV_t ?_)
  | (with_reducible refine ev_kAndV_f ?_)
  | (with_reducible refine ev_kOrV_t ?_)
  | (with_reducible refine ev_kOrV_f ?_)
  | (with_reducible refine ev_notV ?_)
  | (with_reducible refine ev_kNotV ?_)
  | (with_reducible refine ev_isi ?_)
  | (with_reducible refine ev_nil ?_)
  | (with_reducible refine ev_kCons2 ?_)
  | (with_reducible refine ev_cons ?_)
  | (with_reducible refine ev_kCons1_dat ?_)
  | (with_reducible refine ev_kCons1_fn ?_)
  | (with_reducible refine ev_kCons1_own ?_)
  | (with_reducible refine ev_kCons1_lst ?_)
  | (with_reducible refine ev_star ?_)
  | (with_reducible refine ev_kStar2 ?_)
  | (with_reducible refine ev_tup ?_)
  | (with_reducible refine ev_lst ?_)
  | (with_reducible refine ev_noPart ?_)
  | (with_reducible refine ev_part ?_)
  | (with_reducible refine ev_kPart ?_)
  | (with_reducible refine ev_sl ?_)
  | (with_reducible refine ev_kSl1 ?_)
  | (with_reducible refine ev_kSl2 ?_)
  | (with_reducible refine ev_rev ?_)
  | (with_reducible refine ev_call ?_)
  | (with_reducible refine ev_max2 ?_)
  | (with_reducible refine ev_min2 ?_)
  | (with_reducible refine ev_int1 ?_)
  | (with_reducible refine ev_user ?_)
  | (with_reducible refine ev_app ?_)
  | (with_reducible refine ev_ext ?_)
  | (with_reducible refine ev_lc ?_)
  | ((with_reducible refine' ev_name ?k0 ?k1 ?_); (case k0 => rfl); (case k1 => rfl))
  | ((with_reducible refine' ev_nameO ?k0 ?k1 ?_); (case k0 => rfl); (case k1 => rfl))
  | ((with_reducible refine' ev_nameF_dat ?k0 ?_); (case k0 => rfl))
  | ((with_reducible refine' ev_nameF_fn ?k0 ?_); (case k0 => rfl))
  | ((with_reducible refine' ev_nameF_arg ?k0 ?_); (case k0 => rfl))
  | ((with_reducible refine' ev_nameF_lst ?k0 ?_); (case k0 => rfl))
  | ((with_reducible refine' ev_kSet_dat ?k0 ?_); (case k0 => rfl))
  | ((with_reducible refine' ev_kSet_lst ?k0 ?_); (case k0 => rfl))
  | ((with_reducible refine' ev_kSet_fn ?k0 ?_); (case k0 => rfl))
  | ((with_reducible refine' ev_kPar ?k0 ?k1 ?k2 ?k3 ?_); (case k0 => rfl); (case k1 => rfl); (case k2 => rfl); (case k3 => rfl))
  | ((with_reducible refine' ev_kAsg ?k0 ?_); (case k0 => rfl))
  | ((with_reducible refine' ev_aug ?k0 ?_); (case k0 => rfl))
  | ((with_reducible refine' ev_kAug ?k0 ?_); (case k0 => rfl))
  | ((with_reducible refine' ev_kPut3 ?k0 ?k1 ?_); (case k0 => rfl); (case k1 => rfl))
  | ((with_reducible refine' ev_ix ?k0 ?k1 ?_); (case k0 => rfl); (case k1 => rfl))
  | ((with_reducible refine' ev_kTru ?k0 ?_); (case k0 => rfl))
  | ((with_reducible refine' ev_kIsi ?k0 ?k1 ?_); (case k0 => rfl); (case k1 => rfl))
  | ((with_reducible refine' ev_kStar1 ?k0 ?_); (case k0 => rfl))
  | ((with_reducible refine' ev_kSl3_t ?k0 ?_); (case k0 => rfl))
  | ((with_reducible refine' ev_kSl3_l ?k0 ?_); (case k0 => rfl))
  | ((with_reducible refine' ev_kRev_t ?k0 ?_); (case k0 => rfl))
  | ((with_reducible refine' ev_kRev_l ?k0 ?_); (case k0 => rfl))
  | ((with_reducible refine' ev_len ?k0 ?_); (case k0 => rfl))
  | ((with_reducible refine' ev_tuple ?k0 ?_); (case k0 => rfl))
  | ((with_reducible refine' ev_list ?k0 ?_); (case k0 => rfl))
  | ((with_reducible refine' ev_kApp1 ?k0 ?_); (case k0 => rfl))
  | ((with_reducible refine' ev_kExt1 ?k0 ?_); (case k0 => rfl))
  | ((with_reducible refine' ev_kRet_own ?k0 ?_); (case k0 => rfl))
  | ((with_reducible refine' ev_kTup ?k0 ?k1 ?_); (case k0 => rfl); (case k1 => simp [sizeLine]))
  | ((with_reducible refine' ev_kLst ?k0 ?k1 ?_); (case k0 => rfl); (case k1 => simp [sizeLine]))
  | (with_reducible refine ev_nx ?_)
  | (with_reducible refine ev_rt ?_)
  | (with_reducible refine ev_bk ?_)
  | (with_reducible refine ev_ct ?_)
)
local macro_rules | `(tactic| walk_at "evs") => `(tactic| repeat (walk_at "ev"))
def lastOf {β : Type} (enc : β → PyData) (R : List (Slab β)) : PyData := match R.getLast? with
  | none => .none
  | some l => eS enc l
theorem wImp {a b : WS} {D : DE} {ρ : Den} (h : a = b) (w : a D ρ) : b D ρ := h ▸ w
def sp_are_slabs (S : Addr → Option DSpec) : DSpec := fun ds K' => ∃ (β : Type) (enc : β → PyData) (G : β → Prop) (d : PyData) (f : Addr) (sp : DSpec), ds = [.dat d, .fn (.ref f)] ∧ S f = some sp ∧ Nd d ∧ Says enc G sp ∧ (∀ x y, enc x = enc y → x = y) ∧ (∀ x y, (enc x).eqv (enc y) = true ↔ x = y) ∧ (∀ x, SeqAt.shaped (enc x) = true) ∧
  ∀ b, (b = true ↔ ∃ L, Form Tr G L ∧ d = eSl enc L) → ∀ outs, K' (.dat (.bool b)) outs
theorem wp_are_slabs (S : Addr → Option DSpec) : ∀ ds K', sp_are_slabs S ds K' → W_are_slabs sp_is_stretch S { nx := fun ρ => K' (.dat .none) (outsOf ds ρ), rt := fun r ρ => K' r (outsOf ds ρ) } (startD N_are_slabs ds) := by
  rintro ds K' ⟨β, enc, G, d, f, sp, rfl, hS, nd, hsp, hi, he, hsh, q⟩
  unfold W_are_slabs
  have no : (¬ ∃ L, Form Tr G L ∧ d = eSl enc L) → ∀ outs, K' (.dat (.bool false)) outs := fun h => q false ⟨(fun z => nomatch z), fun z => absurd z h⟩
  walk_at "evs"
  refine ev_isiTup nd ?_
  walk_at "evs"
  refine ev_kIfS (fun h => ?_) (fun h => ?_)
  · have h : isTup d = false := by simpa using h
    walk_at "evs"
    exact no (by rintro ⟨r, _, rfl⟩; cases h) _
  have h : isTup d = true := by simpa using h
  obtain ⟨xs, rfl⟩ := isTup_of h
  walk_at "evs"
  refine forGo_ind (I := fun left ρ => ∃ (R : List (Slab β)) (y : Option DV), ρ = [some (.dat (.tuple xs)), some (.fn (.ref f)), some (.dat (lastOf enc R)), y] ∧ xs = R.map (eS enc) ++ left ∧ Form Tr G R ∧ notArgB (some y) = true) ?_ ?_ _ _ ⟨[], _, rfl, rfl, trivial, rfl⟩
  · rintro ρ ⟨R, y, rfl, e, hf, hy⟩
    walk_at "evs"
    rw [List.append_nil] at e
    exact q true ⟨fun _ => ⟨R, hf, by rw [e]; rfl⟩, fun _ => rfl⟩ _
  · rintro x rest ρ ⟨R, y, rfl, e, hf, hy⟩
    have nx : Nd x := nd.mem x (by rw [e]; simp)
    refine ⟨_, by simp [fName, hy]; rfl, fun N hN => ?_⟩
    have bad : (∀ s, x = eS enc s → Ok Tr G s → (∀ l, R.getLast? = some l → Lk l s) → False) → ∀ outs, K' (.dat (.bool false)) outs := fun hb => no (by
      rintro ⟨r, h1, e2⟩
      have e2 : r.map (eS enc) = R.map (eS enc) ++ x :: rest := by
        have : xs = r.map (eS enc) := by simpa [eSl] using e2
        rw [← this, e]
      obtain ⟨s, g1, g2, g3⟩ := form_begins (fun _ _ => eS_inj hi) h1 e2
      exact hb s g1 g2 g3)
    walk_at "evs"
    refine ev_kUser0 rfl rfl ⟨x, 3, rfl, nx, by omega, fun outs => ?_⟩
    walk_at "evs"
    refine ev_kOr (fun h1 => ?_) (fun h1 => ?_)
    · have h1 : isSt 3 x = false := by simpa using h1
      walk_at "evs"
      refine bad (fun s e1 o _ => ?_) _
      subst e1
      have : isSt 3 (eS enc s) = true := by
        show (decide (1 + 2 = 3) && decide (s.1 < s.2.1)) = true
        rw [decide_eq_true o.lt]; rfl
      rw [this] at h1; cases h1
    · have h1 : isSt 3 x = true := by simpa using h1
      obtain ⟨a, b, r, rfl, hr, hab⟩ := isSt_of h1
      obtain ⟨c, rfl⟩ : ∃ c, r = [c] := by
        match r, hr with
        | [c], _ => exact ⟨c, rfl⟩
        | [], hr => simp at hr
        | _ :: _ :: _, hr => simp at hr
      have nc : Nd c := nx.mem c (by simp)
      walk_at "evs"
      refine ev_loc rfl hS ?_
      walk_at "evs"
      refine ev_kUser0 rfl rfl (hsp c _ nc fun k hk outs => ?_)
      walk_at "evs"
      refine ev_kIfS (fun h2 => ?_) (fun h2 => ?_)
      · have h2 : k = false := by simpa using h2
        walk_at "evs"
        refine bad (fun s e1 o _ => ?_) _
        have e2 : c = enc s.2.2 := by
          simp [eS] at e1
          exact e1.2.2
        have := hk.mpr ⟨_, o.g, e2⟩
        rw [h2] at this; cases this
      · have h2 : k = true := by simpa using h2
        obtain ⟨u, gu, rfl⟩ := hk.mp h2
        have ok : Ok Tr G (a, b, u) := ⟨hab, trivial, trivial, gu⟩
        have stay : (∀ l, R.getLast? = some l → Lk l (a, b, u)) → N [some (.dat (.tuple xs)), some (.fn (.ref f)), some (.dat (.tuple [.int a, .int b, enc u])), some (.dat (.tuple [.int a, .int b, enc u]))] := fun hl => by
          refine hN _ ⟨R ++ [(a, b, u)], some (.dat (.tuple [.int a, .int b, enc u])), ?_, ?_, form_snoc hf ok hl, rfl⟩
          · simp [lastOf, eS]
          · rw [e]; simp [eS]
        walk_at "evs"
        cases hR : R.getLast? with
        | none =>
          have e1 : lastOf enc R = .none := by unfold lastOf; rw [hR]
          rw [e1]
          walk_at "evs"
          refine ev_kIfS_f ?_
          walk_at "evs"
          exact stay fun l z => by rw [hR] at z; cases z
        | some l =>
          have e1 : lastOf enc R = .tuple [.int l.1, .int l.2.1, enc l.2.2] := by unfold lastOf; rw [hR]; rfl
          rw [e1]
          have bad2 : ¬ Lk l (a, b, u) → ∀ outs, K' (.dat (.bool false)) outs := fun hl => bad fun s e2 o hl2 => by
            have e3 : s = (a, b, u) := eS_inj hi (e2.symm)
            subst e3
            exact hl (hl2 l hR)
          walk_at "evs"
          refine ev_kIfS (fun h3 => ?_) (fun h3 => ?_)
          · clear h3
            walk_at "evs"
            refine ev_kOr (fun h4 => ?_) (fun h4 => ?_)
            · have h4 := of_decide_eq_true h4
              walk_at "evs"
              refine bad2 (fun z => ?_) _
              have z1 : l.2.1 ≤ a := z.1
              omega
            · have h4 := of_decide_eq_false h4
              walk_at "evs"
              refine ev_kAnd (fun h5 => ?_) (fun h5 => ?_)
              · have h5 := of_decide_eq_true h5
                walk_at "evs"
                refine ev_eq rfl rfl (hsh _) (hsh _) ?_
                walk_at "evs"
                refine ev_kIfS (fun h6 => ?_) (fun h6 => ?_)
                · walk_at "evs"
                  refine bad2 (fun z => ?_) _
                  exact z.2 h5.symm ((he _ _).mp h6).symm
                · walk_at "evs"
                  refine stay fun l' z => ?_
                  rw [hR] at z; cases z
                  refine ⟨by show l.2.1 ≤ a; omega, fun _ z => ?_⟩
                  have := (he u l.2.2).mpr z.symm
                  have h6 : (enc u).eqv (enc l.2.2) = false := h6
                  rw [this] at h6; cases h6
              · have h5 := of_decide_eq_false h5
                walk_at "evs"
                refine stay fun l' z => ?_
                rw [hR] at z; cases z
                exact ⟨by show l.2.1 ≤ a; omega, fun z => absurd z.symm h5⟩
          · exact absurd (show true = false from h3) (by decide)
theorem nd_eU (s : Slab Unit) : Nd (eU s) := .tup _ (by intro x m; simp at m; rcases m with rfl | rfl <;> exact .int _)
theorem nd_eRow (r : Row) : Nd (eRow r) := .tup _ (by intro x m; obtain ⟨s, _, rfl⟩ := List.mem_map.mp m; exact nd_eU s)
theorem nd_eSl {β : Type} {enc : β → PyData} (L : List (Slab β)) (h : ∀ s ∈ L, Nd (enc s.2.2)) : Nd (eSl enc L) := .tup _ (by
  intro x m
  obtain ⟨s, ms, rfl⟩ := List.mem_map.mp m
  refine .tup _ (fun y my => ?_)
  simp at my
  rcases my with rfl | rfl | rfl
  · exact .int _
  · exact .int _
  · exact h s ms)
theorem nd_eSol (s : Sol) : Nd (eSol s) := nd_eSl s fun z _ => nd_eSl z.2.2 fun y _ => nd_eRow _
theorem says_row : Says eRow (FRow Tr) sp_is_row := fun x K1 nx h => ⟨x, rfl, nx, h⟩
def sp_is_layer : DSpec := fun ds K' => ∃ d, ds = [.dat d] ∧ Nd d ∧ ∀ b, (b = true ↔ ∃ L, FLay Tr L ∧ d = eLay L) → ∀ outs, K' (.dat (.bool b)) outs
theorem wp_is_layer (aR : Addr) : ∀ ds K', sp_is_layer ds K' → W_is_layer (sp_are_slabs (only aR sp_is_row)) aR { nx := fun ρ => K' (.dat .none) (outsOf ds ρ), rt := fun r ρ => K' r (outsOf ds ρ) } (startD N_is_layer ds) := by
  rintro ds K' ⟨d, rfl, nd, q⟩
  unfold W_is_layer
  walk_at "evs"
  refine ev_kUser0 rfl rfl ⟨Row, eRow, FRow Tr, d, aR, sp_is_row, rfl, only_self, nd, says_row, fun _ _ => eRow_inj, encOk_row.eqv, encOk_row.sh, fun b hb outs => ?_⟩
  refine ev_kAndV (fun h => ?_) (fun h => ?_)
  · obtain ⟨L, hf, rfl⟩ := hb.mp h
    walk_at "evs"
    refine ev_eq rfl rfl (encOk_lay.sh L) (Pd.shaped (n := 4) (pd_eLay 0 [])) ?_
    walk_at "evs"
    refine q _ ⟨fun z => ⟨L, ⟨hf, fun z2 => ?_⟩, rfl⟩, fun ⟨L', h1, h2⟩ => ?_⟩ _
    · subst z2
      have : (eLay []).eqv (.tuple []) = true := (encOk_lay.eqv [] []).mpr rfl
      have z : (!(eLay []).eqv (.tuple [])) = true := z
      rw [this] at z; cases z
    · have e : L = L' := eLay_inj _ _ h2
      subst e
      show (!(eLay L).eqv (.tuple [])) = true
      cases z : (eLay L).eqv (.tuple []) with
      | false => rfl
      | true => exact absurd ((encOk_lay.eqv L []).mp z) h1.2
  · walk_at "evs"
    refine q false ⟨(fun z => nomatch z), fun ⟨L, h1, h2⟩ => ?_⟩ _
    rw [← h]
    exact hb.mpr ⟨L, h1.1, h2⟩
theorem says_lay : Says eLay (FLay Tr) sp_is_layer := fun x K1 nx h => ⟨x, rfl, nx, h⟩
def sp_is_solid : DSpec := fun ds K' => ∃ d, ds = [.dat d] ∧ Nd d ∧ ∀ b, (b = true ↔ ∃ S, FSol Tr S ∧ d = eSol S) → ∀ outs, K' (.dat (.bool b)) outs
theorem wp_is_solid (aL : Addr) : ∀ ds K', sp_is_solid ds K' → W_is_solid (sp_are_slabs (only aL sp_is_layer)) aL { nx := fun ρ => K' (.dat .none) (outsOf ds ρ), rt := fun r ρ => K' r (outsOf ds ρ) } (startD N_is_solid ds) := by
  rintro ds K' ⟨d, rfl, nd, q⟩
  unfold W_is_solid
  walk_at "evs"
  refine ev_kUser0 rfl rfl ⟨Lay, eLay, FLay Tr, d, aL, sp_is_layer, rfl, only_self, nd, says_lay, eLay_inj, encOk_lay.eqv, encOk_lay.sh, fun b hb outs => ?_⟩
  walk_at "evs"
  exact q b hb _

end K5
end
section
set_option Elab.async false
set_option linter.all false
set_option maxRecDepth 100000
set_option maxHeartbeats 1000000
namespace K5
open PySem L2 DL SM
local macro_rules | `(tactic| walk_at "ev") => `(tactic| first
  | (with_reducible refine ev_seq ?_)
  | (with_reducible refine ev_next ?_)
  | (with_reducible refine ev_break ?_)
  | (with_reducible refine ev_cont ?_)
  | (with_reducible refine ev_expr ?_)
  | (with_reducible refine ev_kExpr ?_)
  | (with_reducible refine ev_ret ?_)
  | (with_reducible refine ev_retN ?_)
  | (with_reducible refine ev_kRet_dat ?_)
  | (with_reducible refine ev_kRet_lst ?_)
  | (with_reducible refine ev_ifS ?_)
  | (with_reducible refine ev_kIfS_t ?_)
  | (with_reducible refine ev_kIfS_f ?_)
  | (with_reducible refine ev_set ?_)
  | (with_reducible refine ev_par ?_)
  | (with_reducible refine ev_asg ?_)
  | (with_reducible refine ev_put ?_)
  | (with_reducible refine ev_kPut1 ?_)
  | (with_reducible refine ev_kPut2 ?_)
  | (with_reducible refine ev_for ?_)
  | (with_reducible refine ev_kFor ?_)
  | (with_reducible refine ev_seqI ?_)
  | (with_reducible refine ev_kSeqI_l ?_)
  | (with_reducible refine ev_kSeqI_t ?_)
  | (with_reducible refine ev_kSeqI_n ?_)
  | (with_reducible refine ev_rng1 ?_)
  | (with_reducible refine ev_rng2 ?_)
  | (with_reducible refine ev_rng3 ?_)
  | (with_reducible refine ev_c ?_)
  | (with_reducible refine ev_fn ?_)
  | (with_reducible refine ev_bin ?_)
  | (with_reducible refine ev_kBin1 ?_)
  | (with_reducible refine ev_intT ?_)
  | (with_reducible refine ev_eqI ?_)
  | (with_reducible refine ev_neI ?_)
  | (with_reducible refine ev_isN ?_)
  | (with_reducible refine ev_neg ?_)
  | (with_reducible refine ev_kNeg ?_)
  | (with_reducible refine ev_not ?_)
  | (with_reducible refine ev_kNot ?_)
  | (with_reducible refine ev_test ?_)
  | (with_reducible refine ev_kTest ?_)
  | (with_reducible refine ev_tru ?_)
  | (with_reducible refine ev_and ?_)
  | (with_reducible refine ev_or ?_)
  | (with_reducible refine ev_kAnd_t ?_)
  | (with_reducible refine ev_kAnd_f ?_)
  | (with_reducible refine ev_kOr_t ?_)
  | (with_reducible refine ev_kOr_f ?_)
  | (with_reducible refine ev_if ?_)
  | (with_reducible refine ev_kIf_t ?_)
  | (with_reducible refine ev_kIf_f ?_)
  | (with_reducible refine ev_andV ?_)
  | (with_reducible refine ev_orV ?_)
  | (with_reducible refine ev_kAndV_t ?_)
  | (with_reducible refine ev_kAndV_f ?_)
  | (with_reducible refine ev_kOrV_t ?_)
  | (with_reducible refine ev_kOrV_f ?_)
  | (with_reducible refine ev_notV ?_)
  | (with_reducible refine ev_kNotV ?_)
  | (with_reducible refine ev_isi ?_)
  | (with_reducible refine ev_nil ?_)
  | (with_reducible refine ev_kCons2 ?_)
  | (with_reducible refine ev_cons ?_)
  | (with_reducible refine ev_kCons1_dat ?_)
  | (with_reducible refine ev_kCons1_fn ?_)
  | (with_reducible refine ev_kCons1_own ?_)
  | (with_reducible refine ev_kCons1_lst ?_)
  | (with_reducible refine ev_star ?_)
  | (with_reducible refine ev_kStar2 ?_)
  | (with_reducible refine ev_tup ?_)
  | (with_reducible refine ev_lst ?_)
  | (with_reducible refine ev_noPart ?_)
  | (with_reducible refine ev_part ?_)
  | (with_reducible refine ev_kPart ?_)
  | (with_reducible refine ev_sl ?_)
  | (with_reducible refine ev_kSl1 ?_)
  | (with_reducible refine ev_kSl2 ?_)
  | (with_reducible refine ev_rev ?_)
  | (with_reducible refine ev_call ?_)
  | (with_reducible refine ev_max2 ?_)
  | (with_reducible refine ev_min2 ?_)
  | (with_reducible refine ev_int1 ?_)
  | (with_reducible refine ev_user ?_)
  | (with_reducible refine ev_app ?_)
  | (with_reducible refine ev_ext ?_)
  | (with_reducible refine ev_lc ?_)
  | ((with_reducible refine' ev_name ?k0 ?k1 ?_); (case k0 => rfl); (case k1 => rfl))
  | ((with_reducible refine' ev_nameO ?k0 ?k1 ?_); (case k0 => rfl); (case k1 => rfl))
  | ((with_reducible refine' ev_nameF_dat ?k0 ?_); (case k0 => rfl))
  | ((with_reducible refine' ev_nameF_fn ?k0 ?_); (case k0 => rfl))
  | ((with_reducible refine' ev_nameF_arg ?k0 ?_); (case k0 => rfl))
  | ((with_reducible refine' ev_nameF_lst ?k0 ?_); (case k0 => rfl))
  | ((with_reducible refine' ev_kSet_dat ?k0 ?_); (case k0 => rfl))
  | ((with_reducible refine' ev_kSet_lst ?k0 ?_); (case k0 => rfl))
  | ((with_reducible refine' ev_kSet_fn ?k0 ?_); (case k0 => rfl))
  | ((with_reducible refine' ev_kPar ?k0 ?k1 ?k2 ?k3 ?_); (case k0 => rfl); (case k1 => rfl); (case k2 => rfl); (case k3 => rfl))
  | ((with_reducible refine' ev_kAsg ?k0 ?_); (case k0 => rfl))
  | ((with_reducible refine' ev_aug ?k0 ?_); (case k0 => rfl))
  | ((with_reducible refine' ev_kAug ?k0 ?_); (case k0 => rfl))
  | ((with_reducible refine' ev_kPut3 ?k0 ?k1 ?_); (case k0 => rfl); (case k1 => rfl))
  | ((with_reducible refine' ev_ix ?k0 ?k1 ?_); (case k0 => rfl); (case k1 => rfl))
  | ((with_reducible refine' ev_kTru ?k0 ?_); (case k0 => rfl))
  | ((with_reducible refine' ev_kIsi ?k0 ?k1 ?_); (case k0 => rfl); (case k1 => rfl))
  | ((with_reducible refine' ev_kStar1 ?k0 ?_); (case k0 => rfl))
  | ((with_reducible refine' ev_kSl3_t ?k0 ?_); (case k0 => rfl))
  | ((with_reducible refine' ev_kSl3_l ?k0 ?_); (case k0 => rfl))
  | ((with_reducible refine' ev_kRev_t ?k0 ?_); (case k0 => rfl))
  | ((with_reducible refine' ev_kRev_l ?k0 ?_); (case k0 => rfl))
  | ((with_reducible refine' ev_len ?k0 ?_); (case k0 => rfl))
  | ((with_reducible refine' ev_tuple ?k0 ?_); (case k0 => rfl))
  | ((with_reducible refine' ev_list ?k0 ?_); (case k0 => rfl))
  | ((with_reducible refine' ev_kApp1 ?k0 ?_); (case k0 => rfl))
  | ((with_reducible refine' ev_kExt1 ?k0 ?_); (case k0 => rfl))
  | ((with_reducible refine' ev_kRet_own ?k0 ?_); (case k0 => rfl))
  | ((with_reducible refine' ev_kTup ?k0 ?k1 ?_); (case k0 => rfl); (case k1 => simp [sizeLine]))
  | ((with_reducible refine' ev_kLst ?k0 ?k1 ?_); (case k0 => rfl); (case k1 => simp [sizeLine]))
  | (with_reducible refine ev_nx ?_)
  | (with_reducible refine ev_rt ?_)
  | (with_reducible refine ev_bk ?_)
  | (with_reducible refine ev_ct ?_)
)
local macro_rules | `(tactic| walk_at "evs") => `(tactic| repeat (walk_at "ev"))
def eDr (ns : List Int) (k : Int) : List PyData := [.list (ns.map .int), .int 0, .int k]
def sp__law_cell_at : DSpec := fun ds K' => ∃ (ns : List Int) (k : Int), ds = [.dat (.list (ns.map .int)), .dat (.int k)] ∧ 0 ≤ k ∧ ∀ c outs, K' (.dat (.int c)) outs
theorem wp__law_cell_at : ∀ ds K', sp__law_cell_at ds K' → W__law_cell_at { nx := fun ρ => K' (.dat .none) (outsOf ds ρ), rt := fun r ρ => K' r (outsOf ds ρ) } (startD N__law_cell_at ds) := by
  rintro ds K' ⟨ns, k, rfl, hk, q⟩
  unfold W__law_cell_at
  walk_at "evs"
  refine ev_kIfS (fun h => ?_) (fun h => ?_)
  · have h : k < (ns.length : Int) := by have := of_decide_eq_true h; rw [List.length_map] at this; exact this
    obtain ⟨j, rfl⟩ := Int.eq_ofNat_of_zero_le hk
    obtain ⟨n, hn⟩ : ∃ n, ns[j]? = some n := ⟨_, List.getElem?_eq_getElem (by omega)⟩
    walk_at "evs"
    refine ev_ix (b := false) rfl (atI_map hn) ?_
    walk_at "evs"
    exact q _ _
  · walk_at "evs"
    exact q _ _
def sp__law_draw : DSpec := fun ds K' => ∃ c k b : Int, ds = [.dat (.int c), .dat (.int k), .dat (.int b)] ∧ 0 < b ∧ ∀ r outs, 0 ≤ r → r < b → K' (.dat (.int r)) outs
def primesL : List Int := [1000003, 1000033, 1000037, 1000039, 1000081, 1000099, 1000117, 1000121, 1000133, 1000151, 1000159, 1000171, 1000183, 1000187, 1000193, 1000199]
theorem primes_at {i : Int} (h0 : 0 ≤ i) (h1 : i < 16) : ∃ p : Int, atI (primesL.map PyData.int) i = some (.int p) ∧ 0 < p := by
  obtain ⟨j, rfl⟩ := Int.eq_ofNat_of_zero_le h0
  have hj : j < 16 := by omega
  have key : ∀ j : Nat, j < 16 → ∃ p : Int, primesL[j]? = some p ∧ 0 < p := by
    intro j hj
    have : ∀ j : Fin 16, ∃ p : Int, primesL[j.1]? = some p ∧ 0 < p := by
      intro j
      have hl : j.1 < primesL.length := j.2
      refine ⟨primesL[j.1], List.getElem?_eq_getElem hl, ?_⟩
      have all : ∀ x ∈ primesL, 0 < x := by decide
      exact all _ (List.getElem_mem hl)
    exact this ⟨j, hj⟩
  obtain ⟨p, h1, h2⟩ := key j hj
  exact ⟨p, atI_map h1, h2⟩
theorem wp__law_draw : ∀ ds K', sp__law_draw ds K' → W__law_draw { nx := fun ρ => K' (.dat .none) (outsOf ds ρ), rt := fun r ρ => K' r (outsOf ds ρ) } (startD N__law_draw ds) := by
  rintro ds K' ⟨c, k, b, rfl, hb, q⟩
  unfold W__law_draw
  walk_at "evs"
  refine ev_int (.inr ⟨by decide, by decide⟩) ?_
  walk_at "evs"
  refine ev_int (.inr ⟨by decide, by decide⟩) ?_
  walk_at "evs"
  refine ev_int (show (0 : Int) < 16 by decide) ?_
  obtain ⟨p, hp, h0⟩ := primes_at (i := k % 16) (by omega) (by omega)
  refine ev_ix (b := true) rfl (show atI (primesL.map PyData.int) (k % 16) = some (.int p) from hp) ?_
  refine ev_int h0 ?_
  walk_at "evs"
  refine ev_int hb ?_
  walk_at "evs"
  exact q _ _ (Int.emod_nonneg _ (by omega)) (Int.emod_lt_of_pos _ hb)
def sp__law_number : DSpec := fun ds K' => ∃ c k b : Int, ds = [.dat (.int c), .dat (.int k), .dat (.int b)] ∧ 0 < b ∧ 0 ≤ k ∧ k ≤ 100 ∧ ∀ r outs, 0 ≤ r → r < b → K' (.dat (.int r)) outs
theorem pow_bound (i : Nat) (h : i ≤ 24) : ((1009 : Int) ^ i).natAbs < 2 ^ 250 := by
  have : (1009 : Nat) ^ i ≤ 1009 ^ 24 := Nat.pow_le_pow_right (by decide) h
  have e : ((1009 : Int) ^ i).natAbs = 1009 ^ i := by rw [Int.natAbs_pow]; rfl
  rw [e]
  have : (1009 : Nat) ^ 24 < 2 ^ 250 := by decide
  omega
theorem wp__law_number : ∀ ds K', sp__law_number ds K' → W__law_number sp__law_draw { nx := fun ρ => K' (.dat .none) (outsOf ds ρ), rt := fun r ρ => K' r (outsOf ds ρ) } (startD N__law_number ds) := by
  rintro ds K' ⟨c, k, b, rfl, hb, hk, hk2, q⟩
  unfold W__law_number
  walk_at "evs"
  refine ev_int (show (0 : Int) < 24 by decide) ?_
  walk_at "evs"
  refine ev_kRng1 (by omega) (by omega) ?_
  walk_at "evs"
  refine forGo_ind (I := fun left ρ => ∃ (t : Nat) (y : Option DV), ρ = [some (.dat (.int c)), some (.dat (.int k)), some (.dat (.int b)), some (.dat (.int (1009 ^ t))), y, none, none] ∧ t ≤ (k % 24).toNat ∧ left = (rangeD 0 (k % 24).toNat).drop t ∧ notArgB (some y) = true) ?_ ?_ _ _ ⟨0, _, rfl, by omega, rfl, rfl⟩
  · rintro ρ ⟨t, y, rfl, ht, _, hy⟩
    have ht : t ≤ 24 := by omega
    have hp : (0 : Int) < 1009 ^ t := Int.pow_pos (by decide)
    walk_at "evs"
    refine ev_int ⟨by decide, by decide, by decide⟩ ?_
    walk_at "evs"
    refine ev_int (wide_div hp (pow_bound t ht) (by decide) (by decide)) ?_
    walk_at "evs"
    refine ev_kIfS (fun h => ?_) (fun h => ?_)
    · walk_at "evs"
      refine ev_int (show (0 : Int) < 1009 by decide) ?_
      walk_at "evs"
      refine ev_int hb ?_
      walk_at "evs"
      exact q _ _ (Int.emod_nonneg _ (by omega)) (Int.emod_lt_of_pos _ hb)
    · walk_at "evs"
      refine ev_int (show (0 : Int) < 1000003 by decide) ?_
      walk_at "evs"
      refine ev_int (.inl ⟨by decide, by decide⟩) ?_
      walk_at "evs"
      refine ev_int (.inl ⟨by decide, by decide⟩) ?_
      walk_at "evs"
      refine ev_int (.inl ⟨by omega, by omega⟩) ?_
      walk_at "evs"
      refine ev_int (show (0 : Int) < 9 by decide) ?_
      walk_at "evs"
      refine ev_kUser0 rfl rfl ⟨_, _, _, rfl, by decide, fun r outs h0 h1 => ?_⟩
      walk_at "evs"
      refine ev_int hb ?_
      walk_at "evs"
      exact q _ _ (Int.emod_nonneg _ (by omega)) (Int.emod_lt_of_pos _ hb)
  · rintro x xs ρ ⟨t, y, rfl, ht, hle, hy⟩
    have hx : (rangeD 0 (k % 24).toNat)[t]? = some x := by rw [← List.head?_drop, ← hle]; rfl
    obtain ⟨hlt, rfl⟩ := rangeD_get hx
    have hxs : xs = (rangeD 0 (k % 24).toNat).drop (t + 1) := by rw [← List.tail_drop, ← hle]; rfl
    refine ⟨_, by simp [fName, hy]; rfl, fun N hN => ?_⟩
    walk_at "evs"
    refine ev_int (.inr ⟨by decide, by decide⟩) ?_
    walk_at "evs"
    exact hN _ ⟨t + 1, some (.dat (.int t)), by rw [Int.pow_succ]; rfl, by omega, hxs, rfl⟩
def sp__law_next : DSpec := fun ds K' => ∃ (ns : List Int) (k b : Int), ds = [.arg (eDr ns k), .dat (.int b)] ∧ 0 ≤ k ∧ k ≤ 1000000 ∧ 0 < b ∧ ∀ r, 0 ≤ r → r < b → K' (.dat (.int r)) [.arg (eDr ns (k + 1)), .dat (.int b)]
theorem wp__law_next : ∀ ds K', sp__law_next ds K' → W__law_next sp__law_cell_at sp__law_number { nx := fun ρ => K' (.dat .none) (outsOf ds ρ), rt := fun r ρ => K' r (outsOf ds ρ) } (startD N__law_next ds) := by
  rintro ds K' ⟨ns, k, b, rfl, hk, hk2, hb, q⟩
  unfold W__law_next
  walk_at "evs"
  refine ev_int ⟨by decide, by decide⟩ ?_
  walk_at "evs"
  refine ev_kUser0 rfl rfl ⟨ns, 0 + (k + 1) / 12, rfl, by omega, fun c outs => ?_⟩
  walk_at "evs"
  refine ev_int (.inl ⟨by decide, by decide⟩) ?_
  walk_at "evs"
  refine ev_int (show (0 : Int) < 12 by decide) ?_
  walk_at "evs"
  refine ev_kUser0 rfl rfl ⟨_, _, b, rfl, hb, by omega, by omega, fun r outs h0 h1 => ?_⟩
  walk_at "evs"
  exact q r h0 h1

end K5
end
section
set_option Elab.async false
set_option linter.all false
set_option maxRecDepth 100000
set_option maxHeartbeats 1000000
namespace K5
open PySem L2 DL SM
local macro_rules | `(tactic| walk_at "ev") => `(tactic| first
  | (with_reducible refine ev_seq ?_)
  | (with_reducible refine ev_next ?_)
  | (with_reducible refine ev_break ?_)
  | (with_reducible refine ev_cont ?_)
  | (with_reducible refine ev_expr ?_)
  | (with_reducible refine ev_kExpr ?_)
  | (with_reducible refine ev_ret ?_)
  | (with_reducible refine ev_retN ?_)
  | (with_reducible refine ev_kRet_dat ?_)
  | (with_reducible refine ev_kRet_lst ?_)
  | (with_reducible refine ev_ifS ?_)
  | (with_reducible refine ev_kIfS_t ?_)
  | (with_reducible refine ev_kIfS_f ?_)
  | (with_reducible refine ev_set ?_)
  | (with_reducible refine ev_par ?_)
  | (with_reducible refine ev_asg ?_)
  | (with_reducible refine ev_put ?_)
  | (with_reducible refine ev_kPut1 ?_)
  | (with_reducible refine ev_kPut2 ?_)
  | (with_reducible refine ev_for ?_)
  | (with_reducible refine ev_kFor ?_)
  | (with_reducible refine ev_seqI ?_)
  | (with_reducible refine ev_kSeqI_l ?_)
  | (with_reducible refine ev_kSeqI_t ?_)
  | (with_reducible refine ev_kSeqI_n ?_)
  | (with_reducible refine ev_rng1 ?_)
  | (with_reducible refine ev_rng2 ?_)
  | (with_reducible refine ev_rng3 ?_)
  | (with_reducible refine ev_c ?_)
  | (with_reducible refine ev_fn ?_)
  | (with_reducible refine ev_bin ?_)
  | (with_reducible refine ev_kBin1 ?_)
  | (with_reducible refine ev_intT ?_)
  | (with_reducible refine ev_eqI ?_)
  | (with_reducible refine ev_neI ?_)
  | (with_reducible refine ev_isN ?_)
  | (with_reducible refine ev_neg ?_)
  | (with_reducible refine ev_kNeg ?_)
  | (with_reducible refine ev_not ?_)
  | (with_reducible refine ev_kNot ?_)
  | (with_reducible refine ev_test ?_)
  | (with_reducible refine ev_kTest ?_)
  | (with_reducible refine ev_tru ?_)
  | (with_reducible refine ev_and ?_)
  | (with_reducible refine ev_or ?_)
  | (with_reducible refine ev_kAnd_t ?_)
  | (with_reducible refine ev_kAnd_f ?_)
  | (with_reducible refine ev_kOr_t ?_)
  | (with_reducible refine ev_kOr_f ?_)
  | (with_reducible refine ev_if ?_)
  | (with_reducible refine ev_kIf_t ?_)
  | (with_reducible refine ev_kIf_f ?_)
  | (with_reducible refine ev_andV ?_)
  | (with_reducible refine ev_orV ?_)
  | (with_reducible refine ev_kAndV_t ?_)
  | (with_reducible refine ev_kAndV_f ?_)
  | (with_reducible refine ev_kOrV_t ?_)
  | (with_reducible refine ev_kOrV_f ?_)
  | (with_reducible refine ev_notV ?_)
  | (with_reducible refine ev_kNotV ?_)
  | (with_reducible refine ev_isi ?_)
  | (with_reducible refine ev_nil ?_)
  | (with_reducible refine ev_kCons2 ?_)
  | (with_reducible refine ev_cons ?_)
  | (with_reducible refine ev_kCons1_dat ?_)
  | (with_reducible refine ev_kCons1_fn ?_)
  | (with_reducible refine ev_kCons1_own ?_)
  | (with_reducible refine ev_kCons1_lst ?_)
  | (with_reducible refine ev_star ?_)
  | (with_reducible refine ev_kStar2 ?_)
  | (with_reducible refine ev_tup ?_)
  | (with_reducible refine ev_lst ?_)
  | (with_reducible refine ev_noPart ?_)
  | (with_reducible refine ev_part ?_)
  | (with_reducible refine ev_kPart ?_)
  | (with_reducible refine ev_sl ?_)
  | (with_reducible refine ev_kSl1 ?_)
  | (with_reducible refine ev_kSl2 ?_)
  | (with_reducible refine ev_rev ?_)
  | (with_reducible refine ev_call ?_)
  | (with_reducible refine ev_max2 ?_)
  | (with_reducible refine ev_min2 ?_)
  | (with_reducible refine ev_int1 ?_)
  | (with_reducible refine ev_user ?_)
  | (with_reducible refine ev_app ?_)
  | (with_reducible refine ev_ext ?_)
  | (with_reducible refine ev_lc ?_)
  | ((with_reducible refine' ev_name ?k0 ?k1 ?_); (case k0 => rfl); (case k1 => rfl))
  | ((with_reducible refine' ev_nameO ?k0 ?k1 ?_); (case k0 => rfl); (case k1 => rfl))
  | ((with_reducible refine' ev_nameF_dat ?k0 ?_); (case k0 => rfl))
  | ((with_reducible refine' ev_nameF_fn ?k0 ?_); (case k0 => rfl))
  | ((with_reducible refine' ev_nameF_arg ?k0 ?_); (case k0 => rfl))
  | ((with_reducible refine' ev_nameF_lst ?k0 ?_); (case k0 => rfl))
  | ((with_reducible refine' ev_kSet_dat ?k0 ?_); (case k0 => rfl))
  | ((with_reducible refine' ev_kSet_lst ?k0 ?_); (case k0 => rfl))
  | ((with_reducible refine' ev_kSet_fn ?k0 ?_); (case k0 => rfl))
  | ((with_reducible refine' ev_kPar ?k0 ?k1 ?k2 ?k3 ?_); (case k0 => rfl); (case k1 => rfl); (case k2 => rfl); (case k3 => rfl))
  | ((with_reducible refine' ev_kAsg ?k0 ?_); (case k0 => rfl))
  | ((with_reducible refine' ev_aug ?k0 ?_); (case k0 => rfl))
  | ((with_reducible refine' ev_kAug ?k0 ?_); (case k0 => rfl))
  | ((with_reducible refine' ev_kPut3 ?k0 ?k1 ?_); (case k0 => rfl); (case k1 => rfl))
  | ((with_reducible refine' ev_ix ?k0 ?k1 ?_); (case k0 => rfl); (case k1 => rfl))
  | ((with_reducible refine' ev_kTru ?k0 ?_); (case k0 => rfl))
  | ((with_reducible refine' ev_kIsi ?k0 ?k1 ?_); (case k0 => rfl); (case k1 => rfl))
  | ((with_reducible refine' ev_kStar1 ?k0 ?_); (case k0 => rfl))
  | ((with_reducible refine' ev_kSl3_t ?k0 ?_); (case k0 => rfl))
  | ((with_reducible refine' ev_kSl3_l ?k0 ?_); (case k0 => rfl))
  | ((with_reducible refine' ev_kRev_t ?k0 ?_); (case k0 => rfl))
  | ((with_reducible refine' ev_kRev_l ?k0 ?_); (case k0 => rfl))
  | ((with_reducible refine' ev_len ?k0 ?_); (case k0 => rfl))
  | ((with_reducible refine' ev_tuple ?k0 ?_); (case k0 => rfl))
  | ((with_reducible refine' ev_list ?k0 ?_); (case k0 => rfl))
  | ((with_reducible refine' ev_kApp1 ?k0 ?_); (case k0 => rfl))
  | ((with_reducible refine' ev_kExt1 ?k0 ?_); (case k0 => rfl))
  | ((with_reducible refine' ev_kRet_own ?k0 ?_); (case k0 => rfl))
  | ((with_reducible refine' ev_kTup ?k0 ?k1 ?_); (case k0 => rfl); (case k1 => simp [sizeLine]))
  | ((with_reducible refine' ev_kLst ?k0 ?k1 ?_); (case k0 => rfl); (case k1 => simp [sizeLine]))
  | (with_reducible refine ev_nx ?_)
  | (with_reducible refine ev_rt ?_)
  | (with_reducible refine ev_bk ?_)
  | (with_reducible refine ev_ct ?_)
)
local macro_rules | `(tactic| walk_at "evs") => `(tactic| repeat (walk_at "ev"))
abbrev Pt := Int × Int × Int
def eP (p : Pt) : PyData := .tuple [.int p.1, .int p.2.1, .int p.2.2]
def eB (b : Pt × Pt) : PyData := .tuple [eP b.1, eP b.2]
def boxS (lo hi : Pt) : Sol := if lo.1 < hi.1 ∧ lo.2.1 < hi.2.1 ∧ lo.2.2 < hi.2.2 then [(lo.2.2, hi.2.2, [(lo.2.1, hi.2.1, [(lo.1, hi.1, ())])])] else []
def inB (b : Pt × Pt) (p : Int × Int × Int) : Bool := decide (b.1.2.2 ≤ p.1 ∧ p.1 < b.2.2.2) && (decide (b.1.2.1 ≤ p.2.1 ∧ p.2.1 < b.2.2.1) && decide (b.1.1 ≤ p.2.2 ∧ p.2.2 < b.2.1))
def ptIn (E : Int → Prop) (p : Pt) : Prop := E p.1 ∧ E p.2.1 ∧ E p.2.2
theorem box_form {E : Int → Prop} {lo hi : Pt} (h1 : ptIn E lo) (h2 : ptIn E hi) : FSol E (boxS lo hi) := by
  unfold boxS
  split
  · rename_i h
    refine form_one ⟨h.2.2, h1.2.2, h2.2.2, form_one ⟨h.2.1, h1.2.1, h2.2.1, form_one ⟨h.1, h1.1, h2.1, trivial⟩, fun z => nomatch z⟩, fun z => nomatch z⟩
  · trivial
theorem lift_one {β γ : Type} {C : β → γ → Bool} {s : Slab β} {z : Int} {p : γ} : lift C (at' [s] z) p = (decide (s.1 ≤ z ∧ z < s.2.1) && C s.2.2 p) := by
  unfold at'
  by_cases h : s.1 ≤ z ∧ z < s.2.1
  · rw [if_pos h, decide_eq_true h]; rfl
  · rw [if_neg h, decide_eq_false h]; rfl
theorem box_cells (b : Pt × Pt) (p : Int × Int × Int) : cS (boxS b.1 b.2) p = inB b p := by
  unfold boxS
  split
  · show lift cL (at' [_] p.1) p.2 = _
    rw [lift_one]
    show (_ && lift cR (at' [_] p.2.1) p.2.2) = _
    rw [lift_one]
    show (_ && (_ && lift cU (at' [_] p.2.2) ())) = _
    rw [lift_one]
    show (_ && (_ && (_ && true))) = _
    rw [Bool.and_true]; rfl
  · rename_i h
    show false = _
    symm
    unfold inB
    simp only [Bool.and_eq_false_iff, decide_eq_false_iff_not]
    omega
def sp_box : DSpec := fun ds K' => ∃ lo hi : Pt, ds = [.dat (eP lo), .dat (eP hi)] ∧ ∀ outs, K' (.dat (eSol (boxS lo hi))) outs
theorem at3_0 {a b c : PyData} : atI [a, b, c] 0 = some a := rfl
theorem at3_1 {a b c : PyData} : atI [a, b, c] 1 = some b := rfl
theorem at3_2 {a b c : PyData} : atI [a, b, c] 2 = some c := rfl
theorem wp_box : ∀ ds K', sp_box ds K' → W_box { nx := fun ρ => K' (.dat .none) (outsOf ds ρ), rt := fun r ρ => K' r (outsOf ds ρ) } (startD N_box ds) := by
  rintro ds K' ⟨⟨x0, y0, z0⟩, ⟨x1, y1, z1⟩, rfl, q⟩
  unfold W_box
  have no : ¬ (x0 < x1 ∧ y0 < y1 ∧ z0 < z1) → ∀ outs, K' (.dat (.tuple [])) outs := fun h outs => by
    have e : boxS (x0, y0, z0) (x1, y1, z1) = [] := if_neg h
    rw [e] at q
    exact q outs
  walk_at "evs"
  refine ev_kOr (fun h => ?_) (fun h1 => ?_)
  · have h : x1 ≤ x0 := of_decide_eq_true h
    walk_at "evs"
    exact no (by omega) _
  have h1 : ¬ x1 ≤ x0 := of_decide_eq_false h1
  walk_at "evs"
  refine ev_kOr (fun h => ?_) (fun h2 => ?_)
  · have h : y1 ≤ y0 := of_decide_eq_true h
    walk_at "evs"
    exact no (by omega) _
  have h2 : ¬ y1 ≤ y0 := of_decide_eq_false h2
  walk_at "evs"
  refine ev_kIfS (fun h => ?_) (fun h3 => ?_)
  · have h : z1 ≤ z0 := of_decide_eq_true h
    walk_at "evs"
    exact no (by omega) _
  have h3 : ¬ z1 ≤ z0 := of_decide_eq_false h3
  walk_at "evs"
  have e : boxS (x0, y0, z0) (x1, y1, z1) = [(z0, z1, [(y0, y1, [(x0, x1, ())])])] := if_pos (by dsimp only; omega)
  rw [e] at q
  exact q _
theorem few_mem : ∀ l m : List Int, m.Nodup → (∀ x ∈ m, x ∈ l) → m.length ≤ l.length
  | [], m, _, h => by
    cases m with
    | nil => exact Nat.le_refl _
    | cons x r => exact absurd (h x List.mem_cons_self) (by simp)
  | a :: l, m, nd, h => by
    have := few_mem l (m.erase a) (nd.erase a) fun x hx => by
      have h2 := (List.Nodup.mem_erase_iff nd).mp hx
      rcases List.mem_cons.mp (h x h2.2) with e | e
      · exact absurd e h2.1
      · exact e
    have h3 := List.length_erase (a := a) (l := m)
    rw [List.length_cons]
    split at h3 <;> omega
theorem few_of (l : List Int) : Few (· ∈ l) l.length := fun m hp hm => few_mem l m (hp.imp fun h => by omega) hm
def ptL (p : Pt) : List Int := [p.1, p.2.1, p.2.2]
def coords (bs : List (Pt × Pt)) : List Int := bs.flatMap fun b => ptL b.1 ++ ptL b.2
theorem coords_len (bs : List (Pt × Pt)) : (coords bs).length = 6 * bs.length := by
  unfold coords
  induction bs with
  | nil => rfl
  | cons b bs ih => rw [List.flatMap_cons, List.length_append, ih, List.length_append]; simp [ptL]; omega
theorem coords_in {bs : List (Pt × Pt)} {b : Pt × Pt} (h : b ∈ bs) : ptIn (· ∈ coords bs) b.1 ∧ ptIn (· ∈ coords bs) b.2 := by
  have g : ∀ x ∈ ptL b.1 ++ ptL b.2, x ∈ coords bs := fun x hx => List.mem_flatMap.mpr ⟨b, h, hx⟩
  exact ⟨⟨g _ (by simp [ptL]), g _ (by simp [ptL]), g _ (by simp [ptL])⟩, ⟨g _ (by simp [ptL]), g _ (by simp [ptL]), g _ (by simp [ptL])⟩⟩
def sp__law_solid : DSpec := fun ds K' => ∃ bs : List (Pt × Pt), ds = [.dat (.list (bs.map eB))] ∧ bs.length ≤ 100000 ∧ ∀ U, FSol (· ∈ coords bs) U → (∀ p, cS U p = bs.any (inB · p)) → ∀ outs, K' (.dat (eSol U)) outs
theorem wp__law_solid : ∀ ds K', sp__law_solid ds K' → W__law_solid sp_box sp_union_of { nx := fun ρ => K' (.dat .none) (outsOf ds ρ), rt := fun r ρ => K' r (outsOf ds ρ) } (startD N__law_solid ds) := by
  rintro ds K' ⟨bs, rfl, hl, q⟩
  have szl : sizeLine = 16777216 := rfl
  unfold W__law_solid
  walk_at "evs"
  refine lcGo_ind (I := fun acc left ρ => ∃ done todo : List (Pt × Pt), bs = done ++ todo ∧ left = todo.map eB ∧ acc = (done.map fun b => boxS b.1 b.2).map eSol ∧ ρ = [some (.dat (.list (bs.map eB))), none, none]) ?_ ?_ _ _ _ ?_
  · rintro acc ρ ⟨done, todo, e, h1, rfl, rfl⟩
    have : todo = [] := by
      cases todo with
      | nil => rfl
      | cons _ _ => cases h1
    subst this
    rw [List.append_nil] at e
    subst e
    walk_at "evs"
    refine ev_kUser0 rfl rfl ⟨(· ∈ coords bs), (coords bs).length, _, rfl, few_of _, by rw [coords_len]; omega, fun s m => ?_, by rw [List.length_map]; omega, fun U h1 h2 outs => ?_⟩
    · obtain ⟨b, hb, rfl⟩ := List.mem_map.mp m
      obtain ⟨g1, g2⟩ := coords_in hb
      exact box_form g1 g2
    · walk_at "evs"
      refine q U h1 (fun p => ?_) _
      rw [h2, List.any_map]
      congr 1
      funext b
      exact box_cells b p
  · rintro acc x xs ρ ⟨done, todo, e, h1, rfl, rfl⟩
    cases todo with
    | nil => cases h1
    | cons b todo =>
    obtain ⟨rfl, rfl⟩ := List.cons.inj h1
    have lg : done.length < 100000 := by
      have := congrArg List.length e
      simp at this
      omega
    refine ⟨rfl, _, rfl, fun Gn hG => ?_⟩
    walk_at "evs"
    refine ev_kUser0 rfl rfl ⟨b.1, b.2, rfl, fun outs => ?_⟩
    refine hG _ _ (by rw [List.length_map, List.length_map]; omega) ⟨done ++ [b], todo, by rw [e]; simp, rfl, by simp, rfl⟩
  · exact ⟨[], bs, rfl, rfl, rfl, rfl⟩

end K5
end
section
set_option Elab.async false
set_option linter.all false
set_option maxRecDepth 100000
set_option maxHeartbeats 1000000
namespace K5
open PySem L2 DL SM
local macro_rules | `(tactic| walk_at "ev") => `(tactic| first
  | (with_reducible refine ev_seq ?_)
  | (with_reducible refine ev_next ?_)
  | (with_reducible refine ev_break ?_)
  | (with_reducible refine ev_cont ?_)
  | (with_reducible refine ev_expr ?_)
  | (with_reducible refine ev_kExpr ?_)
  | (with_reducible refine ev_ret ?_)
  | (with_reducible refine ev_retN ?_)
  | (with_reducible refine ev_kRet_dat ?_)
  | (with_reducible refine ev_kRet_lst ?_)
  | (with_reducible refine ev_ifS ?_)
  | (with_reducible refine ev_kIfS_t ?_)
  | (with_reducible refine ev_kIfS_f ?_)
  | (with_reducible refine ev_set ?_)
  | (with_reducible refine ev_par ?_)
  | (with_reducible refine ev_asg ?_)
  | (with_reducible refine ev_put ?_)
  | (with_reducible refine ev_kPut1 ?_)
  | (with_reducible refine ev_kPut2 ?_)
  | (with_reducible refine ev_for ?_)
  | (with_reducible refine ev_kFor ?_)
  | (with_reducible refine ev_seqI ?_)
  | (with_reducible refine ev_kSeqI_l ?_)
  | (with_reducible refine ev_kSeqI_t ?_)
  | (with_reducible refine ev_kSeqI_n ?_)
  | (with_reducible refine ev_rng1 ?_)
  | (with_reducible refine ev_rng2 ?_)
  | (with_reducible refine ev_rng3 ?_)
  | (with_reducible refine ev_c ?_)
  | (with_reducible refine ev_fn ?_)
  | (with_reducible refine ev_bin ?_)
  | (with_reducible refine ev_kBin1 ?_)
  | (with_reducible refine ev_intT ?_)
  | (with_reducible refine ev_eqI ?_)
  | (with_reducible refine ev_neI ?_)
  | (with_reducible refine ev_isN ?_)
  | (with_reducible refine ev_neg ?_)
  | (with_reducible refine ev_kNeg ?_)
  | (with_reducible refine ev_not ?_)
  | (with_reducible refine ev_kNot ?_)
  | (with_reducible refine ev_test ?_)
  | (with_reducible refine ev_kTest ?_)
  | (with_reducible refine ev_tru ?_)
  | (with_reducible refine ev_and ?_)
  | (with_reducible refine ev_or ?_)
  | (with_reducible refine ev_kAnd_t ?_)
  | (with_reducible refine ev_kAnd_f ?_)
  | (with_reducible refine ev_kOr_t ?_)
  | (with_reducible refine ev_kOr_f ?_)
  | (with_reducible refine ev_if ?_)
  | (with_reducible refine ev_kIf_t ?_)
  | (with_reducible refine ev_kIf_f ?_)
  | (with_reducible refine ev_andV ?_)
  | (with_reducible refine ev_orV ?_)
  | (with_reducible refine ev_kAndV_t ?_)
  | (with_reducible refine ev_kAndV_f ?_)
  | (with_reducible refine ev_kOrV_t ?_)
  | (with_reducible refine ev_kOrV_f ?_)
  | (with_reducible refine ev_notV ?_)
  | (with_reducible refine ev_kNotV ?_)
  | (with_reducible refine ev_isi ?_)
  | (with_reducible refine ev_nil ?_)
  | (with_reducible refine ev_kCons2 ?_)
  | (with_reducible refine ev_cons ?_)
  | (with_reducible refine ev_kCons1_dat ?_)
  | (with_reducible refine ev_kCons1_fn ?_)
  | (with_reducible refine ev_kCons1_own ?_)
  | (with_reducible refine ev_kCons1_lst ?_)
  | (with_reducible refine ev_star ?_)
  | (with_reducible refine ev_kStar2 ?_)
  | (with_reducible refine ev_tup ?_)
  | (with_reducible refine ev_lst ?_)
  | (with_reducible refine ev_noPart ?_)
  | (with_reducible refine ev_part ?_)
  | (with_reducible refine ev_kPart ?_)
  | (with_reducible refine ev_sl ?_)
  | (with_reducible refine ev_kSl1 ?_)
  | (with_reducible refine ev_kSl2 ?_)
  | (with_reducible refine ev_rev ?_)
  | (with_reducible refine ev_call ?_)
  | (with_reducible refine ev_max2 ?_)
  | (with_reducible refine ev_min2 ?_)
  | (with_reducible refine ev_int1 ?_)
  | (with_reducible refine ev_user ?_)
  | (with_reducible refine ev_app ?_)
  | (with_reducible refine ev_ext ?_)
  | (with_reducible refine ev_lc ?_)
  | ((with_reducible refine' ev_name ?k0 ?k1 ?_); (case k0 => rfl); (case k1 => rfl))
  | ((with_reducible refine' ev_nameO ?k0 ?k1 ?_); (case k0 => rfl); (case k1 => rfl))
  | ((with_reducible refine' ev_nameF_dat ?k0 ?_); (case k0 => rfl))
  | ((with_reducible refine' ev_nameF_fn ?k0 ?_); (case k0 => rfl))
  | ((with_reducible refine' ev_nameF_arg ?k0 ?_); (case k0 => rfl))
  | ((with_reducible refine' ev_nameF_lst ?k0 ?_); (case k0 => rfl))
  | ((with_reducible refine' ev_kSet_dat ?k0 ?_); (case k0 => rfl))
  | ((with_reducible refine' ev_kSet_lst ?k0 ?_); (case k0 => rfl))
  | ((with_reducible refine' ev_kSet_fn ?k0 ?_); (case k0 => rfl))
  | ((with_reducible refine' ev_kPar ?k0 ?k1 ?k2 ?k3 ?_); (case k0 => rfl); (case k1 => rfl); (case k2 => rfl); (case k3 => rfl))
  | ((with_reducible refine' ev_kAsg ?k0 ?_); (case k0 => rfl))
  | ((with_reducible refine' ev_aug ?k0 ?_); (case k0 => rfl))
  | ((with_reducible refine' ev_kAug ?k0 ?_); (case k0 => rfl))
  | ((with_reducible refine' ev_kPut3 ?k0 ?k1 ?_); (case k0 => rfl); (case k1 => rfl))
  | ((with_reducible refine' ev_ix ?k0 ?k1 ?_); (case k0 => rfl); (case k1 => rfl))
  | ((with_reducible refine' ev_kTru ?k0 ?_); (case k0 => rfl))
  | ((with_reducible refine' ev_kIsi ?k0 ?k1 ?_); (case k0 => rfl); (case k1 => rfl))
  | ((with_reducible refine' ev_kStar1 ?k0 ?_); (case k0 => rfl))
  | ((with_reducible refine' ev_kSl3_t ?k0 ?_); (case k0 => rfl))
  | ((with_reducible refine' ev_kSl3_l ?k0 ?_); (case k0 => rfl))
  | ((with_reducible refine' ev_kRev_t ?k0 ?_); (case k0 => rfl))
  | ((with_reducible refine' ev_kRev_l ?k0 ?_); (case k0 => rfl))
  | ((with_reducible refine' ev_len ?k0 ?_); (case k0 => rfl))
  | ((with_reducible refine' ev_tuple ?k0 ?_); (case k0 => rfl))
  | ((with_reducible refine' ev_list ?k0 ?_); (case k0 => rfl))
  | ((with_reducible refine' ev_kApp1 ?k0 ?_); (case k0 => rfl))
  | ((with_reducible refine' ev_kExt1 ?k0 ?_); (case k0 => rfl))
  | ((with_reducible refine' ev_kRet_own ?k0 ?_); (case k0 => rfl))
  | ((with_reducible refine' ev_kTup ?k0 ?k1 ?_); (case k0 => rfl); (case k1 => simp [sizeLine]))
  | ((with_reducible refine' ev_kLst ?k0 ?k1 ?_); (case k0 => rfl); (case k1 => simp [sizeLine]))
  | (with_reducible refine ev_nx ?_)
  | (with_reducible refine ev_rt ?_)
  | (with_reducible refine ev_bk ?_)
  | (with_reducible refine ev_ct ?_)
)
local macro_rules | `(tactic| walk_at "evs") => `(tactic| repeat (walk_at "ev"))
theorem putBack_one {i : Nat} {own : Bool} {xs ys : List PyData} {rest os : List DV} {ρ : Den} (h : ρ[i]? = some (some (mkO own xs))) (hr : owns rest = []) : putBack (.own i :: rest) (.arg ys :: os) ρ = ρ.set i (some (mkO own ys)) := by
  apply List.ext_getElem?
  intro j
  rw [show putBack (.own i :: rest) (.arg ys :: os) ρ = pbGo 0 (.own i :: rest) (.arg ys :: os) ρ from rfl, pbGo_get, Nat.zero_add]
  by_cases hj : i = j
  · subst hj
    have e : findOut i (.own i :: rest) (.arg ys :: os) = some ys := by
      show (if i = i then _ else _) = _
      rw [if_pos rfl]
    rw [e, List.getElem?_set_self (List.getElem?_eq_some_iff.mp h).1, h]
    cases own <;> rfl
  · have e : findOut j (.own i :: rest) (.arg ys :: os) = none := by
      show (if i = j then _ else findOut j rest os) = _
      rw [if_neg hj]
      exact findOut_none fun k => owns_nil_at hr _ k
    rw [e, List.getElem?_set_ne hj]
    cases ρ[j]? with
    | none => rfl
    | some d => rw [Option.map_some, pb1_none]
theorem mkO_arg {ρ : Den} {i : Nat} {own : Bool} {xs : List PyData} (h : ρ[i]? = some (some (mkO own xs))) : toArg ρ (.own i) = some (.arg xs) := by
  unfold toArg
  dsimp only
  rw [h]
  cases own <;> rfl
theorem ev_draw {ρ : Den} {Q : DV → Den → Prop} {i : Nat} {own : Bool} {ns : List Int} {k b : Int} (h : ρ[i]? = some (some (mkO own (eDr ns k)))) (h1 : 0 ≤ k) (h2 : k ≤ 1000000) (hb : 0 < b)
    (q : ∀ r, 0 ≤ r → r < b → Q (.dat (.int r)) (ρ.set i (some (mkO own (eDr ns (k + 1)))))) : kUser sp__law_next Q [.own i, .dat (.int b)] ρ := by
  refine ev_kUser (ds := [.arg (eDr ns k), .dat (.int b)]) (by simp [owns]) ?_ ⟨ns, k, b, rfl, h1, h2, hb, fun r g0 g1 => ?_⟩
  · show (toArg ρ (.own i)).bind _ = _
    rw [mkO_arg h]; rfl
  · show Q (.dat (.int r)) (putBack [.own i, .dat (.int b)] [.arg (eDr ns (k + 1)), .dat (.int b)] ρ)
    rw [putBack_one h rfl]
    exact q r g0 g1
def sp__law_boxes : DSpec := fun ds K' => ∃ (ns : List Int) (k : Int), ds = [.arg (eDr ns k), .dat (.int 5), .dat (.int 5)] ∧ 0 ≤ k ∧ k ≤ 1000 ∧
  ∀ (bs : List (Pt × Pt)) k', k ≤ k' → k' ≤ k + 100 → bs.length ≤ 4 → K' (.lst (bs.map eB)) [.arg (eDr ns k'), .dat (.int 5), .dat (.int 5)]
theorem three {α : Type} {l : List α} (h : l.length = 3) : ∃ a b c, l = [a, b, c] := by
  match l, h with
  | [a, b, c], _ => exact ⟨a, b, c, rfl⟩
theorem wp__law_boxes : ∀ ds K', sp__law_boxes ds K' → W__law_boxes sp__law_next { nx := fun ρ => K' (.dat .none) (outsOf ds ρ), rt := fun r ρ => K' r (outsOf ds ρ) } (startD N__law_boxes ds) := by
  rintro ds K' ⟨ns, k, rfl, hk, hk2, q⟩
  have szl : sizeLine = 16777216 := rfl
  unfold W__law_boxes
  walk_at "evs"
  refine ev_draw (own := true) rfl hk (by omega) (by decide) fun n hn0 hn1 => ?_
  walk_at "evs"
  refine ev_kRng1 (by omega) (by omega) ?_
  walk_at "evs"
  refine forGo_ind (I := fun left ρ => ∃ (t : Nat) (bs : List (Pt × Pt)) (k' : Int) (y4 y5 : Option DV), ρ = [some (.arg (eDr ns k')), some (.dat (.int 5)), some (.dat (.int 5)), some (.lst (bs.map eB)), y4, y5, none, none] ∧ t ≤ n.toNat ∧ left = (rangeD 0 n.toNat).drop t ∧ bs.length = t ∧ k' = k + 1 + 6 * t ∧ notArgB (some y4) = true ∧ notArgB (some y5) = true) ?_ ?_ _ _ ⟨0, [], k + 1, none, none, rfl, by omega, rfl, rfl, by omega, rfl, rfl⟩
  · rintro ρ ⟨t, bs, k', y4, y5, rfl, ht, _, hb, hk', _, _⟩
    walk_at "evs"
    exact q bs k' (by omega) (by omega) (by omega)
  · rintro x xs ρ ⟨t, bs, k', y4, y5, rfl, ht, hle, hb, hk', n4, n5⟩
    have hx : (rangeD 0 n.toNat)[t]? = some x := by rw [← List.head?_drop, ← hle]; rfl
    obtain ⟨hlt, rfl⟩ := rangeD_get hx
    have hxs : xs = (rangeD 0 n.toNat).drop (t + 1) := by rw [← List.tail_drop, ← hle]; rfl
    refine ⟨[some (.arg (eDr ns k')), some (.dat (.int 5)), some (.dat (.int 5)), some (.lst (bs.map eB)), some (.dat (.int (0 + (t : Int)))), y5, none, none], by simp [fName, n4], fun N hN => ?_⟩
    walk_at "evs"
    refine ev_kRng1 (by decide) (by decide) ?_
    walk_at "evs"
    refine lcGo_ind (I := fun acc left ρ => ∃ (is : List Int) (k2 : Int), ρ = [some (.arg (eDr ns k2)), some (.dat (.int 5)), some (.dat (.int 5)), some (.lst (bs.map eB)), some (.dat (.int (0 + (t : Int)))), y5, none, none] ∧ acc = is.map .int ∧ is.length + left.length = 3 ∧ k2 = k' + is.length) ?_ ?_ _ _ _ ⟨[], k', rfl, rfl, rfl, by simp⟩
    · rintro acc ρ ⟨is, k2, rfl, rfl, hl, hk2⟩
      obtain ⟨x0, y0, z0, rfl⟩ := three (by simpa using hl)
      walk_at "evs"
      refine ev_kSet_dat n5 ?_
      walk_at "evs"
      refine lcGo_ind (I := fun acc left ρ => ∃ (js : List Int) (ws : List Int) (k3 : Int), ρ = [some (.arg (eDr ns k3)), some (.dat (.int 5)), some (.dat (.int 5)), some (.lst (bs.map eB)), some (.dat (.int (0 + (t : Int)))), some (.dat (.tuple [.int x0, .int y0, .int z0])), none, none] ∧ acc = js.map .int ∧ left = ws.map .int ∧ js.length + ws.length = 3 ∧ k3 = k2 + js.length) ?_ ?_ _ _ _ ⟨[], [x0, y0, z0], k2, rfl, rfl, rfl, rfl, by simp⟩
      · rintro acc ρ ⟨js, ws, k3, rfl, rfl, hw, hl3, hk3⟩
        have : ws = [] := by
          cases ws with
          | nil => rfl
          | cons _ _ => cases hw
        subst this
        obtain ⟨x1, y1, z1, rfl⟩ := three (by simpa using hl3)
        walk_at "evs"
        refine ev_kApp2 (b := false) rfl (by rw [List.length_map]; omega) ?_
        walk_at "evs"
        refine hN _ ⟨t + 1, bs ++ [((x0, y0, z0), (x1, y1, z1))], k3, some (.dat (.int (0 + (t : Int)))), some (.dat (.tuple [.int x0, .int y0, .int z0])), by rw [List.map_append]; rfl, by omega, hxs, by simp [hb], ?_, rfl, rfl⟩
        simp at hk2 hk3
        omega
      · rintro acc x xs ρ ⟨js, ws, k3, rfl, rfl, hw, hl3, hk3⟩
        cases ws with
        | nil => cases hw
        | cons w ws =>
        obtain ⟨rfl, rfl⟩ := List.cons.inj hw
        refine ⟨rfl, _, rfl, fun Gn hG => ?_⟩
        walk_at "evs"
        simp at hk2 hl3
        refine ev_draw (own := true) (k := k3) rfl (by omega) (by omega) (by decide) fun r h0 h1 => ?_
        walk_at "evs"
        refine hG _ _ (by rw [List.length_map]; omega) ⟨js ++ [w + 1 + r], ws, k3 + 1, rfl, by simp, rfl, by simp; omega, by simp; omega⟩
    · rintro acc x xs ρ ⟨is, k2, rfl, rfl, hl, hk2⟩
      refine ⟨rfl, _, rfl, fun Gn hG => ?_⟩
      walk_at "evs"
      simp at hl
      refine ev_draw (own := true) (k := k2) rfl (by omega) (by omega) (by decide) fun r h0 h1 => ?_
      walk_at "evs"
      refine hG _ _ (by rw [List.length_map]; omega) ⟨is ++ [r - 1], k2 + 1, rfl, by simp, by simp; omega, by simp; omega⟩

end K5
end
section
set_option Elab.async false
set_option linter.all false
set_option maxRecDepth 100000
set_option maxHeartbeats 1000000
namespace K5
open PySem L2 DL SM
local macro_rules | `(tactic| walk_at "ev") => `(tactic| first
  | (with_reducible refine ev_seq ?_)
  | (with_reducible refine ev_next ?_)
  | (with_reducible refine ev_break ?_)
  | (with_reducible refine ev_cont ?_)
  | (with_reducible refine ev_expr ?_)
  | (with_reducible refine ev_kExpr ?_)
  | (with_reducible refine ev_ret ?_)
  | (with_reducible refine ev_retN ?_)
  | (with_reducible refine ev_kRet_dat ?_)
  | (with_reducible refine ev_kRet_lst ?_)
  | (with_reducible refine ev_ifS ?_)
  | (with_reducible refine ev_kIfS_t ?_)
  | (with_reducible refine ev_kIfS_f ?_)
  | (with_reducible refine ev_set ?_)
  | (with_reducible refine ev_par ?_)
  | (with_reducible refine ev_asg ?_)
  | (with_reducible refine ev_put ?_)
  | (with_reducible refine ev_kPut1 ?_)
  | (with_reducible refine ev_kPut2 ?_)
  | (with_reducible refine ev_for ?_)
  | (with_reducible refine ev_kFor ?_)
  | (with_reducible refine ev_seqI ?_)
  | (with_reducible refine ev_kSeqI_l ?_)
  | (with_reducible refine ev_kSeqI_t ?_)
  | (with_reducible refine ev_kSeqI_n ?_)
  | (with_reducible refine ev_rng1 ?_)
  | (with_reducible refine ev_rng2 ?_)
  | (with_reducible refine ev_rng3 ?_)
  | (with_reducible refine ev_c ?_)
  | (with_reducible refine ev_fn ?_)
  | (with_reducible refine ev_bin ?_)
  | (with_reducible refine ev_kBin1 ?_)
  | (with_reducible refine ev_intT ?_)
  | (with_reducible refine ev_eqI ?_)
  | (with_reducible refine ev_neI ?_)
  | (with_reducible refine ev_isN ?_)
  | (with_reducible refine ev_neg ?_)
  | (with_reducible refine ev_kNeg ?_)
  | (with_reducible refine ev_not ?_)
  | (with_reducible refine ev_kNot ?_)
  | (with_reducible refine ev_test ?_)
  | (with_reducible refine ev_kTest ?_)
  | (with_reducible refine ev_tru ?_)
  | (with_reducible refine ev_and ?_)
  | (with_reducible refine ev_or ?_)
  | (with_reducible refine ev_kAnd_t ?_)
  | (with_reducible refine ev_kAnd_f ?_)
  | (with_reducible refine ev_kOr_t ?_)
  | (with_reducible refine ev_kOr_f ?_)
  | (with_reducible refine ev_if ?_)
  | (with_reducible refine ev_kIf_t ?_)
  | (with_reducible refine ev_kIf_f ?_)
  | (with_reducible refine ev_andV ?_)
  | (with_reducible refine ev_orV ?_)
  | (with_reducible refine ev_kAndV_t ?_)
  | (with_reducible refine ev_kAndV_f ?_)
  | (with_reducible refine ev_kOrV_t ?_)
  | (with_reducible refine ev_kOrV_f ?_)
  | (with_reducible refine ev_notV ?_)
  | (with_reducible refine ev_kNotV ?_)
  | (with_reducible refine ev_isi ?_)
  | (with_reducible refine ev_nil ?_)
  | (with_reducible refine ev_kCons2 ?_)
  | (with_reducible refine ev_cons ?_)
  | (with_reducible refine ev_kCons1_dat ?_)
  | (with_reducible refine ev_kCons1_fn ?_)
  | (with_reducible refine ev_kCons1_own ?_)
  | (with_reducible refine ev_kCons1_lst ?_)
  | (with_reducible refine ev_star ?_)
  | (with_reducible refine ev_kStar2 ?_)
  | (with_reducible refine ev_tup ?_)
  | (with_reducible refine ev_lst ?_)
  | (with_reducible refine ev_noPart ?_)
  | (with_reducible refine ev_part ?_)
  | (with_reducible refine ev_kPart ?_)
  | (with_reducible refine ev_sl ?_)
  | (with_reducible refine ev_kSl1 ?_)
  | (with_reducible refine ev_kSl2 ?_)
  | (with_reducible refine ev_rev ?_)
  | (with_reducible refine ev_call ?_)
  | (with_reducible refine ev_max2 ?_)
  | (with_reducible refine ev_min2 ?_)
  | (with_reducible refine ev_int1 ?_)
  | (with_reducible refine ev_user ?_)
  | (with_reducible refine ev_app ?_)
  | (with_reducible refine ev_ext ?_)
  | (with_reducible refine ev_lc ?_)
  | ((with_reducible refine' ev_name ?k0 ?k1 ?_); (case k0 => rfl); (case k1 => rfl))
  | ((with_reducible refine' ev_nameO ?k0 ?k1 ?_); (case k0 => rfl); (case k1 => rfl))
  | ((with_reducible refine' ev_nameF_dat ?k0 ?_); (case k0 => rfl))
  | ((with_reducible refine' ev_nameF_fn ?k0 ?_); (case k0 => rfl))
  | ((with_reducible refine' ev_nameF_arg ?k0 ?_); (case k0 => rfl))
  | ((with_reducible refine' ev_nameF_lst ?k0 ?_); (case k0 => rfl))
  | ((with_reducible refine' ev_kSet_dat ?k0 ?_); (case k0 => rfl))
  | ((with_reducible refine' ev_kSet_lst ?k0 ?_); (case k0 => rfl))
  | ((with_reducible refine' ev_kSet_fn ?k0 ?_); (case k0 => rfl))
  | ((with_reducible refine' ev_kPar ?k0 ?k1 ?k2 ?k3 ?_); (case k0 => rfl); (case k1 => rfl); (case k2 => rfl); (case k3 => rfl))
  | ((with_reducible refine' ev_kAsg ?k0 ?_); (case k0 => rfl))
  | ((with_reducible refine' ev_aug ?k0 ?_); (case k0 => rfl))
  | ((with_reducible refine' ev_kAug ?k0 ?_); (case k0 => rfl))
  | ((with_reducible refine' ev_kPut3 ?k0 ?k1 ?_); (case k0 => rfl); (case k1 => rfl))
  | ((with_reducible refine' ev_ix ?k0 ?k1 ?_); (case k0 => rfl); (case k1 => rfl))
  | ((with_reducible refine' ev_kTru ?k0 ?_); (case k0 => rfl))
  | ((with_reducible refine' ev_kIsi ?k0 ?k1 ?_); (case k0 => rfl); (case k1 => rfl))
  | ((with_reducible refine' ev_kStar1 ?k0 ?_); (case k0 => rfl))
  | ((with_reducible refine' ev_kSl3_t ?k0 ?_); (case k0 => rfl))
  | ((with_reducible refine' ev_kSl3_l ?k0 ?_); (case k0 => rfl))
  | ((with_reducible refine' ev_kRev_t ?k0 ?_); (case k0 => rfl))
  | ((with_reducible refine' ev_kRev_l ?k0 ?_); (case k0 => rfl))
  | ((with_reducible refine' ev_len ?k0 ?_); (case k0 => rfl))
  | ((with_reducible refine' ev_tuple ?k0 ?_); (case k0 => rfl))
  | ((with_reducible refine' ev_list ?k0 ?_); (case k0 => rfl))
  | ((with_reducible refine' ev_kApp1 ?k0 ?_); (case k0 => rfl))
  | ((with_reducible refine' ev_kExt1 ?k0 ?_); (case k0 => rfl))
  | ((with_reducible refine' ev_kRet_own ?k0 ?_); (case k0 => rfl))
  | ((with_reducible refine' ev_kTup ?k0 ?k1 ?_); (case k0 => rfl); (case k1 => simp [sizeLine]))
  | ((with_reducible refine' ev_kLst ?k0 ?k1 ?_); (case k0 => rfl); (case k1 => simp [sizeLine]))
  | (with_reducible refine ev_nx ?_)
  | (with_reducible refine ev_rt ?_)
  | (with_reducible refine ev_bk ?_)
  | (with_reducible refine ev_ct ?_)
)
local macro_rules | `(tactic| walk_at "evs") => `(tactic| repeat (walk_at "ev"))
abbrev RP := Int × PyData
abbrev RRow := List RP
abbrev RLay := List (Slab RRow)
abbrev RSol := List (Slab RLay)
def eRP (p : RP) : PyData := .tuple [.int p.1, p.2]
def eRR (r : RRow) : PyData := .tuple (r.map eRP)
abbrev eRL : RLay → PyData := eSl eRR
abbrev eRS : RSol → PyData := eSl eRL
def RawP (p : RP) : Prop := p.2 = .bool true ∨ ∃ i, p.2 = .int i
def RawOk (T : RSol) : Prop := ∀ z ∈ T, ∀ y ∈ z.2.2, ∀ p ∈ y.2.2, RawP p
def plainP (p : RP) : Prop := ∃ i, p.2 = .int i ∧ p.1 < i
def plainY (y : Slab RRow) : Prop := y.1 < y.2.1 ∧ ∀ p ∈ y.2.2, plainP p
def plainZ (z : Slab RLay) : Prop := z.1 < z.2.1 ∧ ∀ y ∈ z.2.2, plainY y
theorem at2_0 {a b : PyData} : atI [a, b] 0 = some a := rfl
theorem at2_1 {a b : PyData} : atI [a, b] 1 = some b := rfl
def sp__law_is_plain : DSpec := fun ds K' => ∃ d, ds = [.dat d] ∧ ((∃ xs, d = .list xs ∧ ∀ outs, K' (.dat (.bool false)) outs) ∨ ∃ T, d = eRS T ∧ RawOk T ∧ ∀ b, (b = true ↔ ∀ z ∈ T, plainZ z) → ∀ outs, K' (.dat (.bool b)) outs)
theorem wp__law_is_plain : ∀ ds K', sp__law_is_plain ds K' → W__law_is_plain { nx := fun ρ => K' (.dat .none) (outsOf ds ρ), rt := fun r ρ => K' r (outsOf ds ρ) } (startD N__law_is_plain ds) := by
  rintro ds K' ⟨d, rfl, ⟨xs, rfl, q⟩ | ⟨T, rfl, hT, q⟩⟩
  · unfold W__law_is_plain
    with_reducible refine ev_seq (ev_ifS (ev_not (ev_tru (ev_isi ?_))))
    refine ev_name rfl rfl ?_
    refine ev_kIsi (S := "list") (b := false) rfl (by decide +kernel) ?_
    walk_at "evs"
    exact q _
  · unfold W__law_is_plain
    have no : (¬ ∀ z ∈ T, plainZ z) → ∀ outs, K' (.dat (.bool false)) outs := fun h => q false ⟨(fun z => nomatch z), fun z => absurd z h⟩
    with_reducible refine ev_seq (ev_ifS (ev_not (ev_tru (ev_isi ?_))))
    refine ev_name rfl rfl ?_
    refine ev_kIsi (S := "tuple") (b := true) rfl (by decide +kernel) ?_
    walk_at "evs"
    refine forGo_ind (I := fun left ρ => ∃ (done todo : RSol) (y1 y2 y3 : Option DV), T = done ++ todo ∧ left = todo.map (eS eRL) ∧ (∀ z ∈ done, plainZ z) ∧ ρ = [some (.dat (eRS T)), y1, y2, y3] ∧ notArgB (some y1) = true ∧ notArgB (some y2) = true ∧ notArgB (some y3) = true) ?_ ?_ _ _ ⟨[], T, none, none, none, rfl, rfl, (fun _ m => nomatch m), rfl, rfl, rfl, rfl⟩
    · rintro ρ ⟨done, todo, y1, y2, y3, e, h1, hp, rfl, n1, n2, n3⟩
      have : todo = [] := by
        cases todo with
        | nil => rfl
        | cons _ _ => cases h1
      subst this
      rw [List.append_nil] at e
      subst e
      walk_at "evs"
      exact q true ⟨fun _ => hp, fun _ => rfl⟩ _
    · rintro x xs ρ ⟨done, todo, y1, y2, y3, e, h1, hp, rfl, n1, n2, n3⟩
      cases todo with
      | nil => cases h1
      | cons z todo =>
      obtain ⟨rfl, rfl⟩ := List.cons.inj h1
      have mz : z ∈ T := by rw [e]; simp
      refine ⟨[some (.dat (eRS T)), some (.dat (eS eRL z)), y2, y3], by simp [fName, n1], fun N hN => ?_⟩
      with_reducible refine ev_seq (ev_ifS (ev_or (ev_not (ev_tru (ev_isi ?_)))))
      refine ev_name rfl rfl ?_
      refine ev_kIsi (S := "tuple") (b := true) rfl (by decide +kernel) ?_
      walk_at "evs"
      refine ev_kOr_f ?_
      walk_at "evs"
      refine ev_kOr_f ?_
      walk_at "evs"
      refine ev_kOr_f ?_
      walk_at "evs"
      refine ev_kIfS (fun h => ?_) (fun h => ?_)
      · have h : z.2.1 ≤ z.1 := of_decide_eq_true h
        walk_at "evs"
        exact no (fun a => by have := (a z mz).1; omega) _
      have hz : z.1 < z.2.1 := by have h : ¬ z.2.1 ≤ z.1 := of_decide_eq_false h; omega
      walk_at "evs"
      refine ev_kSeqI_t (xs := z.2.2.map (eS eRR)) ?_
      walk_at "evs"
      refine forGo_ind (I := fun left ρ => ∃ (done2 todo2 : RLay) (y2 y3 : Option DV), z.2.2 = done2 ++ todo2 ∧ left = todo2.map (eS eRR) ∧ (∀ y ∈ done2, plainY y) ∧ ρ = [some (.dat (eRS T)), some (.dat (eS eRL z)), y2, y3] ∧ notArgB (some y2) = true ∧ notArgB (some y3) = true) ?_ ?_ _ _ ⟨[], z.2.2, y2, y3, rfl, rfl, (fun _ m => nomatch m), rfl, n2, n3⟩
      · rintro ρ ⟨done2, todo2, y2, y3, e2, h2, hp2, rfl, n2, n3⟩
        have : todo2 = [] := by
          cases todo2 with
          | nil => rfl
          | cons _ _ => cases h2
        subst this
        rw [List.append_nil] at e2
        refine hN _ ⟨done ++ [z], todo, _, y2, y3, by rw [e]; simp, rfl, fun w m => ?_, rfl, rfl, n2, n3⟩
        rcases List.mem_append.mp m with m | m
        · exact hp w m
        · have : w = z := by simpa using m
          subst this
          exact ⟨hz, by rw [e2]; exact hp2⟩
      · rintro x xs ρ ⟨done2, todo2, y2, y3, e2, h2, hp2, rfl, n2, n3⟩
        cases todo2 with
        | nil => cases h2
        | cons y todo2 =>
        obtain ⟨rfl, rfl⟩ := List.cons.inj h2
        have my : y ∈ z.2.2 := by rw [e2]; simp
        refine ⟨[some (.dat (eRS T)), some (.dat (eS eRL z)), some (.dat (eS eRR y)), y3], by simp [fName, n2], fun N2 hN2 => ?_⟩
        with_reducible refine ev_seq (ev_ifS (ev_or (ev_not (ev_tru (ev_isi ?_)))))
        refine ev_name rfl rfl ?_
        refine ev_kIsi (S := "tuple") (b := true) rfl (by decide +kernel) ?_
        walk_at "evs"
        refine ev_kOr_f ?_
        walk_at "evs"
        refine ev_kOr_f ?_
        walk_at "evs"
        refine ev_kOr_f ?_
        walk_at "evs"
        refine ev_kIfS (fun h => ?_) (fun h => ?_)
        · have h : y.2.1 ≤ y.1 := of_decide_eq_true h
          walk_at "evs"
          exact no (fun a => by have := ((a z mz).2 y my).1; omega) _
        have hy : y.1 < y.2.1 := by have h : ¬ y.2.1 ≤ y.1 := of_decide_eq_false h; omega
        walk_at "evs"
        refine ev_kSeqI_t (xs := y.2.2.map eRP) ?_
        walk_at "evs"
        refine forGo_ind (I := fun left ρ => ∃ (done3 todo3 : RRow) (y3 : Option DV), y.2.2 = done3 ++ todo3 ∧ left = todo3.map eRP ∧ (∀ p ∈ done3, plainP p) ∧ ρ = [some (.dat (eRS T)), some (.dat (eS eRL z)), some (.dat (eS eRR y)), y3] ∧ notArgB (some y3) = true) ?_ ?_ _ _ ⟨[], y.2.2, y3, rfl, rfl, (fun _ m => nomatch m), rfl, n3⟩
        · rintro ρ ⟨done3, todo3, y3, e3, h3, hp3, rfl, n3⟩
          have : todo3 = [] := by
            cases todo3 with
            | nil => rfl
            | cons _ _ => cases h3
          subst this
          rw [List.append_nil] at e3
          refine hN2 _ ⟨done2 ++ [y], todo2, _, y3, by rw [e2]; simp, rfl, fun w m => ?_, rfl, rfl, n3⟩
          rcases List.mem_append.mp m with m | m
          · exact hp2 w m
          · have : w = y := by simpa using m
            subst this
            exact ⟨hy, by rw [e3]; exact hp3⟩
        · rintro x xs ρ ⟨done3, todo3, y3, e3, h3, hp3, rfl, n3⟩
          cases todo3 with
          | nil => cases h3
          | cons p todo3 =>
          obtain ⟨rfl, rfl⟩ := List.cons.inj h3
          have mp : p ∈ y.2.2 := by rw [e3]; simp
          refine ⟨[some (.dat (eRS T)), some (.dat (eS eRL z)), some (.dat (eS eRR y)), some (.dat (eRP p))], by simp [fName, n3], fun N3 hN3 => ?_⟩
          with_reducible refine ev_ifS (ev_or (ev_tru (ev_isi ?_)))
          walk_at "evs"
          refine ev_kOr_f ?_
          walk_at "evs"
          rcases hT z mz y my p mp with h | ⟨i, h⟩
          · rw [h]
            refine ev_kIsi (S := "bool") (b := true) rfl (by decide +kernel) ?_
            walk_at "evs"
            refine no (fun a => ?_) _
            obtain ⟨i, hi, _⟩ := ((a z mz).2 y my).2 p mp
            rw [h] at hi; cases hi
          · rw [h]
            refine ev_kIsi (S := "int") (b := false) rfl (by decide +kernel) ?_
            walk_at "evs"
            rw [h]
            walk_at "evs"
            refine ev_kIfS (fun h4 => ?_) (fun h4 => ?_)
            · have h4 : i ≤ p.1 := of_decide_eq_true h4
              walk_at "evs"
              refine no (fun a => ?_) _
              obtain ⟨j, hj, hj2⟩ := ((a z mz).2 y my).2 p mp
              rw [h] at hj; cases hj
              omega
            · have h4 : ¬ i ≤ p.1 := of_decide_eq_false h4
              walk_at "evs"
              refine hN3 _ ⟨done3 ++ [p], todo3, _, by rw [e3]; simp, rfl, fun w m => ?_, rfl, rfl⟩
              rcases List.mem_append.mp m with m | m
              · exact hp3 w m
              · have : w = p := by simpa using m
                subst this
                exact ⟨i, h, by omega⟩

end K5
end
section
set_option Elab.async false
set_option linter.all false
set_option maxRecDepth 100000
set_option maxHeartbeats 1000000
namespace K5
open PySem L2 DL SM
local macro_rules | `(tactic| walk_at "ev") => `(tactic| first
  | (with_reducible refine ev_seq ?_)
  | (with_reducible refine ev_next ?_)
  | (with_reducible refine ev_break ?_)
  | (with_reducible refine ev_cont ?_)
  | (with_reducible refine ev_expr ?_)
  | (with_reducible refine ev_kExpr ?_)
  | (with_reducible refine ev_ret ?_)
  | (with_reducible refine ev_retN ?_)
  | (with_reducible refine ev_kRet_dat ?_)
  | (with_reducible refine ev_kRet_lst ?_)
  | (with_reducible refine ev_ifS ?_)
  | (with_reducible refine ev_kIfS_t ?_)
  | (with_reducible refine ev_kIfS_f ?_)
  | (with_reducible refine ev_set ?_)
  | (with_reducible refine ev_par ?_)
  | (with_reducible refine ev_asg ?_)
  | (with_reducible refine ev_put ?_)
  | (with_reducible refine ev_kPut1 ?_)
  | (with_reducible refine ev_kPut2 ?_)
  | (with_reducible refine ev_for ?_)
  | (with_reducible refine ev_kFor ?_)
  | (with_reducible refine ev_seqI ?_)
  | (with_reducible refine ev_kSeqI_l ?_)
  | (with_reducible refine ev_kSeqI_t ?_)
  | (with_reducible refine ev_kSeqI_n ?_)
  | (with_reducible refine ev_rng1 ?_)
  | (with_reducible refine ev_rng2 ?_)
  | (with_reducible refine ev_rng3 ?_)
  | (with_reducible refine ev_c ?_)
  | (with_reducible refine ev_fn ?_)
  | (with_reducible refine ev_bin ?_)
  | (with_reducible refine ev_kBin1 ?_)
  | (with_reducible refine ev_intT ?_)
  | (with_reducible refine ev_eqI ?_)
  | (with_reducible refine ev_neI ?_)
  | (with_reducible refine ev_isN ?_)
  | (with_reducible refine ev_neg ?_)
  | (with_reducible refine ev_kNeg ?_)
  | (with_reducible refine ev_not ?_)
  | (with_reducible refine ev_kNot ?_)
  | (with_reducible refine ev_test ?_)
  | (with_reducible refine ev_kTest ?_)
  | (with_reducible refine ev_tru ?_)
  | (with_reducible refine ev_and ?_)
  | (with_reducible refine ev_or ?_)
  | (with_reducible refine ev_kAnd_t ?_)
  | (with_reducible refine ev_kAnd_f ?_)
  | (with_reducible refine ev_kOr_t ?_)
  | (with_reducible refine ev_kOr_f ?_)
  | (with_reducible refine ev_if ?_)
  | (with_reducible refine ev_kIf_t ?_)
  | (with_reducible refine ev_kIf_f ?_)
  | (with_reducible refine ev_andV ?_)
  | (with_reducible refine ev_orV ?_)
  | (with_reducible refine ev_kAndV_t ?_)
  | (with_reducible refine ev_kAndV_f ?_)
  | (with_reducible refine ev_kOrV_t ?_)
  | (with_reducible refine ev_kOrV_f ?_)
  | (with_reducible refine ev_notV ?_)
  | (with_reducible refine ev_kNotV ?_)
  | (with_reducible refine ev_isi ?_)
  | (with_reducible refine ev_nil ?_)
  | (with_reducible refine ev_kCons2 ?_)
  | (with_reducible refine ev_cons ?_)
  | (with_reducible refine ev_kCons1_dat ?_)
  | (with_reducible refine ev_kCons1_fn ?_)
  | (with_reducible refine ev_kCons1_own ?_)
  | (with_reducible refine ev_kCons1_lst ?_)
  | (with_reducible refine ev_star ?_)
  | (with_reducible refine ev_kStar2 ?_)
  | (with_reducible refine ev_tup ?_)
  | (with_reducible refine ev_lst ?_)
  | (with_reducible refine ev_noPart ?_)
  | (with_reducible refine ev_part ?_)
  | (with_reducible refine ev_kPart ?_)
  | (with_reducible refine ev_sl ?_)
  | (with_reducible refine ev_kSl1 ?_)
  | (with_reducible refine ev_kSl2 ?_)
  | (with_reducible refine ev_rev ?_)
  | (with_reducible refine ev_call ?_)
  | (with_reducible refine ev_max2 ?_)
  | (with_reducible refine ev_min2 ?_)
  | (with_reducible refine ev_int1 ?_)
  | (with_reducible refine ev_user ?_)
  | (with_reducible refine ev_app ?_)
  | (with_reducible refine ev_ext ?_)
  | (with_reducible refine ev_lc ?_)
  | ((with_reducible refine' ev_name ?k0 ?k1 ?_); (case k0 => rfl); (case k1 => rfl))
  | ((with_reducible refine' ev_nameO ?k0 ?k1 ?_); (case k0 => rfl); (case k1 => rfl))
  | ((with_reducible refine' ev_nameF_dat ?k0 ?_); (case k0 => rfl))
  | ((with_reducible refine' ev_nameF_fn ?k0 ?_); (case k0 => rfl))
  | ((with_reducible refine' ev_nameF_arg ?k0 ?_); (case k0 => rfl))
  | ((with_reducible refine' ev_nameF_lst ?k0 ?_); (case k0 => rfl))
  | ((with_reducible refine' ev_kSet_dat ?k0 ?_); (case k0 => rfl))
  | ((with_reducible refine' ev_kSet_lst ?k0 ?_); (case k0 => rfl))
  | ((with_reducible refine' ev_kSet_fn ?k0 ?_); (case k0 => rfl))
  | ((with_reducible refine' ev_kPar ?k0 ?k1 ?k2 ?k3 ?_); (case k0 => rfl); (case k1 => rfl); (case k2 => rfl); (case k3 => rfl))
  | ((with_reducible refine' ev_kAsg ?k0 ?_); (case k0 => rfl))
  | ((with_reducible refine' ev_aug ?k0 ?_); (case k0 => rfl))
  | ((with_reducible refine' ev_kAug ?k0 ?_); (case k0 => rfl))
  | ((with_reducible refine' ev_kPut3 ?k0 ?k1 ?_); (case k0 => rfl); (case k1 => rfl))
  | ((with_reducible refine' ev_ix ?k0 ?k1 ?_); (case k0 => rfl); (case k1 => rfl))
  | ((with_reducible refine' ev_kTru ?k0 ?_); (case k0 => rfl))
  | ((with_reducible refine' ev_kIsi ?k0 ?k1 ?_); (case k0 => rfl); (case k1 => rfl))
  | ((with_reducible refine' ev_kStar1 ?k0 ?_); (case k0 => rfl))
  | ((with_reducible refine' ev_kSl3_t ?k0 ?_); (case k0 => rfl))
  | ((with_reducible refine' ev_kSl3_l ?k0 ?_); (case k0 => rfl))
  | ((with_reducible refine' ev_kRev_t ?k0 ?_); (case k0 => rfl))
  | ((with_reducible refine' ev_kRev_l ?k0 ?_); (case k0 => rfl))
  | ((with_reducible refine' ev_len ?k0 ?_); (case k0 => rfl))
  | ((with_reducible refine' ev_tuple ?k0 ?_); (case k0 => rfl))
  | ((with_reducible refine' ev_list ?k0 ?_); (case k0 => rfl))
  | ((with_reducible refine' ev_kApp1 ?k0 ?_); (case k0 => rfl))
  | ((with_reducible refine' ev_kExt1 ?k0 ?_); (case k0 => rfl))
  | ((with_reducible refine' ev_kRet_own ?k0 ?_); (case k0 => rfl))
  | ((with_reducible refine' ev_kTup ?k0 ?k1 ?_); (case k0 => rfl); (case k1 => simp [sizeLine]))
  | ((with_reducible refine' ev_kLst ?k0 ?k1 ?_); (case k0 => rfl); (case k1 => simp [sizeLine]))
  | (with_reducible refine ev_nx ?_)
  | (with_reducible refine ev_rt ?_)
  | (with_reducible refine ev_bk ?_)
  | (with_reducible refine ev_ct ?_)
)
local macro_rules | `(tactic| walk_at "evs") => `(tactic| repeat (walk_at "ev"))
def boxY (z : Slab Lay) (y : Slab Row) (x : Slab Unit) : Pt × Pt := ((x.1, y.1, z.1), (x.2.1, y.2.1, z.2.1))
def boxesY (z : Slab Lay) (y : Slab Row) : List (Pt × Pt) := y.2.2.map (boxY z y)
def boxesZ (z : Slab Lay) : List (Pt × Pt) := z.2.2.flatMap (boxesY z)
def boxesOf (P : Sol) : List (Pt × Pt) := P.flatMap boxesZ
def sp__law_inside : DSpec := fun ds K' => ∃ P : Sol, ds = [.dat (eSol P)] ∧ (boxesOf P).length ≤ 100000 ∧ ∀ outs, K' (.lst ((boxesOf P).map eB)) outs
theorem wp__law_inside : ∀ ds K', sp__law_inside ds K' → W__law_inside { nx := fun ρ => K' (.dat .none) (outsOf ds ρ), rt := fun r ρ => K' r (outsOf ds ρ) } (startD N__law_inside ds) := by
  rintro ds K' ⟨P, rfl, hl, q⟩
  have szl : sizeLine = 16777216 := rfl
  unfold W__law_inside
  walk_at "evs"
  refine ev_kSeqI_t (xs := P.map (eS eLay)) ?_
  walk_at "evs"
  refine forGo_ind (I := fun left ρ => ∃ (done todo : Sol) (y2 y3 y4 y5 y6 y7 : Option DV), P = done ++ todo ∧ left = todo.map (eS eLay) ∧ ρ = [some (.dat (eSol P)), some (.lst ((boxesOf done).map eB)), y2, y3, y4, y5, y6, y7, none, none] ∧ notArgB (some y2) = true ∧ notArgB (some y3) = true ∧ notArgB (some y4) = true ∧ notArgB (some y5) = true ∧ notArgB (some y6) = true ∧ notArgB (some y7) = true) ?_ ?_ _ _ ⟨[], P, none, none, none, none, none, none, rfl, rfl, rfl, rfl, rfl, rfl, rfl, rfl, rfl⟩
  · rintro ρ ⟨done, todo, y2, y3, y4, y5, y6, y7, e, h1, rfl, _⟩
    have : todo = [] := by
      cases todo with
      | nil => rfl
      | cons _ _ => cases h1
    subst this
    rw [List.append_nil] at e
    subst e
    walk_at "evs"
    exact q _
  · rintro x xs ρ ⟨done, todo, y2, y3, y4, y5, y6, y7, e, h1, rfl, n2, n3, n4, n5, n6, n7⟩
    cases todo with
    | nil => cases h1
    | cons z todo =>
    obtain ⟨rfl, rfl⟩ := List.cons.inj h1
    have lz : (boxesOf done).length + (boxesZ z).length ≤ 100000 := by
      have e2 : (boxesOf P).length = (boxesOf done).length + ((boxesZ z).length + (boxesOf todo).length) := by
        rw [e]; unfold boxesOf; rw [List.flatMap_append, List.length_append, List.flatMap_cons, List.length_append]
      omega
    refine ⟨[some (.dat (eSol P)), some (.lst ((boxesOf done).map eB)), some (.dat (.int z.1)), some (.dat (.int z.2.1)), some (.dat (eLay z.2.2)), y5, y6, y7, none, none], by simp [fTup, fCons, fName, fNil, eS, n2, n3, n4], fun N hN => ?_⟩
    walk_at "evs"
    refine ev_kSeqI_t (xs := z.2.2.map (eS eRow)) ?_
    walk_at "evs"
    refine forGo_ind (I := fun left ρ => ∃ (done2 todo2 : Lay) (y5 y6 y7 : Option DV), z.2.2 = done2 ++ todo2 ∧ left = todo2.map (eS eRow) ∧ ρ = [some (.dat (eSol P)), some (.lst ((boxesOf done ++ done2.flatMap (boxesY z)).map eB)), some (.dat (.int z.1)), some (.dat (.int z.2.1)), some (.dat (eLay z.2.2)), y5, y6, y7, none, none] ∧ notArgB (some y5) = true ∧ notArgB (some y6) = true ∧ notArgB (some y7) = true) ?_ ?_ _ _ ⟨[], z.2.2, y5, y6, y7, rfl, rfl, by simp, n5, n6, n7⟩
    · rintro ρ ⟨done2, todo2, y5, y6, y7, e2, h2, rfl, n5, n6, n7⟩
      have : todo2 = [] := by
        cases todo2 with
        | nil => rfl
        | cons _ _ => cases h2
      subst this
      rw [List.append_nil] at e2
      refine hN _ ⟨done ++ [z], todo, some (.dat (.int z.1)), some (.dat (.int z.2.1)), some (.dat (eLay z.2.2)), y5, y6, y7, by rw [e]; simp, rfl, ?_, rfl, rfl, rfl, n5, n6, n7⟩
      have e3 : boxesOf (done ++ [z]) = boxesOf done ++ done2.flatMap (boxesY z) := by
        unfold boxesOf
        rw [List.flatMap_append, List.flatMap_cons, List.flatMap_nil, List.append_nil]
        unfold boxesZ
        rw [e2]
      rw [e3]
    · rintro x xs ρ ⟨done2, todo2, y5, y6, y7, e2, h2, rfl, n5, n6, n7⟩
      cases todo2 with
      | nil => cases h2
      | cons y todo2 =>
      obtain ⟨rfl, rfl⟩ := List.cons.inj h2
      have ly : (boxesOf done).length + ((done2.flatMap (boxesY z)).length + (boxesY z y).length) ≤ 100000 := by
        have e3 : (boxesZ z).length = (done2.flatMap (boxesY z)).length + ((boxesY z y).length + (todo2.flatMap (boxesY z)).length) := by
          unfold boxesZ; rw [e2, List.flatMap_append, List.length_append, List.flatMap_cons, List.length_append]
        omega
      refine ⟨[some (.dat (eSol P)), some (.lst ((boxesOf done ++ done2.flatMap (boxesY z)).map eB)), some (.dat (.int z.1)), some (.dat (.int z.2.1)), some (.dat (eLay z.2.2)), some (.dat (.int y.1)), some (.dat (.int y.2.1)), some (.dat (eRow y.2.2)), none, none], by simp [fTup, fCons, fName, fNil, eS, n5, n6, n7], fun N2 hN2 => ?_⟩
      walk_at "evs"
      refine ev_kSeqI_t (xs := y.2.2.map eU) ?_
      walk_at "evs"
      refine lcGo_ind (I := fun acc left ρ => ∃ d3 t3 : Row, y.2.2 = d3 ++ t3 ∧ left = t3.map eU ∧ acc = (d3.map (boxY z y)).map eB ∧ ρ = [some (.dat (eSol P)), some (.lst ((boxesOf done ++ done2.flatMap (boxesY z)).map eB)), some (.dat (.int z.1)), some (.dat (.int z.2.1)), some (.dat (eLay z.2.2)), some (.dat (.int y.1)), some (.dat (.int y.2.1)), some (.dat (eRow y.2.2)), none, none]) ?_ ?_ _ _ _ ⟨[], y.2.2, rfl, rfl, rfl, rfl⟩
      · rintro acc ρ ⟨d3, t3, e3, h3, rfl, rfl⟩
        have : t3 = [] := by
          cases t3 with
          | nil => rfl
          | cons _ _ => cases h3
        subst this
        rw [List.append_nil] at e3
        have e4 : d3.map (boxY z y) = boxesY z y := by unfold boxesY; rw [e3]
        rw [e4]
        refine ev_catLs (xs := (boxesOf done ++ done2.flatMap (boxesY z)).map eB) (ys := (boxesY z y).map eB) rfl rfl (by rw [List.length_map, List.length_map, List.length_append]; omega) ?_
        walk_at "evs"
        refine hN2 _ ⟨done2 ++ [y], todo2, some (.dat (.int y.1)), some (.dat (.int y.2.1)), some (.dat (eRow y.2.2)), by rw [e2]; simp, rfl, ?_, rfl, rfl, rfl⟩
        rw [List.flatMap_append, List.flatMap_cons, List.flatMap_nil, List.append_nil, ← List.append_assoc, List.map_append (l₂ := boxesY z y)]
        rfl
      · rintro acc x xs ρ ⟨d3, t3, e3, h3, rfl, rfl⟩
        cases t3 with
        | nil => cases h3
        | cons u t3 =>
        obtain ⟨rfl, rfl⟩ := List.cons.inj h3
        have ld : d3.length < (boxesY z y).length := by unfold boxesY; rw [List.length_map, e3]; simp
        refine ⟨rfl, _, rfl, fun Gn hG => ?_⟩
        walk_at "evs"
        refine hG _ _ (by rw [List.length_map, List.length_map]; omega) ⟨d3 ++ [u], t3, by rw [e3]; simp, rfl, by simp [eB, eP, boxY], rfl⟩

end K5
end
section
set_option Elab.async false
set_option linter.all false
set_option maxRecDepth 100000
set_option maxHeartbeats 1000000
namespace K5
open PySem L2 DL SM
local macro_rules | `(tactic| walk_at "ev") => `(tactic| first
  | (with_reducible refine ev_seq ?_)
  | (with_reducible refine ev_next ?_)
  | (with_reducible refine ev_break ?_)
  | (with_reducible refine ev_cont ?_)
  | (with_reducible refine ev_expr ?_)
  | (with_reducible refine ev_kExpr ?_)
  | (with_reducible refine ev_ret ?_)
  | (with_reducible refine ev_retN ?_)
  | (with_reducible refine ev_kRet_dat ?_)
  | (with_reducible refine ev_kRet_lst ?_)
  | (with_reducible refine ev_ifS ?_)
  | (with_reducible refine ev_kIfS_t ?_)
  | (with_reducible refine ev_kIfS_f ?_)
  | (with_reducible refine ev_set ?_)
  | (with_reducible refine ev_par ?_)
  | (with_reducible refine ev_asg ?_)
  | (with_reducible refine ev_put ?_)
  | (with_reducible refine ev_kPut1 ?_)
  | (with_reducible refine ev_kPut2 ?_)
  | (with_reducible refine ev_for ?_)
  | (with_reducible refine ev_kFor ?_)
  | (with_reducible refine ev_seqI ?_)
  | (with_reducible refine ev_kSeqI_l ?_)
  | (with_reducible refine ev_kSeqI_t ?_)
  | (with_reducible refine ev_kSeqI_n ?_)
  | (with_reducible refine ev_rng1 ?_)
  | (with_reducible refine ev_rng2 ?_)
  | (with_reducible refine ev_rng3 ?_)
  | (with_reducible refine ev_c ?_)
  | (with_reducible refine ev_fn ?_)
  | (with_reducible refine ev_bin ?_)
  | (with_reducible refine ev_kBin1 ?_)
  | (with_reducible refine ev_intT ?_)
  | (with_reducible refine ev_eqI ?_)
  | (with_reducible refine ev_neI ?_)
  | (with_reducible refine ev_isN ?_)
  | (with_reducible refine ev_neg ?_)
  | (with_reducible refine ev_kNeg ?_)
  | (with_reducible refine ev_not ?_)
  | (with_reducible refine ev_kNot ?_)
  | (with_reducible refine ev_test ?_)
  | (with_reducible refine ev_kTest ?_)
  | (with_reducible refine ev_tru ?_)
  | (with_reducible refine ev_and ?_)
  | (with_reducible refine ev_or ?_)
  | (with_reducible refine ev_kAnd_t ?_)
  | (with_reducible refine ev_kAnd_f ?_)
  | (with_reducible refine ev_kOr_t ?_)
  | (with_reducible refine ev_kOr_f ?_)
  | (with_reducible refine ev_if ?_)
  | (with_reducible refine ev_kIf_t ?_)
  | (with_reducible refine ev_kIf_f ?_)
  | (with_reducible refine ev_andV ?_)
  | (with_reducible refine ev_orV ?_)
  | (with_reducible refine ev_kAndV_t ?_)
  | (with_reducible refine ev_kAndV_f ?_)
  | (with_reducible refine ev_kOrV_t ?_)
  | (with_reducible refine ev_kOrV_f ?_)
  | (with_reducible refine ev_notV ?_)
  | (with_reducible refine ev_kNotV ?_)
  | (with_reducible refine ev_isi ?_)
  | (with_reducible refine ev_nil ?_)
  | (with_reducible refine ev_kCons2 ?_)
  | (with_reducible refine ev_cons ?_)
  | (with_reducible refine ev_kCons1_dat ?_)
  | (with_reducible refine ev_kCons1_fn ?_)
  | (with_reducible refine ev_kCons1_own ?_)
  | (with_reducible refine ev_kCons1_lst ?_)
  | (with_reducible refine ev_star ?_)
  | (with_reducible refine ev_kStar2 ?_)
  | (with_reducible refine ev_tup ?_)
  | (with_reducible refine ev_lst ?_)
  | (with_reducible refine ev_noPart ?_)
  | (with_reducible refine ev_part ?_)
  | (with_reducible refine ev_kPart ?_)
  | (with_reducible refine ev_sl ?_)
  | (with_reducible refine ev_kSl1 ?_)
  | (with_reducible refine ev_kSl2 ?_)
  | (with_reducible refine ev_rev ?_)
  | (with_reducible refine ev_call ?_)
  | (with_reducible refine ev_max2 ?_)
  | (with_reducible refine ev_min2 ?_)
  | (with_reducible refine ev_int1 ?_)
  | (with_reducible refine ev_user ?_)
  | (with_reducible refine ev_app ?_)
  | (with_reducible refine ev_ext ?_)
  | (with_reducible refine ev_lc ?_)
  | ((with_reducible refine' ev_name ?k0 ?k1 ?_); (case k0 => rfl); (case k1 => rfl))
  | ((with_reducible refine' ev_nameO ?k0 ?k1 ?_); (case k0 => rfl); (case k1 => rfl))
  | ((with_reducible refine' ev_nameF_dat ?k0 ?_); (case k0 => rfl))
  | ((with_reducible refine' ev_nameF_fn ?k0 ?_); (case k0 => rfl))
  | ((with_reducible refine' ev_nameF_arg ?k0 ?_); (case k0 => rfl))
  | ((with_reducible refine' ev_nameF_lst ?k0 ?_); (case k0 => rfl))
  | ((with_reducible refine' ev_kSet_dat ?k0 ?_); (case k0 => rfl))
  | ((with_reducible refine' ev_kSet_lst ?k0 ?_); (case k0 => rfl))
  | ((with_reducible refine' ev_kSet_fn ?k0 ?_); (case k0 => rfl))
  | ((with_reducible refine' ev_kPar ?k0 ?k1 ?k2 ?k3 ?_); (case k0 => rfl); (case k1 => rfl); (case k2 => rfl); (case k3 => rfl))
  | ((with_reducible refine' ev_kAsg ?k0 ?_); (case k0 => rfl))
  | ((with_reducible refine' ev_aug ?k0 ?_); (case k0 => rfl))
  | ((with_reducible refine' ev_kAug ?k0 ?_); (case k0 => rfl))
  | ((with_reducible refine' ev_kPut3 ?k0 ?k1 ?_); (case k0 => rfl); (case k1 => rfl))
  | ((with_reducible refine' ev_ix ?k0 ?k1 ?_); (case k0 => rfl); (case k1 => rfl))
  | ((with_reducible refine' ev_kTru ?k0 ?_); (case k0 => rfl))
  | ((with_reducible refine' ev_kIsi ?k0 ?k1 ?_); (case k0 => rfl); (case k1 => rfl))
  | ((with_reducible refine' ev_kStar1 ?k0 ?_); (case k0 => rfl))
  | ((with_reducible refine' ev_kSl3_t ?k0 ?_); (case k0 => rfl))
  | ((with_reducible refine' ev_kSl3_l ?k0 ?_); (case k0 => rfl))
  | ((with_reducible refine' ev_kRev_t ?k0 ?_); (case k0 => rfl))
  | ((with_reducible refine' ev_kRev_l ?k0 ?_); (case k0 => rfl))
  | ((with_reducible refine' ev_len ?k0 ?_); (case k0 => rfl))
  | ((with_reducible refine' ev_tuple ?k0 ?_); (case k0 => rfl))
  | ((with_reducible refine' ev_list ?k0 ?_); (case k0 => rfl))
  | ((with_reducible refine' ev_kApp1 ?k0 ?_); (case k0 => rfl))
  | ((with_reducible refine' ev_kExt1 ?k0 ?_); (case k0 => rfl))
  | ((with_reducible refine' ev_kRet_own ?k0 ?_); (case k0 => rfl))
  | ((with_reducible refine' ev_kTup ?k0 ?k1 ?_); (case k0 => rfl); (case k1 => simp [sizeLine]))
  | ((with_reducible refine' ev_kLst ?k0 ?k1 ?_); (case k0 => rfl); (case k1 => simp [sizeLine]))
  | (with_reducible refine ev_nx ?_)
  | (with_reducible refine ev_rt ?_)
  | (with_reducible refine ev_bk ?_)
  | (with_reducible refine ev_ct ?_)
)
local macro_rules | `(tactic| walk_at "evs") => `(tactic| repeat (walk_at "ev"))
def rU (x : Slab Unit) : RP := (x.1, .int x.2.1)
def rR (r : Row) : RRow := r.map rU
def rY (y : Slab Row) : Slab RRow := (y.1, y.2.1, rR y.2.2)
def rL (l : Lay) : RLay := l.map rY
def rZ (z : Slab Lay) : Slab RLay := (z.1, z.2.1, rL z.2.2)
def rS (s : Sol) : RSol := s.map rZ
theorem eRR_rR (r : Row) : eRR (rR r) = eRow r := by unfold eRR rR eRow; rw [List.map_map]; rfl
theorem eS_rY (y : Slab Row) : eS eRR (rY y) = eS eRow y := by unfold eS rY; rw [eRR_rR]
theorem map_rL (l : Lay) : (rL l).map (eS eRR) = l.map (eS eRow) := by
  unfold rL; rw [List.map_map]; exact List.map_congr_left fun y _ => eS_rY y
theorem eRL_rL (l : Lay) : eRL (rL l) = eLay l := by show PyData.tuple _ = PyData.tuple _; rw [map_rL]
theorem eS_rZ (z : Slab Lay) : eS eRL (rZ z) = eS eLay z := by unfold eS rZ; rw [eRL_rL]
theorem map_rS (s : Sol) : (rS s).map (eS eRL) = s.map (eS eLay) := by
  unfold rS; rw [List.map_map]; exact List.map_congr_left fun z _ => eS_rZ z
theorem eRS_rS (s : Sol) : eRS (rS s) = eSol s := by show PyData.tuple _ = PyData.tuple _; rw [map_rS]
def GoodY (y : Slab RRow) : Prop := (∀ p ∈ y.2.2, RawP p) ∧ y.2.2.length ≤ 30
def GoodZ (z : Slab RLay) : Prop := z.2.2.length ≤ 30 ∧ ∀ y ∈ z.2.2, GoodY y
def GoodT (T : RSol) : Prop := T.length ≤ 30 ∧ ∀ z ∈ T, GoodZ z
/-- solids of few boxes, nothing empty in them -/
structure FewS (S : Sol) : Prop where
  z : S.length ≤ 24
  y : ∀ z ∈ S, z.2.2.length ≤ 24 ∧ z.2.2 ≠ []
  x : ∀ z ∈ S, ∀ y ∈ z.2.2, y.2.2.length ≤ 24 ∧ y.2.2 ≠ []
theorem rawR (r : Row) : ∀ p ∈ rR r, RawP p := fun p m => by
  obtain ⟨x, _, rfl⟩ := List.mem_map.mp m
  exact .inr ⟨_, rfl⟩
theorem good_rY {S : Sol} (h : FewS S) {z : Slab Lay} (mz : z ∈ S) {y : Slab Row} (my : y ∈ z.2.2) : GoodY (rY y) := ⟨rawR _, by have := (h.x z mz y my).1; show (rR y.2.2).length ≤ 30; unfold rR; rw [List.length_map]; omega⟩
theorem good_rZ {S : Sol} (h : FewS S) {z : Slab Lay} (mz : z ∈ S) : GoodZ (rZ z) := ⟨by have := (h.y z mz).1; show (rL z.2.2).length ≤ 30; unfold rL; rw [List.length_map]; omega, fun y m => by
  obtain ⟨x, mx, rfl⟩ := List.mem_map.mp m
  exact good_rY h mz mx⟩
theorem good_rS {S T : Sol} (h : FewS S) (hl : T.length ≤ 30) (hm : ∀ z ∈ T, z ∈ S) : GoodT (rS T) := ⟨by unfold rS; rw [List.length_map]; exact hl, fun z m => by
  obtain ⟨x, mx, rfl⟩ := List.mem_map.mp m
  exact good_rZ h (hm x mx)⟩
theorem cut_lo1' {α : Type} (xs : List α) (n : Nat) : cutD xs (some ((n : Int) + 1)) none = xs.drop (n + 1) := cut_lo xs (n + 1)
def sp__law_bent : DSpec := fun ds K' => ∃ (ns : List Int) (k : Int) (S : Sol), ds = [.arg (eDr ns k), .dat (eSol S)] ∧ 0 ≤ k ∧ k ≤ 1000 ∧ S ≠ [] ∧ FewS S ∧
  (∀ T, GoodT T → K' (.dat (eRS T)) [.arg (eDr ns (k + 1 + 1 + 1)), .dat (eSol S)]) ∧ K' (.lst (S.map (eS eLay))) [.arg (eDr ns (k + 1 + 1 + 1)), .dat (eSol S)]
theorem idx {α : Type} {xs : List α} {r : Int} (h0 : 0 ≤ r) (h1 : r < xs.length) : ∃ (j : Nat) (x : α), r = (j : Int) ∧ xs[j]? = some x ∧ x ∈ xs ∧ j < xs.length := by
  obtain ⟨j, rfl⟩ := Int.eq_ofNat_of_zero_le h0
  have hj : j < xs.length := by omega
  exact ⟨j, xs[j], rfl, List.getElem?_eq_getElem hj, List.getElem_mem hj, hj⟩
theorem pos_len {α : Type} {xs : List α} (h : xs ≠ []) : (0 : Int) < (xs.length : Nat) := by
  have := List.length_pos_iff.mpr h
  omega
theorem wp__law_bent : ∀ ds K', sp__law_bent ds K' → W__law_bent sp__law_next { nx := fun ρ => K' (.dat .none) (outsOf ds ρ), rt := fun r ρ => K' r (outsOf ds ρ) } (startD N__law_bent ds) := by
  rintro ds K' ⟨ns, k, S, rfl, hk, hk2, hne, fs, q, ql⟩
  have szl : sizeLine = 16777216 := rfl
  unfold W__law_bent
  walk_at "evs"
  rw [List.length_map]
  refine ev_draw (own := true) (k := k) rfl hk (by omega) (pos_len hne) fun r1 h10 h11 => ?_
  obtain ⟨a, z, rfl, hz, mz, la⟩ := idx h10 h11
  walk_at "evs"
  refine ev_ix (b := true) rfl (atI_map hz) ?_
  refine ev_kAsg (ρ2 := [some (.arg (eDr ns (k + 1))), some (.dat (eSol S)), some (.dat (.int a)), some (.dat (.int z.1)), some (.dat (.int z.2.1)), some (.dat (eLay z.2.2)), none, none, none, none, none]) rfl ?_
  walk_at "evs"
  rw [List.length_map]
  refine ev_draw (own := true) (k := k + 1) rfl (by omega) (by omega) (pos_len (fs.y z mz).2) fun r2 h20 h21 => ?_
  obtain ⟨p, y, rfl, hy, my, lp⟩ := idx h20 h21
  walk_at "evs"
  refine ev_ix (b := true) rfl (atI_map hy) ?_
  refine ev_kAsg (ρ2 := [some (.arg (eDr ns (k + 1 + 1))), some (.dat (eSol S)), some (.dat (.int a)), some (.dat (.int z.1)), some (.dat (.int z.2.1)), some (.dat (eLay z.2.2)), some (.dat (.int p)), some (.dat (.int y.1)), some (.dat (.int y.2.1)), some (.dat (eRow y.2.2)), none]) rfl ?_
  walk_at "evs"
  refine ev_draw (own := true) (k := k + 1 + 1) rfl (by omega) (by omega) (by decide) fun kind h30 h31 => ?_
  have lS := fs.z
  have lz := (fs.y z mz).1
  have ly := (fs.x z mz y my).1
  -- what comes of a slab in the place of one
  have fin : ∀ (z' : Slab RLay) (w : PyData), w = eS eRL z' → GoodZ z' → K' (.dat (.tuple (cutD (S.map (eS eLay)) none (some (a : Int)) ++ [w] ++ cutD (S.map (eS eLay)) (some ((a : Int) + 1)) none))) [.arg (eDr ns (k + 1 + 1 + 1)), .dat (eSol S)] := fun z' w hw gz => by
    subst hw
    rw [cut_hi, cut_lo1']
    have e : eRS (rS (S.take a) ++ [z'] ++ rS (S.drop (a + 1))) = .tuple ((S.map (eS eLay)).take a ++ [eS eRL z'] ++ (S.map (eS eLay)).drop (a + 1)) := by
      show PyData.tuple _ = PyData.tuple _
      rw [List.map_append, List.map_append, map_rS, map_rS, List.map_take, List.map_drop]
      rfl
    rw [← e]
    refine q _ ⟨?_, fun w m => ?_⟩
    · simp [rS]; omega
    · rcases List.mem_append.mp m with m | m
      · rcases List.mem_append.mp m with m | m
        · obtain ⟨x, mx, rfl⟩ := List.mem_map.mp m
          exact good_rZ fs (List.mem_of_mem_take mx)
        · have : w = z' := by simpa using m
          rw [this]; exact gz
      · obtain ⟨x, mx, rfl⟩ := List.mem_map.mp m
        exact good_rZ fs (List.mem_of_mem_drop mx)
  have lc : (cutD (S.map (eS eLay)) none (some (a : Int))).length ≤ 24 ∧ (cutD (S.map (eS eLay)) (some ((a : Int) + 1)) none).length ≤ 24 := by
    rw [cut_hi, cut_lo1', List.length_take, List.length_drop, List.length_map]; omega
  have lc2 : (cutD (z.2.2.map (eS eRow)) none (some (p : Int))).length ≤ 24 ∧ (cutD (z.2.2.map (eS eRow)) (some ((p : Int) + 1)) none).length ≤ 24 := by
    rw [cut_hi, cut_lo1', List.length_take, List.length_drop, List.length_map]; omega
  have fin2 : ∀ (y' : Slab RRow) (w7 w8 w9 : PyData) (D : DE) (kd : Int), D.rt = (fun r ρ => K' r (outsOf [.arg (eDr ns k), .dat (eSol S)] ρ)) → w7 = .int y'.1 → w8 = .int y'.2.1 → w9 = eRR y'.2.2 → GoodY y' →
      wRet (wBin oCat (wBin oCat (wSl (wName 1) wNoPart (wPart (wName 2))) (wTup (wCons (wTup (wCons (wName 3) (wCons (wName 4) (wCons (wBin oCat (wBin oCat (wSl (wName 5) wNoPart (wPart (wName 6))) (wTup (wCons (wTup (wCons (wName 7) (wCons (wName 8) (wCons (wName 9) wNil)))) wNil))) (wSl (wName 5) (wPart (wBin oAdd (wName 6) (wC (.int 1)))) wNoPart)) wNil)))) wNil))) (wSl (wName 1) (wPart (wBin oAdd (wName 2) (wC (.int 1)))) wNoPart)) D
      [some (.arg (eDr ns (k + 1 + 1 + 1))), some (.dat (eSol S)), some (.dat (.int a)), some (.dat (.int z.1)), some (.dat (.int z.2.1)), some (.dat (eLay z.2.2)), some (.dat (.int p)), some (.dat w7), some (.dat w8), some (.dat w9), some (.dat (.int kd))] := by
    rintro y' w7 w8 w9 ⟨n, r, b', c'⟩ kd hD h7 h8 h9 gy
    have hD : r = _ := hD
    subst hD h7 h8 h9
    walk_at "evs"
    refine ev_cat (by have := lc2.1; simp only [List.length_cons, List.length_nil]; omega) ?_
    walk_at "evs"
    refine ev_cat (by have := lc2; simp only [List.length_append, List.length_cons, List.length_nil]; omega) ?_
    walk_at "evs"
    refine ev_cat (by have := lc.1; simp only [List.length_cons, List.length_nil]; omega) ?_
    walk_at "evs"
    refine ev_cat (by have := lc; simp only [List.length_append, List.length_cons, List.length_nil]; omega) ?_
    walk_at "evs"
    refine fin (z.1, z.2.1, rL (z.2.2.take p) ++ [y'] ++ rL (z.2.2.drop (p + 1))) _ ?_ ⟨?_, fun w m => ?_⟩
    · have e : eRL (rL (z.2.2.take p) ++ [y'] ++ rL (z.2.2.drop (p + 1))) = .tuple (cutD (z.2.2.map (eS eRow)) none (some (p : Int)) ++ [eS eRR y'] ++ cutD (z.2.2.map (eS eRow)) (some ((p : Int) + 1)) none) := by
        rw [cut_hi, cut_lo1']
        show PyData.tuple _ = PyData.tuple _
        rw [List.map_append, List.map_append, map_rL, map_rL, List.map_take, List.map_drop]
        rfl
      show _ = PyData.tuple [_, _, eRL _]
      dsimp only
      rw [e]
      rfl
    · simp [rL]; omega
    · rcases List.mem_append.mp m with m | m
      · rcases List.mem_append.mp m with m | m
        · obtain ⟨x, mx, rfl⟩ := List.mem_map.mp m
          exact good_rY fs mz (List.mem_of_mem_take mx)
        · have : w = y' := by simpa using m
          rw [this]; exact gy
      · obtain ⟨x, mx, rfl⟩ := List.mem_map.mp m
        exact good_rY fs mz (List.mem_of_mem_drop mx)
  have gz := good_rZ fs mz
  have gy := good_rY fs mz my
  walk_at "evs"
  refine ev_kIfS (fun h => ?_) (fun _ => ?_)
  · -- a slab less
    walk_at "evs"
    refine ev_cat (by have := lc; omega) ?_
    walk_at "evs"
    have e : (.tuple (cutD (S.map (eS eLay)) none (some (a : Int)) ++ cutD (S.map (eS eLay)) (some ((a : Int) + 1)) none) : PyData) = eRS (rS (S.take a ++ S.drop (a + 1))) := by
      rw [cut_hi, cut_lo1', eRS_rS]
      show PyData.tuple _ = PyData.tuple _
      rw [List.map_append, List.map_take, List.map_drop]
    rw [e]
    refine q _ (good_rS fs (by simp; omega) fun w m => ?_)
    rcases List.mem_append.mp m with m | m
    · exact List.mem_of_mem_take m
    · exact List.mem_of_mem_drop m
  walk_at "evs"
  refine ev_kIfS (fun h => ?_) (fun _ => ?_)
  · -- back to front
    walk_at "evs"
    have e : (.tuple (S.map (eS eLay)).reverse : PyData) = eRS (rS S.reverse) := by
      rw [eRS_rS]
      show PyData.tuple _ = PyData.tuple _
      rw [List.map_reverse]
    rw [e]
    exact q _ (good_rS fs (by simp; omega) fun w m => List.mem_reverse.mp m)
  walk_at "evs"
  refine ev_kIfS (fun h => ?_) (fun _ => ?_)
  · walk_at "evs"
    refine ev_cat (by have := lc.1; simp only [List.length_cons, List.length_nil]; omega) ?_
    walk_at "evs"
    refine ev_cat (by have := lc; simp only [List.length_append, List.length_cons, List.length_nil]; omega) ?_
    walk_at "evs"
    exact fin (z.1, z.2.1 + 1, rL z.2.2) _ (by unfold eS; rw [eRL_rL]) gz
  walk_at "evs"
  refine ev_kIfS (fun h => ?_) (fun _ => ?_)
  · walk_at "evs"
    exact ql
  walk_at "evs"
  refine ev_kIfS (fun h => ?_) (fun _ => ?_)
  · walk_at "evs"
    refine ev_cat (by have := lc.1; simp only [List.length_cons, List.length_nil]; omega) ?_
    walk_at "evs"
    refine ev_cat (by have := lc; simp only [List.length_append, List.length_cons, List.length_nil]; omega) ?_
    walk_at "evs"
    exact fin (z.1, z.2.1, []) _ rfl ⟨by simp, fun _ m => nomatch m⟩
  walk_at "evs"
  refine ev_kIfS (fun h => ?_) (fun _ => ?_)
  · walk_at "evs"
    refine ev_cat (by have := lc.1; simp only [List.length_cons, List.length_nil]; omega) ?_
    walk_at "evs"
    refine ev_cat (by have := lc; simp only [List.length_append, List.length_cons, List.length_nil]; omega) ?_
    walk_at "evs"
    exact fin (z.2.1, z.1, rL z.2.2) _ (by unfold eS; rw [eRL_rL]) gz
  obtain ⟨L, l, eL⟩ := (nil_or_last y.2.2).resolve_left (fs.x z mz y my).2
  obtain ⟨x0, R0, eR⟩ : ∃ x0 R0, y.2.2 = x0 :: R0 := by
    cases h : y.2.2 with
    | nil => exact absurd h (fs.x z mz y my).2
    | cons x r => exact ⟨x, r, rfl⟩
  have at1 : atI (y.2.2.map eU) (-1) = some (eU l) := by rw [eL, List.map_append]; exact atI_last _ _
  have at0 : atI (y.2.2.map eU) 0 = some (eU x0) := by rw [eR]; exact atI_nat (j := 0) rfl
  with_reducible refine ev_next ?_
  with_reducible refine ev_nx ?_
  refine ev_seq_cut (fun ρ => ∃ (y' : Slab RRow), GoodY y' ∧ ρ = [some (.arg (eDr ns (k + 1 + 1 + 1))), some (.dat (eSol S)), some (.dat (.int a)), some (.dat (.int z.1)), some (.dat (.int z.2.1)), some (.dat (eLay z.2.2)), some (.dat (.int p)), some (.dat (.int y'.1)), some (.dat (.int y'.2.1)), some (.dat (eRR y'.2.2)), some (.dat (.int kind))]) ?_ ?_
  · rintro ρ ⟨y', gy', rfl⟩
    exact fin2 y' _ _ _ _ _ rfl rfl rfl rfl gy'
  intro N hN
  walk_at "evs"
  refine ev_kIfS (fun h => ?_) (fun _ => ?_)
  · walk_at "evs"
    refine ev_ix (b := true) rfl at1 ?_
    walk_at "evs"
    refine ev_ix (b := true) rfl at1 ?_
    walk_at "evs"
    refine ev_cat (by rw [List.length_map]; simp only [List.length_cons, List.length_nil]; omega) ?_
    walk_at "evs"
    have e0 : eRR (rR y.2.2 ++ [(l.2.1, .int (l.2.1 + 1))]) = .tuple (y.2.2.map eU ++ [.tuple [.int l.2.1, .int (l.2.1 + 1)]]) := by
      show PyData.tuple (List.map eRP (_ ++ _)) = _
      rw [List.map_append]
      have e : (rR y.2.2).map eRP = y.2.2.map eU := by unfold rR; rw [List.map_map]; rfl
      rw [e]; rfl
    refine hN _ ⟨(y.1, y.2.1, rR y.2.2 ++ [(l.2.1, .int (l.2.1 + 1))]), ⟨fun w m => ?_, ?_⟩, by rw [e0]; rfl⟩
    · rcases List.mem_append.mp m with m | m
      · exact rawR _ w m
      · have : w = (l.2.1, .int (l.2.1 + 1)) := by simpa using m
        rw [this]; exact .inr ⟨_, rfl⟩
    · simp [rR]; omega
  walk_at "evs"
  refine ev_kIfS (fun h => ?_) (fun _ => ?_)
  · walk_at "evs"
    refine ev_ix (b := true) rfl at0 ?_
    walk_at "evs"
    refine ev_cat (by rw [cut_lo1, List.length_drop, List.length_map]; simp only [List.length_cons, List.length_nil]; omega) ?_
    walk_at "evs"
    have e0 : eRR ((x0.1, .bool true) :: rR R0) = .tuple ([.tuple [.int x0.1, .bool true]] ++ cutD (y.2.2.map eU) (some 1) none) := by
      show PyData.tuple (_ :: (rR R0).map eRP) = _
      have e : (rR R0).map eRP = R0.map eU := by unfold rR; rw [List.map_map]; rfl
      rw [e, cut_lo1, eR]; rfl
    refine hN _ ⟨(y.1, y.2.1, (x0.1, .bool true) :: rR R0), ⟨fun w m => ?_, ?_⟩, by rw [e0]; rfl⟩
    · rcases List.mem_cons.mp m with rfl | m
      · exact .inl rfl
      · exact rawR _ w m
    · rw [eR] at ly; simp [rR] at ly ⊢; omega
  walk_at "evs"
  refine ev_kIfS (fun h => ?_) (fun _ => ?_)
  · walk_at "evs"
    have e0 : eRR (rR y.2.2.reverse) = .tuple (y.2.2.map eU).reverse := by
      rw [eRR_rR]
      show PyData.tuple _ = PyData.tuple _
      rw [List.map_reverse]
    refine hN _ ⟨(y.1, y.2.1, rR y.2.2.reverse), ⟨rawR _, ?_⟩, by rw [e0]; rfl⟩
    simp [rR]; omega
  walk_at "evs"
  refine ev_kIfS (fun h => ?_) (fun _ => ?_)
  · walk_at "evs"
    exact hN _ ⟨(y.1, y.2.1 + 1, rR y.2.2), ⟨rawR _, gy.2⟩, by rw [eRR_rR]; rfl⟩
  · walk_at "evs"
    exact hN _ ⟨(y.1, y.2.1, []), ⟨(fun _ m => nomatch m), by simp⟩, rfl⟩

end K5
end
section
set_option Elab.async false
set_option linter.all false
set_option maxRecDepth 100000
set_option maxHeartbeats 1000000
namespace K5
open PySem L2 DL SM
local macro_rules | `(tactic| walk_at "ev") => `(tactic| first
  | (with_reducible refine ev_seq ?_)
  | (with_reducible refine ev_next ?_)
  | (with_reducible refine ev_break ?_)
  | (with_reducible refine ev_cont ?_)
  | (with_reducible refine ev_expr ?_)
  | (with_reducible refine ev_kExpr ?_)
  | (with_reducible refine ev_ret ?_)
  | (with_reducible refine ev_retN ?_)
  | (with_reducible refine ev_kRet_dat ?_)
  | (with_reducible refine ev_kRet_lst ?_)
  | (with_reducible refine ev_ifS ?_)
  | (with_reducible refine ev_kIfS_t ?_)
  | (with_reducible refine ev_kIfS_f ?_)
  | (with_reducible refine ev_set ?_)
  | (with_reducible refine ev_par ?_)
  | (with_reducible refine ev_asg ?_)
  | (with_reducible refine ev_put ?_)
  | (with_reducible refine ev_kPut1 ?_)
  | (with_reducible refine ev_kPut2 ?_)
  | (with_reducible refine ev_for ?_)
  | (with_reducible refine ev_kFor ?_)
  | (with_reducible refine ev_seqI ?_)
  | (with_reducible refine ev_kSeqI_l ?_)
  | (with_reducible refine ev_kSeqI_t ?_)
  | (with_reducible refine ev_kSeqI_n ?_)
  | (with_reducible refine ev_rng1 ?_)
  | (with_reducible refine ev_rng2 ?_)
  | (with_reducible refine ev_rng3 ?_)
  | (with_reducible refine ev_c ?_)
  | (with_reducible refine ev_fn ?_)
  | (with_reducible refine ev_bin ?_)
  | (with_reducible refine ev_kBin1 ?_)
  | (with_reducible refine ev_intT ?_)
  | (with_reducible refine ev_eqI ?_)
  | (with_reducible refine ev_neI ?_)
  | (with_reducible refine ev_isN ?_)
  | (with_reducible refine ev_neg ?_)
  | (with_reducible refine ev_kNeg ?_)
  | (with_reducible refine ev_not ?_)
  | (with_reducible refine ev_kNot ?_)
  | (with_reducible refine ev_test ?_)
  | (with_reducible refine ev_kTest ?_)
  | (with_reducible refine ev_tru ?_)
  | (with_reducible refine ev_and ?_)
  | (with_reducible refine ev_or ?_)
  | (with_reducible refine ev_kAnd_t ?_)
  | (with_reducible refine ev_kAnd_f ?_)
  | (with_reducible refine ev_kOr_t ?_)
  | (with_reducible refine ev_kOr_f ?_)
  | (with_reducible refine ev_if ?_)
  | (with_reducible refine ev_kIf_t ?_)
  | (with_reducible refine ev_kIf_f ?_)
  | (with_reducible refine ev_andV ?_)
  | (with_reducible refine ev_orV ?_)
  | (with_reducible refine ev_kAndV_t ?_)
  | (with_reducible refine ev_kAndV_f ?_)
  | (with_reducible refine ev_kOrV_t ?_)
  | (with_reducible refine ev_kOrV_f ?_)
  | (with_reducible refine ev_notV ?_)
  | (with_reducible refine ev_kNotV ?_)
  | (with_reducible refine ev_isi ?_)
  | (with_reducible refine ev_nil ?_)
  | (with_reducible refine ev_kCons2 ?_)
  | (with_reducible refine ev_cons ?_)
  | (with_reducible refine ev_kCons1_dat ?_)
  | (with_reducible refine ev_kCons1_fn ?_)
  | (with_reducible refine ev_kCons1_own ?_)
  | (with_reducible refine ev_kCons1_lst ?_)
  | (with_reducible refine ev_star ?_)
  | (with_reducible refine ev_kStar2 ?_)
  | (with_reducible refine ev_tup ?_)
  | (with_reducible refine ev_lst ?_)
  | (with_reducible refine ev_noPart ?_)
  | (with_reducible refine ev_part ?_)
  | (with_reducible refine ev_kPart ?_)
  | (with_reducible refine ev_sl ?_)
  | (with_reducible refine ev_kSl1 ?_)
  | (with_reducible refine ev_kSl2 ?_)
  | (with_reducible refine ev_rev ?_)
  | (with_reducible refine ev_call ?_)
  | (with_reducible refine ev_max2 ?_)
  | (with_reducible refine ev_min2 ?_)
  | (with_reducible refine ev_int1 ?_)
  | (with_reducible refine ev_user ?_)
  | (with_reducible refine ev_app ?_)
  | (with_reducible refine ev_ext ?_)
  | (with_reducible refine ev_lc ?_)
  | ((with_reducible refine' ev_name ?k0 ?k1 ?_); (case k0 => rfl); (case k1 => rfl))
  | ((with_reducible refine' ev_nameO ?k0 ?k1 ?_); (case k0 => rfl); (case k1 => rfl))
  | ((with_reducible refine' ev_nameF_dat ?k0 ?_); (case k0 => rfl))
  | ((with_reducible refine' ev_nameF_fn ?k0 ?_); (case k0 => rfl))
  | ((with_reducible refine' ev_nameF_arg ?k0 ?_); (case k0 => rfl))
  | ((with_reducible refine' ev_nameF_lst ?k0 ?_); (case k0 => rfl))
  | ((with_reducible refine' ev_kSet_dat ?k0 ?_); (case k0 => rfl))
  | ((with_reducible refine' ev_kSet_lst ?k0 ?_); (case k0 => rfl))
  | ((with_reducible refine' ev_kSet_fn ?k0 ?_); (case k0 => rfl))
  | ((with_reducible refine' ev_kPar ?k0 ?k1 ?k2 ?k3 ?_); (case k0 => rfl); (case k1 => rfl); (case k2 => rfl); (case k3 => rfl))
  | ((with_reducible refine' ev_kAsg ?k0 ?_); (case k0 => rfl))
  | ((with_reducible refine' ev_aug ?k0 ?_); (case k0 => rfl))
  | ((with_reducible refine' ev_kAug ?k0 ?_); (case k0 => rfl))
  | ((with_reducible refine' ev_kPut3 ?k0 ?k1 ?_); (case k0 => rfl); (case k1 => rfl))
  | ((with_reducible refine' ev_ix ?k0 ?k1 ?_); (case k0 => rfl); (case k1 => rfl))
  | ((with_reducible refine' ev_kTru ?k0 ?_); (case k0 => rfl))
  | ((with_reducible refine' ev_kIsi ?k0 ?k1 ?_); (case k0 => rfl); (case k1 => rfl))
  | ((with_reducible refine' ev_kStar1 ?k0 ?_); (case k0 => rfl))
  | ((with_reducible refine' ev_kSl3_t ?k0 ?_); (case k0 => rfl))
  | ((with_reducible refine' ev_kSl3_l ?k0 ?_); (case k0 => rfl))
  | ((with_reducible refine' ev_kRev_t ?k0 ?_); (case k0 => rfl))
  | ((with_reducible refine' ev_kRev_l ?k0 ?_); (case k0 => rfl))
  | ((with_reducible refine' ev_len ?k0 ?_); (case k0 => rfl))
  | ((with_reducible refine' ev_tuple ?k0 ?_); (case k0 => rfl))
  | ((with_reducible refine' ev_list ?k0 ?_); (case k0 => rfl))
  | ((with_reducible refine' ev_kApp1 ?k0 ?_); (case k0 => rfl))
  | ((with_reducible refine' ev_kExt1 ?k0 ?_); (case k0 => rfl))
  | ((with_reducible refine' ev_kRet_own ?k0 ?_); (case k0 => rfl))
  | ((with_reducible refine' ev_kTup ?k0 ?k1 ?_); (case k0 => rfl); (case k1 => simp [sizeLine]))
  | ((with_reducible refine' ev_kLst ?k0 ?k1 ?_); (case k0 => rfl); (case k1 => simp [sizeLine]))
  | (with_reducible refine ev_nx ?_)
  | (with_reducible refine ev_rt ?_)
  | (with_reducible refine ev_bk ?_)
  | (with_reducible refine ev_ct ?_)
)
local macro_rules | `(tactic| walk_at "evs") => `(tactic| repeat (walk_at "ev"))
/-! ### mathematics of the law -/
theorem Form.tr {β : Type} {E : Int → Prop} {G G' : β → Prop} {L : List (Slab β)} (h : Form E G L) (hg : ∀ x, G x → G' x) : Form Tr G' L := Form.imp (fun _ _ => trivial) hg h
theorem frow_tr {E : Int → Prop} {r : Row} (h : FRow E r) : FRow Tr r := ⟨Form.tr h.1 fun _ h => h, h.2⟩
theorem flay_tr {E : Int → Prop} {r : Lay} (h : FLay E r) : FLay Tr r := ⟨Form.tr h.1 fun _ h => frow_tr h, h.2⟩
theorem fsol_tr {E : Int → Prop} {r : Sol} (h : FSol E r) : FSol Tr r := Form.tr h fun _ h => flay_tr h
theorem at_any {β γ : Type} {E : Int → Prop} {G : β → Prop} {C : β → γ → Bool} {p : γ} {z : Int} : ∀ {L : List (Slab β)}, Form E G L → lift C (at' L z) p = L.any fun s => decide (s.1 ≤ z ∧ z < s.2.1) && C s.2.2 p
  | [], _ => rfl
  | s :: r, h => by
    rw [List.any_cons]
    unfold at'
    by_cases hz : s.1 ≤ z ∧ z < s.2.1
    · rw [if_pos hz, decide_eq_true hz]
      have : (r.any fun t => decide (t.1 ≤ z ∧ z < t.2.1) && C t.2.2 p) = false := by
        rw [List.any_eq_false]
        intro t m
        have := Form.above h t m
        rw [decide_eq_false (by omega)]
        simp
      rw [this, Bool.or_false]; rfl
    · rw [if_neg hz, decide_eq_false hz, at_any h.2.2]
      simp
theorem any_and {α : Type} {c : Bool} {f : α → Bool} : ∀ l : List α, (l.any fun x => c && f x) = (c && l.any f)
  | [] => by simp
  | x :: l => by rw [List.any_cons, any_and l, List.any_cons]; cases c <;> simp
theorem any_congr' {α : Type} {f g : α → Bool} : ∀ l : List α, (∀ x ∈ l, f x = g x) → l.any f = l.any g
  | [], _ => rfl
  | x :: l, h => by rw [List.any_cons, List.any_cons, h x List.mem_cons_self, any_congr' l fun y m => h y (List.mem_cons_of_mem _ m)]
theorem cells_boxes {E : Int → Prop} {P : Sol} (h : FSol E P) (p : Int × Int × Int) : (boxesOf P).any (inB · p) = cS P p := by
  show _ = lift cL (at' P p.1) p.2
  rw [at_any h]
  unfold boxesOf
  rw [List.any_flatMap]
  refine any_congr' P fun z mz => ?_
  have hz := (Form.mem h z mz).g
  show _ = (_ && lift cR (at' z.2.2 p.2.1) p.2.2)
  rw [at_any hz.1]
  unfold boxesZ
  rw [List.any_flatMap, ← any_and]
  refine any_congr' z.2.2 fun y my => ?_
  have hy := (Form.mem hz.1 y my).g
  show _ = (_ && (_ && lift cU (at' y.2.2 p.2.2) ()))
  rw [at_any hy.1]
  unfold boxesY
  rw [List.any_map, ← any_and, ← any_and]
  refine any_congr' y.2.2 fun x mx => ?_
  show inB (boxY z y x) p = _
  unfold inB
  show (_ && (_ && _)) = (_ && (_ && (_ && true)))
  rw [Bool.and_true]
  rfl
theorem eRP_inj : ∀ x y : RP, eRP x = eRP y → x = y := fun x y h => by
  obtain ⟨a, b⟩ := x
  obtain ⟨c, d⟩ := y
  simp [eRP] at h
  rw [h.1, h.2]
theorem eRR_inj (r q : RRow) (h : eRR r = eRR q) : r = q := map_inj eRP_inj (by simpa [eRR] using h)
theorem eRS_inj {T U : RSol} (h : eRS T = eRS U) : T = U := eSl_inj (fun _ _ h => eSl_inj eRR_inj h) h
theorem eSol_eq {T : RSol} {P : Sol} (h : eRS T = eSol P) : T = rS P := eRS_inj (by rw [h, eRS_rS])
/-- a form is plain -/
theorem plain_of {E : Int → Prop} {P : Sol} (h : FSol E P) : ∀ z ∈ rS P, plainZ z := fun z m => by
  obtain ⟨z, mz, rfl⟩ := List.mem_map.mp m
  have hz := Form.mem h z mz
  refine ⟨hz.lt, fun y m => ?_⟩
  obtain ⟨y, my, rfl⟩ := List.mem_map.mp m
  have hy := Form.mem hz.g.1 y my
  refine ⟨hy.lt, fun x m => ?_⟩
  obtain ⟨x, mx, rfl⟩ := List.mem_map.mp m
  exact ⟨_, rfl, (Form.mem hy.g.1 x mx).lt⟩
theorem list_of {α β : Type} {f : α → β} : ∀ l : List β, (∀ x ∈ l, ∃ a, x = f a) → ∃ m : List α, l = m.map f
  | [], _ => ⟨[], rfl⟩
  | x :: l, h => by
    obtain ⟨a, rfl⟩ := h x List.mem_cons_self
    obtain ⟨m, rfl⟩ := list_of l fun y my => h y (List.mem_cons_of_mem _ my)
    exact ⟨a :: m, rfl⟩
/-- what is plain is made of rows of ints -/
theorem of_plain {T : RSol} (h : ∀ z ∈ T, plainZ z) : ∃ P : Sol, T = rS P := list_of T fun z mz => by
  obtain ⟨L, e⟩ := list_of (f := rY) z.2.2 fun y my => by
    obtain ⟨r, e⟩ := list_of (f := rU) y.2.2 fun p mp => by
      obtain ⟨i, e, _⟩ := ((h z mz).2 y my).2 p mp
      exact ⟨(p.1, i, ()), by unfold rU; rw [← e]⟩
    exact ⟨(y.1, y.2.1, r), by unfold rY rR; rw [← e]⟩
  exact ⟨(z.1, z.2.1, L), by unfold rZ rL; rw [← e]⟩
theorem len_flat {α β : Type} {f : α → List β} {n : Nat} : ∀ l : List α, (∀ x ∈ l, (f x).length ≤ n) → (l.flatMap f).length ≤ l.length * n
  | [], _ => by simp
  | x :: l, h => by
    rw [List.flatMap_cons, List.length_append, List.length_cons, Nat.succ_mul]
    have h1 := h x List.mem_cons_self
    have h2 := len_flat l fun y my => h y (List.mem_cons_of_mem _ my)
    omega
theorem boxes_few {P : Sol} (h : GoodT (rS P)) : (boxesOf P).length ≤ 27000 := by
  have h1 : P.length ≤ 30 := by have := h.1; unfold rS at this; rwa [List.length_map] at this
  have h2 : ∀ z ∈ P, (boxesZ z).length ≤ 900 := fun z mz => by
    have g := h.2 (rZ z) (List.mem_map_of_mem mz)
    have g1 : z.2.2.length ≤ 30 := by have := g.1; unfold rZ rL at this; rwa [List.length_map] at this
    have g2 : ∀ y ∈ z.2.2, (boxesY z y).length ≤ 30 := fun y my => by
      have k := (g.2 (rY y) (List.mem_map_of_mem my)).2
      unfold boxesY
      rw [List.length_map]
      unfold rY rR at k
      rwa [List.length_map] at k
    have := len_flat (f := boxesY z) z.2.2 g2
    have m : z.2.2.length * 30 ≤ 30 * 30 := Nat.mul_le_mul_right 30 g1
    unfold boxesZ
    omega
  have := len_flat (f := boxesZ) P h2
  have m : P.length * 900 ≤ 30 * 900 := Nat.mul_le_mul_right 900 h1
  unfold boxesOf
  omega
theorem few_sol {E : Int → Prop} {S : Sol} (h : FSol E S) (few : Few E 24) : FewS S where
  z := Form.few few h
  y := fun z mz => by
    have g := (Form.mem h z mz).g
    exact ⟨Form.few few g.1, g.2⟩
  x := fun z mz y my => by
    have g := (Form.mem h z mz).g
    have k := (Form.mem g.1 y my).g
    exact ⟨Form.few few k.1, k.2⟩
theorem nd_rs {T : RSol} (h : GoodT T) : Nd (eRS T) := nd_eSl T fun z mz => nd_eSl z.2.2 fun y my => .tup _ (fun x m => by
  obtain ⟨p, mp, rfl⟩ := List.mem_map.mp m
  refine .tup _ (fun w mw => ?_)
  simp at mw
  rcases mw with rfl | rfl
  · exact .int _
  · rcases (h.2 z mz |>.2 y my).1 p mp with e | ⟨i, e⟩
    · rw [e]; exact .bl _
    · rw [e]; exact .int _)
theorem ev_eqB {neg : Bool} {ρ : Den} {Q : DV → Den → Prop} {a b : Bool} (h : Q (.dat (.bool (if neg then !(a == b) else a == b))) ρ) : kBin2 (oEq neg) (.dat (.bool a)) Q (.dat (.bool b)) ρ := by
  refine ev_eq (d := .bool a) (e := .bool b) rfl rfl (by cases a <;> rfl) (by cases b <;> rfl) ?_
  have e : PyData.eqv (.bool a) (.bool b) = (a == b) := by cases a <;> cases b <;> rfl
  rw [e]; exact h
theorem not_sol1 : ¬ ∃ S, FSol Tr S ∧ (PyData.tuple [.tuple [.int 0, .int 1, .tuple []]]) = eSol S := by
  rintro ⟨S, h, e⟩
  have e2 : eSol [(0, 1, [])] = eSol S := e
  have := eSol_inj _ _ e2
  subst this
  exact (Form.mem h _ List.mem_cons_self).g.2 rfl
theorem bf {b : Bool} {p : Prop} (h : b = true ↔ p) (n : ¬ p) : b = false := by
  cases b with
  | false => rfl
  | true => exact absurd (h.mp rfl) n
set_option maxHeartbeats 4000000 in
theorem wp_law : ∀ ds K', lawSpec 63 ds K' → W_law sp_is_solid sp__law_boxes sp__law_solid sp__law_bent sp__law_is_plain sp__law_inside { nx := fun ρ => K' (.dat .none) (outsOf ds ρ), rt := fun r ρ => K' r (outsOf ds ρ) } (startD N_law ds) := by
  rintro ds K' ⟨ns0, rfl, hl, q⟩
  unfold W_law
  walk_at "evs"
  obtain ⟨ns, ens⟩ : ∃ ns : List Int, cutD (ns0.map PyData.int) none (some 63) = ns.map PyData.int := ⟨ns0.take 63, (cut_hi _ 63).trans List.map_take.symm⟩
  rw [ens]
  refine ev_kUser (ds := [.arg (eDr ns 0), .dat (.int 5), .dat (.int 5)]) (by simp [owns]) rfl ⟨ns, 0, rfl, by decide, by decide, fun bs k0 hk0 hk1 hbs => ?_⟩
  walk_at "evs"
  refine ev_kUser0 rfl rfl ⟨bs, rfl, by omega, fun U hU hUc outs => ?_⟩
  walk_at "evs"
  refine ev_kUser0 rfl rfl ⟨eSol U, rfl, nd_eSol U, fun b1 hb1 outs => ?_⟩
  obtain rfl : b1 = true := hb1.mpr ⟨U, fsol_tr hU, rfl⟩
  walk_at "evs"
  refine ev_kOr_f ?_
  walk_at "evs"
  refine ev_kUser0 rfl rfl ⟨.tuple [], rfl, .tup _ (fun _ m => nomatch m), fun b1 hb1 outs => ?_⟩
  obtain rfl : b1 = true := hb1.mpr ⟨[], trivial, rfl⟩
  walk_at "evs"
  refine ev_kOr_f ?_
  walk_at "evs"
  refine ev_kUser0 rfl rfl ⟨.none, rfl, .non, fun b1 hb1 outs => ?_⟩
  obtain rfl : b1 = false := bf hb1 (by rintro ⟨S, _, e⟩; cases e)
  walk_at "evs"
  refine ev_kUser0 rfl rfl ⟨.int 3, rfl, .int 3, fun b1 hb1 outs => ?_⟩
  obtain rfl : b1 = false := bf hb1 (by rintro ⟨S, _, e⟩; cases e)
  walk_at "evs"
  refine ev_kUser0 rfl rfl ⟨.list [], rfl, .lst _ (fun _ m => nomatch m), fun b1 hb1 outs => ?_⟩
  obtain rfl : b1 = false := bf hb1 (by rintro ⟨S, _, e⟩; cases e)
  walk_at "evs"
  refine ev_kUser0 rfl rfl ⟨.tuple [.tuple [.int 0, .int 1, .tuple []]], rfl, nd_eSol [(0, 1, [])], fun b1 hb1 outs => ?_⟩
  obtain rfl : b1 = false := bf hb1 not_sol1
  walk_at "evs"
  refine ev_eq rfl rfl (Pd.shaped (pd_eSol 0 U)) (Pd.shaped (pd_eSol 0 [])) ?_
  walk_at "evs"
  refine ev_kIfS (fun h => ?_) (fun h => ?_)
  · walk_at "evs"
    exact q _
  have hne : U ≠ [] := by
    rintro rfl
    have : (eSol []).eqv (eSol []) = true := (Pd.eqv (pd_eSol 0 []) (pd_eSol 0 [])).mpr rfl
    have h : (eSol []).eqv (eSol []) = false := h
    rw [this] at h; cases h
  have few : Few (· ∈ coords bs) 24 := fun l h1 h2 => by
    have := few_of (coords bs) l h1 h2
    rw [coords_len] at this
    omega
  have fs := few_sol hU few
  walk_at "evs"
  refine ev_kRng1 (by decide) (by decide) ?_
  walk_at "evs"
  refine forGo_ind (I := fun left ρ => ∃ (t : Nat) (k : Int) (y4 y5 y6 : Option DV), t + left.length = 6 ∧ 0 ≤ k ∧ k ≤ 100 + 3 * t ∧ ρ = [some (.dat (.list (ns0.map .int))), some (.lst (eDr ns k)), some (.dat (.list (bs.map eB))), some (.dat (eSol U)), y4, y5, y6] ∧ notArgB (some y4) = true ∧ notArgB (some y5) = true ∧ notArgB (some y6) = true) ?_ ?_ _ _ ⟨0, k0, none, none, none, rfl, by omega, by omega, rfl, rfl, rfl, rfl⟩
  · rintro ρ ⟨t, k, y4, y5, y6, ht, hk0, hk1, rfl, _⟩
    walk_at "evs"
    exact q _
  · rintro x xs ρ ⟨t, k, y4, y5, y6, ht, hk0, hk1, rfl, n4, n5, n6⟩
    simp at ht
    refine ⟨[some (.dat (.list (ns0.map .int))), some (.lst (eDr ns k)), some (.dat (.list (bs.map eB))), some (.dat (eSol U)), some (.dat x), y5, y6], by simp [fName, n4], fun N hN => ?_⟩
    walk_at "evs"
    refine ev_kUser (ds := [.arg (eDr ns k), .dat (eSol U)]) (by simp [owns]) rfl ⟨ns, k, U, rfl, by omega, by omega, hne, fs, fun T gT => ?_, ?_⟩
    · show kSet 5 _ (.dat (eRS T)) (putBack [.own 1, .dat (eSol U)] [.arg (eDr ns (k + 1 + 1 + 1)), .dat (eSol U)] _)
      rw [putBack_one (own := false) (xs := eDr ns k) rfl rfl]
      refine ev_kSet_dat n5 ?_
      have go : ∀ (b1 b2 : Bool), b1 = b2 → N [some (.dat (.list (ns0.map .int))), some (.lst (eDr ns (k + 1 + 1 + 1))), some (.dat (.list (bs.map eB))), some (.dat (eSol U)), some (.dat x), some (.dat (eRS T)), some (.dat (.bool b1))] := fun b1 b2 _ =>
        hN _ ⟨t + 1, k + 1 + 1 + 1, some (.dat x), some (.dat (eRS T)), some (.dat (.bool b1)), by omega, by omega, by omega, rfl, rfl, rfl, rfl⟩
      walk_at "evs"
      refine ev_kUser0 rfl rfl ⟨eRS T, rfl, .inr ⟨T, rfl, fun z mz y my p mp => (gT.2 z mz |>.2 y my).1 p mp, fun b1 hb1 outs => ?_⟩⟩
      cases b1 with
      | false =>
        refine ev_kAndV_f ?_
        refine ev_kSet_dat n6 ?_
        walk_at "evs"
        refine ev_kUser0 rfl rfl ⟨eRS T, rfl, nd_rs gT, fun b2 hb2 outs => ?_⟩
        obtain rfl : b2 = false := bf hb2 (by
          rintro ⟨S, hS, e⟩
          have e2 := eSol_eq e
          subst e2
          exact absurd (hb1.mpr (plain_of hS)) (by decide))
        walk_at "evs"
        refine ev_eqB ?_
        walk_at "evs"
        refine ev_kIfS_f ?_
        walk_at "evs"
        exact go false false rfl
      | true =>
        obtain ⟨P, rfl⟩ := of_plain (hb1.mp rfl)
        rw [eRS_rS] at go ⊢
        refine ev_kAndV_t ?_
        walk_at "evs"
        refine ev_kUser0 rfl rfl ⟨P, rfl, Nat.le_trans (boxes_few gT) (by decide), fun outs => ?_⟩
        walk_at "evs"
        refine ev_kUser0 rfl rfl ⟨boxesOf P, rfl, Nat.le_trans (boxes_few gT) (by decide), fun V hV hVc outs => ?_⟩
        walk_at "evs"
        refine ev_eq rfl rfl (Pd.shaped (pd_eSol 0 V)) (Pd.shaped (pd_eSol 0 P)) ?_
        refine ev_kSet_dat n6 ?_
        walk_at "evs"
        refine ev_kUser0 rfl rfl ⟨eSol P, rfl, nd_eSol P, fun b2 hb2 outs => ?_⟩
        have hb : b2 = (eSol V).eqv (eSol P) := by
          cases z : (eSol V).eqv (eSol P) with
          | true =>
            have e := (Pd.eqv (pd_eSol 0 V) (pd_eSol 0 P)).mp z
            exact hb2.mpr ⟨V, fsol_tr hV, e.symm⟩
          | false =>
            refine bf hb2 ?_
            rintro ⟨S, hS, e⟩
            have e2 := eSol_inj _ _ e
            subst e2
            have e3 : V = P := sol_ext (fsol_tr hV) hS fun p => by rw [hVc, cells_boxes hS]
            subst e3
            rw [(Pd.eqv (pd_eSol 0 V) (pd_eSol 0 V)).mpr rfl] at z
            cases z
        walk_at "evs"
        refine ev_eqB ?_
        walk_at "evs"
        refine ev_kIfS (fun h => ?_) (fun _ => ?_)
        · have h : (!(b2 == (eSol V).eqv (eSol P))) = true := h
          rw [← hb] at h
          simp at h
        · walk_at "evs"
          exact go _ _ hb.symm
    · show kSet 5 _ (.lst (U.map (eS eLay))) (putBack [.own 1, .dat (eSol U)] [.arg (eDr ns (k + 1 + 1 + 1)), .dat (eSol U)] _)
      rw [putBack_one (own := false) (xs := eDr ns k) rfl rfl]
      refine ev_kSet_lst n5 ?_
      walk_at "evs"
      refine ev_kUser0 rfl rfl ⟨.list (U.map (eS eLay)), rfl, .inl ⟨_, rfl, fun outs => ?_⟩⟩
      refine ev_kAndV_f ?_
      refine ev_kSet_dat n6 ?_
      walk_at "evs"
      refine ev_kUser0 rfl rfl ⟨.list (U.map (eS eLay)), rfl, .lst _ (fun x m => ?_), fun b2 hb2 outs => ?_⟩
      · have := nd_eSol U
        exact this.mem x m
      obtain rfl : b2 = false := bf hb2 (by rintro ⟨S, _, e⟩; cases e)
      walk_at "evs"
      refine ev_eqB ?_
      walk_at "evs"
      refine ev_kIfS_f ?_
      walk_at "evs"
      exact hN _ ⟨t + 1, k + 1 + 1 + 1, some (.dat x), some (.dat (.list (U.map (eS eLay)))), some (.dat (.bool false)), by omega, by omega, by omega, rfl, rfl, rfl, rfl⟩

end K5
end
set_option Elab.async false
set_option linter.all false
set_option maxRecDepth 100000
set_option maxHeartbeats 2000000
namespace K5
open PySem L2 DL SM
theorem hl_put : ∀ ds K', sp_put ds K' → ds.length = 4 := by first | (rintro _ _ ⟨rfl, _⟩; rfl) | (rintro _ _ ⟨_, rfl, _⟩; rfl) | (rintro _ _ ⟨_, _, rfl, _⟩; rfl) | (rintro _ _ ⟨_, _, _, rfl, _⟩; rfl) | (rintro _ _ ⟨_, _, _, _, rfl, _⟩; rfl) | (rintro _ _ ⟨_, _, _, _, _, rfl, _⟩; rfl) | (rintro _ _ ⟨_, _, _, _, _, _, rfl, _⟩; rfl) | (rintro _ _ ⟨_, _, _, _, _, _, _, rfl, _⟩; rfl) | (rintro _ _ ⟨_, _, _, _, _, _, _, _, rfl, _⟩; rfl) | (rintro _ _ ⟨_, _, _, _, _, _, _, _, _, rfl, _⟩; rfl) | (rintro _ _ ⟨_, _, _, _, _, _, _, _, _, _, rfl, _⟩; rfl) | (rintro _ _ ⟨_, _, _, _, _, _, _, _, _, _, _, rfl, _⟩; rfl) | (rintro _ _ ⟨_, _, _, _, _, _, _, _, _, _, _, _, rfl, _⟩; rfl) | (rintro _ _ ⟨_, _, _, _, _, _, _, _, _, _, _, _, _, rfl, _⟩; rfl) | (rintro _ _ ⟨_, _, _, _, _, _, _, _, _, _, _, _, _, _, rfl, _⟩; rfl) | (rintro _ _ ⟨_, _, _, _, _, _, _, _, _, _, _, _, _, _, _, rfl, _⟩; rfl) | (rintro _ _ ⟨_, _, _, _, _, _, _, _, _, _, _, _, _, _, _, _, rfl, _⟩; rfl) | (rintro _ _ ⟨_, _, _, _, _, _, _, _, _, _, _, _, _, _, _, _, _, rfl, _⟩; rfl) | (rintro _ _ ⟨_, _, _, _, _, _, _, _, _, _, _, _, _, _, _, _, _, _, rfl, _⟩; rfl) | (rintro _ _ ⟨_, _, _, _, _, _, _, _, _, _, _, _, _, _, _, _, _, _, _, rfl, _⟩; rfl) | (rintro _ _ ⟨_, _, _, _, _, _, _, _, _, _, _, _, _, _, _, _, _, _, _, _, rfl, _⟩; rfl) | (rintro _ _ ⟨_, _, _, _, _, _, _, _, _, _, _, _, _, _, _, _, _, _, _, _, _, rfl, _⟩; rfl)
theorem hl_put_all : ∀ ds K', sp_put_all ds K' → ds.length = 3 := by first | (rintro _ _ ⟨rfl, _⟩; rfl) | (rintro _ _ ⟨_, rfl, _⟩; rfl) | (rintro _ _ ⟨_, _, rfl, _⟩; rfl) | (rintro _ _ ⟨_, _, _, rfl, _⟩; rfl) | (rintro _ _ ⟨_, _, _, _, rfl, _⟩; rfl) | (rintro _ _ ⟨_, _, _, _, _, rfl, _⟩; rfl) | (rintro _ _ ⟨_, _, _, _, _, _, rfl, _⟩; rfl) | (rintro _ _ ⟨_, _, _, _, _, _, _, rfl, _⟩; rfl) | (rintro _ _ ⟨_, _, _, _, _, _, _, _, rfl, _⟩; rfl) | (rintro _ _ ⟨_, _, _, _, _, _, _, _, _, rfl, _⟩; rfl) | (rintro _ _ ⟨_, _, _, _, _, _, _, _, _, _, rfl, _⟩; rfl) | (rintro _ _ ⟨_, _, _, _, _, _, _, _, _, _, _, rfl, _⟩; rfl) | (rintro _ _ ⟨_, _, _, _, _, _, _, _, _, _, _, _, rfl, _⟩; rfl) | (rintro _ _ ⟨_, _, _, _, _, _, _, _, _, _, _, _, _, rfl, _⟩; rfl) | (rintro _ _ ⟨_, _, _, _, _, _, _, _, _, _, _, _, _, _, rfl, _⟩; rfl) | (rintro _ _ ⟨_, _, _, _, _, _, _, _, _, _, _, _, _, _, _, rfl, _⟩; rfl) | (rintro _ _ ⟨_, _, _, _, _, _, _, _, _, _, _, _, _, _, _, _, rfl, _⟩; rfl) | (rintro _ _ ⟨_, _, _, _, _, _, _, _, _, _, _, _, _, _, _, _, _, rfl, _⟩; rfl) | (rintro _ _ ⟨_, _, _, _, _, _, _, _, _, _, _, _, _, _, _, _, _, _, rfl, _⟩; rfl) | (rintro _ _ ⟨_, _, _, _, _, _, _, _, _, _, _, _, _, _, _, _, _, _, _, rfl, _⟩; rfl) | (rintro _ _ ⟨_, _, _, _, _, _, _, _, _, _, _, _, _, _, _, _, _, _, _, _, rfl, _⟩; rfl) | (rintro _ _ ⟨_, _, _, _, _, _, _, _, _, _, _, _, _, _, _, _, _, _, _, _, _, rfl, _⟩; rfl)
theorem hl_first_ending_beyond : ∀ ds K', sp_first_ending_beyond ds K' → ds.length = 2 := by first | (rintro _ _ ⟨rfl, _⟩; rfl) | (rintro _ _ ⟨_, rfl, _⟩; rfl) | (rintro _ _ ⟨_, _, rfl, _⟩; rfl) | (rintro _ _ ⟨_, _, _, rfl, _⟩; rfl) | (rintro _ _ ⟨_, _, _, _, rfl, _⟩; rfl) | (rintro _ _ ⟨_, _, _, _, _, rfl, _⟩; rfl) | (rintro _ _ ⟨_, _, _, _, _, _, rfl, _⟩; rfl) | (rintro _ _ ⟨_, _, _, _, _, _, _, rfl, _⟩; rfl) | (rintro _ _ ⟨_, _, _, _, _, _, _, _, rfl, _⟩; rfl) | (rintro _ _ ⟨_, _, _, _, _, _, _, _, _, rfl, _⟩; rfl) | (rintro _ _ ⟨_, _, _, _, _, _, _, _, _, _, rfl, _⟩; rfl) | (rintro _ _ ⟨_, _, _, _, _, _, _, _, _, _, _, rfl, _⟩; rfl) | (rintro _ _ ⟨_, _, _, _, _, _, _, _, _, _, _, _, rfl, _⟩; rfl) | (rintro _ _ ⟨_, _, _, _, _, _, _, _, _, _, _, _, _, rfl, _⟩; rfl) | (rintro _ _ ⟨_, _, _, _, _, _, _, _, _, _, _, _, _, _, rfl, _⟩; rfl) | (rintro _ _ ⟨_, _, _, _, _, _, _, _, _, _, _, _, _, _, _, rfl, _⟩; rfl) | (rintro _ _ ⟨_, _, _, _, _, _, _, _, _, _, _, _, _, _, _, _, rfl, _⟩; rfl) | (rintro _ _ ⟨_, _, _, _, _, _, _, _, _, _, _, _, _, _, _, _, _, rfl, _⟩; rfl) | (rintro _ _ ⟨_, _, _, _, _, _, _, _, _, _, _, _, _, _, _, _, _, _, rfl, _⟩; rfl) | (rintro _ _ ⟨_, _, _, _, _, _, _, _, _, _, _, _, _, _, _, _, _, _, _, rfl, _⟩; rfl) | (rintro _ _ ⟨_, _, _, _, _, _, _, _, _, _, _, _, _, _, _, _, _, _, _, _, rfl, _⟩; rfl) | (rintro _ _ ⟨_, _, _, _, _, _, _, _, _, _, _, _, _, _, _, _, _, _, _, _, _, rfl, _⟩; rfl)
theorem hl_first_beginning_from : ∀ ds K', sp_first_beginning_from ds K' → ds.length = 2 := by first | (rintro _ _ ⟨rfl, _⟩; rfl) | (rintro _ _ ⟨_, rfl, _⟩; rfl) | (rintro _ _ ⟨_, _, rfl, _⟩; rfl) | (rintro _ _ ⟨_, _, _, rfl, _⟩; rfl) | (rintro _ _ ⟨_, _, _, _, rfl, _⟩; rfl) | (rintro _ _ ⟨_, _, _, _, _, rfl, _⟩; rfl) | (rintro _ _ ⟨_, _, _, _, _, _, rfl, _⟩; rfl) | (rintro _ _ ⟨_, _, _, _, _, _, _, rfl, _⟩; rfl) | (rintro _ _ ⟨_, _, _, _, _, _, _, _, rfl, _⟩; rfl) | (rintro _ _ ⟨_, _, _, _, _, _, _, _, _, rfl, _⟩; rfl) | (rintro _ _ ⟨_, _, _, _, _, _, _, _, _, _, rfl, _⟩; rfl) | (rintro _ _ ⟨_, _, _, _, _, _, _, _, _, _, _, rfl, _⟩; rfl) | (rintro _ _ ⟨_, _, _, _, _, _, _, _, _, _, _, _, rfl, _⟩; rfl) | (rintro _ _ ⟨_, _, _, _, _, _, _, _, _, _, _, _, _, rfl, _⟩; rfl) | (rintro _ _ ⟨_, _, _, _, _, _, _, _, _, _, _, _, _, _, rfl, _⟩; rfl) | (rintro _ _ ⟨_, _, _, _, _, _, _, _, _, _, _, _, _, _, _, rfl, _⟩; rfl) | (rintro _ _ ⟨_, _, _, _, _, _, _, _, _, _, _, _, _, _, _, _, rfl, _⟩; rfl) | (rintro _ _ ⟨_, _, _, _, _, _, _, _, _, _, _, _, _, _, _, _, _, rfl, _⟩; rfl) | (rintro _ _ ⟨_, _, _, _, _, _, _, _, _, _, _, _, _, _, _, _, _, _, rfl, _⟩; rfl) | (rintro _ _ ⟨_, _, _, _, _, _, _, _, _, _, _, _, _, _, _, _, _, _, _, rfl, _⟩; rfl) | (rintro _ _ ⟨_, _, _, _, _, _, _, _, _, _, _, _, _, _, _, _, _, _, _, _, rfl, _⟩; rfl) | (rintro _ _ ⟨_, _, _, _, _, _, _, _, _, _, _, _, _, _, _, _, _, _, _, _, _, rfl, _⟩; rfl)
theorem hl_merged : ∀ ds K', sp_merged ds K' → ds.length = 1 := by first | (rintro _ _ ⟨rfl, _⟩; rfl) | (rintro _ _ ⟨_, rfl, _⟩; rfl) | (rintro _ _ ⟨_, _, rfl, _⟩; rfl) | (rintro _ _ ⟨_, _, _, rfl, _⟩; rfl) | (rintro _ _ ⟨_, _, _, _, rfl, _⟩; rfl) | (rintro _ _ ⟨_, _, _, _, _, rfl, _⟩; rfl) | (rintro _ _ ⟨_, _, _, _, _, _, rfl, _⟩; rfl) | (rintro _ _ ⟨_, _, _, _, _, _, _, rfl, _⟩; rfl) | (rintro _ _ ⟨_, _, _, _, _, _, _, _, rfl, _⟩; rfl) | (rintro _ _ ⟨_, _, _, _, _, _, _, _, _, rfl, _⟩; rfl) | (rintro _ _ ⟨_, _, _, _, _, _, _, _, _, _, rfl, _⟩; rfl) | (rintro _ _ ⟨_, _, _, _, _, _, _, _, _, _, _, rfl, _⟩; rfl) | (rintro _ _ ⟨_, _, _, _, _, _, _, _, _, _, _, _, rfl, _⟩; rfl) | (rintro _ _ ⟨_, _, _, _, _, _, _, _, _, _, _, _, _, rfl, _⟩; rfl) | (rintro _ _ ⟨_, _, _, _, _, _, _, _, _, _, _, _, _, _, rfl, _⟩; rfl) | (rintro _ _ ⟨_, _, _, _, _, _, _, _, _, _, _, _, _, _, _, rfl, _⟩; rfl) | (rintro _ _ ⟨_, _, _, _, _, _, _, _, _, _, _, _, _, _, _, _, rfl, _⟩; rfl) | (rintro _ _ ⟨_, _, _, _, _, _, _, _, _, _, _, _, _, _, _, _, _, rfl, _⟩; rfl) | (rintro _ _ ⟨_, _, _, _, _, _, _, _, _, _, _, _, _, _, _, _, _, _, rfl, _⟩; rfl) | (rintro _ _ ⟨_, _, _, _, _, _, _, _, _, _, _, _, _, _, _, _, _, _, _, rfl, _⟩; rfl) | (rintro _ _ ⟨_, _, _, _, _, _, _, _, _, _, _, _, _, _, _, _, _, _, _, _, rfl, _⟩; rfl) | (rintro _ _ ⟨_, _, _, _, _, _, _, _, _, _, _, _, _, _, _, _, _, _, _, _, _, rfl, _⟩; rfl)
theorem hl_joined_rows : ∀ ds K', sp_joined_rows ds K' → ds.length = 2 := by first | (rintro _ _ ⟨rfl, _⟩; rfl) | (rintro _ _ ⟨_, rfl, _⟩; rfl) | (rintro _ _ ⟨_, _, rfl, _⟩; rfl) | (rintro _ _ ⟨_, _, _, rfl, _⟩; rfl) | (rintro _ _ ⟨_, _, _, _, rfl, _⟩; rfl) | (rintro _ _ ⟨_, _, _, _, _, rfl, _⟩; rfl) | (rintro _ _ ⟨_, _, _, _, _, _, rfl, _⟩; rfl) | (rintro _ _ ⟨_, _, _, _, _, _, _, rfl, _⟩; rfl) | (rintro _ _ ⟨_, _, _, _, _, _, _, _, rfl, _⟩; rfl) | (rintro _ _ ⟨_, _, _, _, _, _, _, _, _, rfl, _⟩; rfl) | (rintro _ _ ⟨_, _, _, _, _, _, _, _, _, _, rfl, _⟩; rfl) | (rintro _ _ ⟨_, _, _, _, _, _, _, _, _, _, _, rfl, _⟩; rfl) | (rintro _ _ ⟨_, _, _, _, _, _, _, _, _, _, _, _, rfl, _⟩; rfl) | (rintro _ _ ⟨_, _, _, _, _, _, _, _, _, _, _, _, _, rfl, _⟩; rfl) | (rintro _ _ ⟨_, _, _, _, _, _, _, _, _, _, _, _, _, _, rfl, _⟩; rfl) | (rintro _ _ ⟨_, _, _, _, _, _, _, _, _, _, _, _, _, _, _, rfl, _⟩; rfl) | (rintro _ _ ⟨_, _, _, _, _, _, _, _, _, _, _, _, _, _, _, _, rfl, _⟩; rfl) | (rintro _ _ ⟨_, _, _, _, _, _, _, _, _, _, _, _, _, _, _, _, _, rfl, _⟩; rfl) | (rintro _ _ ⟨_, _, _, _, _, _, _, _, _, _, _, _, _, _, _, _, _, _, rfl, _⟩; rfl) | (rintro _ _ ⟨_, _, _, _, _, _, _, _, _, _, _, _, _, _, _, _, _, _, _, rfl, _⟩; rfl) | (rintro _ _ ⟨_, _, _, _, _, _, _, _, _, _, _, _, _, _, _, _, _, _, _, _, rfl, _⟩; rfl) | (rintro _ _ ⟨_, _, _, _, _, _, _, _, _, _, _, _, _, _, _, _, _, _, _, _, _, rfl, _⟩; rfl)
theorem hl_lay_over (S : Addr → Option DSpec) : ∀ ds K', (sp_lay_over S) ds K' → ds.length = 5 := by first | (rintro _ _ ⟨rfl, _⟩; rfl) | (rintro _ _ ⟨_, rfl, _⟩; rfl) | (rintro _ _ ⟨_, _, rfl, _⟩; rfl) | (rintro _ _ ⟨_, _, _, rfl, _⟩; rfl) | (rintro _ _ ⟨_, _, _, _, rfl, _⟩; rfl) | (rintro _ _ ⟨_, _, _, _, _, rfl, _⟩; rfl) | (rintro _ _ ⟨_, _, _, _, _, _, rfl, _⟩; rfl) | (rintro _ _ ⟨_, _, _, _, _, _, _, rfl, _⟩; rfl) | (rintro _ _ ⟨_, _, _, _, _, _, _, _, rfl, _⟩; rfl) | (rintro _ _ ⟨_, _, _, _, _, _, _, _, _, rfl, _⟩; rfl) | (rintro _ _ ⟨_, _, _, _, _, _, _, _, _, _, rfl, _⟩; rfl) | (rintro _ _ ⟨_, _, _, _, _, _, _, _, _, _, _, rfl, _⟩; rfl) | (rintro _ _ ⟨_, _, _, _, _, _, _, _, _, _, _, _, rfl, _⟩; rfl) | (rintro _ _ ⟨_, _, _, _, _, _, _, _, _, _, _, _, _, rfl, _⟩; rfl) | (rintro _ _ ⟨_, _, _, _, _, _, _, _, _, _, _, _, _, _, rfl, _⟩; rfl) | (rintro _ _ ⟨_, _, _, _, _, _, _, _, _, _, _, _, _, _, _, rfl, _⟩; rfl) | (rintro _ _ ⟨_, _, _, _, _, _, _, _, _, _, _, _, _, _, _, _, rfl, _⟩; rfl) | (rintro _ _ ⟨_, _, _, _, _, _, _, _, _, _, _, _, _, _, _, _, _, rfl, _⟩; rfl) | (rintro _ _ ⟨_, _, _, _, _, _, _, _, _, _, _, _, _, _, _, _, _, _, rfl, _⟩; rfl) | (rintro _ _ ⟨_, _, _, _, _, _, _, _, _, _, _, _, _, _, _, _, _, _, _, rfl, _⟩; rfl) | (rintro _ _ ⟨_, _, _, _, _, _, _, _, _, _, _, _, _, _, _, _, _, _, _, _, rfl, _⟩; rfl) | (rintro _ _ ⟨_, _, _, _, _, _, _, _, _, _, _, _, _, _, _, _, _, _, _, _, _, rfl, _⟩; rfl)
theorem hl_combined (S : Addr → Option DSpec) : ∀ ds K', (sp_combined S) ds K' → ds.length = 4 := by first | (rintro _ _ ⟨rfl, _⟩; rfl) | (rintro _ _ ⟨_, rfl, _⟩; rfl) | (rintro _ _ ⟨_, _, rfl, _⟩; rfl) | (rintro _ _ ⟨_, _, _, rfl, _⟩; rfl) | (rintro _ _ ⟨_, _, _, _, rfl, _⟩; rfl) | (rintro _ _ ⟨_, _, _, _, _, rfl, _⟩; rfl) | (rintro _ _ ⟨_, _, _, _, _, _, rfl, _⟩; rfl) | (rintro _ _ ⟨_, _, _, _, _, _, _, rfl, _⟩; rfl) | (rintro _ _ ⟨_, _, _, _, _, _, _, _, rfl, _⟩; rfl) | (rintro _ _ ⟨_, _, _, _, _, _, _, _, _, rfl, _⟩; rfl) | (rintro _ _ ⟨_, _, _, _, _, _, _, _, _, _, rfl, _⟩; rfl) | (rintro _ _ ⟨_, _, _, _, _, _, _, _, _, _, _, rfl, _⟩; rfl) | (rintro _ _ ⟨_, _, _, _, _, _, _, _, _, _, _, _, rfl, _⟩; rfl) | (rintro _ _ ⟨_, _, _, _, _, _, _, _, _, _, _, _, _, rfl, _⟩; rfl) | (rintro _ _ ⟨_, _, _, _, _, _, _, _, _, _, _, _, _, _, rfl, _⟩; rfl) | (rintro _ _ ⟨_, _, _, _, _, _, _, _, _, _, _, _, _, _, _, rfl, _⟩; rfl) | (rintro _ _ ⟨_, _, _, _, _, _, _, _, _, _, _, _, _, _, _, _, rfl, _⟩; rfl) | (rintro _ _ ⟨_, _, _, _, _, _, _, _, _, _, _, _, _, _, _, _, _, rfl, _⟩; rfl) | (rintro _ _ ⟨_, _, _, _, _, _, _, _, _, _, _, _, _, _, _, _, _, _, rfl, _⟩; rfl) | (rintro _ _ ⟨_, _, _, _, _, _, _, _, _, _, _, _, _, _, _, _, _, _, _, rfl, _⟩; rfl) | (rintro _ _ ⟨_, _, _, _, _, _, _, _, _, _, _, _, _, _, _, _, _, _, _, _, rfl, _⟩; rfl) | (rintro _ _ ⟨_, _, _, _, _, _, _, _, _, _, _, _, _, _, _, _, _, _, _, _, _, rfl, _⟩; rfl)
theorem hl_joined_layers : ∀ ds K', sp_joined_layers ds K' → ds.length = 2 := by first | (rintro _ _ ⟨rfl, _⟩; rfl) | (rintro _ _ ⟨_, rfl, _⟩; rfl) | (rintro _ _ ⟨_, _, rfl, _⟩; rfl) | (rintro _ _ ⟨_, _, _, rfl, _⟩; rfl) | (rintro _ _ ⟨_, _, _, _, rfl, _⟩; rfl) | (rintro _ _ ⟨_, _, _, _, _, rfl, _⟩; rfl) | (rintro _ _ ⟨_, _, _, _, _, _, rfl, _⟩; rfl) | (rintro _ _ ⟨_, _, _, _, _, _, _, rfl, _⟩; rfl) | (rintro _ _ ⟨_, _, _, _, _, _, _, _, rfl, _⟩; rfl) | (rintro _ _ ⟨_, _, _, _, _, _, _, _, _, rfl, _⟩; rfl) | (rintro _ _ ⟨_, _, _, _, _, _, _, _, _, _, rfl, _⟩; rfl) | (rintro _ _ ⟨_, _, _, _, _, _, _, _, _, _, _, rfl, _⟩; rfl) | (rintro _ _ ⟨_, _, _, _, _, _, _, _, _, _, _, _, rfl, _⟩; rfl) | (rintro _ _ ⟨_, _, _, _, _, _, _, _, _, _, _, _, _, rfl, _⟩; rfl) | (rintro _ _ ⟨_, _, _, _, _, _, _, _, _, _, _, _, _, _, rfl, _⟩; rfl) | (rintro _ _ ⟨_, _, _, _, _, _, _, _, _, _, _, _, _, _, _, rfl, _⟩; rfl) | (rintro _ _ ⟨_, _, _, _, _, _, _, _, _, _, _, _, _, _, _, _, rfl, _⟩; rfl) | (rintro _ _ ⟨_, _, _, _, _, _, _, _, _, _, _, _, _, _, _, _, _, rfl, _⟩; rfl) | (rintro _ _ ⟨_, _, _, _, _, _, _, _, _, _, _, _, _, _, _, _, _, _, rfl, _⟩; rfl) | (rintro _ _ ⟨_, _, _, _, _, _, _, _, _, _, _, _, _, _, _, _, _, _, _, rfl, _⟩; rfl) | (rintro _ _ ⟨_, _, _, _, _, _, _, _, _, _, _, _, _, _, _, _, _, _, _, _, rfl, _⟩; rfl) | (rintro _ _ ⟨_, _, _, _, _, _, _, _, _, _, _, _, _, _, _, _, _, _, _, _, _, rfl, _⟩; rfl)
theorem hl_union : ∀ ds K', sp_union ds K' → ds.length = 2 := by first | (rintro _ _ ⟨rfl, _⟩; rfl) | (rintro _ _ ⟨_, rfl, _⟩; rfl) | (rintro _ _ ⟨_, _, rfl, _⟩; rfl) | (rintro _ _ ⟨_, _, _, rfl, _⟩; rfl) | (rintro _ _ ⟨_, _, _, _, rfl, _⟩; rfl) | (rintro _ _ ⟨_, _, _, _, _, rfl, _⟩; rfl) | (rintro _ _ ⟨_, _, _, _, _, _, rfl, _⟩; rfl) | (rintro _ _ ⟨_, _, _, _, _, _, _, rfl, _⟩; rfl) | (rintro _ _ ⟨_, _, _, _, _, _, _, _, rfl, _⟩; rfl) | (rintro _ _ ⟨_, _, _, _, _, _, _, _, _, rfl, _⟩; rfl) | (rintro _ _ ⟨_, _, _, _, _, _, _, _, _, _, rfl, _⟩; rfl) | (rintro _ _ ⟨_, _, _, _, _, _, _, _, _, _, _, rfl, _⟩; rfl) | (rintro _ _ ⟨_, _, _, _, _, _, _, _, _, _, _, _, rfl, _⟩; rfl) | (rintro _ _ ⟨_, _, _, _, _, _, _, _, _, _, _, _, _, rfl, _⟩; rfl) | (rintro _ _ ⟨_, _, _, _, _, _, _, _, _, _, _, _, _, _, rfl, _⟩; rfl) | (rintro _ _ ⟨_, _, _, _, _, _, _, _, _, _, _, _, _, _, _, rfl, _⟩; rfl) | (rintro _ _ ⟨_, _, _, _, _, _, _, _, _, _, _, _, _, _, _, _, rfl, _⟩; rfl) | (rintro _ _ ⟨_, _, _, _, _, _, _, _, _, _, _, _, _, _, _, _, _, rfl, _⟩; rfl) | (rintro _ _ ⟨_, _, _, _, _, _, _, _, _, _, _, _, _, _, _, _, _, _, rfl, _⟩; rfl) | (rintro _ _ ⟨_, _, _, _, _, _, _, _, _, _, _, _, _, _, _, _, _, _, _, rfl, _⟩; rfl) | (rintro _ _ ⟨_, _, _, _, _, _, _, _, _, _, _, _, _, _, _, _, _, _, _, _, rfl, _⟩; rfl) | (rintro _ _ ⟨_, _, _, _, _, _, _, _, _, _, _, _, _, _, _, _, _, _, _, _, _, rfl, _⟩; rfl)
theorem hl_union_of : ∀ ds K', sp_union_of ds K' → ds.length = 1 := by first | (rintro _ _ ⟨rfl, _⟩; rfl) | (rintro _ _ ⟨_, rfl, _⟩; rfl) | (rintro _ _ ⟨_, _, rfl, _⟩; rfl) | (rintro _ _ ⟨_, _, _, rfl, _⟩; rfl) | (rintro _ _ ⟨_, _, _, _, rfl, _⟩; rfl) | (rintro _ _ ⟨_, _, _, _, _, rfl, _⟩; rfl) | (rintro _ _ ⟨_, _, _, _, _, _, rfl, _⟩; rfl) | (rintro _ _ ⟨_, _, _, _, _, _, _, rfl, _⟩; rfl) | (rintro _ _ ⟨_, _, _, _, _, _, _, _, rfl, _⟩; rfl) | (rintro _ _ ⟨_, _, _, _, _, _, _, _, _, rfl, _⟩; rfl) | (rintro _ _ ⟨_, _, _, _, _, _, _, _, _, _, rfl, _⟩; rfl) | (rintro _ _ ⟨_, _, _, _, _, _, _, _, _, _, _, rfl, _⟩; rfl) | (rintro _ _ ⟨_, _, _, _, _, _, _, _, _, _, _, _, rfl, _⟩; rfl) | (rintro _ _ ⟨_, _, _, _, _, _, _, _, _, _, _, _, _, rfl, _⟩; rfl) | (rintro _ _ ⟨_, _, _, _, _, _, _, _, _, _, _, _, _, _, rfl, _⟩; rfl) | (rintro _ _ ⟨_, _, _, _, _, _, _, _, _, _, _, _, _, _, _, rfl, _⟩; rfl) | (rintro _ _ ⟨_, _, _, _, _, _, _, _, _, _, _, _, _, _, _, _, rfl, _⟩; rfl) | (rintro _ _ ⟨_, _, _, _, _, _, _, _, _, _, _, _, _, _, _, _, _, rfl, _⟩; rfl) | (rintro _ _ ⟨_, _, _, _, _, _, _, _, _, _, _, _, _, _, _, _, _, _, rfl, _⟩; rfl) | (rintro _ _ ⟨_, _, _, _, _, _, _, _, _, _, _, _, _, _, _, _, _, _, _, rfl, _⟩; rfl) | (rintro _ _ ⟨_, _, _, _, _, _, _, _, _, _, _, _, _, _, _, _, _, _, _, _, rfl, _⟩; rfl) | (rintro _ _ ⟨_, _, _, _, _, _, _, _, _, _, _, _, _, _, _, _, _, _, _, _, _, rfl, _⟩; rfl)
theorem hl_is_integer : ∀ ds K', sp_is_integer ds K' → ds.length = 1 := by first | (rintro _ _ ⟨rfl, _⟩; rfl) | (rintro _ _ ⟨_, rfl, _⟩; rfl) | (rintro _ _ ⟨_, _, rfl, _⟩; rfl) | (rintro _ _ ⟨_, _, _, rfl, _⟩; rfl) | (rintro _ _ ⟨_, _, _, _, rfl, _⟩; rfl) | (rintro _ _ ⟨_, _, _, _, _, rfl, _⟩; rfl) | (rintro _ _ ⟨_, _, _, _, _, _, rfl, _⟩; rfl) | (rintro _ _ ⟨_, _, _, _, _, _, _, rfl, _⟩; rfl) | (rintro _ _ ⟨_, _, _, _, _, _, _, _, rfl, _⟩; rfl) | (rintro _ _ ⟨_, _, _, _, _, _, _, _, _, rfl, _⟩; rfl) | (rintro _ _ ⟨_, _, _, _, _, _, _, _, _, _, rfl, _⟩; rfl) | (rintro _ _ ⟨_, _, _, _, _, _, _, _, _, _, _, rfl, _⟩; rfl) | (rintro _ _ ⟨_, _, _, _, _, _, _, _, _, _, _, _, rfl, _⟩; rfl) | (rintro _ _ ⟨_, _, _, _, _, _, _, _, _, _, _, _, _, rfl, _⟩; rfl) | (rintro _ _ ⟨_, _, _, _, _, _, _, _, _, _, _, _, _, _, rfl, _⟩; rfl) | (rintro _ _ ⟨_, _, _, _, _, _, _, _, _, _, _, _, _, _, _, rfl, _⟩; rfl) | (rintro _ _ ⟨_, _, _, _, _, _, _, _, _, _, _, _, _, _, _, _, rfl, _⟩; rfl) | (rintro _ _ ⟨_, _, _, _, _, _, _, _, _, _, _, _, _, _, _, _, _, rfl, _⟩; rfl) | (rintro _ _ ⟨_, _, _, _, _, _, _, _, _, _, _, _, _, _, _, _, _, _, rfl, _⟩; rfl) | (rintro _ _ ⟨_, _, _, _, _, _, _, _, _, _, _, _, _, _, _, _, _, _, _, rfl, _⟩; rfl) | (rintro _ _ ⟨_, _, _, _, _, _, _, _, _, _, _, _, _, _, _, _, _, _, _, _, rfl, _⟩; rfl) | (rintro _ _ ⟨_, _, _, _, _, _, _, _, _, _, _, _, _, _, _, _, _, _, _, _, _, rfl, _⟩; rfl)
theorem hl_is_stretch : ∀ ds K', sp_is_stretch ds K' → ds.length = 2 := by first | (rintro _ _ ⟨rfl, _⟩; rfl) | (rintro _ _ ⟨_, rfl, _⟩; rfl) | (rintro _ _ ⟨_, _, rfl, _⟩; rfl) | (rintro _ _ ⟨_, _, _, rfl, _⟩; rfl) | (rintro _ _ ⟨_, _, _, _, rfl, _⟩; rfl) | (rintro _ _ ⟨_, _, _, _, _, rfl, _⟩; rfl) | (rintro _ _ ⟨_, _, _, _, _, _, rfl, _⟩; rfl) | (rintro _ _ ⟨_, _, _, _, _, _, _, rfl, _⟩; rfl) | (rintro _ _ ⟨_, _, _, _, _, _, _, _, rfl, _⟩; rfl) | (rintro _ _ ⟨_, _, _, _, _, _, _, _, _, rfl, _⟩; rfl) | (rintro _ _ ⟨_, _, _, _, _, _, _, _, _, _, rfl, _⟩; rfl) | (rintro _ _ ⟨_, _, _, _, _, _, _, _, _, _, _, rfl, _⟩; rfl) | (rintro _ _ ⟨_, _, _, _, _, _, _, _, _, _, _, _, rfl, _⟩; rfl) | (rintro _ _ ⟨_, _, _, _, _, _, _, _, _, _, _, _, _, rfl, _⟩; rfl) | (rintro _ _ ⟨_, _, _, _, _, _, _, _, _, _, _, _, _, _, rfl, _⟩; rfl) | (rintro _ _ ⟨_, _, _, _, _, _, _, _, _, _, _, _, _, _, _, rfl, _⟩; rfl) | (rintro _ _ ⟨_, _, _, _, _, _, _, _, _, _, _, _, _, _, _, _, rfl, _⟩; rfl) | (rintro _ _ ⟨_, _, _, _, _, _, _, _, _, _, _, _, _, _, _, _, _, rfl, _⟩; rfl) | (rintro _ _ ⟨_, _, _, _, _, _, _, _, _, _, _, _, _, _, _, _, _, _, rfl, _⟩; rfl) | (rintro _ _ ⟨_, _, _, _, _, _, _, _, _, _, _, _, _, _, _, _, _, _, _, rfl, _⟩; rfl) | (rintro _ _ ⟨_, _, _, _, _, _, _, _, _, _, _, _, _, _, _, _, _, _, _, _, rfl, _⟩; rfl) | (rintro _ _ ⟨_, _, _, _, _, _, _, _, _, _, _, _, _, _, _, _, _, _, _, _, _, rfl, _⟩; rfl)
theorem hl_is_row : ∀ ds K', sp_is_row ds K' → ds.length = 1 := by first | (rintro _ _ ⟨rfl, _⟩; rfl) | (rintro _ _ ⟨_, rfl, _⟩; rfl) | (rintro _ _ ⟨_, _, rfl, _⟩; rfl) | (rintro _ _ ⟨_, _, _, rfl, _⟩; rfl) | (rintro _ _ ⟨_, _, _, _, rfl, _⟩; rfl) | (rintro _ _ ⟨_, _, _, _, _, rfl, _⟩; rfl) | (rintro _ _ ⟨_, _, _, _, _, _, rfl, _⟩; rfl) | (rintro _ _ ⟨_, _, _, _, _, _, _, rfl, _⟩; rfl) | (rintro _ _ ⟨_, _, _, _, _, _, _, _, rfl, _⟩; rfl) | (rintro _ _ ⟨_, _, _, _, _, _, _, _, _, rfl, _⟩; rfl) | (rintro _ _ ⟨_, _, _, _, _, _, _, _, _, _, rfl, _⟩; rfl) | (rintro _ _ ⟨_, _, _, _, _, _, _, _, _, _, _, rfl, _⟩; rfl) | (rintro _ _ ⟨_, _, _, _, _, _, _, _, _, _, _, _, rfl, _⟩; rfl) | (rintro _ _ ⟨_, _, _, _, _, _, _, _, _, _, _, _, _, rfl, _⟩; rfl) | (rintro _ _ ⟨_, _, _, _, _, _, _, _, _, _, _, _, _, _, rfl, _⟩; rfl) | (rintro _ _ ⟨_, _, _, _, _, _, _, _, _, _, _, _, _, _, _, rfl, _⟩; rfl) | (rintro _ _ ⟨_, _, _, _, _, _, _, _, _, _, _, _, _, _, _, _, rfl, _⟩; rfl) | (rintro _ _ ⟨_, _, _, _, _, _, _, _, _, _, _, _, _, _, _, _, _, rfl, _⟩; rfl) | (rintro _ _ ⟨_, _, _, _, _, _, _, _, _, _, _, _, _, _, _, _, _, _, rfl, _⟩; rfl) | (rintro _ _ ⟨_, _, _, _, _, _, _, _, _, _, _, _, _, _, _, _, _, _, _, rfl, _⟩; rfl) | (rintro _ _ ⟨_, _, _, _, _, _, _, _, _, _, _, _, _, _, _, _, _, _, _, _, rfl, _⟩; rfl) | (rintro _ _ ⟨_, _, _, _, _, _, _, _, _, _, _, _, _, _, _, _, _, _, _, _, _, rfl, _⟩; rfl)
theorem hl_are_slabs (S : Addr → Option DSpec) : ∀ ds K', (sp_are_slabs S) ds K' → ds.length = 2 := by first | (rintro _ _ ⟨rfl, _⟩; rfl) | (rintro _ _ ⟨_, rfl, _⟩; rfl) | (rintro _ _ ⟨_, _, rfl, _⟩; rfl) | (rintro _ _ ⟨_, _, _, rfl, _⟩; rfl) | (rintro _ _ ⟨_, _, _, _, rfl, _⟩; rfl) | (rintro _ _ ⟨_, _, _, _, _, rfl, _⟩; rfl) | (rintro _ _ ⟨_, _, _, _, _, _, rfl, _⟩; rfl) | (rintro _ _ ⟨_, _, _, _, _, _, _, rfl, _⟩; rfl) | (rintro _ _ ⟨_, _, _, _, _, _, _, _, rfl, _⟩; rfl) | (rintro _ _ ⟨_, _, _, _, _, _, _, _, _, rfl, _⟩; rfl) | (rintro _ _ ⟨_, _, _, _, _, _, _, _, _, _, rfl, _⟩; rfl) | (rintro _ _ ⟨_, _, _, _, _, _, _, _, _, _, _, rfl, _⟩; rfl) | (rintro _ _ ⟨_, _, _, _, _, _, _, _, _, _, _, _, rfl, _⟩; rfl) | (rintro _ _ ⟨_, _, _, _, _, _, _, _, _, _, _, _, _, rfl, _⟩; rfl) | (rintro _ _ ⟨_, _, _, _, _, _, _, _, _, _, _, _, _, _, rfl, _⟩; rfl) | (rintro _ _ ⟨_, _, _, _, _, _, _, _, _, _, _, _, _, _, _, rfl, _⟩; rfl) | (rintro _ _ ⟨_, _, _, _, _, _, _, _, _, _, _, _, _, _, _, _, rfl, _⟩; rfl) | (rintro _ _ ⟨_, _, _, _, _, _, _, _, _, _, _, _, _, _, _, _, _, rfl, _⟩; rfl) | (rintro _ _ ⟨_, _, _, _, _, _, _, _, _, _, _, _, _, _, _, _, _, _, rfl, _⟩; rfl) | (rintro _ _ ⟨_, _, _, _, _, _, _, _, _, _, _, _, _, _, _, _, _, _, _, rfl, _⟩; rfl) | (rintro _ _ ⟨_, _, _, _, _, _, _, _, _, _, _, _, _, _, _, _, _, _, _, _, rfl, _⟩; rfl) | (rintro _ _ ⟨_, _, _, _, _, _, _, _, _, _, _, _, _, _, _, _, _, _, _, _, _, rfl, _⟩; rfl)
theorem hl_is_layer : ∀ ds K', sp_is_layer ds K' → ds.length = 1 := by first | (rintro _ _ ⟨rfl, _⟩; rfl) | (rintro _ _ ⟨_, rfl, _⟩; rfl) | (rintro _ _ ⟨_, _, rfl, _⟩; rfl) | (rintro _ _ ⟨_, _, _, rfl, _⟩; rfl) | (rintro _ _ ⟨_, _, _, _, rfl, _⟩; rfl) | (rintro _ _ ⟨_, _, _, _, _, rfl, _⟩; rfl) | (rintro _ _ ⟨_, _, _, _, _, _, rfl, _⟩; rfl) | (rintro _ _ ⟨_, _, _, _, _, _, _, rfl, _⟩; rfl) | (rintro _ _ ⟨_, _, _, _, _, _, _, _, rfl, _⟩; rfl) | (rintro _ _ ⟨_, _, _, _, _, _, _, _, _, rfl, _⟩; rfl) | (rintro _ _ ⟨_, _, _, _, _, _, _, _, _, _, rfl, _⟩; rfl) | (rintro _ _ ⟨_, _, _, _, _, _, _, _, _, _, _, rfl, _⟩; rfl) | (rintro _ _ ⟨_, _, _, _, _, _, _, _, _, _, _, _, rfl, _⟩; rfl) | (rintro _ _ ⟨_, _, _, _, _, _, _, _, _, _, _, _, _, rfl, _⟩; rfl) | (rintro _ _ ⟨_, _, _, _, _, _, _, _, _, _, _, _, _, _, rfl, _⟩; rfl) | (rintro _ _ ⟨_, _, _, _, _, _, _, _, _, _, _, _, _, _, _, rfl, _⟩; rfl) | (rintro _ _ ⟨_, _, _, _, _, _, _, _, _, _, _, _, _, _, _, _, rfl, _⟩; rfl) | (rintro _ _ ⟨_, _, _, _, _, _, _, _, _, _, _, _, _, _, _, _, _, rfl, _⟩; rfl) | (rintro _ _ ⟨_, _, _, _, _, _, _, _, _, _, _, _, _, _, _, _, _, _, rfl, _⟩; rfl) | (rintro _ _ ⟨_, _, _, _, _, _, _, _, _, _, _, _, _, _, _, _, _, _, _, rfl, _⟩; rfl) | (rintro _ _ ⟨_, _, _, _, _, _, _, _, _, _, _, _, _, _, _, _, _, _, _, _, rfl, _⟩; rfl) | (rintro _ _ ⟨_, _, _, _, _, _, _, _, _, _, _, _, _, _, _, _, _, _, _, _, _, rfl, _⟩; rfl)
theorem hl_is_solid : ∀ ds K', sp_is_solid ds K' → ds.length = 1 := by first | (rintro _ _ ⟨rfl, _⟩; rfl) | (rintro _ _ ⟨_, rfl, _⟩; rfl) | (rintro _ _ ⟨_, _, rfl, _⟩; rfl) | (rintro _ _ ⟨_, _, _, rfl, _⟩; rfl) | (rintro _ _ ⟨_, _, _, _, rfl, _⟩; rfl) | (rintro _ _ ⟨_, _, _, _, _, rfl, _⟩; rfl) | (rintro _ _ ⟨_, _, _, _, _, _, rfl, _⟩; rfl) | (rintro _ _ ⟨_, _, _, _, _, _, _, rfl, _⟩; rfl) | (rintro _ _ ⟨_, _, _, _, _, _, _, _, rfl, _⟩; rfl) | (rintro _ _ ⟨_, _, _, _, _, _, _, _, _, rfl, _⟩; rfl) | (rintro _ _ ⟨_, _, _, _, _, _, _, _, _, _, rfl, _⟩; rfl) | (rintro _ _ ⟨_, _, _, _, _, _, _, _, _, _, _, rfl, _⟩; rfl) | (rintro _ _ ⟨_, _, _, _, _, _, _, _, _, _, _, _, rfl, _⟩; rfl) | (rintro _ _ ⟨_, _, _, _, _, _, _, _, _, _, _, _, _, rfl, _⟩; rfl) | (rintro _ _ ⟨_, _, _, _, _, _, _, _, _, _, _, _, _, _, rfl, _⟩; rfl) | (rintro _ _ ⟨_, _, _, _, _, _, _, _, _, _, _, _, _, _, _, rfl, _⟩; rfl) | (rintro _ _ ⟨_, _, _, _, _, _, _, _, _, _, _, _, _, _, _, _, rfl, _⟩; rfl) | (rintro _ _ ⟨_, _, _, _, _, _, _, _, _, _, _, _, _, _, _, _, _, rfl, _⟩; rfl) | (rintro _ _ ⟨_, _, _, _, _, _, _, _, _, _, _, _, _, _, _, _, _, _, rfl, _⟩; rfl) | (rintro _ _ ⟨_, _, _, _, _, _, _, _, _, _, _, _, _, _, _, _, _, _, _, rfl, _⟩; rfl) | (rintro _ _ ⟨_, _, _, _, _, _, _, _, _, _, _, _, _, _, _, _, _, _, _, _, rfl, _⟩; rfl) | (rintro _ _ ⟨_, _, _, _, _, _, _, _, _, _, _, _, _, _, _, _, _, _, _, _, _, rfl, _⟩; rfl)
theorem hl_box : ∀ ds K', sp_box ds K' → ds.length = 2 := by first | (rintro _ _ ⟨rfl, _⟩; rfl) | (rintro _ _ ⟨_, rfl, _⟩; rfl) | (rintro _ _ ⟨_, _, rfl, _⟩; rfl) | (rintro _ _ ⟨_, _, _, rfl, _⟩; rfl) | (rintro _ _ ⟨_, _, _, _, rfl, _⟩; rfl) | (rintro _ _ ⟨_, _, _, _, _, rfl, _⟩; rfl) | (rintro _ _ ⟨_, _, _, _, _, _, rfl, _⟩; rfl) | (rintro _ _ ⟨_, _, _, _, _, _, _, rfl, _⟩; rfl) | (rintro _ _ ⟨_, _, _, _, _, _, _, _, rfl, _⟩; rfl) | (rintro _ _ ⟨_, _, _, _, _, _, _, _, _, rfl, _⟩; rfl) | (rintro _ _ ⟨_, _, _, _, _, _, _, _, _, _, rfl, _⟩; rfl) | (rintro _ _ ⟨_, _, _, _, _, _, _, _, _, _, _, rfl, _⟩; rfl) | (rintro _ _ ⟨_, _, _, _, _, _, _, _, _, _, _, _, rfl, _⟩; rfl) | (rintro _ _ ⟨_, _, _, _, _, _, _, _, _, _, _, _, _, rfl, _⟩; rfl) | (rintro _ _ ⟨_, _, _, _, _, _, _, _, _, _, _, _, _, _, rfl, _⟩; rfl) | (rintro _ _ ⟨_, _, _, _, _, _, _, _, _, _, _, _, _, _, _, rfl, _⟩; rfl) | (rintro _ _ ⟨_, _, _, _, _, _, _, _, _, _, _, _, _, _, _, _, rfl, _⟩; rfl) | (rintro _ _ ⟨_, _, _, _, _, _, _, _, _, _, _, _, _, _, _, _, _, rfl, _⟩; rfl) | (rintro _ _ ⟨_, _, _, _, _, _, _, _, _, _, _, _, _, _, _, _, _, _, rfl, _⟩; rfl) | (rintro _ _ ⟨_, _, _, _, _, _, _, _, _, _, _, _, _, _, _, _, _, _, _, rfl, _⟩; rfl) | (rintro _ _ ⟨_, _, _, _, _, _, _, _, _, _, _, _, _, _, _, _, _, _, _, _, rfl, _⟩; rfl) | (rintro _ _ ⟨_, _, _, _, _, _, _, _, _, _, _, _, _, _, _, _, _, _, _, _, _, rfl, _⟩; rfl)
theorem hl__law_cell_at : ∀ ds K', sp__law_cell_at ds K' → ds.length = 2 := by first | (rintro _ _ ⟨rfl, _⟩; rfl) | (rintro _ _ ⟨_, rfl, _⟩; rfl) | (rintro _ _ ⟨_, _, rfl, _⟩; rfl) | (rintro _ _ ⟨_, _, _, rfl, _⟩; rfl) | (rintro _ _ ⟨_, _, _, _, rfl, _⟩; rfl) | (rintro _ _ ⟨_, _, _, _, _, rfl, _⟩; rfl) | (rintro _ _ ⟨_, _, _, _, _, _, rfl, _⟩; rfl) | (rintro _ _ ⟨_, _, _, _, _, _, _, rfl, _⟩; rfl) | (rintro _ _ ⟨_, _, _, _, _, _, _, _, rfl, _⟩; rfl) | (rintro _ _ ⟨_, _, _, _, _, _, _, _, _, rfl, _⟩; rfl) | (rintro _ _ ⟨_, _, _, _, _, _, _, _, _, _, rfl, _⟩; rfl) | (rintro _ _ ⟨_, _, _, _, _, _, _, _, _, _, _, rfl, _⟩; rfl) | (rintro _ _ ⟨_, _, _, _, _, _, _, _, _, _, _, _, rfl, _⟩; rfl) | (rintro _ _ ⟨_, _, _, _, _, _, _, _, _, _, _, _, _, rfl, _⟩; rfl) | (rintro _ _ ⟨_, _, _, _, _, _, _, _, _, _, _, _, _, _, rfl, _⟩; rfl) | (rintro _ _ ⟨_, _, _, _, _, _, _, _, _, _, _, _, _, _, _, rfl, _⟩; rfl) | (rintro _ _ ⟨_, _, _, _, _, _, _, _, _, _, _, _, _, _, _, _, rfl, _⟩; rfl) | (rintro _ _ ⟨_, _, _, _, _, _, _, _, _, _, _, _, _, _, _, _, _, rfl, _⟩; rfl) | (rintro _ _ ⟨_, _, _, _, _, _, _, _, _, _, _, _, _, _, _, _, _, _, rfl, _⟩; rfl) | (rintro _ _ ⟨_, _, _, _, _, _, _, _, _, _, _, _, _, _, _, _, _, _, _, rfl, _⟩; rfl) | (rintro _ _ ⟨_, _, _, _, _, _, _, _, _, _, _, _, _, _, _, _, _, _, _, _, rfl, _⟩; rfl) | (rintro _ _ ⟨_, _, _, _, _, _, _, _, _, _, _, _, _, _, _, _, _, _, _, _, _, rfl, _⟩; rfl)
theorem hl__law_draw : ∀ ds K', sp__law_draw ds K' → ds.length = 3 := by first | (rintro _ _ ⟨rfl, _⟩; rfl) | (rintro _ _ ⟨_, rfl, _⟩; rfl) | (rintro _ _ ⟨_, _, rfl, _⟩; rfl) | (rintro _ _ ⟨_, _, _, rfl, _⟩; rfl) | (rintro _ _ ⟨_, _, _, _, rfl, _⟩; rfl) | (rintro _ _ ⟨_, _, _, _, _, rfl, _⟩; rfl) | (rintro _ _ ⟨_, _, _, _, _, _, rfl, _⟩; rfl) | (rintro _ _ ⟨_, _, _, _, _, _, _, rfl, _⟩; rfl) | (rintro _ _ ⟨_, _, _, _, _, _, _, _, rfl, _⟩; rfl) | (rintro _ _ ⟨_, _, _, _, _, _, _, _, _, rfl, _⟩; rfl) | (rintro _ _ ⟨_, _, _, _, _, _, _, _, _, _, rfl, _⟩; rfl) | (rintro _ _ ⟨_, _, _, _, _, _, _, _, _, _, _, rfl, _⟩; rfl) | (rintro _ _ ⟨_, _, _, _, _, _, _, _, _, _, _, _, rfl, _⟩; rfl) | (rintro _ _ ⟨_, _, _, _, _, _, _, _, _, _, _, _, _, rfl, _⟩; rfl) | (rintro _ _ ⟨_, _, _, _, _, _, _, _, _, _, _, _, _, _, rfl, _⟩; rfl) | (rintro _ _ ⟨_, _, _, _, _, _, _, _, _, _, _, _, _, _, _, rfl, _⟩; rfl) | (rintro _ _ ⟨_, _, _, _, _, _, _, _, _, _, _, _, _, _, _, _, rfl, _⟩; rfl) | (rintro _ _ ⟨_, _, _, _, _, _, _, _, _, _, _, _, _, _, _, _, _, rfl, _⟩; rfl) | (rintro _ _ ⟨_, _, _, _, _, _, _, _, _, _, _, _, _, _, _, _, _, _, rfl, _⟩; rfl) | (rintro _ _ ⟨_, _, _, _, _, _, _, _, _, _, _, _, _, _, _, _, _, _, _, rfl, _⟩; rfl) | (rintro _ _ ⟨_, _, _, _, _, _, _, _, _, _, _, _, _, _, _, _, _, _, _, _, rfl, _⟩; rfl) | (rintro _ _ ⟨_, _, _, _, _, _, _, _, _, _, _, _, _, _, _, _, _, _, _, _, _, rfl, _⟩; rfl)
theorem hl__law_number : ∀ ds K', sp__law_number ds K' → ds.length = 3 := by first | (rintro _ _ ⟨rfl, _⟩; rfl) | (rintro _ _ ⟨_, rfl, _⟩; rfl) | (rintro _ _ ⟨_, _, rfl, _⟩; rfl) | (rintro _ _ ⟨_, _, _, rfl, _⟩; rfl) | (rintro _ _ ⟨_, _, _, _, rfl, _⟩; rfl) | (rintro _ _ ⟨_, _, _, _, _, rfl, _⟩; rfl) | (rintro _ _ ⟨_, _, _, _, _, _, rfl, _⟩; rfl) | (rintro _ _ ⟨_, _, _, _, _, _, _, rfl, _⟩; rfl) | (rintro _ _ ⟨_, _, _, _, _, _, _, _, rfl, _⟩; rfl) | (rintro _ _ ⟨_, _, _, _, _, _, _, _, _, rfl, _⟩; rfl) | (rintro _ _ ⟨_, _, _, _, _, _, _, _, _, _, rfl, _⟩; rfl) | (rintro _ _ ⟨_, _, _, _, _, _, _, _, _, _, _, rfl, _⟩; rfl) | (rintro _ _ ⟨_, _, _, _, _, _, _, _, _, _, _, _, rfl, _⟩; rfl) | (rintro _ _ ⟨_, _, _, _, _, _, _, _, _, _, _, _, _, rfl, _⟩; rfl) | (rintro _ _ ⟨_, _, _, _, _, _, _, _, _, _, _, _, _, _, rfl, _⟩; rfl) | (rintro _ _ ⟨_, _, _, _, _, _, _, _, _, _, _, _, _, _, _, rfl, _⟩; rfl) | (rintro _ _ ⟨_, _, _, _, _, _, _, _, _, _, _, _, _, _, _, _, rfl, _⟩; rfl) | (rintro _ _ ⟨_, _, _, _, _, _, _, _, _, _, _, _, _, _, _, _, _, rfl, _⟩; rfl) | (rintro _ _ ⟨_, _, _, _, _, _, _, _, _, _, _, _, _, _, _, _, _, _, rfl, _⟩; rfl) | (rintro _ _ ⟨_, _, _, _, _, _, _, _, _, _, _, _, _, _, _, _, _, _, _, rfl, _⟩; rfl) | (rintro _ _ ⟨_, _, _, _, _, _, _, _, _, _, _, _, _, _, _, _, _, _, _, _, rfl, _⟩; rfl) | (rintro _ _ ⟨_, _, _, _, _, _, _, _, _, _, _, _, _, _, _, _, _, _, _, _, _, rfl, _⟩; rfl)
theorem hl__law_next : ∀ ds K', sp__law_next ds K' → ds.length = 2 := by first | (rintro _ _ ⟨rfl, _⟩; rfl) | (rintro _ _ ⟨_, rfl, _⟩; rfl) | (rintro _ _ ⟨_, _, rfl, _⟩; rfl) | (rintro _ _ ⟨_, _, _, rfl, _⟩; rfl) | (rintro _ _ ⟨_, _, _, _, rfl, _⟩; rfl) | (rintro _ _ ⟨_, _, _, _, _, rfl, _⟩; rfl) | (rintro _ _ ⟨_, _, _, _, _, _, rfl, _⟩; rfl) | (rintro _ _ ⟨_, _, _, _, _, _, _, rfl, _⟩; rfl) | (rintro _ _ ⟨_, _, _, _, _, _, _, _, rfl, _⟩; rfl) | (rintro _ _ ⟨_, _, _, _, _, _, _, _, _, rfl, _⟩; rfl) | (rintro _ _ ⟨_, _, _, _, _, _, _, _, _, _, rfl, _⟩; rfl) | (rintro _ _ ⟨_, _, _, _, _, _, _, _, _, _, _, rfl, _⟩; rfl) | (rintro _ _ ⟨_, _, _, _, _, _, _, _, _, _, _, _, rfl, _⟩; rfl) | (rintro _ _ ⟨_, _, _, _, _, _, _, _, _, _, _, _, _, rfl, _⟩; rfl) | (rintro _ _ ⟨_, _, _, _, _, _, _, _, _, _, _, _, _, _, rfl, _⟩; rfl) | (rintro _ _ ⟨_, _, _, _, _, _, _, _, _, _, _, _, _, _, _, rfl, _⟩; rfl) | (rintro _ _ ⟨_, _, _, _, _, _, _, _, _, _, _, _, _, _, _, _, rfl, _⟩; rfl) | (rintro _ _ ⟨_, _, _, _, _, _, _, _, _, _, _, _, _, _, _, _, _, rfl, _⟩; rfl) | (rintro _ _ ⟨_, _, _, _, _, _, _, _, _, _, _, _, _, _, _, _, _, _, rfl, _⟩; rfl) | (rintro _ _ ⟨_, _, _, _, _, _, _, _, _, _, _, _, _, _, _, _, _, _, _, rfl, _⟩; rfl) | (rintro _ _ ⟨_, _, _, _, _, _, _, _, _, _, _, _, _, _, _, _, _, _, _, _, rfl, _⟩; rfl) | (rintro _ _ ⟨_, _, _, _, _, _, _, _, _, _, _, _, _, _, _, _, _, _, _, _, _, rfl, _⟩; rfl)
theorem hl__law_boxes : ∀ ds K', sp__law_boxes ds K' → ds.length = 3 := by first | (rintro _ _ ⟨rfl, _⟩; rfl) | (rintro _ _ ⟨_, rfl, _⟩; rfl) | (rintro _ _ ⟨_, _, rfl, _⟩; rfl) | (rintro _ _ ⟨_, _, _, rfl, _⟩; rfl) | (rintro _ _ ⟨_, _, _, _, rfl, _⟩; rfl) | (rintro _ _ ⟨_, _, _, _, _, rfl, _⟩; rfl) | (rintro _ _ ⟨_, _, _, _, _, _, rfl, _⟩; rfl) | (rintro _ _ ⟨_, _, _, _, _, _, _, rfl, _⟩; rfl) | (rintro _ _ ⟨_, _, _, _, _, _, _, _, rfl, _⟩; rfl) | (rintro _ _ ⟨_, _, _, _, _, _, _, _, _, rfl, _⟩; rfl) | (rintro _ _ ⟨_, _, _, _, _, _, _, _, _, _, rfl, _⟩; rfl) | (rintro _ _ ⟨_, _, _, _, _, _, _, _, _, _, _, rfl, _⟩; rfl) | (rintro _ _ ⟨_, _, _, _, _, _, _, _, _, _, _, _, rfl, _⟩; rfl) | (rintro _ _ ⟨_, _, _, _, _, _, _, _, _, _, _, _, _, rfl, _⟩; rfl) | (rintro _ _ ⟨_, _, _, _, _, _, _, _, _, _, _, _, _, _, rfl, _⟩; rfl) | (rintro _ _ ⟨_, _, _, _, _, _, _, _, _, _, _, _, _, _, _, rfl, _⟩; rfl) | (rintro _ _ ⟨_, _, _, _, _, _, _, _, _, _, _, _, _, _, _, _, rfl, _⟩; rfl) | (rintro _ _ ⟨_, _, _, _, _, _, _, _, _, _, _, _, _, _, _, _, _, rfl, _⟩; rfl) | (rintro _ _ ⟨_, _, _, _, _, _, _, _, _, _, _, _, _, _, _, _, _, _, rfl, _⟩; rfl) | (rintro _ _ ⟨_, _, _, _, _, _, _, _, _, _, _, _, _, _, _, _, _, _, _, rfl, _⟩; rfl) | (rintro _ _ ⟨_, _, _, _, _, _, _, _, _, _, _, _, _, _, _, _, _, _, _, _, rfl, _⟩; rfl) | (rintro _ _ ⟨_, _, _, _, _, _, _, _, _, _, _, _, _, _, _, _, _, _, _, _, _, rfl, _⟩; rfl)
theorem hl__law_solid : ∀ ds K', sp__law_solid ds K' → ds.length = 1 := by first | (rintro _ _ ⟨rfl, _⟩; rfl) | (rintro _ _ ⟨_, rfl, _⟩; rfl) | (rintro _ _ ⟨_, _, rfl, _⟩; rfl) | (rintro _ _ ⟨_, _, _, rfl, _⟩; rfl) | (rintro _ _ ⟨_, _, _, _, rfl, _⟩; rfl) | (rintro _ _ ⟨_, _, _, _, _, rfl, _⟩; rfl) | (rintro _ _ ⟨_, _, _, _, _, _, rfl, _⟩; rfl) | (rintro _ _ ⟨_, _, _, _, _, _, _, rfl, _⟩; rfl) | (rintro _ _ ⟨_, _, _, _, _, _, _, _, rfl, _⟩; rfl) | (rintro _ _ ⟨_, _, _, _, _, _, _, _, _, rfl, _⟩; rfl) | (rintro _ _ ⟨_, _, _, _, _, _, _, _, _, _, rfl, _⟩; rfl) | (rintro _ _ ⟨_, _, _, _, _, _, _, _, _, _, _, rfl, _⟩; rfl) | (rintro _ _ ⟨_, _, _, _, _, _, _, _, _, _, _, _, rfl, _⟩; rfl) | (rintro _ _ ⟨_, _, _, _, _, _, _, _, _, _, _, _, _, rfl, _⟩; rfl) | (rintro _ _ ⟨_, _, _, _, _, _, _, _, _, _, _, _, _, _, rfl, _⟩; rfl) | (rintro _ _ ⟨_, _, _, _, _, _, _, _, _, _, _, _, _, _, _, rfl, _⟩; rfl) | (rintro _ _ ⟨_, _, _, _, _, _, _, _, _, _, _, _, _, _, _, _, rfl, _⟩; rfl) | (rintro _ _ ⟨_, _, _, _, _, _, _, _, _, _, _, _, _, _, _, _, _, rfl, _⟩; rfl) | (rintro _ _ ⟨_, _, _, _, _, _, _, _, _, _, _, _, _, _, _, _, _, _, rfl, _⟩; rfl) | (rintro _ _ ⟨_, _, _, _, _, _, _, _, _, _, _, _, _, _, _, _, _, _, _, rfl, _⟩; rfl) | (rintro _ _ ⟨_, _, _, _, _, _, _, _, _, _, _, _, _, _, _, _, _, _, _, _, rfl, _⟩; rfl) | (rintro _ _ ⟨_, _, _, _, _, _, _, _, _, _, _, _, _, _, _, _, _, _, _, _, _, rfl, _⟩; rfl)
theorem hl__law_bent : ∀ ds K', sp__law_bent ds K' → ds.length = 2 := by first | (rintro _ _ ⟨rfl, _⟩; rfl) | (rintro _ _ ⟨_, rfl, _⟩; rfl) | (rintro _ _ ⟨_, _, rfl, _⟩; rfl) | (rintro _ _ ⟨_, _, _, rfl, _⟩; rfl) | (rintro _ _ ⟨_, _, _, _, rfl, _⟩; rfl) | (rintro _ _ ⟨_, _, _, _, _, rfl, _⟩; rfl) | (rintro _ _ ⟨_, _, _, _, _, _, rfl, _⟩; rfl) | (rintro _ _ ⟨_, _, _, _, _, _, _, rfl, _⟩; rfl) | (rintro _ _ ⟨_, _, _, _, _, _, _, _, rfl, _⟩; rfl) | (rintro _ _ ⟨_, _, _, _, _, _, _, _, _, rfl, _⟩; rfl) | (rintro _ _ ⟨_, _, _, _, _, _, _, _, _, _, rfl, _⟩; rfl) | (rintro _ _ ⟨_, _, _, _, _, _, _, _, _, _, _, rfl, _⟩; rfl) | (rintro _ _ ⟨_, _, _, _, _, _, _, _, _, _, _, _, rfl, _⟩; rfl) | (rintro _ _ ⟨_, _, _, _, _, _, _, _, _, _, _, _, _, rfl, _⟩; rfl) | (rintro _ _ ⟨_, _, _, _, _, _, _, _, _, _, _, _, _, _, rfl, _⟩; rfl) | (rintro _ _ ⟨_, _, _, _, _, _, _, _, _, _, _, _, _, _, _, rfl, _⟩; rfl) | (rintro _ _ ⟨_, _, _, _, _, _, _, _, _, _, _, _, _, _, _, _, rfl, _⟩; rfl) | (rintro _ _ ⟨_, _, _, _, _, _, _, _, _, _, _, _, _, _, _, _, _, rfl, _⟩; rfl) | (rintro _ _ ⟨_, _, _, _, _, _, _, _, _, _, _, _, _, _, _, _, _, _, rfl, _⟩; rfl) | (rintro _ _ ⟨_, _, _, _, _, _, _, _, _, _, _, _, _, _, _, _, _, _, _, rfl, _⟩; rfl) | (rintro _ _ ⟨_, _, _, _, _, _, _, _, _, _, _, _, _, _, _, _, _, _, _, _, rfl, _⟩; rfl) | (rintro _ _ ⟨_, _, _, _, _, _, _, _, _, _, _, _, _, _, _, _, _, _, _, _, _, rfl, _⟩; rfl)
theorem hl__law_is_plain : ∀ ds K', sp__law_is_plain ds K' → ds.length = 1 := by first | (rintro _ _ ⟨rfl, _⟩; rfl) | (rintro _ _ ⟨_, rfl, _⟩; rfl) | (rintro _ _ ⟨_, _, rfl, _⟩; rfl) | (rintro _ _ ⟨_, _, _, rfl, _⟩; rfl) | (rintro _ _ ⟨_, _, _, _, rfl, _⟩; rfl) | (rintro _ _ ⟨_, _, _, _, _, rfl, _⟩; rfl) | (rintro _ _ ⟨_, _, _, _, _, _, rfl, _⟩; rfl) | (rintro _ _ ⟨_, _, _, _, _, _, _, rfl, _⟩; rfl) | (rintro _ _ ⟨_, _, _, _, _, _, _, _, rfl, _⟩; rfl) | (rintro _ _ ⟨_, _, _, _, _, _, _, _, _, rfl, _⟩; rfl) | (rintro _ _ ⟨_, _, _, _, _, _, _, _, _, _, rfl, _⟩; rfl) | (rintro _ _ ⟨_, _, _, _, _, _, _, _, _, _, _, rfl, _⟩; rfl) | (rintro _ _ ⟨_, _, _, _, _, _, _, _, _, _, _, _, rfl, _⟩; rfl) | (rintro _ _ ⟨_, _, _, _, _, _, _, _, _, _, _, _, _, rfl, _⟩; rfl) | (rintro _ _ ⟨_, _, _, _, _, _, _, _, _, _, _, _, _, _, rfl, _⟩; rfl) | (rintro _ _ ⟨_, _, _, _, _, _, _, _, _, _, _, _, _, _, _, rfl, _⟩; rfl) | (rintro _ _ ⟨_, _, _, _, _, _, _, _, _, _, _, _, _, _, _, _, rfl, _⟩; rfl) | (rintro _ _ ⟨_, _, _, _, _, _, _, _, _, _, _, _, _, _, _, _, _, rfl, _⟩; rfl) | (rintro _ _ ⟨_, _, _, _, _, _, _, _, _, _, _, _, _, _, _, _, _, _, rfl, _⟩; rfl) | (rintro _ _ ⟨_, _, _, _, _, _, _, _, _, _, _, _, _, _, _, _, _, _, _, rfl, _⟩; rfl) | (rintro _ _ ⟨_, _, _, _, _, _, _, _, _, _, _, _, _, _, _, _, _, _, _, _, rfl, _⟩; rfl) | (rintro _ _ ⟨_, _, _, _, _, _, _, _, _, _, _, _, _, _, _, _, _, _, _, _, _, rfl, _⟩; rfl)
theorem hl__law_inside : ∀ ds K', sp__law_inside ds K' → ds.length = 1 := by first | (rintro _ _ ⟨rfl, _⟩; rfl) | (rintro _ _ ⟨_, rfl, _⟩; rfl) | (rintro _ _ ⟨_, _, rfl, _⟩; rfl) | (rintro _ _ ⟨_, _, _, rfl, _⟩; rfl) | (rintro _ _ ⟨_, _, _, _, rfl, _⟩; rfl) | (rintro _ _ ⟨_, _, _, _, _, rfl, _⟩; rfl) | (rintro _ _ ⟨_, _, _, _, _, _, rfl, _⟩; rfl) | (rintro _ _ ⟨_, _, _, _, _, _, _, rfl, _⟩; rfl) | (rintro _ _ ⟨_, _, _, _, _, _, _, _, rfl, _⟩; rfl) | (rintro _ _ ⟨_, _, _, _, _, _, _, _, _, rfl, _⟩; rfl) | (rintro _ _ ⟨_, _, _, _, _, _, _, _, _, _, rfl, _⟩; rfl) | (rintro _ _ ⟨_, _, _, _, _, _, _, _, _, _, _, rfl, _⟩; rfl) | (rintro _ _ ⟨_, _, _, _, _, _, _, _, _, _, _, _, rfl, _⟩; rfl) | (rintro _ _ ⟨_, _, _, _, _, _, _, _, _, _, _, _, _, rfl, _⟩; rfl) | (rintro _ _ ⟨_, _, _, _, _, _, _, _, _, _, _, _, _, _, rfl, _⟩; rfl) | (rintro _ _ ⟨_, _, _, _, _, _, _, _, _, _, _, _, _, _, _, rfl, _⟩; rfl) | (rintro _ _ ⟨_, _, _, _, _, _, _, _, _, _, _, _, _, _, _, _, rfl, _⟩; rfl) | (rintro _ _ ⟨_, _, _, _, _, _, _, _, _, _, _, _, _, _, _, _, _, rfl, _⟩; rfl) | (rintro _ _ ⟨_, _, _, _, _, _, _, _, _, _, _, _, _, _, _, _, _, _, rfl, _⟩; rfl) | (rintro _ _ ⟨_, _, _, _, _, _, _, _, _, _, _, _, _, _, _, _, _, _, _, rfl, _⟩; rfl) | (rintro _ _ ⟨_, _, _, _, _, _, _, _, _, _, _, _, _, _, _, _, _, _, _, _, rfl, _⟩; rfl) | (rintro _ _ ⟨_, _, _, _, _, _, _, _, _, _, _, _, _, _, _, _, _, _, _, _, _, rfl, _⟩; rfl)
theorem hl_law : ∀ ds K', (lawSpec 63) ds K' → ds.length = 1 := by first | (rintro _ _ ⟨rfl, _⟩; rfl) | (rintro _ _ ⟨_, rfl, _⟩; rfl) | (rintro _ _ ⟨_, _, rfl, _⟩; rfl) | (rintro _ _ ⟨_, _, _, rfl, _⟩; rfl) | (rintro _ _ ⟨_, _, _, _, rfl, _⟩; rfl) | (rintro _ _ ⟨_, _, _, _, _, rfl, _⟩; rfl) | (rintro _ _ ⟨_, _, _, _, _, _, rfl, _⟩; rfl) | (rintro _ _ ⟨_, _, _, _, _, _, _, rfl, _⟩; rfl) | (rintro _ _ ⟨_, _, _, _, _, _, _, _, rfl, _⟩; rfl) | (rintro _ _ ⟨_, _, _, _, _, _, _, _, _, rfl, _⟩; rfl) | (rintro _ _ ⟨_, _, _, _, _, _, _, _, _, _, rfl, _⟩; rfl) | (rintro _ _ ⟨_, _, _, _, _, _, _, _, _, _, _, rfl, _⟩; rfl) | (rintro _ _ ⟨_, _, _, _, _, _, _, _, _, _, _, _, rfl, _⟩; rfl) | (rintro _ _ ⟨_, _, _, _, _, _, _, _, _, _, _, _, _, rfl, _⟩; rfl) | (rintro _ _ ⟨_, _, _, _, _, _, _, _, _, _, _, _, _, _, rfl, _⟩; rfl) | (rintro _ _ ⟨_, _, _, _, _, _, _, _, _, _, _, _, _, _, _, rfl, _⟩; rfl) | (rintro _ _ ⟨_, _, _, _, _, _, _, _, _, _, _, _, _, _, _, _, rfl, _⟩; rfl) | (rintro _ _ ⟨_, _, _, _, _, _, _, _, _, _, _, _, _, _, _, _, _, rfl, _⟩; rfl) | (rintro _ _ ⟨_, _, _, _, _, _, _, _, _, _, _, _, _, _, _, _, _, _, rfl, _⟩; rfl) | (rintro _ _ ⟨_, _, _, _, _, _, _, _, _, _, _, _, _, _, _, _, _, _, _, rfl, _⟩; rfl) | (rintro _ _ ⟨_, _, _, _, _, _, _, _, _, _, _, _, _, _, _, _, _, _, _, _, rfl, _⟩; rfl) | (rintro _ _ ⟨_, _, _, _, _, _, _, _, _, _, _, _, _, _, _, _, _, _, _, _, _, rfl, _⟩; rfl)
theorem all_mk {l : PySem.W.OpenLaw} {w : World} {K : PySem.W.Frag} {h : Heap} {mg : Str → Option Value} {fa : Addr} (X : K.In h) (G : h.Ns mainGlobals mg) (hfa : mg "law" = some (.ref fa))
    {f_put : Addr} {od0 an0 : Option Addr} {sl0 : Array (Option Value)} {oc0 kV0 dc0 pm0 cd0 ct0 : Value}
    {f_put_all : Addr} {od1 an1 : Option Addr} {sl1 : Array (Option Value)} {oc1 kV1 dc1 pm1 cd1 ct1 : Value}
    {f_first_ending_beyond : Addr} {od2 an2 : Option Addr} {sl2 : Array (Option Value)} {oc2 kV2 dc2 pm2 cd2 ct2 : Value}
    {f_first_beginning_from : Addr} {od3 an3 : Option Addr} {sl3 : Array (Option Value)} {oc3 kV3 dc3 pm3 cd3 ct3 : Value}
    {f_merged : Addr} {od4 an4 : Option Addr} {sl4 : Array (Option Value)} {oc4 kV4 dc4 pm4 cd4 ct4 : Value}
    {f_joined_rows : Addr} {od5 an5 : Option Addr} {sl5 : Array (Option Value)} {oc5 kV5 dc5 pm5 cd5 ct5 : Value}
    {f_lay_over : Addr} {od6 an6 : Option Addr} {sl6 : Array (Option Value)} {oc6 kV6 dc6 pm6 cd6 ct6 : Value}
    {f_combined : Addr} {od7 an7 : Option Addr} {sl7 : Array (Option Value)} {oc7 kV7 dc7 pm7 cd7 ct7 : Value}
    {f_joined_layers : Addr} {od8 an8 : Option Addr} {sl8 : Array (Option Value)} {oc8 kV8 dc8 pm8 cd8 ct8 : Value}
    {f_union : Addr} {od9 an9 : Option Addr} {sl9 : Array (Option Value)} {oc9 kV9 dc9 pm9 cd9 ct9 : Value}
    {f_union_of : Addr} {od10 an10 : Option Addr} {sl10 : Array (Option Value)} {oc10 kV10 dc10 pm10 cd10 ct10 : Value}
    {f_is_integer : Addr} {od11 an11 : Option Addr} {sl11 : Array (Option Value)} {oc11 kV11 dc11 pm11 cd11 ct11 : Value}
    {f_is_stretch : Addr} {od12 an12 : Option Addr} {sl12 : Array (Option Value)} {oc12 kV12 dc12 pm12 cd12 ct12 : Value}
    {f_is_row : Addr} {od13 an13 : Option Addr} {sl13 : Array (Option Value)} {oc13 kV13 dc13 pm13 cd13 ct13 : Value}
    {f_are_slabs : Addr} {od14 an14 : Option Addr} {sl14 : Array (Option Value)} {oc14 kV14 dc14 pm14 cd14 ct14 : Value}
    {f_is_layer : Addr} {od15 an15 : Option Addr} {sl15 : Array (Option Value)} {oc15 kV15 dc15 pm15 cd15 ct15 : Value}
    {f_is_solid : Addr} {od16 an16 : Option Addr} {sl16 : Array (Option Value)} {oc16 kV16 dc16 pm16 cd16 ct16 : Value}
    {f_box : Addr} {od17 an17 : Option Addr} {sl17 : Array (Option Value)} {oc17 kV17 dc17 pm17 cd17 ct17 : Value}
    {f__law_cell_at : Addr} {od18 an18 : Option Addr} {sl18 : Array (Option Value)} {oc18 kV18 dc18 pm18 cd18 ct18 : Value}
    {f__law_draw : Addr} {od19 an19 : Option Addr} {sl19 : Array (Option Value)} {oc19 kV19 dc19 pm19 cd19 ct19 : Value}
    {f__law_number : Addr} {od20 an20 : Option Addr} {sl20 : Array (Option Value)} {oc20 kV20 dc20 pm20 cd20 ct20 : Value}
    {f__law_next : Addr} {od21 an21 : Option Addr} {sl21 : Array (Option Value)} {oc21 kV21 dc21 pm21 cd21 ct21 : Value}
    {f__law_boxes : Addr} {od22 an22 : Option Addr} {sl22 : Array (Option Value)} {oc22 kV22 dc22 pm22 cd22 ct22 : Value}
    {f__law_solid : Addr} {od23 an23 : Option Addr} {sl23 : Array (Option Value)} {oc23 kV23 dc23 pm23 cd23 ct23 : Value}
    {f__law_bent : Addr} {od24 an24 : Option Addr} {sl24 : Array (Option Value)} {oc24 kV24 dc24 pm24 cd24 ct24 : Value}
    {f__law_is_plain : Addr} {od25 an25 : Option Addr} {sl25 : Array (Option Value)} {oc25 kV25 dc25 pm25 cd25 ct25 : Value}
    {f__law_inside : Addr} {od26 an26 : Option Addr} {sl26 : Array (Option Value)} {oc26 kV26 dc26 pm26 cd26 ct26 : Value}
    {f_law : Addr} {od27 an27 : Option Addr} {sl27 : Array (Option Value)} {oc27 kV27 dc27 pm27 cd27 ct27 : Value}
    (a_put : PySem.W.nsIn K mainGlobals "put" = some (some (.ref f_put))) (l_put : K.lookup f_put = some ⟨oc0, od0, .func (PySem.W.fnOf "put" "put" (defArgs st_put) (defBody st_put) (defScope st_put) .none kV0 dc0 pm0 an0 cd0 ct0), sl0⟩) (c_put : PySem.W.codeIn K cd0 "put" = true) (k_put : PySem.W.keepIn K (.ref f_put) = true)
    (a_put_all : PySem.W.nsIn K mainGlobals "put_all" = some (some (.ref f_put_all))) (l_put_all : K.lookup f_put_all = some ⟨oc1, od1, .func (PySem.W.fnOf "put_all" "put_all" (defArgs st_put_all) (defBody st_put_all) (defScope st_put_all) .none kV1 dc1 pm1 an1 cd1 ct1), sl1⟩) (c_put_all : PySem.W.codeIn K cd1 "put_all" = true) (k_put_all : PySem.W.keepIn K (.ref f_put_all) = true)
    (a_first_ending_beyond : PySem.W.nsIn K mainGlobals "first_ending_beyond" = some (some (.ref f_first_ending_beyond))) (l_first_ending_beyond : K.lookup f_first_ending_beyond = some ⟨oc2, od2, .func (PySem.W.fnOf "first_ending_beyond" "first_ending_beyond" (defArgs st_first_ending_beyond) (defBody st_first_ending_beyond) (defScope st_first_ending_beyond) .none kV2 dc2 pm2 an2 cd2 ct2), sl2⟩) (c_first_ending_beyond : PySem.W.codeIn K cd2 "first_ending_beyond" = true) (k_first_ending_beyond : PySem.W.keepIn K (.ref f_first_ending_beyond) = true)
    (a_first_beginning_from : PySem.W.nsIn K mainGlobals "first_beginning_from" = some (some (.ref f_first_beginning_from))) (l_first_beginning_from : K.lookup f_first_beginning_from = some ⟨oc3, od3, .func (PySem.W.fnOf "first_beginning_from" "first_beginning_from" (defArgs st_first_beginning_from) (defBody st_first_beginning_from) (defScope st_first_beginning_from) .none kV3 dc3 pm3 an3 cd3 ct3), sl3⟩) (c_first_beginning_from : PySem.W.codeIn K cd3 "first_beginning_from" = true) (k_first_beginning_from : PySem.W.keepIn K (.ref f_first_beginning_from) = true)
    (a_merged : PySem.W.nsIn K mainGlobals "merged" = some (some (.ref f_merged))) (l_merged : K.lookup f_merged = some ⟨oc4, od4, .func (PySem.W.fnOf "merged" "merged" (defArgs st_merged) (defBody st_merged) (defScope st_merged) .none kV4 dc4 pm4 an4 cd4 ct4), sl4⟩) (c_merged : PySem.W.codeIn K cd4 "merged" = true) (k_merged : PySem.W.keepIn K (.ref f_merged) = true)
    (a_joined_rows : PySem.W.nsIn K mainGlobals "joined_rows" = some (some (.ref f_joined_rows))) (l_joined_rows : K.lookup f_joined_rows = some ⟨oc5, od5, .func (PySem.W.fnOf "joined_rows" "joined_rows" (defArgs st_joined_rows) (defBody st_joined_rows) (defScope st_joined_rows) .none kV5 dc5 pm5 an5 cd5 ct5), sl5⟩) (c_joined_rows : PySem.W.codeIn K cd5 "joined_rows" = true) (k_joined_rows : PySem.W.keepIn K (.ref f_joined_rows) = true)
    (a_lay_over : PySem.W.nsIn K mainGlobals "lay_over" = some (some (.ref f_lay_over))) (l_lay_over : K.lookup f_lay_over = some ⟨oc6, od6, .func (PySem.W.fnOf "lay_over" "lay_over" (defArgs st_lay_over) (defBody st_lay_over) (defScope st_lay_over) .none kV6 dc6 pm6 an6 cd6 ct6), sl6⟩) (c_lay_over : PySem.W.codeIn K cd6 "lay_over" = true) (k_lay_over : PySem.W.keepIn K (.ref f_lay_over) = true)
    (a_combined : PySem.W.nsIn K mainGlobals "combined" = some (some (.ref f_combined))) (l_combined : K.lookup f_combined = some ⟨oc7, od7, .func (PySem.W.fnOf "combined" "combined" (defArgs st_combined) (defBody st_combined) (defScope st_combined) .none kV7 dc7 pm7 an7 cd7 ct7), sl7⟩) (c_combined : PySem.W.codeIn K cd7 "combined" = true) (k_combined : PySem.W.keepIn K (.ref f_combined) = true)
    (a_joined_layers : PySem.W.nsIn K mainGlobals "joined_layers" = some (some (.ref f_joined_layers))) (l_joined_layers : K.lookup f_joined_layers = some ⟨oc8, od8, .func (PySem.W.fnOf "joined_layers" "joined_layers" (defArgs st_joined_layers) (defBody st_joined_layers) (defScope st_joined_layers) .none kV8 dc8 pm8 an8 cd8 ct8), sl8⟩) (c_joined_layers : PySem.W.codeIn K cd8 "joined_layers" = true) (k_joined_layers : PySem.W.keepIn K (.ref f_joined_layers) = true)
    (a_union : PySem.W.nsIn K mainGlobals "union" = some (some (.ref f_union))) (l_union : K.lookup f_union = some ⟨oc9, od9, .func (PySem.W.fnOf "union" "union" (defArgs st_union) (defBody st_union) (defScope st_union) .none kV9 dc9 pm9 an9 cd9 ct9), sl9⟩) (c_union : PySem.W.codeIn K cd9 "union" = true) (k_union : PySem.W.keepIn K (.ref f_union) = true)
    (a_union_of : PySem.W.nsIn K mainGlobals "union_of" = some (some (.ref f_union_of))) (l_union_of : K.lookup f_union_of = some ⟨oc10, od10, .func (PySem.W.fnOf "union_of" "union_of" (defArgs st_union_of) (defBody st_union_of) (defScope st_union_of) .none kV10 dc10 pm10 an10 cd10 ct10), sl10⟩) (c_union_of : PySem.W.codeIn K cd10 "union_of" = true) (k_union_of : PySem.W.keepIn K (.ref f_union_of) = true)
    (a_is_integer : PySem.W.nsIn K mainGlobals "is_integer" = some (some (.ref f_is_integer))) (l_is_integer : K.lookup f_is_integer = some ⟨oc11, od11, .func (PySem.W.fnOf "is_integer" "is_integer" (defArgs st_is_integer) (defBody st_is_integer) (defScope st_is_integer) .none kV11 dc11 pm11 an11 cd11 ct11), sl11⟩) (c_is_integer : PySem.W.codeIn K cd11 "is_integer" = true) (k_is_integer : PySem.W.keepIn K (.ref f_is_integer) = true)
    (a_is_stretch : PySem.W.nsIn K mainGlobals "is_stretch" = some (some (.ref f_is_stretch))) (l_is_stretch : K.lookup f_is_stretch = some ⟨oc12, od12, .func (PySem.W.fnOf "is_stretch" "is_stretch" (defArgs st_is_stretch) (defBody st_is_stretch) (defScope st_is_stretch) .none kV12 dc12 pm12 an12 cd12 ct12), sl12⟩) (c_is_stretch : PySem.W.codeIn K cd12 "is_stretch" = true) (k_is_stretch : PySem.W.keepIn K (.ref f_is_stretch) = true)
    (a_is_row : PySem.W.nsIn K mainGlobals "is_row" = some (some (.ref f_is_row))) (l_is_row : K.lookup f_is_row = some ⟨oc13, od13, .func (PySem.W.fnOf "is_row" "is_row" (defArgs st_is_row) (defBody st_is_row) (defScope st_is_row) .none kV13 dc13 pm13 an13 cd13 ct13), sl13⟩) (c_is_row : PySem.W.codeIn K cd13 "is_row" = true) (k_is_row : PySem.W.keepIn K (.ref f_is_row) = true)
    (a_are_slabs : PySem.W.nsIn K mainGlobals "are_slabs" = some (some (.ref f_are_slabs))) (l_are_slabs : K.lookup f_are_slabs = some ⟨oc14, od14, .func (PySem.W.fnOf "are_slabs" "are_slabs" (defArgs st_are_slabs) (defBody st_are_slabs) (defScope st_are_slabs) .none kV14 dc14 pm14 an14 cd14 ct14), sl14⟩) (c_are_slabs : PySem.W.codeIn K cd14 "are_slabs" = true) (k_are_slabs : PySem.W.keepIn K (.ref f_are_slabs) = true)
    (a_is_layer : PySem.W.nsIn K mainGlobals "is_layer" = some (some (.ref f_is_layer))) (l_is_layer : K.lookup f_is_layer = some ⟨oc15, od15, .func (PySem.W.fnOf "is_layer" "is_layer" (defArgs st_is_layer) (defBody st_is_layer) (defScope st_is_layer) .none kV15 dc15 pm15 an15 cd15 ct15), sl15⟩) (c_is_layer : PySem.W.codeIn K cd15 "is_layer" = true) (k_is_layer : PySem.W.keepIn K (.ref f_is_layer) = true)
    (a_is_solid : PySem.W.nsIn K mainGlobals "is_solid" = some (some (.ref f_is_solid))) (l_is_solid : K.lookup f_is_solid = some ⟨oc16, od16, .func (PySem.W.fnOf "is_solid" "is_solid" (defArgs st_is_solid) (defBody st_is_solid) (defScope st_is_solid) .none kV16 dc16 pm16 an16 cd16 ct16), sl16⟩) (c_is_solid : PySem.W.codeIn K cd16 "is_solid" = true) (k_is_solid : PySem.W.keepIn K (.ref f_is_solid) = true)
    (a_box : PySem.W.nsIn K mainGlobals "box" = some (some (.ref f_box))) (l_box : K.lookup f_box = some ⟨oc17, od17, .func (PySem.W.fnOf "box" "box" (defArgs st_box) (defBody st_box) (defScope st_box) .none kV17 dc17 pm17 an17 cd17 ct17), sl17⟩) (c_box : PySem.W.codeIn K cd17 "box" = true) (k_box : PySem.W.keepIn K (.ref f_box) = true)
    (a__law_cell_at : PySem.W.nsIn K mainGlobals "_law_cell_at" = some (some (.ref f__law_cell_at))) (l__law_cell_at : K.lookup f__law_cell_at = some ⟨oc18, od18, .func (PySem.W.fnOf "_law_cell_at" "_law_cell_at" (defArgs st__law_cell_at) (defBody st__law_cell_at) (defScope st__law_cell_at) .none kV18 dc18 pm18 an18 cd18 ct18), sl18⟩) (c__law_cell_at : PySem.W.codeIn K cd18 "_law_cell_at" = true) (k__law_cell_at : PySem.W.keepIn K (.ref f__law_cell_at) = true)
    (a__law_draw : PySem.W.nsIn K mainGlobals "_law_draw" = some (some (.ref f__law_draw))) (l__law_draw : K.lookup f__law_draw = some ⟨oc19, od19, .func (PySem.W.fnOf "_law_draw" "_law_draw" (defArgs st__law_draw) (defBody st__law_draw) (defScope st__law_draw) .none kV19 dc19 pm19 an19 cd19 ct19), sl19⟩) (c__law_draw : PySem.W.codeIn K cd19 "_law_draw" = true) (k__law_draw : PySem.W.keepIn K (.ref f__law_draw) = true)
    (a__law_number : PySem.W.nsIn K mainGlobals "_law_number" = some (some (.ref f__law_number))) (l__law_number : K.lookup f__law_number = some ⟨oc20, od20, .func (PySem.W.fnOf "_law_number" "_law_number" (defArgs st__law_number) (defBody st__law_number) (defScope st__law_number) .none kV20 dc20 pm20 an20 cd20 ct20), sl20⟩) (c__law_number : PySem.W.codeIn K cd20 "_law_number" = true) (k__law_number : PySem.W.keepIn K (.ref f__law_number) = true)
    (a__law_next : PySem.W.nsIn K mainGlobals "_law_next" = some (some (.ref f__law_next))) (l__law_next : K.lookup f__law_next = some ⟨oc21, od21, .func (PySem.W.fnOf "_law_next" "_law_next" (defArgs st__law_next) (defBody st__law_next) (defScope st__law_next) .none kV21 dc21 pm21 an21 cd21 ct21), sl21⟩) (c__law_next : PySem.W.codeIn K cd21 "_law_next" = true) (k__law_next : PySem.W.keepIn K (.ref f__law_next) = true)
    (a__law_boxes : PySem.W.nsIn K mainGlobals "_law_boxes" = some (some (.ref f__law_boxes))) (l__law_boxes : K.lookup f__law_boxes = some ⟨oc22, od22, .func (PySem.W.fnOf "_law_boxes" "_law_boxes" (defArgs st__law_boxes) (defBody st__law_boxes) (defScope st__law_boxes) .none kV22 dc22 pm22 an22 cd22 ct22), sl22⟩) (c__law_boxes : PySem.W.codeIn K cd22 "_law_boxes" = true) (k__law_boxes : PySem.W.keepIn K (.ref f__law_boxes) = true)
    (a__law_solid : PySem.W.nsIn K mainGlobals "_law_solid" = some (some (.ref f__law_solid))) (l__law_solid : K.lookup f__law_solid = some ⟨oc23, od23, .func (PySem.W.fnOf "_law_solid" "_law_solid" (defArgs st__law_solid) (defBody st__law_solid) (defScope st__law_solid) .none kV23 dc23 pm23 an23 cd23 ct23), sl23⟩) (c__law_solid : PySem.W.codeIn K cd23 "_law_solid" = true) (k__law_solid : PySem.W.keepIn K (.ref f__law_solid) = true)
    (a__law_bent : PySem.W.nsIn K mainGlobals "_law_bent" = some (some (.ref f__law_bent))) (l__law_bent : K.lookup f__law_bent = some ⟨oc24, od24, .func (PySem.W.fnOf "_law_bent" "_law_bent" (defArgs st__law_bent) (defBody st__law_bent) (defScope st__law_bent) .none kV24 dc24 pm24 an24 cd24 ct24), sl24⟩) (c__law_bent : PySem.W.codeIn K cd24 "_law_bent" = true) (k__law_bent : PySem.W.keepIn K (.ref f__law_bent) = true)
    (a__law_is_plain : PySem.W.nsIn K mainGlobals "_law_is_plain" = some (some (.ref f__law_is_plain))) (l__law_is_plain : K.lookup f__law_is_plain = some ⟨oc25, od25, .func (PySem.W.fnOf "_law_is_plain" "_law_is_plain" (defArgs st__law_is_plain) (defBody st__law_is_plain) (defScope st__law_is_plain) .none kV25 dc25 pm25 an25 cd25 ct25), sl25⟩) (c__law_is_plain : PySem.W.codeIn K cd25 "_law_is_plain" = true) (k__law_is_plain : PySem.W.keepIn K (.ref f__law_is_plain) = true)
    (a__law_inside : PySem.W.nsIn K mainGlobals "_law_inside" = some (some (.ref f__law_inside))) (l__law_inside : K.lookup f__law_inside = some ⟨oc26, od26, .func (PySem.W.fnOf "_law_inside" "_law_inside" (defArgs st__law_inside) (defBody st__law_inside) (defScope st__law_inside) .none kV26 dc26 pm26 an26 cd26 ct26), sl26⟩) (c__law_inside : PySem.W.codeIn K cd26 "_law_inside" = true) (k__law_inside : PySem.W.keepIn K (.ref f__law_inside) = true)
    (a_law : PySem.W.nsIn K mainGlobals "law" = some (some (.ref f_law))) (l_law : K.lookup f_law = some ⟨oc27, od27, .func (PySem.W.fnOf "law" "law" (defArgs st_law) (defBody st_law) (defScope st_law) .none kV27 dc27 pm27 an27 cd27 ct27), sl27⟩) (c_law : PySem.W.codeIn K cd27 "law" = true) (k_law : PySem.W.keepIn K (.ref f_law) = true)
    (z_max : PySem.W.nsIn K mainGlobals "max" = some none) (z_len : PySem.W.nsIn K mainGlobals "len" = some none) (z_tuple : PySem.W.nsIn K mainGlobals "tuple" = some none) (z_sorted : PySem.W.nsIn K mainGlobals "sorted" = some none) (z_min : PySem.W.nsIn K mainGlobals "min" = some none) (z_list : PySem.W.nsIn K mainGlobals "list" = some none) (z_range : PySem.W.nsIn K mainGlobals "range" = some none) (z_bool : PySem.W.nsIn K mainGlobals "bool" = some none) (z_int : PySem.W.nsIn K mainGlobals "int" = some none) (z_isinstance : PySem.W.nsIn K mainGlobals "isinstance" = some none) :
    ∃ fd : FuncData, (∀ (s : Shared) (v : Value), BindsTo s fd ⟨[v], []⟩ [("script", v)]) ∧ ∀ base : Heap, K.In base → base.Ns mainGlobals mg → FnOk l.prog w K mg base CX0 11 fa fd ["script"] (spD K (lawSpec 63)) := by
  have e := hfa.symm.trans (PySem.W.mg_of X G a_law)
  cases e
  have D_put : Dfn K mg "put" st_put ["out", "low", "high", "inside"] f_put _ := ⟨fun_mk (st := st_put) l_put c_put k_put, PySem.W.mg_of X G a_put, (fun_mk (st := st_put) l_put c_put k_put).binds (ps := ["out", "low", "high", "inside"]) fun _ _ _ _ _ _ us hl => match us, hl with | [_, _, _, _], _ => rfl⟩
  have D_put_all : Dfn K mg "put_all" st_put_all ["out", "slabs", "begin"] f_put_all _ := ⟨fun_mk (st := st_put_all) l_put_all c_put_all k_put_all, PySem.W.mg_of X G a_put_all, (fun_mk (st := st_put_all) l_put_all c_put_all k_put_all).binds (ps := ["out", "slabs", "begin"]) fun _ _ _ _ _ _ us hl => match us, hl with | [_, _, _], _ => rfl⟩
  have D_first_ending_beyond : Dfn K mg "first_ending_beyond" st_first_ending_beyond ["stretches", "number"] f_first_ending_beyond _ := ⟨fun_mk (st := st_first_ending_beyond) l_first_ending_beyond c_first_ending_beyond k_first_ending_beyond, PySem.W.mg_of X G a_first_ending_beyond, (fun_mk (st := st_first_ending_beyond) l_first_ending_beyond c_first_ending_beyond k_first_ending_beyond).binds (ps := ["stretches", "number"]) fun _ _ _ _ _ _ us hl => match us, hl with | [_, _], _ => rfl⟩
  have D_first_beginning_from : Dfn K mg "first_beginning_from" st_first_beginning_from ["stretches", "number"] f_first_beginning_from _ := ⟨fun_mk (st := st_first_beginning_from) l_first_beginning_from c_first_beginning_from k_first_beginning_from, PySem.W.mg_of X G a_first_beginning_from, (fun_mk (st := st_first_beginning_from) l_first_beginning_from c_first_beginning_from k_first_beginning_from).binds (ps := ["stretches", "number"]) fun _ _ _ _ _ _ us hl => match us, hl with | [_, _], _ => rfl⟩
  have D_merged : Dfn K mg "merged" st_merged ["stretches"] f_merged _ := ⟨fun_mk (st := st_merged) l_merged c_merged k_merged, PySem.W.mg_of X G a_merged, (fun_mk (st := st_merged) l_merged c_merged k_merged).binds (ps := ["stretches"]) fun _ _ _ _ _ _ us hl => match us, hl with | [_], _ => rfl⟩
  have D_joined_rows : Dfn K mg "joined_rows" st_joined_rows ["a", "b"] f_joined_rows _ := ⟨fun_mk (st := st_joined_rows) l_joined_rows c_joined_rows k_joined_rows, PySem.W.mg_of X G a_joined_rows, (fun_mk (st := st_joined_rows) l_joined_rows c_joined_rows k_joined_rows).binds (ps := ["a", "b"]) fun _ _ _ _ _ _ us hl => match us, hl with | [_, _], _ => rfl⟩
  have D_lay_over : Dfn K mg "lay_over" st_lay_over ["out", "a", "b", "rule", "keeps"] f_lay_over _ := ⟨fun_mk (st := st_lay_over) l_lay_over c_lay_over k_lay_over, PySem.W.mg_of X G a_lay_over, (fun_mk (st := st_lay_over) l_lay_over c_lay_over k_lay_over).binds (ps := ["out", "a", "b", "rule", "keeps"]) fun _ _ _ _ _ _ us hl => match us, hl with | [_, _, _, _, _], _ => rfl⟩
  have D_combined : Dfn K mg "combined" st_combined ["a", "b", "rule", "keeps"] f_combined _ := ⟨fun_mk (st := st_combined) l_combined c_combined k_combined, PySem.W.mg_of X G a_combined, (fun_mk (st := st_combined) l_combined c_combined k_combined).binds (ps := ["a", "b", "rule", "keeps"]) fun _ _ _ _ _ _ us hl => match us, hl with | [_, _, _, _], _ => rfl⟩
  have D_joined_layers : Dfn K mg "joined_layers" st_joined_layers ["a", "b"] f_joined_layers _ := ⟨fun_mk (st := st_joined_layers) l_joined_layers c_joined_layers k_joined_layers, PySem.W.mg_of X G a_joined_layers, (fun_mk (st := st_joined_layers) l_joined_layers c_joined_layers k_joined_layers).binds (ps := ["a", "b"]) fun _ _ _ _ _ _ us hl => match us, hl with | [_, _], _ => rfl⟩
  have D_union : Dfn K mg "union" st_union ["a", "b"] f_union _ := ⟨fun_mk (st := st_union) l_union c_union k_union, PySem.W.mg_of X G a_union, (fun_mk (st := st_union) l_union c_union k_union).binds (ps := ["a", "b"]) fun _ _ _ _ _ _ us hl => match us, hl with | [_, _], _ => rfl⟩
  have D_union_of : Dfn K mg "union_of" st_union_of ["solids"] f_union_of _ := ⟨fun_mk (st := st_union_of) l_union_of c_union_of k_union_of, PySem.W.mg_of X G a_union_of, (fun_mk (st := st_union_of) l_union_of c_union_of k_union_of).binds (ps := ["solids"]) fun _ _ _ _ _ _ us hl => match us, hl with | [_], _ => rfl⟩
  have D_is_integer : Dfn K mg "is_integer" st_is_integer ["thing"] f_is_integer _ := ⟨fun_mk (st := st_is_integer) l_is_integer c_is_integer k_is_integer, PySem.W.mg_of X G a_is_integer, (fun_mk (st := st_is_integer) l_is_integer c_is_integer k_is_integer).binds (ps := ["thing"]) fun _ _ _ _ _ _ us hl => match us, hl with | [_], _ => rfl⟩
  have D_is_stretch : Dfn K mg "is_stretch" st_is_stretch ["thing", "many"] f_is_stretch _ := ⟨fun_mk (st := st_is_stretch) l_is_stretch c_is_stretch k_is_stretch, PySem.W.mg_of X G a_is_stretch, (fun_mk (st := st_is_stretch) l_is_stretch c_is_stretch k_is_stretch).binds (ps := ["thing", "many"]) fun _ _ _ _ _ _ us hl => match us, hl with | [_, _], _ => rfl⟩
  have D_is_row : Dfn K mg "is_row" st_is_row ["thing"] f_is_row _ := ⟨fun_mk (st := st_is_row) l_is_row c_is_row k_is_row, PySem.W.mg_of X G a_is_row, (fun_mk (st := st_is_row) l_is_row c_is_row k_is_row).binds (ps := ["thing"]) fun _ _ _ _ _ _ us hl => match us, hl with | [_], _ => rfl⟩
  have D_are_slabs : Dfn K mg "are_slabs" st_are_slabs ["thing", "is_inside"] f_are_slabs _ := ⟨fun_mk (st := st_are_slabs) l_are_slabs c_are_slabs k_are_slabs, PySem.W.mg_of X G a_are_slabs, (fun_mk (st := st_are_slabs) l_are_slabs c_are_slabs k_are_slabs).binds (ps := ["thing", "is_inside"]) fun _ _ _ _ _ _ us hl => match us, hl with | [_, _], _ => rfl⟩
  have D_is_layer : Dfn K mg "is_layer" st_is_layer ["thing"] f_is_layer _ := ⟨fun_mk (st := st_is_layer) l_is_layer c_is_layer k_is_layer, PySem.W.mg_of X G a_is_layer, (fun_mk (st := st_is_layer) l_is_layer c_is_layer k_is_layer).binds (ps := ["thing"]) fun _ _ _ _ _ _ us hl => match us, hl with | [_], _ => rfl⟩
  have D_is_solid : Dfn K mg "is_solid" st_is_solid ["thing"] f_is_solid _ := ⟨fun_mk (st := st_is_solid) l_is_solid c_is_solid k_is_solid, PySem.W.mg_of X G a_is_solid, (fun_mk (st := st_is_solid) l_is_solid c_is_solid k_is_solid).binds (ps := ["thing"]) fun _ _ _ _ _ _ us hl => match us, hl with | [_], _ => rfl⟩
  have D_box : Dfn K mg "box" st_box ["corner", "other"] f_box _ := ⟨fun_mk (st := st_box) l_box c_box k_box, PySem.W.mg_of X G a_box, (fun_mk (st := st_box) l_box c_box k_box).binds (ps := ["corner", "other"]) fun _ _ _ _ _ _ us hl => match us, hl with | [_, _], _ => rfl⟩
  have D__law_cell_at : Dfn K mg "_law_cell_at" st__law_cell_at ["script", "k"] f__law_cell_at _ := ⟨fun_mk (st := st__law_cell_at) l__law_cell_at c__law_cell_at k__law_cell_at, PySem.W.mg_of X G a__law_cell_at, (fun_mk (st := st__law_cell_at) l__law_cell_at c__law_cell_at k__law_cell_at).binds (ps := ["script", "k"]) fun _ _ _ _ _ _ us hl => match us, hl with | [_, _], _ => rfl⟩
  have D__law_draw : Dfn K mg "_law_draw" st__law_draw ["cell", "k", "bound"] f__law_draw _ := ⟨fun_mk (st := st__law_draw) l__law_draw c__law_draw k__law_draw, PySem.W.mg_of X G a__law_draw, (fun_mk (st := st__law_draw) l__law_draw c__law_draw k__law_draw).binds (ps := ["cell", "k", "bound"]) fun _ _ _ _ _ _ us hl => match us, hl with | [_, _, _], _ => rfl⟩
  have D__law_number : Dfn K mg "_law_number" st__law_number ["cell", "k", "bound"] f__law_number _ := ⟨fun_mk (st := st__law_number) l__law_number c__law_number k__law_number, PySem.W.mg_of X G a__law_number, (fun_mk (st := st__law_number) l__law_number c__law_number k__law_number).binds (ps := ["cell", "k", "bound"]) fun _ _ _ _ _ _ us hl => match us, hl with | [_, _, _], _ => rfl⟩
  have D__law_next : Dfn K mg "_law_next" st__law_next ["draw", "bound"] f__law_next _ := ⟨fun_mk (st := st__law_next) l__law_next c__law_next k__law_next, PySem.W.mg_of X G a__law_next, (fun_mk (st := st__law_next) l__law_next c__law_next k__law_next).binds (ps := ["draw", "bound"]) fun _ _ _ _ _ _ us hl => match us, hl with | [_, _], _ => rfl⟩
  have D__law_boxes : Dfn K mg "_law_boxes" st__law_boxes ["draw", "many", "wide"] f__law_boxes _ := ⟨fun_mk (st := st__law_boxes) l__law_boxes c__law_boxes k__law_boxes, PySem.W.mg_of X G a__law_boxes, (fun_mk (st := st__law_boxes) l__law_boxes c__law_boxes k__law_boxes).binds (ps := ["draw", "many", "wide"]) fun _ _ _ _ _ _ us hl => match us, hl with | [_, _, _], _ => rfl⟩
  have D__law_solid : Dfn K mg "_law_solid" st__law_solid ["boxes"] f__law_solid _ := ⟨fun_mk (st := st__law_solid) l__law_solid c__law_solid k__law_solid, PySem.W.mg_of X G a__law_solid, (fun_mk (st := st__law_solid) l__law_solid c__law_solid k__law_solid).binds (ps := ["boxes"]) fun _ _ _ _ _ _ us hl => match us, hl with | [_], _ => rfl⟩
  have D__law_bent : Dfn K mg "_law_bent" st__law_bent ["draw", "solid"] f__law_bent _ := ⟨fun_mk (st := st__law_bent) l__law_bent c__law_bent k__law_bent, PySem.W.mg_of X G a__law_bent, (fun_mk (st := st__law_bent) l__law_bent c__law_bent k__law_bent).binds (ps := ["draw", "solid"]) fun _ _ _ _ _ _ us hl => match us, hl with | [_, _], _ => rfl⟩
  have D__law_is_plain : Dfn K mg "_law_is_plain" st__law_is_plain ["thing"] f__law_is_plain _ := ⟨fun_mk (st := st__law_is_plain) l__law_is_plain c__law_is_plain k__law_is_plain, PySem.W.mg_of X G a__law_is_plain, (fun_mk (st := st__law_is_plain) l__law_is_plain c__law_is_plain k__law_is_plain).binds (ps := ["thing"]) fun _ _ _ _ _ _ us hl => match us, hl with | [_], _ => rfl⟩
  have D__law_inside : Dfn K mg "_law_inside" st__law_inside ["thing"] f__law_inside _ := ⟨fun_mk (st := st__law_inside) l__law_inside c__law_inside k__law_inside, PySem.W.mg_of X G a__law_inside, (fun_mk (st := st__law_inside) l__law_inside c__law_inside k__law_inside).binds (ps := ["thing"]) fun _ _ _ _ _ _ us hl => match us, hl with | [_], _ => rfl⟩
  have D_law : Dfn K mg "law" st_law ["script"] fa _ := ⟨fun_mk (st := st_law) l_law c_law k_law, PySem.W.mg_of X G a_law, (fun_mk (st := st_law) l_law c_law k_law).binds (ps := ["script"]) fun _ _ _ _ _ _ us hl => match us, hl with | [_], _ => rfl⟩
  have m_max := PySem.W.mg_none_of X G z_max
  have m_len := PySem.W.mg_none_of X G z_len
  have m_tuple := PySem.W.mg_none_of X G z_tuple
  have m_sorted := PySem.W.mg_none_of X G z_sorted
  have m_min := PySem.W.mg_none_of X G z_min
  have m_list := PySem.W.mg_none_of X G z_list
  have m_range := PySem.W.mg_none_of X G z_range
  have m_bool := PySem.W.mg_none_of X G z_bool
  have m_int := PySem.W.mg_none_of X G z_int
  have m_isinstance := PySem.W.mg_none_of X G z_isinstance
  refine ⟨PySem.W.fnOf "law" "law" (defArgs st_law) (defBody st_law) (defScope st_law) .none kV27 dc27 pm27 an27 cd27 ct27, fun s v => .of_eq rfl, fun base _ _ => ?_⟩
  have o_put : FnOk l.prog w K mg base CX0 1 f_put _ ["out", "low", "high", "inside"] (spD K sp_put) := ok_put (k := 0)  D_put.F (hl_put) (wp_put)
  have C_put : Cal l.prog w K mg base 1 "put" sp_put := D_put.cal o_put
  have o_put_all : FnOk l.prog w K mg base CX0 2 f_put_all _ ["out", "slabs", "begin"] (spD K sp_put_all) := ok_put_all (k := 1) sp_put m_max (C_put.mono (by decide)) D_put_all.F (hl_put_all) (wp_put_all)
  have C_put_all : Cal l.prog w K mg base 2 "put_all" sp_put_all := D_put_all.cal o_put_all
  have o_first_ending_beyond : FnOk l.prog w K mg base CX0 1 f_first_ending_beyond _ ["stretches", "number"] (spD K sp_first_ending_beyond) := ok_first_ending_beyond (k := 0) m_len D_first_ending_beyond.F (hl_first_ending_beyond) (wp_first_ending_beyond)
  have C_first_ending_beyond : Cal l.prog w K mg base 1 "first_ending_beyond" sp_first_ending_beyond := D_first_ending_beyond.cal o_first_ending_beyond
  have o_first_beginning_from : FnOk l.prog w K mg base CX0 1 f_first_beginning_from _ ["stretches", "number"] (spD K sp_first_beginning_from) := ok_first_beginning_from (k := 0) m_len D_first_beginning_from.F (hl_first_beginning_from) (wp_first_beginning_from)
  have C_first_beginning_from : Cal l.prog w K mg base 1 "first_beginning_from" sp_first_beginning_from := D_first_beginning_from.cal o_first_beginning_from
  have o_merged : FnOk l.prog w K mg base CX0 1 f_merged _ ["stretches"] (spD K sp_merged) := ok_merged (k := 0) m_tuple D_merged.F (hl_merged) (wp_merged)
  have C_merged : Cal l.prog w K mg base 1 "merged" sp_merged := D_merged.cal o_merged
  have o_joined_rows : FnOk l.prog w K mg base CX0 2 f_joined_rows _ ["a", "b"] (spD K sp_joined_rows) := ok_joined_rows (k := 1) sp_merged m_sorted (C_merged.mono (by decide)) D_joined_rows.F (hl_joined_rows) (wp_joined_rows)
  have C_joined_rows : Cal l.prog w K mg base 2 "joined_rows" sp_joined_rows := D_joined_rows.cal o_joined_rows
  have o_lay_overR : FnOk l.prog w K mg base CX0 3 f_lay_over _ ["out", "a", "b", "rule", "keeps"] (spD K (sp_lay_over (only f_joined_rows sp_joined_rows))) := ok_lay_over (k := 2) sp_put sp_put_all (only f_joined_rows sp_joined_rows) m_len m_max m_min (C_put.mono (by decide)) (C_put_all.mono (by decide)) (held_mono (D_joined_rows.held o_joined_rows) (by decide)) D_lay_over.F (hl_lay_over _) (wp_lay_over _)
  have C_lay_overR : Cal l.prog w K mg base 3 "lay_over" (sp_lay_over (only f_joined_rows sp_joined_rows)) := D_lay_over.cal o_lay_overR
  have o_combinedR : FnOk l.prog w K mg base CX0 4 f_combined _ ["a", "b", "rule", "keeps"] (spD K (sp_combined (only f_joined_rows sp_joined_rows))) := ok_combined (k := 3) sp_first_ending_beyond sp_first_beginning_from sp_put_all (sp_lay_over (only f_joined_rows sp_joined_rows)) m_len m_list m_max m_min m_tuple (C_first_ending_beyond.mono (by decide)) (C_first_beginning_from.mono (by decide)) (C_put_all.mono (by decide)) (C_lay_overR.mono (by decide)) D_combined.F (hl_combined _) (wp_combined _)
  have C_combinedR : Cal l.prog w K mg base 4 "combined" (sp_combined (only f_joined_rows sp_joined_rows)) := D_combined.cal o_combinedR
  have o_joined_layers : FnOk l.prog w K mg base CX0 5 f_joined_layers _ ["a", "b"] (spD K sp_joined_layers) := ok_joined_layers (k := 4) (sp_combined (only f_joined_rows sp_joined_rows)) f_joined_rows (C_combinedR.mono (by decide)) D_joined_rows.g D_joined_layers.F (hl_joined_layers) (wp_joined_layers _)
  have C_joined_layers : Cal l.prog w K mg base 5 "joined_layers" sp_joined_layers := D_joined_layers.cal o_joined_layers
  have o_lay_overL : FnOk l.prog w K mg base CX0 6 f_lay_over _ ["out", "a", "b", "rule", "keeps"] (spD K (sp_lay_over (only f_joined_layers sp_joined_layers))) := ok_lay_over (k := 5) sp_put sp_put_all (only f_joined_layers sp_joined_layers) m_len m_max m_min (C_put.mono (by decide)) (C_put_all.mono (by decide)) (held_mono (D_joined_layers.held o_joined_layers) (by decide)) D_lay_over.F (hl_lay_over _) (wp_lay_over _)
  have C_lay_overL : Cal l.prog w K mg base 6 "lay_over" (sp_lay_over (only f_joined_layers sp_joined_layers)) := D_lay_over.cal o_lay_overL
  have o_combinedL : FnOk l.prog w K mg base CX0 7 f_combined _ ["a", "b", "rule", "keeps"] (spD K (sp_combined (only f_joined_layers sp_joined_layers))) := ok_combined (k := 6) sp_first_ending_beyond sp_first_beginning_from sp_put_all (sp_lay_over (only f_joined_layers sp_joined_layers)) m_len m_list m_max m_min m_tuple (C_first_ending_beyond.mono (by decide)) (C_first_beginning_from.mono (by decide)) (C_put_all.mono (by decide)) (C_lay_overL.mono (by decide)) D_combined.F (hl_combined _) (wp_combined _)
  have C_combinedL : Cal l.prog w K mg base 7 "combined" (sp_combined (only f_joined_layers sp_joined_layers)) := D_combined.cal o_combinedL
  have o_union : FnOk l.prog w K mg base CX0 8 f_union _ ["a", "b"] (spD K sp_union) := ok_union (k := 7) (sp_combined (only f_joined_layers sp_joined_layers)) f_joined_layers (C_combinedL.mono (by decide)) D_joined_layers.g D_union.F (hl_union) (wp_union _)
  have C_union : Cal l.prog w K mg base 8 "union" sp_union := D_union.cal o_union
  have o_union_of : FnOk l.prog w K mg base CX0 9 f_union_of _ ["solids"] (spD K sp_union_of) := ok_union_of (k := 8) sp_union m_len m_list m_range (C_union.mono (by decide)) D_union_of.F (hl_union_of) (wp_union_of)
  have C_union_of : Cal l.prog w K mg base 9 "union_of" sp_union_of := D_union_of.cal o_union_of
  have o_is_integer : FnOk l.prog w K mg base CX0 1 f_is_integer _ ["thing"] (spD K sp_is_integer) := ok_is_integer (k := 0) m_bool m_int m_isinstance D_is_integer.F (hl_is_integer) (wp_is_integer)
  have C_is_integer : Cal l.prog w K mg base 1 "is_integer" sp_is_integer := D_is_integer.cal o_is_integer
  have o_is_stretch : FnOk l.prog w K mg base CX0 2 f_is_stretch _ ["thing", "many"] (spD K sp_is_stretch) := ok_is_stretch (k := 1) sp_is_integer m_isinstance m_len m_tuple (C_is_integer.mono (by decide)) D_is_stretch.F (hl_is_stretch) (wp_is_stretch)
  have C_is_stretch : Cal l.prog w K mg base 2 "is_stretch" sp_is_stretch := D_is_stretch.cal o_is_stretch
  have o_is_row : FnOk l.prog w K mg base CX0 3 f_is_row _ ["thing"] (spD K sp_is_row) := ok_is_row (k := 2) sp_is_stretch m_isinstance m_tuple (C_is_stretch.mono (by decide)) D_is_row.F (hl_is_row) (wp_is_row)
  have C_is_row : Cal l.prog w K mg base 3 "is_row" sp_is_row := D_is_row.cal o_is_row
  have o_are_slabsR : FnOk l.prog w K mg base CX0 4 f_are_slabs _ ["thing", "is_inside"] (spD K (sp_are_slabs (only f_is_row sp_is_row))) := ok_are_slabs (k := 3) sp_is_stretch (only f_is_row sp_is_row) m_isinstance m_tuple (C_is_stretch.mono (by decide)) (held_mono (D_is_row.held o_is_row) (by decide)) D_are_slabs.F (hl_are_slabs _) (wp_are_slabs _)
  have C_are_slabsR : Cal l.prog w K mg base 4 "are_slabs" (sp_are_slabs (only f_is_row sp_is_row)) := D_are_slabs.cal o_are_slabsR
  have o_is_layer : FnOk l.prog w K mg base CX0 5 f_is_layer _ ["thing"] (spD K sp_is_layer) := ok_is_layer (k := 4) (sp_are_slabs (only f_is_row sp_is_row)) f_is_row (C_are_slabsR.mono (by decide)) D_is_row.g D_is_layer.F (hl_is_layer) (wp_is_layer _)
  have C_is_layer : Cal l.prog w K mg base 5 "is_layer" sp_is_layer := D_is_layer.cal o_is_layer
  have o_are_slabsL : FnOk l.prog w K mg base CX0 6 f_are_slabs _ ["thing", "is_inside"] (spD K (sp_are_slabs (only f_is_layer sp_is_layer))) := ok_are_slabs (k := 5) sp_is_stretch (only f_is_layer sp_is_layer) m_isinstance m_tuple (C_is_stretch.mono (by decide)) (held_mono (D_is_layer.held o_is_layer) (by decide)) D_are_slabs.F (hl_are_slabs _) (wp_are_slabs _)
  have C_are_slabsL : Cal l.prog w K mg base 6 "are_slabs" (sp_are_slabs (only f_is_layer sp_is_layer)) := D_are_slabs.cal o_are_slabsL
  have o_is_solid : FnOk l.prog w K mg base CX0 7 f_is_solid _ ["thing"] (spD K sp_is_solid) := ok_is_solid (k := 6) (sp_are_slabs (only f_is_layer sp_is_layer)) f_is_layer (C_are_slabsL.mono (by decide)) D_is_layer.g D_is_solid.F (hl_is_solid) (wp_is_solid _)
  have C_is_solid : Cal l.prog w K mg base 7 "is_solid" sp_is_solid := D_is_solid.cal o_is_solid
  have o_box : FnOk l.prog w K mg base CX0 1 f_box _ ["corner", "other"] (spD K sp_box) := ok_box (k := 0)  D_box.F (hl_box) (wp_box)
  have C_box : Cal l.prog w K mg base 1 "box" sp_box := D_box.cal o_box
  have o__law_cell_at : FnOk l.prog w K mg base CX0 1 f__law_cell_at _ ["script", "k"] (spD K sp__law_cell_at) := ok__law_cell_at (k := 0) m_len D__law_cell_at.F (hl__law_cell_at) (wp__law_cell_at)
  have C__law_cell_at : Cal l.prog w K mg base 1 "_law_cell_at" sp__law_cell_at := D__law_cell_at.cal o__law_cell_at
  have o__law_draw : FnOk l.prog w K mg base CX0 1 f__law_draw _ ["cell", "k", "bound"] (spD K sp__law_draw) := ok__law_draw (k := 0) m_int D__law_draw.F (hl__law_draw) (wp__law_draw)
  have C__law_draw : Cal l.prog w K mg base 1 "_law_draw" sp__law_draw := D__law_draw.cal o__law_draw
  have o__law_number : FnOk l.prog w K mg base CX0 2 f__law_number _ ["cell", "k", "bound"] (spD K sp__law_number) := ok__law_number (k := 1) sp__law_draw m_int m_range (C__law_draw.mono (by decide)) D__law_number.F (hl__law_number) (wp__law_number)
  have C__law_number : Cal l.prog w K mg base 2 "_law_number" sp__law_number := D__law_number.cal o__law_number
  have o__law_next : FnOk l.prog w K mg base CX0 3 f__law_next _ ["draw", "bound"] (spD K sp__law_next) := ok__law_next (k := 2) sp__law_cell_at sp__law_number m_int (C__law_cell_at.mono (by decide)) (C__law_number.mono (by decide)) D__law_next.F (hl__law_next) (wp__law_next)
  have C__law_next : Cal l.prog w K mg base 3 "_law_next" sp__law_next := D__law_next.cal o__law_next
  have o__law_boxes : FnOk l.prog w K mg base CX0 4 f__law_boxes _ ["draw", "many", "wide"] (spD K sp__law_boxes) := ok__law_boxes (k := 3) sp__law_next m_range m_tuple (C__law_next.mono (by decide)) D__law_boxes.F (hl__law_boxes) (wp__law_boxes)
  have C__law_boxes : Cal l.prog w K mg base 4 "_law_boxes" sp__law_boxes := D__law_boxes.cal o__law_boxes
  have o__law_solid : FnOk l.prog w K mg base CX0 10 f__law_solid _ ["boxes"] (spD K sp__law_solid) := ok__law_solid (k := 9) sp_box sp_union_of (C_box.mono (by decide)) (C_union_of.mono (by decide)) D__law_solid.F (hl__law_solid) (wp__law_solid)
  have C__law_solid : Cal l.prog w K mg base 10 "_law_solid" sp__law_solid := D__law_solid.cal o__law_solid
  have o__law_bent : FnOk l.prog w K mg base CX0 4 f__law_bent _ ["draw", "solid"] (spD K sp__law_bent) := ok__law_bent (k := 3) sp__law_next m_len m_list (C__law_next.mono (by decide)) D__law_bent.F (hl__law_bent) (wp__law_bent)
  have C__law_bent : Cal l.prog w K mg base 4 "_law_bent" sp__law_bent := D__law_bent.cal o__law_bent
  have o__law_is_plain : FnOk l.prog w K mg base CX0 1 f__law_is_plain _ ["thing"] (spD K sp__law_is_plain) := ok__law_is_plain (k := 0) m_bool m_isinstance m_len m_tuple D__law_is_plain.F (hl__law_is_plain) (wp__law_is_plain)
  have C__law_is_plain : Cal l.prog w K mg base 1 "_law_is_plain" sp__law_is_plain := D__law_is_plain.cal o__law_is_plain
  have o__law_inside : FnOk l.prog w K mg base CX0 1 f__law_inside _ ["thing"] (spD K sp__law_inside) := ok__law_inside (k := 0)  D__law_inside.F (hl__law_inside) (wp__law_inside)
  have C__law_inside : Cal l.prog w K mg base 1 "_law_inside" sp__law_inside := D__law_inside.cal o__law_inside
  have o_law : FnOk l.prog w K mg base CX0 11 fa _ ["script"] (spD K (lawSpec 63)) := ok_law (k := 10) sp_is_solid sp__law_boxes sp__law_solid sp__law_bent sp__law_is_plain sp__law_inside m_range (C_is_solid.mono (by decide)) (C__law_boxes.mono (by decide)) (C__law_solid.mono (by decide)) (C__law_bent.mono (by decide)) (C__law_is_plain.mono (by decide)) (C__law_inside.mono (by decide)) D_law.F (hl_law) (wp_law)
  exact o_law
end K5
open PySem PySem.W PyProof.Rows
set_option maxHeartbeats 0 in
theorem PySem.Challenge.cw_shopwhole_k05_forms_of_solids_holds : PySem.Challenge.rw_shopwhole_k05_forms_of_solids.Holds := by
  w_on; o_law; k_head; (case hw => w_witness2)
  k_fill
  refine L2.walk_of (l := PySem.Challenge.rw_shopwhole_k05_forms_of_solids) (n := 63) (k := 11) (x := "script") (CX := fun _ => L2.CX0) (sp := fun w => DL.spD _ (DL.lawSpec 63)) rfl (by decide) rfl ⟨rfl, by decide, by decide⟩ (fun w h Y => PySem.W.kIn_of Y) ?F (fun w H a ns hl _ hS => DL.law_end hl hS) (fun _ _ _ _ _ h => h)
  case F =>
    intro w mg fa h KX G hmg
    refine' K5.all_mk KX G hmg ?a_put ?l_put ?c_put ?k_put ?a_put_all ?l_put_all ?c_put_all ?k_put_all ?a_first_ending_beyond ?l_first_ending_beyond ?c_first_ending_beyond ?k_first_ending_beyond ?a_first_beginning_from ?l_first_beginning_from ?c_first_beginning_from ?k_first_beginning_from ?a_merged ?l_merged ?c_merged ?k_merged ?a_joined_rows ?l_joined_rows ?c_joined_rows ?k_joined_rows ?a_lay_over ?l_lay_over ?c_lay_over ?k_lay_over ?a_combined ?l_combined ?c_combined ?k_combined ?a_joined_layers ?l_joined_layers ?c_joined_layers ?k_joined_layers ?a_union ?l_union ?c_union ?k_union ?a_union_of ?l_union_of ?c_union_of ?k_union_of ?a_is_integer ?l_is_integer ?c_is_integer ?k_is_integer ?a_is_stretch ?l_is_stretch ?c_is_stretch ?k_is_stretch ?a_is_row ?l_is_row ?c_is_row ?k_is_row ?a_are_slabs ?l_are_slabs ?c_are_slabs ?k_are_slabs ?a_is_layer ?l_is_layer ?c_is_layer ?k_is_layer ?a_is_solid ?l_is_solid ?c_is_solid ?k_is_solid ?a_box ?l_box ?c_box ?k_box ?a__law_cell_at ?l__law_cell_at ?c__law_cell_at ?k__law_cell_at ?a__law_draw ?l__law_draw ?c__law_draw ?k__law_draw ?a__law_number ?l__law_number ?c__law_number ?k__law_number ?a__law_next ?l__law_next ?c__law_next ?k__law_next ?a__law_boxes ?l__law_boxes ?c__law_boxes ?k__law_boxes ?a__law_solid ?l__law_solid ?c__law_solid ?k__law_solid ?a__law_bent ?l__law_bent ?c__law_bent ?k__law_bent ?a__law_is_plain ?l__law_is_plain ?c__law_is_plain ?k__law_is_plain ?a__law_inside ?l__law_inside ?c__law_inside ?k__law_inside ?a_law ?l_law ?c_law ?k_law ?z_max ?z_len ?z_tuple ?z_sorted ?z_min ?z_list ?z_range ?z_bool ?z_int ?z_isinstance
    (case a_put => k_is); (case l_put => k_is); (case c_put => k_is); (case k_put => k_is)
    (case a_put_all => k_is); (case l_put_all => k_is); (case c_put_all => k_is); (case k_put_all => k_is)
    (case a_first_ending_beyond => k_is); (case l_first_ending_beyond => k_is); (case c_first_ending_beyond => k_is); (case k_first_ending_beyond => k_is)
    (case a_first_beginning_from => k_is); (case l_first_beginning_from => k_is); (case c_first_beginning_from => k_is); (case k_first_beginning_from => k_is)
    (case a_merged => k_is); (case l_merged => k_is); (case c_merged => k_is); (case k_merged => k_is)
    (case a_joined_rows => k_is); (case l_joined_rows => k_is); (case c_joined_rows => k_is); (case k_joined_rows => k_is)
    (case a_lay_over => k_is); (case l_lay_over => k_is); (case c_lay_over => k_is); (case k_lay_over => k_is)
    (case a_combined => k_is); (case l_combined => k_is); (case c_combined => k_is); (case k_combined => k_is)
    (case a_joined_layers => k_is); (case l_joined_layers => k_is); (case c_joined_layers => k_is); (case k_joined_layers => k_is)
    (case a_union => k_is); (case l_union => k_is); (case c_union => k_is); (case k_union => k_is)
    (case a_union_of => k_is); (case l_union_of => k_is); (case c_union_of => k_is); (case k_union_of => k_is)
    (case a_is_integer => k_is); (case l_is_integer => k_is); (case c_is_integer => k_is); (case k_is_integer => k_is)
    (case a_is_stretch => k_is); (case l_is_stretch => k_is); (case c_is_stretch => k_is); (case k_is_stretch => k_is)
    (case a_is_row => k_is); (case l_is_row => k_is); (case c_is_row => k_is); (case k_is_row => k_is)
    (case a_are_slabs => k_is); (case l_are_slabs => k_is); (case c_are_slabs => k_is); (case k_are_slabs => k_is)
    (case a_is_layer => k_is); (case l_is_layer => k_is); (case c_is_layer => k_is); (case k_is_layer => k_is)
    (case a_is_solid => k_is); (case l_is_solid => k_is); (case c_is_solid => k_is); (case k_is_solid => k_is)
    (case a_box => k_is); (case l_box => k_is); (case c_box => k_is); (case k_box => k_is)
    (case a__law_cell_at => k_is); (case l__law_cell_at => k_is); (case c__law_cell_at => k_is); (case k__law_cell_at => k_is)
    (case a__law_draw => k_is); (case l__law_draw => k_is); (case c__law_draw => k_is); (case k__law_draw => k_is)
    (case a__law_number => k_is); (case l__law_number => k_is); (case c__law_number => k_is); (case k__law_number => k_is)
    (case a__law_next => k_is); (case l__law_next => k_is); (case c__law_next => k_is); (case k__law_next => k_is)
    (case a__law_boxes => k_is); (case l__law_boxes => k_is); (case c__law_boxes => k_is); (case k__law_boxes => k_is)
    (case a__law_solid => k_is); (case l__law_solid => k_is); (case c__law_solid => k_is); (case k__law_solid => k_is)
    (case a__law_bent => k_is); (case l__law_bent => k_is); (case c__law_bent => k_is); (case k__law_bent => k_is)
    (case a__law_is_plain => k_is); (case l__law_is_plain => k_is); (case c__law_is_plain => k_is); (case k__law_is_plain => k_is)
    (case a__law_inside => k_is); (case l__law_inside => k_is); (case c__law_inside => k_is); (case k__law_inside => k_is)
    (case a_law => k_is); (case l_law => k_is); (case c_law => k_is); (case k_law => k_is)
    (case z_max => k_is)
    (case z_len => k_is)
    (case z_tuple => k_is)
    (case z_sorted => k_is)
    (case z_min => k_is)
    (case z_list => k_is)
    (case z_range => k_is)
    (case z_bool => k_is)
    (case z_int => k_is)
    (case z_isinstance => k_is)
