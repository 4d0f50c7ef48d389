import PyProof.Rows.All
import Wide.All
import OpenK.AllK
import Wide.FinOn
import HandS.ForMost
import HandS.Wide
import HandS.Gcd
import HandS.IsInst
import HandS.Style
import HandS.Evl
import HandS.Flow
import KE.KRevSl
import KE.GoesEnum
import HandS.Rev
import HandS.RevRange
import HandS.Walk
import HandS.Iter
import HandS.TupAny
import HandS.Deep
import PySem.Challenge.RW_coilnets_k82_whole_filters_there_and_bac
set_option linter.all false
namespace Coil
def evens {α : Type} : List α → List α
  | [] => []
  | [a] => [a]
  | a :: _ :: t => a :: evens t
def odds {α : Type} (xs : List α) : List α := evens xs.tail
theorem evens_pick {α : Type} : ∀ (xs : List α), ((List.range ((xs.length + 1) / 2)).map fun k => 2 * k).filterMap (xs[·]?) = evens xs
  | [] => by first | rfl | simp [evens]
  | [a] => by
    have e : ([a].length + 1) / 2 = 1 := by simp
    rw [e]
    rfl
  | a :: b :: t => by
    have ih := evens_pick t
    have e : ((a :: b :: t).length + 1) / 2 = (t.length + 1) / 2 + 1 := by
      simp only [List.length_cons]; omega
    rw [e, List.range_succ_eq_map]
    simp only [List.map_cons, List.map_map, List.filterMap_cons, evens]
    show a :: _ = _
    congr 1
    rw [← ih]
    rw [List.filterMap_map, List.filterMap_map]
    congr 1
theorem evens_len {α : Type} : ∀ (xs : List α), (evens xs).length = (xs.length + 1) / 2
  | [] => by first | rfl | simp [evens]
  | [a] => by simp [evens]
  | a :: b :: t => by
    simp only [evens, List.length_cons, evens_len t]; omega
theorem evens_map {α β : Type} (f : α → β) : ∀ xs : List α, evens (xs.map f) = (evens xs).map f
  | [] => by first | rfl | simp [evens]
  | [a] => rfl
  | a :: b :: t => by simp [evens, evens_map f t]
theorem evens_mem {α : Type} {x : α} : ∀ {xs : List α}, x ∈ evens xs → x ∈ xs
  | [], h => by cases h
  | [a], h => h
  | a :: b :: t, h => by
    simp only [evens, List.mem_cons] at h
    rcases h with h | h
    · simp [h]
    · simp [evens_mem h]
end Coil

/-! Determinants by rows, E. Bareiss' elimination, pivots: mathematics alone -/
set_option linter.all false
namespace Coil
abbrev Row := Nat → Int
/-- a row laid over a form of columns -/
def lap (r : Row) (g : List Nat → Int) : List Nat → Int
  | [] => 0
  | c :: cs => r c * g cs - lap r (fun t => g (c :: t)) cs
theorem lap_add (r : Row) : ∀ (g h : List Nat → Int) (cs : List Nat), lap r (fun t => g t + h t) cs = lap r g cs + lap r h cs
  | _, _, [] => rfl
  | g, h, c :: cs => by
    have := lap_add r (fun t => g (c :: t)) (fun t => h (c :: t)) cs
    simp only [lap, this]; grind
theorem lap_smul (r : Row) (a : Int) : ∀ (g : List Nat → Int) (cs : List Nat), lap r (fun t => a * g t) cs = a * lap r g cs
  | _, [] => by simp [lap]
  | g, c :: cs => by
    have := lap_smul r a (fun t => g (c :: t)) cs
    simp only [lap, this]; grind
theorem lap_row_add (r s : Row) : ∀ (g : List Nat → Int) (cs : List Nat), lap (fun c => r c + s c) g cs = lap r g cs + lap s g cs
  | _, [] => rfl
  | g, c :: cs => by
    have := lap_row_add r s (fun t => g (c :: t)) cs
    simp only [lap, this]; grind
theorem lap_row_smul (r : Row) (a : Int) : ∀ (g : List Nat → Int) (cs : List Nat), lap (fun c => a * r c) g cs = a * lap r g cs
  | _, [] => by simp [lap]
  | g, c :: cs => by
    have := lap_row_smul r a (fun t => g (c :: t)) cs
    simp only [lap, this]; grind
theorem lap_zero (r : Row) : ∀ (g : List Nat → Int) (cs : List Nat), (∀ c ∈ cs, r c = 0) → lap r g cs = 0
  | _, [], _ => rfl
  | g, c :: cs, h => by
    have h1 := lap_zero r (fun t => g (c :: t)) cs (fun d hd => h d (List.mem_cons_of_mem _ hd))
    have h2 := h c List.mem_cons_self
    simp only [lap, h1, h2]; omega
theorem lap_anti (r s : Row) : ∀ (g : List Nat → Int) (cs : List Nat), lap r (lap s g) cs = -lap s (lap r g) cs
  | _, [] => rfl
  | g, c :: cs => by
    have ih := lap_anti r s (fun t => g (c :: t)) cs
    have e1 : lap r (fun t => lap s g (c :: t)) cs = s c * lap r g cs - lap r (lap s (fun t => g (c :: t))) cs := by
      have h1 := lap_add r (fun t => s c * g t) (fun t => -1 * lap s (fun t => g (c :: t)) t) cs
      rw [lap_smul, lap_smul] at h1
      have e : (fun t => lap s g (c :: t)) = fun t => s c * g t + -1 * lap s (fun t => g (c :: t)) t := by
        funext t; simp only [lap]; grind
      rw [e, h1]; grind
    have e2 : lap s (fun t => lap r g (c :: t)) cs = r c * lap s g cs - lap s (lap r (fun t => g (c :: t))) cs := by
      have h1 := lap_add s (fun t => r c * g t) (fun t => -1 * lap r (fun t => g (c :: t)) t) cs
      rw [lap_smul, lap_smul] at h1
      have e : (fun t => lap r g (c :: t)) = fun t => r c * g t + -1 * lap r (fun t => g (c :: t)) t := by
        funext t; simp only [lap]; grind
      rw [e, h1]; grind
    show r c * lap s g cs - lap r (fun t => lap s g (c :: t)) cs = -(s c * lap r g cs - lap s (fun t => lap r g (c :: t)) cs)
    rw [e1, e2, ih]; grind
theorem lap_self (r : Row) (g : List Nat → Int) (cs : List Nat) : lap r (lap r g) cs = 0 := by
  have := lap_anti r r g cs
  omega
theorem lap_congr {r s : Row} {g : List Nat → Int} : ∀ {cs : List Nat}, (∀ c ∈ cs, r c = s c) → lap r g cs = lap s g cs
  | [], _ => rfl
  | c :: cs, h => by
    have h1 := lap_congr (r := r) (s := s) (g := fun t => g (c :: t)) (cs := cs) (fun d hd => h d (List.mem_cons_of_mem _ hd))
    simp only [lap, h1, h c List.mem_cons_self]

/-! ### Bareiss: after k steps the entries are minors with the first k rows and columns -/
/-- the first k rows, the last one outermost -/
def DF (M : Nat → Row) : Nat → List Nat → Int
  | 0 => fun cs => if cs = [] then 1 else 0
  | k + 1 => lap (M k) (DF M k)
def cl : Nat → List Nat
  | 0 => []
  | k + 1 => k :: cl k
theorem mem_cl {k c : Nat} : c ∈ cl k ↔ c < k := by
  induction k with
  | zero => simp [cl]
  | succ k ih => simp only [cl, List.mem_cons, ih]; omega
def Dl (M : Nat → Row) (k : Nat) : Int := DF M k (cl k)
/-- the entry i j after k steps -/
def Bm (M : Nat → Row) (k i j : Nat) : Int := lap (M i) (DF M k) (j :: cl k)
theorem Bm_zero (M : Nat → Row) (i j : Nat) : Bm M 0 i j = M i j := by simp [Bm, DF, cl, lap]
theorem Bm_pivot (M : Nat → Row) (k : Nat) : Bm M k k k = Dl M (k + 1) := rfl
theorem Dl_zero (M : Nat → Row) : Dl M 0 = 1 := by simp [Dl, DF, cl]
/-- what is kept: the row over the form is the first row times a number, and it is 0 ahead -/
structure BI (M : Nat → Row) (k : Nat) : Prop where
  form : ∀ i cs, lap (Bm M k i) (DF M k) cs = Dl M k * lap (M i) (DF M k) cs
  zero : ∀ i c, c < k → Bm M k i c = 0
theorem Bm_step {M : Nat → Row} {k : Nat} (h : BI M k) (hp : Dl M (k + 1) ≠ 0) (i j : Nat) :
    Dl M k * Bm M (k + 1) i j = Bm M k k k * Bm M k i j - Bm M k i k * Bm M k k j := by
  let W : Row := fun c => Bm M k k k * Bm M k i c + -(Bm M k i k) * Bm M k k c
  have e1 : ∀ cs, lap W (DF M (k + 1)) cs = Dl M k * Dl M (k + 1) * lap (M i) (DF M (k + 1)) cs := by
    intro cs
    have x : ∀ a : Nat, lap (Bm M k a) (DF M (k + 1)) cs = Dl M k * lap (M a) (DF M (k + 1)) cs := by
      intro a
      show lap (Bm M k a) (lap (M k) (DF M k)) cs = Dl M k * lap (M a) (lap (M k) (DF M k)) cs
      rw [lap_anti, lap_anti (M a) (M k)]
      have : lap (Bm M k a) (DF M k) = fun t => Dl M k * lap (M a) (DF M k) t := by funext t; exact h.form a t
      rw [this, lap_smul]; grind
    have y : lap (M k) (DF M (k + 1)) cs = 0 := lap_self _ _ _
    show lap (fun c => Bm M k k k * Bm M k i c + -(Bm M k i k) * Bm M k k c) (DF M (k + 1)) cs = _
    rw [lap_row_add (fun c => Bm M k k k * Bm M k i c) (fun c => -(Bm M k i k) * Bm M k k c), lap_row_smul, lap_row_smul, x i, x k, y, Bm_pivot]; grind
  have hz : ∀ c ∈ cl (k + 1), W c = 0 := by
    intro c hc
    rw [mem_cl] at hc
    show Bm M k k k * Bm M k i c + -(Bm M k i k) * Bm M k k c = 0
    by_cases hck : c = k
    · subst hck; grind
    · rw [h.zero i c (by omega), h.zero k c (by omega)]; omega
  have e2 := e1 (j :: cl (k + 1))
  have e3 : lap W (DF M (k + 1)) (j :: cl (k + 1)) = W j * Dl M (k + 1) := by
    show W j * DF M (k + 1) (cl (k + 1)) - lap W (fun t => DF M (k + 1) (j :: t)) (cl (k + 1)) = _
    rw [lap_zero W _ _ hz]; simp [Dl]
  rw [e3] at e2
  have e4 : W j = Dl M k * Bm M (k + 1) i j := by
    have : Dl M (k + 1) * (W j - Dl M k * Bm M (k + 1) i j) = 0 := by
      show Dl M (k + 1) * (W j - Dl M k * lap (M i) (DF M (k + 1)) (j :: cl (k + 1))) = 0
      grind
    rcases Int.mul_eq_zero.mp this with z | z
    · exact absurd z hp
    · omega
  rw [← e4]
  show Bm M k k k * Bm M k i j + -(Bm M k i k) * Bm M k k j = _
  grind
theorem BI_zero (M : Nat → Row) : BI M 0 := ⟨fun i cs => by
  rw [Dl_zero, lap_congr (s := M i) (fun c _ => Bm_zero M i c)]; omega, fun _ _ h => absurd h (by omega)⟩
theorem BI_step {M : Nat → Row} {k : Nat} (h : BI M k) (h0 : Dl M k ≠ 0) (hp : Dl M (k + 1) ≠ 0) : BI M (k + 1) := by
  have hs := Bm_step h hp
  have z : ∀ i c, c < k + 1 → Bm M (k + 1) i c = 0 := by
    intro i c hc
    have e := hs i c
    have e0 : Bm M k k k * Bm M k i c - Bm M k i k * Bm M k k c = 0 := by
      by_cases hck : c = k
      · subst hck; grind
      · rw [h.zero i c (by omega), h.zero k c (by omega)]; omega
    rw [e0] at e
    rcases Int.mul_eq_zero.mp e with q | q
    · exact absurd q h0
    · exact q
  refine ⟨fun i cs => ?_, z⟩
  have x : ∀ a : Nat, lap (Bm M k a) (DF M (k + 1)) cs = Dl M k * lap (M a) (DF M (k + 1)) cs := by
    intro a
    show lap (Bm M k a) (lap (M k) (DF M k)) cs = Dl M k * lap (M a) (lap (M k) (DF M k)) cs
    rw [lap_anti, lap_anti (M a) (M k)]
    have : lap (Bm M k a) (DF M k) = fun t => Dl M k * lap (M a) (DF M k) t := by funext t; exact h.form a t
    rw [this, lap_smul]; grind
  have y : lap (M k) (DF M (k + 1)) cs = 0 := lap_self _ _ _
  have e1 : lap (fun c => Dl M k * Bm M (k + 1) i c) (DF M (k + 1)) cs = lap (fun c => Bm M k k k * Bm M k i c + -(Bm M k i k) * Bm M k k c) (DF M (k + 1)) cs := by
    apply lap_congr
    intro c _
    show Dl M k * Bm M (k + 1) i c = _
    rw [hs i c]; grind
  rw [lap_row_smul, lap_row_add (fun c => Bm M k k k * Bm M k i c) (fun c => -(Bm M k i k) * Bm M k k c), lap_row_smul, lap_row_smul, x i, x k, y, Bm_pivot] at e1
  have : Dl M k * (lap (Bm M (k + 1) i) (DF M (k + 1)) cs - Dl M (k + 1) * lap (M i) (DF M (k + 1)) cs) = 0 := by grind
  rcases Int.mul_eq_zero.mp this with q | q
  · exact absurd q h0
  · omega
end Coil

/-! Routh's rows, Hurwitz' determinants, factors: mathematics alone -/
set_option linter.all false
namespace Coil
abbrev Sq := Nat → Int
def stp (u l : Sq) : Sq := fun i => l 0 * u (i + 1) - u 0 * l (i + 1)
def RS : Nat → Sq → Sq → Bool
  | 0, _, _ => true
  | n + 1, u, l => if l 0 ≤ 0 then false else RS n l (stp u l)
/-- scaling -/
theorem RS_scale : ∀ (n : Nat) (u l u' l' : Sq) (a b : Int), 0 < a → 0 < b → (∀ i, u' i = a * u i) → (∀ i, l' i = b * l i) → RS n u' l' = RS n u l
  | 0, _, _, _, _, _, _, _, _, _, _ => rfl
  | n + 1, u, l, u', l', a, b, ha, hb, hu, hl => by
    have h0 : (l' 0 ≤ 0) ↔ (l 0 ≤ 0) := by
      rw [hl]
      constructor
      · intro h
        refine Decidable.byContradiction fun q => ?_
        have := Int.mul_pos hb (show 0 < l 0 by omega)
        omega
      · intro h
        exact Int.mul_nonpos_of_nonneg_of_nonpos (by omega) h
    have hs := RS_scale n l (stp u l) l' (stp u' l') b (a * b) hb (Int.mul_pos ha hb) hl (fun i => by
      simp only [stp, hu, hl]; grind)
    simp only [RS, h0, hs]
def SupU (n : Nat) (u : Sq) : Prop := ∀ i, n < 2 * i → u i = 0
def SupL (n : Nat) (l : Sq) : Prop := ∀ i, n < 2 * i + 1 → l i = 0
theorem SupL.up {n : Nat} {l : Sq} (h : SupL (n + 1) l) : SupU n l := fun i hi => h i (by omega)
theorem sup_stp {n : Nat} {u l : Sq} (hu : SupU (n + 1) u) (hl : SupL (n + 1) l) : SupL n (stp u l) := fun i hi => by
  simp only [stp]
  rw [hu (i + 1) (by omega), hl (i + 1) (by omega)]
  omega
theorem RS_pos {n : Nat} {u l : Sq} (h : RS (n + 1) u l = true) : 0 < l 0 ∧ RS n l (stp u l) = true := by
  simp only [RS] at h
  by_cases hl0 : l 0 ≤ 0
  · rw [if_pos hl0] at h; cases h
  · rw [if_neg hl0] at h
    exact ⟨by omega, h⟩
theorem RS_of {n : Nat} {u l : Sq} (h : 0 < l 0) (h2 : RS n l (stp u l) = true) : RS (n + 1) u l = true := by
  simp only [RS]
  rw [if_neg (by omega)]
  exact h2
/-- a linear factor -/
theorem RS_linear : ∀ (n : Nat) (u l u' l' : Sq) (c b c' b' : Int), 0 < c → 0 < b → 0 < c' → 0 < b' → 0 < u 0 →
    (∀ i, u' (i + 1) = c * u (i + 1) + b * l i) → u' 0 = c * u 0 → (∀ i, l' i = b' * u i + c' * l i) → SupU n u → SupL n l → RS n u l = true → RS (n + 1) u' l' = true
  | 0, u, l, u', l', c, b, c', b', hc, hb, hc', hb', hu0, h1, h2, h3, su, sl, _ => by
    have hl := sl 0 (by omega)
    refine RS_of ?_ rfl
    rw [h3, hl]
    have := Int.mul_pos hb' hu0
    omega
  | n + 1, u, l, u', l', c, b, c', b', hc, hb, hc', hb', hu0, h1, h2, h3, su, sl, hr => by
    obtain ⟨hl0, hr⟩ := RS_pos hr
    have hp : 0 < l' 0 := by
      rw [h3]
      have := Int.mul_pos hb' hu0
      have := Int.mul_pos hc' hl0
      omega
    have ih := RS_linear n l (stp u l) (fun i => l 0 * l' i) (stp u' l') (l' 0) b' (c * c') (l' 0 * b) hp hb' (Int.mul_pos hc hc') (Int.mul_pos hp hb) hl0
      (fun i => by simp only [stp]; have := h3 (i + 1); have := h3 0; grind)
      (by grind)
      (fun i => by simp only [stp]; have := h3 (i + 1); have := h3 0; have := h1 i; grind) sl.up (sup_stp su sl) hr
    refine RS_of hp ?_
    rw [← ih]
    exact (RS_scale _ _ _ _ _ (l 0) 1 hl0 (by decide) (fun i => rfl) (fun i => by omega)).symm
theorem sq_lt {x y : Int} (h0 : 0 ≤ x) (h : x < y) : x * x < y * y := by
  have h1 : x * x ≤ x * y := Int.mul_le_mul_of_nonneg_left (by omega) h0
  have h2 : x * y < y * y := Int.mul_lt_mul_of_pos_right h (by omega)
  omega
theorem pos_of {b c : Int} (hb : 0 < b) (h : 0 < b * c) : 0 < c := by
  refine Decidable.byContradiction fun q => ?_
  have := Int.mul_nonpos_of_nonneg_of_nonpos (a := b) (b := c) (by omega) (by omega)
  omega
/-- a quadratic one -/
theorem quad_pos {a a' c c' b b' k A B C : Int} (ha : 0 < a) (ha' : 0 < a') (hc : 0 < c) (hc' : 0 < c') (hb : 0 < b) (hk : 0 < k) (hA : 0 < A) (hB : 0 < B) (hC : 0 < C)
    (e1 : a * a' = k * (A * A)) (e2 : c * c' = k * (C * C)) (e3 : a * c' + a' * c - b * b' = k * (2 * (A * C) - B * B)) : 0 < b' := by
  have hS : 2 * (k * (A * C)) ≤ a * c' + a' * c := by
    refine Decidable.byContradiction fun q => ?_
    have hx : 0 < a * c' := Int.mul_pos ha hc'
    have hy : 0 < a' * c := Int.mul_pos ha' hc
    generalize hX : a * c' = x at *
    generalize hY : a' * c = y at *
    have hxy : x * y = (k * (A * C)) * (k * (A * C)) := by rw [← hX, ← hY]; grind
    generalize k * (A * C) = z at *
    have h1 : 0 ≤ (x - y) * (x - y) := by
      rcases Int.le_total 0 (x - y) with h | h
      · exact Int.mul_nonneg h h
      · exact Int.mul_nonneg_of_nonpos_of_nonpos h h
    have h2 : (x + y) * (x + y) < (2 * z) * (2 * z) := sq_lt (by omega) (by omega)
    grind
  have hbb : 0 < b * b' := by
    have h1 : 0 < k * (B * B) := Int.mul_pos hk (Int.mul_pos hB hB)
    grind
  exact pos_of hb hbb
theorem quad_id (a a' c c' b b' u0 l0 u1 l1 u2 l2 : Int) : l0 * ((c' * l0 + b' * u0) * (c * u2 + a * u1 + b * l1) - c * u0 * (c' * l2 + a' * l1 + b' * u2)) =
    c * c' * l0 * (l0 * u2 - u0 * l2) + (c' * l0 + b' * u0) * a * (l0 * u1 - u0 * l1) + ((c' * l0 + b' * u0) * a * u0 + l0 * (c' * l0 + b' * u0) * b - l0 * c * u0 * a') * l1 := by grind
theorem quad_id0 (a a' c c' b b' u0 l0 u1 l1 : Int) : l0 * ((c' * l0 + b' * u0) * (c * u1 + a * u0 + b * l0) - c * u0 * (c' * l1 + a' * l0 + b' * u1)) =
    c * c' * l0 * (l0 * u1 - u0 * l1) + ((c' * l0 + b' * u0) * a * u0 + l0 * (c' * l0 + b' * u0) * b - l0 * c * u0 * a') * l0 := by grind
theorem quad_id3 (a a' c c' b b' l0 u0 k A B C : Int) (e3 : a * c' + a' * c - b * b' = k * (2 * (A * C) - B * B)) :
    (a' * l0) * (c * c' * l0) + ((c' * l0 + b' * u0) * a) * (c' * l0 + b' * u0) - b' * ((c' * l0 + b' * u0) * a * u0 + l0 * (c' * l0 + b' * u0) * b - l0 * c * u0 * a') = l0 * (c' * l0 + b' * u0) * k * (2 * (A * C) - B * B) := by
  have : l0 * (c' * l0 + b' * u0) * k * (2 * (A * C) - B * B) = l0 * (c' * l0 + b' * u0) * (a * c' + a' * c - b * b') := by rw [e3]; grind
  rw [this]; grind
theorem RS_quad : ∀ (n : Nat) (u l u' l' : Sq) (a a' c c' b b' k A B C : Int), 0 < a → 0 < a' → 0 < c → 0 < c' → 0 < b → 0 < k → 0 < A → 0 < B → 0 < C →
    a * a' = k * (A * A) → c * c' = k * (C * C) → a * c' + a' * c - b * b' = k * (2 * (A * C) - B * B) → 0 < u 0 →
    (∀ i, u' (i + 1) = c * u (i + 1) + a * u i + b * l i) → u' 0 = c * u 0 → (∀ i, l' (i + 1) = c' * l (i + 1) + a' * l i + b' * u (i + 1)) → l' 0 = c' * l 0 + b' * u 0 →
    SupU n u → SupL n l → RS n u l = true → RS (n + 2) u' l' = true
  | 0, u, l, u', l', a, a', c, c', b, b', k, A, B, C, ha, ha', hc, hc', hb, hk, hA, hB, hC, e1, e2, e3, hu0, h1, h2, h3, h4, su, sl, _ => by
    have hb' := quad_pos ha ha' hc hc' hb hk hA hB hC e1 e2 e3
    have hl := sl 0 (by omega)
    have hl1 := sl 1 (by omega)
    have hu1 := su 1 (by omega)
    have hp : 0 < l' 0 := by
      rw [h4, hl]
      have := Int.mul_pos hb' hu0
      omega
    refine RS_of hp (RS_of ?_ rfl)
    simp only [stp]
    have e : l' 0 * u' (0 + 1) - u' 0 * l' (0 + 1) = l' 0 * (a * u 0) := by
      have := h1 0; have := h3 0; grind
    rw [e]
    exact Int.mul_pos hp (Int.mul_pos ha hu0)
  | n + 1, u, l, u', l', a, a', c, c', b, b', k, A, B, C, ha, ha', hc, hc', hb, hk, hA, hB, hC, e1, e2, e3, hu0, h1, h2, h3, h4, su, sl, hr => by
    obtain ⟨hl0, hr⟩ := RS_pos hr
    have hb' := quad_pos ha ha' hc hc' hb hk hA hB hC e1 e2 e3
    have hp : 0 < l' 0 := by
      rw [h4]
      have := Int.mul_pos hb' hu0
      have := Int.mul_pos hc' hl0
      omega
    have ih := RS_quad n l (stp u l) (fun i => l 0 * l' i) (fun i => l 0 * stp u' l' i) (a' * l 0) (l' 0 * a) (l' 0) (c * c' * l 0) b' (l' 0 * a * u 0 + l 0 * l' 0 * b - l 0 * c * u 0 * a') (l 0 * l' 0 * k) A B C
      (Int.mul_pos ha' hl0) (Int.mul_pos hp ha) hp (Int.mul_pos (Int.mul_pos hc hc') hl0) hb' (Int.mul_pos (Int.mul_pos hl0 hp) hk) hA hB hC
      (by grind) (by grind) (by rw [h4]; have := quad_id3 a a' c c' b b' (l 0) (u 0) k A B C e3; rw [← this]) hl0
      (fun i => by simp only [stp]; have := h3 i; have := h4; grind)
      (by grind)
      (fun i => by simp only [stp]; rw [h3 (i + 1), h1 (i + 1), h2, h4]; exact quad_id _ _ _ _ _ _ _ _ _ _ _ _)
      (by simp only [stp]; rw [h3 0, h1 0, h2, h4]; exact quad_id0 _ _ _ _ _ _ _ _ _ _) sl.up (sup_stp su sl) hr
    refine RS_of hp ?_
    rw [← ih]
    exact (RS_scale _ _ _ _ _ (l 0) (l 0) hl0 hl0 (fun i => rfl) (fun i => rfl)).symm

/-! ### values at points -/
/-- partial values by Horner's rule at a whole number -/
def Zi (x : Int) (f : Sq) : Nat → Int
  | 0 => f 0
  | k + 1 => x * Zi x f k + f (k + 1)
/-- the same at a root of s * s - t * s + m, as x + y * root -/
def Zq (t m : Int) (f : Sq) : Nat → Int × Int
  | 0 => (f 0, 0)
  | k + 1 => (-(m * (Zq t m f k).2) + f (k + 1), (Zq t m f k).1 + t * (Zq t m f k).2)
def iu (u : Sq) : Sq := fun k => if k % 2 = 0 then u (k / 2) else 0
def il (l : Sq) : Sq := fun k => if k % 2 = 0 then 0 else l (k / 2)
theorem il_succ (l : Sq) (k : Nat) : il l (k + 1) = iu l k := by
  unfold il iu
  by_cases h : k % 2 = 0
  · have h1 : (k + 1) % 2 = 1 := by omega
    have h2 : (k + 1) / 2 = k / 2 := by omega
    simp [h, h1, h2]
  · have h1 : (k + 1) % 2 = 0 := by omega
    simp [h, h1]
theorem il_zero (l : Sq) : il l 0 = 0 := by simp [il]
theorem iu_zero (l : Sq) : iu l 0 = l 0 := by simp [iu]
theorem iu_stp (u l : Sq) (k : Nat) : l 0 * iu u (k + 1) - u 0 * iu l (k + 1) = il (stp u l) k := by
  unfold il iu stp
  by_cases h : k % 2 = 0
  · have h1 : (k + 1) % 2 = 1 := by omega
    simp [h, h1]
  · have h1 : (k + 1) % 2 = 0 := by omega
    have h2 : (k + 1) / 2 = k / 2 + 1 := by omega
    simp [h, h1, h2]
theorem Zi_il (x : Int) (l : Sq) : ∀ n, Zi x (il l) (n + 1) = Zi x (iu l) n
  | 0 => by simp [Zi, il_zero, il_succ]
  | n + 1 => by
    rw [Zi, Zi_il x l n, il_succ]
    rfl
theorem Zq_il (t m : Int) (l : Sq) : ∀ n, Zq t m (il l) (n + 1) = Zq t m (iu l) n
  | 0 => by simp [Zq, il_zero, il_succ]
  | n + 1 => by
    rw [Zq, Zq_il t m l n, il_succ]
    rfl
theorem Zi_stp (x : Int) (u l : Sq) : ∀ n, l 0 * Zi x (iu u) (n + 1) - u 0 * Zi x (iu l) (n + 1) = Zi x (il (stp u l)) n
  | 0 => by
    have := iu_stp u l 0
    simp only [Zi, iu_zero] at *
    grind
  | n + 1 => by
    have ih := Zi_stp x u l n
    have h := iu_stp u l (n + 1)
    rw [Zi, Zi.eq_2 x (iu l), Zi.eq_2 x (il (stp u l)), ← ih, ← h]
    grind
theorem Zq_stp (t m : Int) (u l : Sq) : ∀ n, l 0 * (Zq t m (iu u) (n + 1)).1 - u 0 * (Zq t m (iu l) (n + 1)).1 = (Zq t m (il (stp u l)) n).1 ∧
    l 0 * (Zq t m (iu u) (n + 1)).2 - u 0 * (Zq t m (iu l) (n + 1)).2 = (Zq t m (il (stp u l)) n).2
  | 0 => by
    have := iu_stp u l 0
    simp only [Zq, iu_zero] at *
    constructor <;> grind
  | n + 1 => by
    obtain ⟨i1, i2⟩ := Zq_stp t m u l n
    have h := iu_stp u l (n + 1)
    rw [Zq, Zq.eq_2 t m (iu l), Zq.eq_2 t m (il (stp u l)), ← i1, ← i2, ← h]
    constructor <;> grind
theorem iu_top {n : Nat} {l : Sq} (sl : SupL n l) (h : 0 < n) : iu l n = 0 := by
  unfold iu
  by_cases h2 : n % 2 = 0
  · rw [if_pos h2]; exact sl _ (by omega)
  · rw [if_neg h2]
/-- at a whole number from 0 on -/
theorem RS_real (x : Int) (hx : 0 ≤ x) : ∀ (n : Nat) (u l : Sq), 0 < u 0 → SupU n u → SupL n l → RS n u l = true → 0 ≤ Zi x (iu u) n ∧ 0 ≤ Zi x (il l) n ∧ 0 < Zi x (iu u) n + Zi x (il l) n
  | 0, u, l, hu0, su, sl, _ => by
    simp only [Zi, iu_zero, il_zero]
    omega
  | n + 1, u, l, hu0, su, sl, hr => by
    obtain ⟨hl0, hr⟩ := RS_pos hr
    obtain ⟨h1, h2, h3⟩ := RS_real x hx n l (stp u l) hl0 sl.up (sup_stp su sl) hr
    have e := Zi_stp x u l n
    have et : Zi x (iu l) (n + 1) = x * Zi x (iu l) n := by rw [Zi, iu_top sl (by omega)]; omega
    rw [Zi_il]
    rw [et] at e
    generalize Zi x (iu u) (n + 1) = U at *
    generalize Zi x (iu l) n = L at *
    generalize Zi x (il (stp u l)) n = V at *
    have p : 0 ≤ u 0 * (x * L) := Int.mul_nonneg (by omega) (Int.mul_nonneg hx h1)
    have q : l 0 * U = V + u 0 * (x * L) := by omega
    have hU : 0 ≤ U := by
      refine Decidable.byContradiction fun z => ?_
      have := Int.mul_neg_of_pos_of_neg hl0 (show U < 0 by omega)
      omega
    refine ⟨hU, h1, ?_⟩
    refine Decidable.byContradiction fun z => ?_
    have hL : L = 0 := by omega
    have hU0 : U = 0 := by omega
    subst hL hU0
    simp at q
    omega
def nrm (t m : Int) (z : Int × Int) : Int := z.1 * z.1 + t * (z.1 * z.2) + m * (z.2 * z.2)
def trc (t m : Int) (z w : Int × Int) : Int := 2 * (z.1 * w.1) + t * (z.1 * w.2 + z.2 * w.1) + 2 * m * (z.2 * w.2)
theorem sq_nonneg (x : Int) : 0 ≤ x * x := by
  rcases Int.le_total 0 x with h | h
  · exact Int.mul_nonneg h h
  · exact Int.mul_nonneg_of_nonpos_of_nonpos h h
theorem nrm_nonneg {t m : Int} (h : t * t < 4 * m) (z : Int × Int) : 0 ≤ nrm t m z ∧ (nrm t m z = 0 → z = (0, 0)) := by
  obtain ⟨x, y⟩ := z
  have e : 4 * nrm t m (x, y) = (2 * x + t * y) * (2 * x + t * y) + (4 * m - t * t) * (y * y) := by simp only [nrm]; grind
  have h1 := sq_nonneg (2 * x + t * y)
  have h2 : 0 ≤ (4 * m - t * t) * (y * y) := Int.mul_nonneg (by omega) (sq_nonneg y)
  refine ⟨by omega, fun q => ?_⟩
  have e1 : (4 * m - t * t) * (y * y) = 0 := by omega
  have e2 : (2 * x + t * y) * (2 * x + t * y) = 0 := by omega
  have hy : y = 0 := by
    rcases Int.mul_eq_zero.mp e1 with z | z
    · omega
    · rcases Int.mul_eq_zero.mp z with z | z <;> exact z
  subst hy
  have hx : 2 * x + t * 0 = 0 := by rcases Int.mul_eq_zero.mp e2 with z | z <;> exact z
  have : x = 0 := by simp at hx; omega
  subst this; rfl
theorem RS_quadratic (t m : Int) (ht : 0 ≤ t) (hm : t * t < 4 * m) : ∀ (n : Nat) (u l : Sq), 0 < u 0 → SupU n u → SupL n l → RS n u l = true →
    0 ≤ trc t m (Zq t m (iu u) n) (Zq t m (il l) n) ∧ ¬ (Zq t m (iu u) n = (0, 0) ∧ Zq t m (il l) n = (0, 0))
  | 0, u, l, hu0, su, sl, _ => by
    simp only [Zq, iu_zero, il_zero, trc]
    refine ⟨by omega, fun q => ?_⟩
    have := congrArg Prod.fst q.1
    simp at this
    omega
  | n + 1, u, l, hu0, su, sl, hr => by
    obtain ⟨hl0, hr⟩ := RS_pos hr
    obtain ⟨h1, h2⟩ := RS_quadratic t m ht hm n l (stp u l) hl0 sl.up (sup_stp su sl) hr
    obtain ⟨e1, e2⟩ := Zq_stp t m u l n
    have et : Zq t m (iu l) (n + 1) = (-(m * (Zq t m (iu l) n).2), (Zq t m (iu l) n).1 + t * (Zq t m (iu l) n).2) := by rw [Zq, iu_top sl (by omega)]; simp
    rw [Zq_il]
    rw [et] at e1 e2
    simp only at e1 e2
    have hn := (nrm_nonneg hm (Zq t m (iu l) n)).1
    generalize Zq t m (iu u) (n + 1) = U at *
    generalize Zq t m (iu l) n = L at *
    generalize Zq t m (il (stp u l)) n = W at *
    obtain ⟨U1, U2⟩ := U
    obtain ⟨L1, L2⟩ := L
    obtain ⟨W1, W2⟩ := W
    simp only at e1 e2
    have key : l 0 * trc t m (U1, U2) (L1, L2) = trc t m (L1, L2) (W1, W2) + u 0 * (t * nrm t m (L1, L2)) := by
      simp only [trc, nrm]
      rw [← e1, ← e2]
      generalize u 0 = u0
      generalize l 0 = l0
      clear e1 e2 h1 h2 hn
      grind
    refine ⟨?_, fun q => h2 ?_⟩
    · have p : 0 ≤ u 0 * (t * nrm t m (L1, L2)) := Int.mul_nonneg (by omega) (Int.mul_nonneg ht hn)
      refine Decidable.byContradiction fun z => ?_
      have := Int.mul_neg_of_pos_of_neg hl0 (show trc t m (U1, U2) (L1, L2) < 0 by omega)
      omega
    · obtain ⟨q1, q2⟩ := q
      cases q1
      cases q2
      simp at e1 e2
      refine ⟨rfl, ?_⟩
      rw [← e1, ← e2]

/-! ### one sequence, from the greatest power on -/
def up (f : Sq) : Sq := fun i => f (2 * i)
def lo (f : Sq) : Sq := fun i => f (2 * i + 1)
def Sup (n : Nat) (f : Sq) : Prop := ∀ k, n < k → f k = 0
theorem Sup.u {n : Nat} {f : Sq} (h : Sup n f) : SupU n (up f) := fun i hi => h _ hi
theorem Sup.l {n : Nat} {f : Sq} (h : Sup n f) : SupL n (lo f) := fun i hi => h _ hi
def RF (n : Nat) (f : Sq) : Bool := RS n (up f) (lo f)
theorem iu_il (f : Sq) (k : Nat) : iu (up f) k + il (lo f) k = f k := by
  unfold iu il up lo
  by_cases h : k % 2 = 0
  · have : 2 * (k / 2) = k := by omega
    simp [h, this]
  · have : 2 * (k / 2) + 1 = k := by omega
    simp [h, this]
theorem Zi_split (x : Int) (f : Sq) : ∀ n, Zi x f n = Zi x (iu (up f)) n + Zi x (il (lo f)) n
  | 0 => by simp only [Zi]; exact (iu_il f 0).symm
  | n + 1 => by
    have ih := Zi_split x f n
    have h := iu_il f (n + 1)
    simp only [Zi]
    rw [ih, ← h]
    grind
theorem Zq_split (t m : Int) (f : Sq) : ∀ n, (Zq t m f n).1 = (Zq t m (iu (up f)) n).1 + (Zq t m (il (lo f)) n).1 ∧ (Zq t m f n).2 = (Zq t m (iu (up f)) n).2 + (Zq t m (il (lo f)) n).2
  | 0 => by simp only [Zq]; exact ⟨(iu_il f 0).symm, by omega⟩
  | n + 1 => by
    obtain ⟨i1, i2⟩ := Zq_split t m f n
    have h := iu_il f (n + 1)
    simp only [Zq]
    rw [i1, i2, ← h]
    constructor <;> grind
def Bad (n : Nat) (f : Sq) : Prop := (∃ x : Int, 0 ≤ x ∧ Zi x f n = 0) ∨ ∃ t m : Int, 0 ≤ t ∧ t * t < 4 * m ∧ Zq t m f n = (0, 0)
theorem RF_good {n : Nat} {f : Sq} (h0 : 0 < f 0) (sf : Sup n f) (hr : RF n f = true) : ¬ Bad n f := by
  rintro (⟨x, hx, e⟩ | ⟨t, m, ht, hm, e⟩)
  · obtain ⟨_, _, h3⟩ := RS_real x hx n (up f) (lo f) h0 sf.u sf.l hr
    rw [Zi_split] at e
    omega
  · obtain ⟨h1, h2⟩ := RS_quadratic t m ht hm n (up f) (lo f) h0 sf.u sf.l hr
    obtain ⟨e1, e2⟩ := Zq_split t m f n
    rw [e] at e1 e2
    simp only at e1 e2
    have hn := nrm_nonneg hm (Zq t m (il (lo f)) n)
    apply h2
    generalize Zq t m (iu (up f)) n = U at *
    generalize Zq t m (il (lo f)) n = L at *
    obtain ⟨U1, U2⟩ := U
    obtain ⟨L1, L2⟩ := L
    simp only at e1 e2
    have hU1 : U1 = -L1 := by omega
    have hU2 : U2 = -L2 := by omega
    subst hU1 hU2
    have e3 : trc t m (-L1, -L2) (L1, L2) = -2 * nrm t m (L1, L2) := by simp only [trc, nrm]; grind
    have hz := hn.2 (by omega)
    cases hz
    exact ⟨rfl, rfl⟩
/-- f times a + b s -/
structure Lin (a b : Int) (f g : Sq) : Prop where
  z : g 0 = b * f 0
  s : ∀ k, g (k + 1) = b * f (k + 1) + a * f k
structure Quad (a b c : Int) (f g : Sq) : Prop where
  z : g 0 = c * f 0
  o : g 1 = c * f 1 + b * f 0
  s : ∀ k, g (k + 2) = c * f (k + 2) + b * f (k + 1) + a * f k
theorem Lin.sup {a b : Int} {f g : Sq} {n : Nat} (h : Lin a b f g) (sf : Sup n f) : Sup (n + 1) g := fun k hk => by
  obtain ⟨j, rfl⟩ : ∃ j, k = j + 1 := ⟨k - 1, by omega⟩
  rw [h.s, sf _ (by omega), sf _ (by omega)]; omega
theorem Quad.sup {a b c : Int} {f g : Sq} {n : Nat} (h : Quad a b c f g) (sf : Sup n f) : Sup (n + 2) g := fun k hk => by
  obtain ⟨j, rfl⟩ : ∃ j, k = j + 2 := ⟨k - 2, by omega⟩
  rw [h.s, sf _ (by omega), sf _ (by omega), sf _ (by omega)]; omega
theorem Lin.RF {a b : Int} {f g : Sq} {n : Nat} (h : Lin a b f g) (ha : 0 < a) (hb : 0 < b) (h0 : 0 < f 0) (sf : Sup n f) (hr : RF n f = true) : Coil.RF (n + 1) g = true :=
  RS_linear n (up f) (lo f) (up g) (lo g) b a b a hb ha hb ha h0 (fun i => h.s (2 * i + 1)) h.z (fun i => by have := h.s (2 * i); simp only [lo, up]; omega) sf.u sf.l hr
theorem Quad.RF {a b c : Int} {f g : Sq} {n : Nat} (h : Quad a b c f g) (ha : 0 < a) (hb : 0 < b) (hc : 0 < c) (h0 : 0 < f 0) (sf : Sup n f) (hr : RF n f = true) : Coil.RF (n + 2) g = true :=
  RS_quad n (up f) (lo f) (up g) (lo g) a a c c b b 1 a b c ha ha hc hc hb (by decide) ha hb hc (by omega) (by omega) (by grind) h0
    (fun i => by have := h.s (2 * i); simp only [lo, up] at *; rw [show 2 * (i + 1) = 2 * i + 2 by omega, this]; omega) h.z
    (fun i => by have := h.s (2 * i + 1); simp only [lo, up] at *; rw [show 2 * (i + 1) + 1 = 2 * i + 1 + 2 by omega, this, show 2 * (i + 1) = 2 * i + 1 + 1 by omega]; omega)
    (by have := h.o; simp only [lo, up] at *; exact this) sf.u sf.l hr
theorem Lin.Zi {a b : Int} {f g : Sq} (h : Lin a b f g) (x : Int) : ∀ n, Coil.Zi x g (n + 1) = b * Coil.Zi x f (n + 1) + a * Coil.Zi x f n
  | 0 => by
    have h1 := h.z
    have h2 := h.s 0
    simp only [Coil.Zi] at *
    grind
  | n + 1 => by
    have ih := Lin.Zi h x n
    have h2 := h.s (n + 1)
    rw [Coil.Zi.eq_2 x g, ih, h2, Coil.Zi.eq_2 x f (n + 1), Coil.Zi.eq_2 x f n]
    grind
theorem Lin.Zq {a b : Int} {f g : Sq} (h : Lin a b f g) (t m : Int) : ∀ n, (Coil.Zq t m g (n + 1)).1 = b * (Coil.Zq t m f (n + 1)).1 + a * (Coil.Zq t m f n).1 ∧ (Coil.Zq t m g (n + 1)).2 = b * (Coil.Zq t m f (n + 1)).2 + a * (Coil.Zq t m f n).2
  | 0 => by
    have h1 := h.z
    have h2 := h.s 0
    simp only [Coil.Zq] at *
    constructor <;> grind
  | n + 1 => by
    obtain ⟨i1, i2⟩ := Lin.Zq h t m n
    have h2 := h.s (n + 1)
    rw [Coil.Zq.eq_2 t m g, i1, i2, h2, Coil.Zq.eq_2 t m f (n + 1)]
    simp only
    constructor
    · rw [Coil.Zq.eq_2 t m f n]; grind
    · rw [Coil.Zq.eq_2 t m f n]; grind
theorem Quad.Zi {a b c : Int} {f g : Sq} (h : Quad a b c f g) (x : Int) : ∀ n, Coil.Zi x g (n + 2) = c * Coil.Zi x f (n + 2) + b * Coil.Zi x f (n + 1) + a * Coil.Zi x f n
  | 0 => by
    have h1 := h.z
    have h2 := h.o
    have h3 := h.s 0
    simp only [Coil.Zi] at *
    grind
  | n + 1 => by
    have ih := Quad.Zi h x n
    have h2 := h.s (n + 1)
    rw [Coil.Zi.eq_2 x g, ih, h2, Coil.Zi.eq_2 x f (n + 2), Coil.Zi.eq_2 x f (n + 1), Coil.Zi.eq_2 x f n]
    grind
theorem Quad.Zq {a b c : Int} {f g : Sq} (h : Quad a b c f g) (t m : Int) : ∀ n, (Coil.Zq t m g (n + 2)).1 = c * (Coil.Zq t m f (n + 2)).1 + b * (Coil.Zq t m f (n + 1)).1 + a * (Coil.Zq t m f n).1 ∧
    (Coil.Zq t m g (n + 2)).2 = c * (Coil.Zq t m f (n + 2)).2 + b * (Coil.Zq t m f (n + 1)).2 + a * (Coil.Zq t m f n).2
  | 0 => by
    have h1 := h.z
    have h2 := h.o
    have h3 := h.s 0
    simp only [Coil.Zq] at *
    constructor <;> grind
  | n + 1 => by
    obtain ⟨i1, i2⟩ := Quad.Zq h t m n
    have h2 := h.s (n + 1)
    rw [Coil.Zq.eq_2 t m g, i1, i2, h2, Coil.Zq.eq_2 t m f (n + 2)]
    simp only
    constructor
    · rw [Coil.Zq.eq_2 t m f (n + 1), Coil.Zq.eq_2 t m f n]; grind
    · rw [Coil.Zq.eq_2 t m f (n + 1), Coil.Zq.eq_2 t m f n]; grind
theorem Zi_over {x : Int} {f : Sq} {n : Nat} (sf : Sup n f) : Zi x f (n + 1) = x * Zi x f n := by rw [Zi, sf _ (by omega)]; omega
theorem Zq_over {t m : Int} {f : Sq} {n : Nat} (sf : Sup n f) : Zq t m f (n + 1) = (-(m * (Zq t m f n).2), (Zq t m f n).1 + t * (Zq t m f n).2) := by rw [Zq, sf _ (by omega)]; simp
theorem Sup.up1 {n : Nat} {f : Sq} (h : Sup n f) : Sup (n + 1) f := fun k hk => h k (by omega)
theorem Lin.bad {a b : Int} {f g : Sq} {n : Nat} (h : Lin a b f g) (sf : Sup n f) (hb : Bad n f) : Bad (n + 1) g := by
  rcases hb with ⟨x, hx, e⟩ | ⟨t, m, ht, hm, e⟩
  · refine .inl ⟨x, hx, ?_⟩
    rw [h.Zi, Zi_over sf, e]; simp
  · refine .inr ⟨t, m, ht, hm, ?_⟩
    obtain ⟨e1, e2⟩ := h.Zq t m n
    rw [Zq_over sf, e] at e1 e2
    simp at e1 e2
    exact Prod.ext e1 e2
theorem Quad.bad {a b c : Int} {f g : Sq} {n : Nat} (h : Quad a b c f g) (sf : Sup n f) (hb : Bad n f) : Bad (n + 2) g := by
  rcases hb with ⟨x, hx, e⟩ | ⟨t, m, ht, hm, e⟩
  · refine .inl ⟨x, hx, ?_⟩
    rw [h.Zi, Zi_over sf.up1, Zi_over sf, e]; simp
  · refine .inr ⟨t, m, ht, hm, ?_⟩
    obtain ⟨e1, e2⟩ := h.Zq t m n
    rw [Zq_over sf.up1, Zq_over sf, e] at e1 e2
    simp at e1 e2
    exact Prod.ext e1 e2
/-- a factor with a root that is not on the left -/
theorem Lin.bad_new {x : Int} {f g : Sq} {n : Nat} (h : Lin (-x) 1 f g) (hx : 0 ≤ x) (sf : Sup n f) : Bad (n + 1) g := by
  refine .inl ⟨x, hx, ?_⟩
  rw [h.Zi, Zi_over sf]; grind
theorem Quad.bad_real {a b : Int} {f g : Sq} {n : Nat} (x : Int) (h : Quad a b 1 f g) (hx : 0 ≤ x) (hz : x * x + b * x + a = 0) (sf : Sup n f) : Bad (n + 2) g := by
  refine .inl ⟨x, hx, ?_⟩
  rw [h.Zi, Zi_over sf.up1, Zi_over sf]
  have : 1 * (x * (x * Coil.Zi x f n)) + b * (x * Coil.Zi x f n) + a * Coil.Zi x f n = (x * x + b * x + a) * Coil.Zi x f n := by grind
  rw [this, hz]; simp
theorem Quad.bad_new {t m : Int} {f g : Sq} {n : Nat} (h : Quad m (-t) 1 f g) (ht : 0 ≤ t) (hm : t * t < 4 * m) (sf : Sup n f) : Bad (n + 2) g := by
  refine .inr ⟨t, m, ht, hm, ?_⟩
  obtain ⟨e1, e2⟩ := h.Zq t m n
  rw [Zq_over sf.up1, Zq_over sf] at e1 e2
  simp only at e1 e2
  refine Prod.ext ?_ ?_
  · rw [e1]; grind
  · rw [e2]; grind
end Coil

set_option linter.all false
namespace Coil
def Sch (M : Nat → Row) : Nat → Row := fun i j => M 0 0 * M (i + 1) (j + 1) - M (i + 1) 0 * M 0 (j + 1)
def Piv : Nat → (Nat → Row) → Bool
  | 0, _ => true
  | n + 1, M => if M 0 0 ≤ 0 then false else Piv n (Sch M)
theorem Piv_low : ∀ (n : Nat) (M N : Nat → Row) (a b : Nat → Int), (∀ i, 0 < a i) → (∀ j, N 0 j = a 0 * M 0 j) → (∀ i j, N (i + 1) j = a (i + 1) * M (i + 1) j + b (i + 1) * M i j) → Piv n N = Piv n M
  | 0, _, _, _, _, _, _, _ => rfl
  | n + 1, M, N, a, b, ha, h0, h1 => by
    have c : (N 0 0 ≤ 0) ↔ (M 0 0 ≤ 0) := by
      rw [h0]
      constructor
      · intro h
        refine Decidable.byContradiction fun q => ?_
        have := Int.mul_pos (ha 0) (show 0 < M 0 0 by omega)
        omega
      · intro h
        have := ha 0
        exact Int.mul_nonpos_of_nonneg_of_nonpos (by omega) h
    have ih := Piv_low n (Sch M) (Sch N) (fun i => a 0 * a (i + 1)) (fun i => a 0 * b (i + 1)) (fun i => Int.mul_pos (ha 0) (ha _))
      (fun j => by simp only [Sch]; rw [h0, h0, h1, h1]; grind)
      (fun i j => by simp only [Sch]; rw [h0, h0, h1, h1]; grind)
    simp only [Piv, c, ih]
theorem Piv_scale {n : Nat} {M N : Nat → Row} {a : Int} (ha : 0 < a) (h : ∀ i j, N i j = a * M i j) : Piv n N = Piv n M :=
  Piv_low n M N (fun _ => a) (fun _ => 0) (fun _ => ha) (fun j => h 0 j) (fun i j => by rw [h]; omega)
def Hz (u l : Sq) : Nat → Row := fun i j => if j < i / 2 then 0 else if i % 2 = 0 then l (j - i / 2) else u (j - i / 2)
theorem Hz_even (u l : Sq) (k j : Nat) : Hz u l (2 * k) j = if j < k then 0 else l (j - k) := by
  unfold Hz
  have h1 : 2 * k / 2 = k := by omega
  have h2 : 2 * k % 2 = 0 := by omega
  simp [h1]
theorem Hz_odd (u l : Sq) (k j : Nat) : Hz u l (2 * k + 1) j = if j < k then 0 else u (j - k) := by
  unfold Hz
  have h1 : (2 * k + 1) / 2 = k := by omega
  have h2 : (2 * k + 1) % 2 = 1 := by omega
  simp [h1, h2]
theorem Hz_RS : ∀ (n : Nat) (u l : Sq), 0 < u 0 → Piv n (Hz u l) = RS n u l
  | 0, _, _, _ => rfl
  | n + 1, u, l, hu => by
    have e00 : Hz u l 0 0 = l 0 := by simp [Hz]
    simp only [Piv, RS, e00]
    by_cases hl : l 0 ≤ 0
    · rw [if_pos hl, if_pos hl]
    · rw [if_neg hl, if_neg hl, ← Hz_RS n l (stp u l) (by omega)]
      refine Piv_low n (Hz l (stp u l)) (Sch (Hz u l)) (fun i => if i % 2 = 0 then 1 else l 0) (fun i => if i % 2 = 0 then u 0 else 0) (fun i => by split <;> omega) (fun j => ?_) (fun i j => ?_)
      · have h1 := Hz_odd u l 0 (j + 1)
        have h2 := Hz_odd u l 0 0
        have h3 := Hz_even u l 0 (j + 1)
        have h4 := Hz_even l (stp u l) 0 j
        simp at h1 h2 h3 h4
        simp only [Sch, e00]
        rw [h1, h2, h3, h4]
        simp [stp]
      · rcases Nat.mod_two_eq_zero_or_one i with hi | hi
        · obtain ⟨k, rfl⟩ : ∃ k, i = 2 * k := ⟨i / 2, by omega⟩
          have h1 := Hz_even u l (k + 1) (j + 1)
          have h2 := Hz_even u l (k + 1) 0
          have h5 := Hz_odd l (stp u l) k j
          simp only [Sch, e00]
          rw [show 2 * k + 1 + 1 = 2 * (k + 1) by omega, h1, h2, h5]
          have m1 : (2 * k + 1) % 2 = 1 := by omega
          simp [m1]
        · obtain ⟨k, rfl⟩ : ∃ k, i = 2 * k + 1 := ⟨i / 2, by omega⟩
          have h1 := Hz_odd u l (k + 1) (j + 1)
          have h2 := Hz_odd u l (k + 1) 0
          have h5 := Hz_odd l (stp u l) k j
          have h6 := Hz_even l (stp u l) (k + 1) j
          simp only [Sch, e00]
          rw [show 2 * k + 1 + 1 + 1 = 2 * (k + 1) + 1 by omega, show 2 * k + 1 + 1 = 2 * (k + 1) by omega, h1, h2, h5, h6]
          have m1 : (2 * (k + 1)) % 2 = 0 := by omega
          simp [m1]
          by_cases hj : j < k
          · have : j < k + 1 := by omega
            simp [hj, this]
          · by_cases hjk : j = k
            · subst hjk; simp; grind
            · have h7 : ¬ j < k + 1 := by omega
              have h8 : j - k = (j - (k + 1)) + 1 := by omega
              simp only [hj, h7, if_false, stp, h8]
              grind
/-- all leading minors are positive: the pivots are -/
theorem Piv_minors (M : Nat → Row) : ∀ (d k : Nat), BI M k → 0 < Dl M k → Piv d (fun i j => Bm M k (i + k) (j + k)) = decide (∀ j, j < d → 0 < Dl M (k + j + 1))
  | 0, k, _, _ => by simp [Piv]
  | d + 1, k, hb, hk => by
    have e00 : Bm M k (0 + k) (0 + k) = Dl M (k + 1) := by rw [Nat.zero_add, Bm_pivot]
    simp only [Piv, e00]
    by_cases hp : Dl M (k + 1) ≤ 0
    · rw [if_pos hp]
      symm
      rw [decide_eq_false_iff_not]
      intro h
      have := h 0 (by omega)
      simp at this
      omega
    · rw [if_neg hp]
      have hb1 := BI_step hb (by omega) (by omega : Dl M (k + 1) ≠ 0)
      have ih := Piv_minors M d (k + 1) hb1 (by omega)
      have sc : Piv d (Sch fun i j => Bm M k (i + k) (j + k)) = Piv d (fun i j => Bm M (k + 1) (i + (k + 1)) (j + (k + 1))) := by
        refine Piv_scale hk (fun i j => ?_)
        have := Bm_step hb (by omega : Dl M (k + 1) ≠ 0) (i + (k + 1)) (j + (k + 1))
        rw [this]
        simp only [Sch, Nat.zero_add]
        rw [show i + 1 + k = i + (k + 1) by omega, show j + 1 + k = j + (k + 1) by omega]
      rw [sc, ih]
      apply decide_eq_decide.mpr
      constructor
      · intro h j hj
        by_cases h0 : j = 0
        · subst h0; simp; omega
        · have := h (j - 1) (by omega)
          rw [show k + 1 + (j - 1) + 1 = k + j + 1 by omega] at this
          exact this
      · intro h j hj
        have := h (j + 1) (by omega)
        rw [show k + (j + 1) + 1 = k + 1 + j + 1 by omega] at this
        exact this
theorem Piv_all (M : Nat → Row) (n : Nat) : Piv n M = decide (∀ j, j < n → 0 < Dl M (j + 1)) := by
  have h := Piv_minors M n 0 (BI_zero M) (by rw [Dl_zero]; decide)
  have e : (fun i j => Bm M 0 (i + 0) (j + 0)) = M := by funext i j; exact Bm_zero M i j
  rw [e] at h
  rw [h]
  apply decide_eq_decide.mpr
  simp
end Coil

set_option linter.all false
namespace Coil
/-! ### polynomials as lists, from the power 0 on -/
def co (p : List Int) (i : Nat) : Int := p.getD i 0
theorem co_over {p : List Int} {i : Nat} (h : p.length ≤ i) : co p i = 0 := by
  unfold co; rw [List.getD_eq_getElem?_getD, List.getElem?_eq_none h]; rfl
def sumN : Nat → (Nat → Int) → Int
  | 0, _ => 0
  | n + 1, f => sumN n f + f n
def sh (q : List Int) (k i : Nat) : Int := if i ≤ k then co q (k - i) else 0
/-- one coefficient of the product of the first n coefficients of p with q -/
def cv (p q : List Int) (n k : Nat) : Int := sumN n fun i => co p i * sh q k i
def conv (p q : List Int) : List Int := (List.range (p.length + q.length - 1)).map (cv p q p.length)
theorem conv_len (p q : List Int) : (conv p q).length = p.length + q.length - 1 := by simp [conv]
theorem co_conv {p q : List Int} {k : Nat} (h : k < p.length + q.length - 1) : co (conv p q) k = cv p q p.length k := by
  unfold co conv
  rw [List.getD_eq_getElem?_getD, List.getElem?_map, List.getElem?_range h]; rfl
theorem cv2 (p : List Int) (a b : Int) (k : Nat) : ∀ n, cv p [a, b] n k = (if k < n then a * co p k else 0) + (if 1 ≤ k ∧ k - 1 < n then b * co p (k - 1) else 0)
  | 0 => by simp [cv, sumN]
  | n + 1 => by
    have ih := cv2 p a b k n
    unfold cv at ih ⊢
    simp only [sumN]
    rw [ih]
    have hs : sh [a, b] k n = if n = k then a else if n + 1 = k then b else 0 := by
      unfold sh
      by_cases h1 : n ≤ k
      · rw [if_pos h1]
        by_cases h2 : n = k
        · subst h2; simp [co]
        · by_cases h3 : n + 1 = k
          · subst h3; simp [co]
          · rw [if_neg h2, if_neg h3]; exact co_over (by simp; omega)
      · rw [if_neg h1, if_neg (by omega), if_neg (by omega)]
    rw [hs]
    by_cases h2 : n = k
    · subst h2
      by_cases h4 : 1 ≤ n
      · have h5 : n - 1 < n := by omega
        have h6 : n - 1 < n + 1 := by omega
        simp [h4, h5, h6]; grind
      · simp [h4]; grind
    · by_cases h3 : n + 1 = k
      · subst h3; simp; grind
      · rw [if_neg h2, if_neg h3]
        have e1 : (k < n + 1) ↔ (k < n) := by omega
        have e2 : (1 ≤ k ∧ k - 1 < n + 1) ↔ (1 ≤ k ∧ k - 1 < n) := by omega
        simp only [e1, e2]; omega
theorem cv3 (p : List Int) (a b c : Int) (k : Nat) : ∀ n, cv p [a, b, c] n k = (if k < n then a * co p k else 0) + (if 1 ≤ k ∧ k - 1 < n then b * co p (k - 1) else 0) + (if 2 ≤ k ∧ k - 2 < n then c * co p (k - 2) else 0)
  | 0 => by simp [cv, sumN]
  | n + 1 => by
    have ih := cv3 p a b c k n
    unfold cv at ih ⊢
    simp only [sumN]
    rw [ih]
    have hs : sh [a, b, c] k n = if n = k then a else if n + 1 = k then b else if n + 2 = k then c else 0 := by
      unfold sh
      by_cases h1 : n ≤ k
      · rw [if_pos h1]
        by_cases h2 : n = k
        · subst h2; simp [co]
        · by_cases h3 : n + 1 = k
          · subst h3; simp [co]
          · by_cases h4 : n + 2 = k
            · subst h4
              have : n + 2 - n = 2 := by omega
              simp [co, this]
            · rw [if_neg h2, if_neg h3, if_neg h4]; exact co_over (by simp; omega)
      · rw [if_neg h1, if_neg (by omega), if_neg (by omega), if_neg (by omega)]
    rw [hs]
    by_cases h2 : n = k
    · subst h2
      have e1 : (1 ≤ n ∧ n - 1 < n + 1) ↔ (1 ≤ n ∧ n - 1 < n) := by omega
      have e2 : (2 ≤ n ∧ n - 2 < n + 1) ↔ (2 ≤ n ∧ n - 2 < n) := by omega
      simp only [e1, e2]; simp; grind
    · by_cases h3 : n + 1 = k
      · subst h3
        have e2 : (2 ≤ n + 1 ∧ n + 1 - 2 < n + 1) ↔ (2 ≤ n + 1 ∧ n + 1 - 2 < n) := by omega
        simp only [e2]; simp; grind
      · by_cases h4 : n + 2 = k
        · subst h4
          have e1 : ¬ (1 ≤ n + 2 ∧ n + 2 - 1 < n + 1) := by omega
          have e2 : ¬ (1 ≤ n + 2 ∧ n + 2 - 1 < n) := by omega
          have e3 : ¬ (n + 2 < n + 1) := by omega
          have e4 : ¬ (n + 2 < n) := by omega
          have e5 : (2 ≤ n + 2 ∧ n + 2 - 2 < n + 1) := by omega
          have e6 : ¬ (2 ≤ n + 2 ∧ n + 2 - 2 < n) := by omega
          rw [if_neg e3, if_neg e1, if_pos e5, if_neg e4, if_neg e2, if_neg e6]
          simp; grind
        · rw [if_neg h2, if_neg h3, if_neg h4]
          have e1 : (k < n + 1) ↔ (k < n) := by omega
          have e2 : (1 ≤ k ∧ k - 1 < n + 1) ↔ (1 ≤ k ∧ k - 1 < n) := by omega
          have e3 : (2 ≤ k ∧ k - 2 < n + 1) ↔ (2 ≤ k ∧ k - 2 < n) := by omega
          simp only [e1, e2, e3]; omega
/-- the product with a + b s, with a + b s + c s s, coefficient by coefficient -/
theorem co_lin (p : List Int) (a b : Int) (hp : 0 < p.length) (k : Nat) : co (conv p [a, b]) k = a * co p k + (if 1 ≤ k then b * co p (k - 1) else 0) := by
  by_cases h : k < p.length + 1
  · rw [co_conv (by simp; omega), cv2]
    by_cases hk : k < p.length
    · have : (1 ≤ k ∧ k - 1 < p.length) ↔ 1 ≤ k := by omega
      simp only [this, if_pos hk]
    · have : (1 ≤ k ∧ k - 1 < p.length) ↔ 1 ≤ k := by omega
      rw [co_over (p := p) (i := k) (by omega)]
      simp only [this, if_neg hk]; omega
  · rw [co_over (by rw [conv_len]; simp; omega), co_over (p := p) (i := k) (by omega), co_over (p := p) (i := k - 1) (by omega)]
    split <;> omega
theorem co_quad (p : List Int) (a b c : Int) (hp : 0 < p.length) (k : Nat) : co (conv p [a, b, c]) k = a * co p k + (if 1 ≤ k then b * co p (k - 1) else 0) + (if 2 ≤ k then c * co p (k - 2) else 0) := by
  by_cases h : k < p.length + 2
  · rw [co_conv (by simp; omega), cv3]
    have z0 : (if k < p.length then a * co p k else 0) = a * co p k := by
      split
      · rfl
      · rw [co_over (p := p) (i := k) (by omega)]; omega
    have z1 : (if 1 ≤ k ∧ k - 1 < p.length then b * co p (k - 1) else 0) = (if 1 ≤ k then b * co p (k - 1) else 0) := by
      by_cases h1 : 1 ≤ k
      · by_cases h2 : k - 1 < p.length
        · rw [if_pos ⟨h1, h2⟩, if_pos h1]
        · rw [if_neg (by omega), if_pos h1, co_over (p := p) (i := k - 1) (by omega)]; omega
      · rw [if_neg (by omega), if_neg h1]
    have z2 : (if 2 ≤ k ∧ k - 2 < p.length then c * co p (k - 2) else 0) = (if 2 ≤ k then c * co p (k - 2) else 0) := by
      by_cases h1 : 2 ≤ k
      · rw [if_pos (by omega), if_pos h1]
      · rw [if_neg (by omega), if_neg h1]
    rw [z0, z1, z2]
  · rw [co_over (by rw [conv_len]; simp; omega), co_over (p := p) (i := k) (by omega), co_over (p := p) (i := k - 1) (by omega), co_over (p := p) (i := k - 2) (by omega)]
    split <;> split <;> omega
/-! ### from the greatest power on, the first one positive -/
def sg (p : List Int) : Int := if co p (p.length - 1) < 0 then -1 else 1
def fs (p : List Int) : Sq := fun k => if k < p.length then sg p * co p (p.length - 1 - k) else 0
theorem fs_sup (p : List Int) (hp : 0 < p.length) : Sup (p.length - 1) (fs p) := fun k hk => by
  unfold fs; rw [if_neg (by omega)]
theorem fs_pos {p : List Int} (hp : 0 < p.length) (h : co p (p.length - 1) ≠ 0) : 0 < fs p 0 := by
  unfold fs sg; rw [if_pos hp]
  split
  · simp; omega
  · simp; omega
theorem sg_mul {p q : List Int} {b : Int} (hb : 0 < b) (h : co q (q.length - 1) = b * co p (p.length - 1)) : sg q = sg p := by
  unfold sg
  rw [h]
  have : (b * co p (p.length - 1) < 0) ↔ (co p (p.length - 1) < 0) := by
    constructor
    · intro x
      refine Decidable.byContradiction fun q => ?_
      have := Int.mul_nonneg (a := b) (b := co p (p.length - 1)) (by omega) (by omega)
      omega
    · exact Int.mul_neg_of_pos_of_neg hb
  simp only [this]
theorem fs_lin {p : List Int} {a b : Int} (hp : 0 < p.length) (hb : 0 < b) : Lin a b (fs p) (fs (conv p [a, b])) := by
  have hl : (conv p [a, b]).length = p.length + 1 := by rw [conv_len]; simp
  have hs : sg (conv p [a, b]) = sg p := by
    refine sg_mul hb ?_
    rw [hl, Nat.add_sub_cancel, co_lin p a b hp, co_over (p := p) (i := p.length) (by omega), if_pos (by omega)]; omega
  refine ⟨?_, fun k => ?_⟩
  · unfold fs
    rw [hl, hs, if_pos (by omega), if_pos hp, co_lin p a b hp, if_pos (by omega), co_over (p := p) (i := p.length + 1 - 1 - 0) (by omega), show p.length + 1 - 1 - 0 - 1 = p.length - 1 - 0 by omega]
    grind
  · unfold fs
    rw [hl, hs, co_lin p a b hp]
    by_cases h1 : k + 1 < p.length
    · rw [if_pos (by omega), if_pos h1, if_pos (by omega), if_pos (by omega), show p.length + 1 - 1 - (k + 1) = p.length - 1 - k by omega, show p.length - 1 - k - 1 = p.length - 1 - (k + 1) by omega]
      grind
    · by_cases h2 : k < p.length
      · rw [if_pos (by omega), if_neg h1, if_pos h2, if_neg (by omega), show p.length + 1 - 1 - (k + 1) = p.length - 1 - k by omega]
        grind
      · rw [if_neg (by omega), if_neg h1, if_neg h2]; omega
theorem fs_quad {p : List Int} {a b c : Int} (hp : 0 < p.length) (hc : 0 < c) : Quad a b c (fs p) (fs (conv p [a, b, c])) := by
  have hl : (conv p [a, b, c]).length = p.length + 2 := by rw [conv_len]; simp
  have hs : sg (conv p [a, b, c]) = sg p := by
    refine sg_mul hc ?_
    rw [hl, co_quad p a b c hp, co_over (p := p) (i := p.length + 2 - 1) (by omega), co_over (p := p) (i := p.length + 2 - 1 - 1) (by omega), if_pos (by omega), if_pos (by omega), show p.length + 2 - 1 - 2 = p.length - 1 by omega]; omega
  have z1 : co p (p.length + 1) = 0 := co_over (by omega)
  have z0 : co p p.length = 0 := co_over (by omega)
  refine ⟨?_, ?_, fun k => ?_⟩
  · unfold fs
    rw [hl, hs, if_pos (by omega), if_pos hp, co_quad p a b c hp, if_pos (by omega), if_pos (by omega), show p.length + 2 - 1 - 0 = p.length + 1 by omega, show p.length + 1 - 1 = p.length by omega, z0, z1, show p.length + 1 - 2 = p.length - 1 - 0 by omega]
    grind
  · unfold fs
    rw [hl, hs, if_pos (by omega), if_pos hp, co_quad p a b c hp, if_pos (by omega), show p.length + 2 - 1 - 1 = p.length by omega, z0]
    by_cases h1 : 1 < p.length
    · rw [if_pos h1, if_pos (by omega), show p.length - 2 = p.length - 1 - 1 by omega]
      simp; grind
    · rw [if_neg h1, if_neg (by omega)]
      simp; grind
  · unfold fs
    rw [hl, hs, co_quad p a b c hp]
    by_cases h2 : k < p.length
    · rw [if_pos (show k + 2 < p.length + 2 by omega), if_pos h2]
      have e : p.length + 2 - 1 - (k + 2) = p.length - 1 - k := by omega
      rw [e]
      have f1 : (if 1 ≤ p.length - 1 - k then b * co p (p.length - 1 - k - 1) else 0) = b * (if k + 1 < p.length then co p (p.length - 1 - (k + 1)) else 0) := by
        by_cases h1 : k + 1 < p.length
        · rw [if_pos h1, if_pos (show 1 ≤ p.length - 1 - k by omega), show p.length - 1 - k - 1 = p.length - 1 - (k + 1) by omega]
        · rw [if_neg h1, if_neg (show ¬ 1 ≤ p.length - 1 - k by omega)]; omega
      have f2 : (if 2 ≤ p.length - 1 - k then c * co p (p.length - 1 - k - 2) else 0) = c * (if k + 2 < p.length then co p (p.length - 1 - (k + 2)) else 0) := by
        by_cases h1 : k + 2 < p.length
        · rw [if_pos h1, if_pos (show 2 ≤ p.length - 1 - k by omega), show p.length - 1 - k - 2 = p.length - 1 - (k + 2) by omega]
        · rw [if_neg h1, if_neg (show ¬ 2 ≤ p.length - 1 - k by omega)]; omega
      rw [f1, f2]
      have g1 : (if k + 1 < p.length then sg p * co p (p.length - 1 - (k + 1)) else 0) = sg p * (if k + 1 < p.length then co p (p.length - 1 - (k + 1)) else 0) := by split <;> omega
      have g2 : (if k + 2 < p.length then sg p * co p (p.length - 1 - (k + 2)) else 0) = sg p * (if k + 2 < p.length then co p (p.length - 1 - (k + 2)) else 0) := by split <;> omega
      rw [g1, g2]
      generalize (if k + 1 < p.length then co p (p.length - 1 - (k + 1)) else 0) = x1
      generalize (if k + 2 < p.length then co p (p.length - 1 - (k + 2)) else 0) = x2
      generalize co p (p.length - 1 - k) = x0
      generalize sg p = z
      clear f1 f2 g1 g2 hs
      grind
    · rw [if_neg (show ¬ k + 2 < p.length + 2 by omega), if_neg h2, if_neg (show ¬ k + 1 < p.length by omega), if_neg (show ¬ k + 2 < p.length by omega)]; omega
end Coil

set_option linter.all false
namespace Coil
/-! ### the mathematics of content, small numbers, Routh's rows -/
def gcdL (ns : List Int) : Int := ns.foldl (fun g n => ((Nat.gcd g.natAbs n.natAbs : Nat) : Int)) 0
def maxg (ns : List Int) : Int := if gcdL ns > 1 then gcdL ns else 1
def smallL (ns : List Int) : List Int := ns.map (· / maxg ns)
def smallTo (ns : List Int) (i : Nat) : List Int := (ns.take i).map (· / maxg ns)
theorem smallTo_len (ns : List Int) (i : Nat) : (smallTo ns i).length = min i ns.length := by simp [smallTo]
theorem smallTo_succ {ns : List Int} {i : Nat} {n : Int} (h : ns[i]? = some n) : smallTo ns (i + 1) = smallTo ns i ++ [n / maxg ns] := by
  unfold smallTo
  rw [List.take_add_one, h]
  simp
theorem smallTo_all (ns : List Int) : smallTo ns ns.length = smallL ns := by simp [smallTo, smallL]
theorem maxg_pos (ns : List Int) : 0 < maxg ns := by unfold maxg; split <;> omega
theorem maxg_lt {ns : List Int} {b : Nat} (h : (gcdL ns).natAbs < 2 ^ (b + 1)) : (maxg ns).natAbs < 2 ^ (b + 1) := by
  unfold maxg
  split
  · exact h
  · have := Nat.one_lt_two_pow (n := b + 1) (by omega)
    omega
theorem gcd_fold {b : Nat} : ∀ (ns : List Int) (g : Int), g.natAbs < 2 ^ b → (∀ n ∈ ns, n.natAbs < 2 ^ b) → (ns.foldl (fun g n => ((Nat.gcd g.natAbs n.natAbs : Nat) : Int)) g).natAbs < 2 ^ b
  | [], _, h, _ => h
  | n :: ns, g, h, ha => by
    refine gcd_fold ns _ ?_ (fun m hm => ha m (List.mem_cons_of_mem _ hm))
    show (Nat.gcd g.natAbs n.natAbs) < 2 ^ b
    by_cases hn : n.natAbs = 0
    · rw [hn, Nat.gcd_zero_right]; exact h
    · exact Nat.lt_of_le_of_lt (Nat.gcd_le_right _ (by omega)) (ha n List.mem_cons_self)
theorem gcdL_lt {b : Nat} {ns : List Int} (h : ∀ n ∈ ns, n.natAbs < 2 ^ b) : (gcdL ns).natAbs < 2 ^ b :=
  gcd_fold ns 0 (Nat.pow_pos (by decide)) h
def stepRow (u l : List Int) : List Int := (List.range (u.length - 1)).map fun i => l.getD 0 0 * u.getD (i + 1) 0 - u.getD 0 0 * l.getD (i + 1) 0
def routh : Nat → List Int → List Int → Bool
  | 0, _, l => l.isEmpty
  | k + 1, u, l => if l.isEmpty then true else if l.getD 0 0 ≤ 0 then false else routh k l (smallL (stepRow u l))
end Coil
namespace Coil
theorem stepRow_len (u l : List Int) : (stepRow u l).length = u.length - 1 := by simp [stepRow]
theorem smallL_len (ns : List Int) : (smallL ns).length = ns.length := by simp [smallL]
def stepTo (u l : List Int) (i : Nat) : List Int := (List.range i).map fun i => l.getD 0 0 * u.getD (i + 1) 0 - u.getD 0 0 * l.getD (i + 1) 0
theorem stepTo_succ (u l : List Int) (i : Nat) : stepTo u l (i + 1) = stepTo u l i ++ [l.getD 0 0 * u.getD (i + 1) 0 - u.getD 0 0 * l.getD (i + 1) 0] := by
  unfold stepTo; rw [List.range_succ, List.map_append]; rfl
def Bd (b : Nat) (ns : List Int) : Prop := ∀ n ∈ ns, n.natAbs < 2 ^ b
theorem Bd.getD {b : Nat} {ns : List Int} (h : Bd b ns) (i : Nat) : (ns.getD i 0).natAbs < 2 ^ b := by
  rw [List.getD_eq_getElem?_getD]
  cases e : ns[i]? with
  | none => exact Nat.pow_pos (by decide)
  | some n => exact h n (List.mem_of_getElem? e)
theorem Bd.mono {b c : Nat} {ns : List Int} (h : Bd b ns) (hbc : b ≤ c) : Bd c ns := fun n hn => Nat.lt_of_lt_of_le (h n hn) (Nat.pow_le_pow_right (by decide) hbc)
theorem mul_bd {a b : Nat} {x y : Int} (hx : x.natAbs < 2 ^ a) (hy : y.natAbs < 2 ^ b) : (x * y).natAbs < 2 ^ (a + b) := by
  rw [Int.natAbs_mul, Nat.pow_add]
  exact Nat.mul_lt_mul'' hx hy
theorem sub_bd {a : Nat} {x y : Int} (hx : x.natAbs < 2 ^ a) (hy : y.natAbs < 2 ^ a) : (x - y).natAbs < 2 ^ (a + 1) := by
  rw [Nat.pow_succ]; omega
theorem stepRow_bd {b : Nat} {u l : List Int} (hu : Bd b u) (hl : Bd b l) : Bd (2 * b + 1) (stepRow u l) := by
  intro n hn
  simp only [stepRow, List.mem_map, List.mem_range] at hn
  obtain ⟨i, _, rfl⟩ := hn
  have h1 := mul_bd (hl.getD 0) (hu.getD (i + 1))
  have h2 := mul_bd (hu.getD 0) (hl.getD (i + 1))
  have e : b + b = 2 * b := by omega
  rw [e] at h1 h2
  exact sub_bd h1 h2
theorem smallL_bd {b : Nat} {ns : List Int} (h : Bd b ns) : Bd b (smallL ns) := by
  intro n hn
  simp only [smallL, List.mem_map] at hn
  obtain ⟨m, hm, rfl⟩ := hn
  have h1 := h m hm
  have h2 := maxg_pos ns
  generalize maxg ns = g at h2
  refine Nat.lt_of_le_of_lt ?_ h1
  have := Int.ediv_nonneg_iff_of_pos h2 (a := m)
  by_cases h0 : 0 ≤ m
  · have h3 : 0 ≤ m / g := Int.ediv_nonneg h0 (by omega)
    have h4 : m / g ≤ m := Int.ediv_le_self _ h0
    omega
  · have h3 : m ≤ m / g := by
      rw [Int.le_ediv_iff_mul_le h2]
      have := Int.mul_le_mul_of_nonpos_left (a := m) (b := g) (c := 1) (by omega) (by omega)
      omega
    have h4 : m / g < 0 := Int.ediv_neg_of_neg_of_pos (by omega) h2
    omega
end Coil
namespace Coil
def fallN (ns : List Int) : List Int := if ns.reverse.getD 0 0 < 0 then ns.reverse.map (fun z => -z) else ns.reverse
def leftB (ns : List Int) : Bool := routh ((evens (fallN ns)).length + (odds (fallN ns)).length) (evens (fallN ns)) (odds (fallN ns))
theorem fallN_len (ns : List Int) : (fallN ns).length = ns.length := by unfold fallN; split <;> simp
theorem evens_odds_len {α : Type} (xs : List α) : (evens xs).length + (odds xs).length = xs.length := by
  unfold odds
  rw [evens_len, evens_len, List.length_tail]
  omega
theorem fallN_bd {b : Nat} {ns : List Int} (h : Bd b ns) : Bd b (fallN ns) := by
  unfold fallN
  split
  · intro n hn
    simp only [List.mem_map, List.mem_reverse] at hn
    obtain ⟨m, hm, rfl⟩ := hn
    rw [Int.natAbs_neg]
    exact h m hm
  · intro n hn
    exact h n (List.mem_reverse.mp hn)
theorem evens_bd {b : Nat} {ns : List Int} (h : Bd b ns) : Bd b (evens ns) := fun n hn => h n (evens_mem hn)
theorem odds_bd {b : Nat} {ns : List Int} (h : Bd b ns) : Bd b (odds ns) := fun n hn => h n (List.mem_of_mem_tail (evens_mem hn))
end Coil
namespace Coil
theorem gcd_dvd : ∀ (ns : List Int) (g : Int), let r := ns.foldl (fun g n => ((Nat.gcd g.natAbs n.natAbs : Nat) : Int)) g; r ∣ g ∧ ∀ n ∈ ns, r ∣ n
  | [], g => ⟨Int.dvd_refl _, fun _ h => nomatch h⟩
  | n :: ns, g => by
    obtain ⟨h1, h2⟩ := gcd_dvd ns ((Nat.gcd g.natAbs n.natAbs : Nat) : Int)
    have d1 : ((Nat.gcd g.natAbs n.natAbs : Nat) : Int) ∣ g := Int.ofNat_dvd_left.mpr (Nat.gcd_dvd_left _ _)
    have d2 : ((Nat.gcd g.natAbs n.natAbs : Nat) : Int) ∣ n := Int.ofNat_dvd_left.mpr (Nat.gcd_dvd_right _ _)
    refine ⟨Int.dvd_trans h1 d1, fun m hm => ?_⟩
    rcases List.mem_cons.mp hm with rfl | hm
    · exact Int.dvd_trans h1 d2
    · exact h2 m hm
theorem maxg_dvd {ns : List Int} {n : Int} (h : n ∈ ns) : maxg ns ∣ n := by
  unfold maxg
  split
  · exact (gcd_dvd ns 0).2 n h
  · exact Int.one_dvd n
theorem co_small (ns : List Int) (i : Nat) : maxg ns * co (smallL ns) i = co ns i := by
  by_cases h : i < ns.length
  · have e : co (smallL ns) i = co ns i / maxg ns := by
      unfold co smallL
      rw [List.getD_eq_getElem?_getD, List.getElem?_map, List.getElem?_eq_getElem h, List.getD_eq_getElem?_getD, List.getElem?_eq_getElem h]; rfl
    rw [e]
    refine Int.mul_ediv_cancel' (maxg_dvd ?_)
    unfold co
    rw [List.getD_eq_getElem?_getD, List.getElem?_eq_getElem h]
    exact List.getElem_mem h
  · rw [co_over (by rw [smallL_len]; omega), co_over (by omega)]; omega
theorem co_stepRow {u l : List Int} (h : l.length ≤ u.length) (i : Nat) : co (stepRow u l) i = stp (co u) (co l) i := by
  by_cases hi : i < u.length - 1
  · unfold co stepRow
    rw [List.getD_eq_getElem?_getD, List.getElem?_map, List.getElem?_range hi]; rfl
  · rw [co_over (by rw [stepRow_len]; omega)]
    unfold stp
    rw [co_over (p := u) (i := i + 1) (by omega), co_over (p := l) (i := i + 1) (by omega)]; omega
theorem routh_RS : ∀ (m : Nat) (u l : List Int), u.length + l.length = m + 1 → l.length ≤ u.length → u.length ≤ l.length + 1 → routh (m + 1) u l = RS m (co u) (co l)
  | 0, u, l, hm, h1, h2 => by
    have hl : l = [] := List.length_eq_zero_iff.mp (by omega)
    subst hl
    rfl
  | m + 1, u, l, hm, h1, h2 => by
    have hne : l.isEmpty = false := by
      cases l with
      | nil => simp at *; omega
      | cons a t => rfl
    have el : (smallL (stepRow u l)).length = u.length - 1 := by rw [smallL_len, stepRow_len]
    have ih := routh_RS m l (smallL (stepRow u l)) (by omega) (by omega) (by omega)
    have sc : RS m (co l) (stp (co u) (co l)) = RS m (co l) (co (smallL (stepRow u l))) :=
      RS_scale m (co l) (co (smallL (stepRow u l))) (co l) (stp (co u) (co l)) 1 (maxg (stepRow u l)) (by decide) (maxg_pos _) (fun i => by omega) (fun i => by rw [co_small, co_stepRow h1])
    rw [routh, hne]
    simp only [RS, sc, ← ih]
    rfl
theorem co_evens : ∀ (f : List Int) (i : Nat), co (evens f) i = co f (2 * i)
  | [], i => by rw [co_over (by simp [evens]), co_over (by simp)]
  | [a], i => by
    cases i with
    | zero => rfl
    | succ i => rw [co_over (by simp [evens]), co_over (by simp; omega)]
  | a :: b :: t, i => by
    cases i with
    | zero => rfl
    | succ i =>
      have ih := co_evens t i
      simp only [evens, co] at *
      rw [show 2 * (i + 1) = 2 * i + 1 + 1 by omega, List.getD_cons_succ, List.getD_cons_succ, List.getD_cons_succ]
      exact ih
theorem co_odds (f : List Int) (i : Nat) : co (odds f) i = co f (2 * i + 1) := by
  unfold odds
  rw [co_evens]
  cases f with
  | nil => rw [List.tail_nil, co_over (by simp), co_over (by simp)]
  | cons a t => simp [co]
theorem co_reverse (ns : List Int) (k : Nat) : co ns.reverse k = if k < ns.length then co ns (ns.length - 1 - k) else 0 := by
  by_cases h : k < ns.length
  · rw [if_pos h]
    unfold co
    rw [List.getD_eq_getElem?_getD, List.getElem?_reverse h, List.getD_eq_getElem?_getD]
  · rw [if_neg h, co_over (by rw [List.length_reverse]; omega)]
theorem co_neg (ns : List Int) (k : Nat) : co (ns.map fun z => -z) k = -co ns k := by
  unfold co
  rw [List.getD_eq_getElem?_getD, List.getElem?_map, List.getD_eq_getElem?_getD]
  cases ns[k]? <;> rfl
theorem co_fallN {ns : List Int} (h : 0 < ns.length) (k : Nat) : co (fallN ns) k = fs ns k := by
  have e0 : ns.reverse.getD 0 0 = co ns (ns.length - 1) := by
    have := co_reverse ns 0
    rw [if_pos h] at this
    exact this
  unfold fallN fs sg
  rw [e0]
  by_cases hn : co ns (ns.length - 1) < 0
  · rw [if_pos hn, if_pos hn, co_neg, co_reverse]
    split <;> omega
  · rw [if_neg hn, if_neg hn, co_reverse]
    split <;> omega
/-- what is_left answers -/
theorem leftB_RF {ns : List Int} (h : 0 < ns.length) : leftB ns = RF (ns.length - 1) (fs ns) := by
  unfold leftB RF
  have el := evens_odds_len (fallN ns)
  rw [fallN_len] at el
  obtain ⟨m, hm⟩ : ∃ m, ns.length = m + 1 := ⟨ns.length - 1, by omega⟩
  have h1 : (odds (fallN ns)).length ≤ (evens (fallN ns)).length ∧ (evens (fallN ns)).length ≤ (odds (fallN ns)).length + 1 := by
    unfold odds
    rw [evens_len, evens_len, List.length_tail]
    omega
  rw [el, hm, routh_RS m _ _ (by omega) h1.1 h1.2, Nat.add_sub_cancel]
  congr 1
  · funext i; rw [co_evens, co_fallN h]; rfl
  · funext i; rw [co_odds, co_fallN h]; rfl
/-- what the minors tell -/
def minB (ns : List Int) : Bool := decide (∀ j, j < ns.length - 1 → 0 < Dl (Hz (up (fs ns)) (lo (fs ns))) (j + 1))
theorem minB_left {ns : List Int} (h : 0 < ns.length) (h0 : co ns (ns.length - 1) ≠ 0) : minB ns = leftB ns := by
  rw [leftB_RF h]
  unfold minB RF
  rw [← Piv_all, Hz_RS _ _ _ (show 0 < up (fs ns) 0 from fs_pos h h0)]
end Coil

set_option linter.all false
namespace Coil
/-- how many are left after i turns of the trimming loop -/
def trimTo (ns : List Int) : Nat → Nat
  | 0 => ns.length
  | i + 1 => if trimTo ns i = 0 then 0 else if ns.getD (trimTo ns i - 1) 0 = 0 then trimTo ns i - 1 else trimTo ns i
def trimL (ns : List Int) : List Int := ns.take (trimTo ns ns.length)
theorem trimTo_le (ns : List Int) : ∀ i, trimTo ns i ≤ ns.length
  | 0 => Nat.le_refl _
  | i + 1 => by
    have := trimTo_le ns i
    unfold trimTo
    split
    · omega
    · split <;> omega
theorem trimTo_zero {ns : List Int} {i : Nat} (h0 : 0 < trimTo ns i) (hz : ns.getD (trimTo ns i - 1) 0 = 0) : trimTo ns i - 1 = trimTo ns (i + 1) := by
  rw [trimTo, if_neg (by omega), if_pos hz]
theorem trimTo_same {ns : List Int} {i : Nat} (h : trimTo ns i = 0 ∨ ¬ ns.getD (trimTo ns i - 1) 0 = 0) : trimTo ns (i + 1) = trimTo ns i := by
  rw [trimTo]
  rcases h with h | h
  · rw [if_pos h, h]
  · by_cases h0 : trimTo ns i = 0
    · rw [if_pos h0, h0]
    · rw [if_neg h0, if_neg h]
theorem trimTo_end (ns : List Int) : ∀ i, trimTo ns i ≤ ns.length - i ∨ (0 < trimTo ns i ∧ ¬ ns.getD (trimTo ns i - 1) 0 = 0)
  | 0 => .inl (Nat.le_refl _)
  | i + 1 => by
    rcases trimTo_end ns i with h | h
    · by_cases h0 : trimTo ns i = 0
      · left; rw [trimTo_same (.inl h0), h0]; omega
      · by_cases hz : ns.getD (trimTo ns i - 1) 0 = 0
        · left; rw [← trimTo_zero (by omega) hz]; omega
        · right; rw [trimTo_same (.inr hz)]; exact ⟨by omega, hz⟩
    · right; rw [trimTo_same (.inr h.2)]; exact h
theorem co_take {ns : List Int} {m k : Nat} (h : k < m) : co (ns.take m) k = co ns k := by
  unfold co
  rw [List.getD_eq_getElem?_getD, List.getElem?_take_of_lt h, List.getD_eq_getElem?_getD]
/-- what trimming gives: its last coefficient is not 0 -/
theorem trimL_last (ns : List Int) (h : 0 < (trimL ns).length) : co (trimL ns) ((trimL ns).length - 1) ≠ 0 := by
  have hl : (trimL ns).length = trimTo ns ns.length := by
    unfold trimL; rw [List.length_take, Nat.min_eq_left (trimTo_le ns _)]
  rw [hl] at h ⊢
  unfold trimL
  rw [co_take (by omega)]
  rcases trimTo_end ns ns.length with q | q
  · omega
  · exact q.2
theorem trimTo_id {ns : List Int} (h : co ns (ns.length - 1) ≠ 0) : ∀ i, trimTo ns i = ns.length
  | 0 => rfl
  | i + 1 => by
    have ih := trimTo_id h i
    rw [trimTo_same (.inr (by rw [ih]; exact h)), ih]
theorem trimL_id {ns : List Int} (h : co ns (ns.length - 1) ≠ 0) : trimL ns = ns := by
  unfold trimL
  rw [trimTo_id h, List.take_length]
theorem trimL_mem {ns : List Int} {n : Int} (h : n ∈ trimL ns) : n ∈ ns := List.mem_of_mem_take h
end Coil

set_option linter.all false
namespace Coil
/-- one coefficient in the product's loop: i rows whole, of the next one j places -/
def cvp (p q : List Int) (i j k : Nat) : Int := cv p q i k + (if i ≤ k ∧ k < i + j then co p i * co q (k - i) else 0)
def cvL (p q : List Int) (i j : Nat) : List Int := (List.range (p.length + q.length - 1)).map (cvp p q i j)
theorem cvL_len (p q : List Int) (i j : Nat) : (cvL p q i j).length = p.length + q.length - 1 := by simp [cvL]
theorem cvL_zero (p q : List Int) : cvL p q 0 0 = List.replicate (p.length + q.length - 1) 0 := by
  unfold cvL
  rw [List.eq_replicate_iff]
  refine ⟨by simp, fun b hb => ?_⟩
  simp only [List.mem_map] at hb
  obtain ⟨k, _, rfl⟩ := hb
  unfold cvp cv
  simp only [sumN]
  rw [if_neg (by omega)]; rfl
theorem cvL_row (p q : List Int) (i : Nat) : cvL p q i q.length = cvL p q (i + 1) 0 := by
  unfold cvL
  apply List.map_congr_left
  intro k _
  unfold cvp cv
  simp only [sumN]
  rw [if_neg (by omega : ¬ (i + 1 ≤ k ∧ k < i + 1 + 0))]
  unfold sh
  by_cases h : i ≤ k
  · rw [if_pos h]
    by_cases h2 : k < i + q.length
    · rw [if_pos ⟨h, h2⟩]; omega
    · rw [if_neg (by omega), co_over (p := q) (i := k - i) (by omega)]; omega
  · rw [if_neg h, if_neg (by omega)]; omega
theorem cvL_get {p q : List Int} {i j k : Nat} (h : k < p.length + q.length - 1) : (cvL p q i j).getD k 0 = cvp p q i j k := by
  unfold cvL
  rw [List.getD_eq_getElem?_getD, List.getElem?_map, List.getElem?_range h]; rfl
theorem cvL_set {p q : List Int} {i j : Nat} (hi : i < p.length) (hj : j < q.length) : (cvL p q i j).set (i + j) ((cvL p q i j).getD (i + j) 0 + co p i * co q j) = cvL p q i (j + 1) := by
  have hk : i + j < p.length + q.length - 1 := by omega
  apply List.ext_getElem
  · simp [cvL]
  · intro k h1 h2
    have hk2 : k < p.length + q.length - 1 := by rw [cvL_len] at h2; exact h2
    rw [List.getElem_set]
    have g : ∀ (a b : Nat) (h : k < (cvL p q a b).length), (cvL p q a b)[k] = cvp p q a b k := by
      intro a b h; simp [cvL]
    rw [g, g, cvL_get hk]
    unfold cvp
    by_cases he : i + j = k
    · subst he
      rw [if_pos rfl, if_neg (by omega), if_pos (by omega), show i + j - i = j by omega]; omega
    · rw [if_neg he]
      have : (i ≤ k ∧ k < i + (j + 1)) ↔ (i ≤ k ∧ k < i + j) := by omega
      simp only [this]
theorem cvL_all (p q : List Int) : cvL p q p.length 0 = conv p q := by
  unfold cvL conv
  apply List.map_congr_left
  intro k _
  unfold cvp
  rw [if_neg (by omega)]; omega
/-- the product as the law makes it -/
def mulL (p q : List Int) : List Int := if p = [] ∨ q = [] then [] else trimL (conv p q)
theorem sumN_bd {B : Nat} {f : Nat → Int} : ∀ n, (∀ i, i < n → (f i).natAbs ≤ B) → (sumN n f).natAbs ≤ n * B
  | 0, _ => by simp [sumN]
  | n + 1, h => by
    have ih := sumN_bd n (fun i hi => h i (by omega))
    have h1 := h n (by omega)
    simp only [sumN]
    rw [Nat.succ_mul]
    omega
end Coil

set_option linter.all false
namespace Coil
theorem BI_all {M : Nat → Row} : ∀ k, (∀ j, j < k → 0 < Dl M (j + 1)) → BI M k ∧ 0 < Dl M k
  | 0, _ => ⟨BI_zero M, by rw [Dl_zero]; decide⟩
  | k + 1, h => by
    obtain ⟨h1, h2⟩ := BI_all (M := M) k (fun j hj => h j (by omega))
    have h3 := h k (by omega)
    exact ⟨BI_step h1 (by omega) (by omega), h3⟩
theorem lap_bd {r : Row} {B G : Nat} (hr : ∀ c, (r c).natAbs ≤ B) : ∀ (g : List Nat → Int) (cs : List Nat), (∀ t : List Nat, t.length < cs.length → (g t).natAbs ≤ G) → (lap r g cs).natAbs ≤ cs.length * (B * G)
  | _, [], _ => by simp [lap]
  | g, c :: cs, hg => by
    have ih := lap_bd hr (G := G) (fun t => g (c :: t)) cs (fun t ht => hg (c :: t) (by simp; omega))
    have h1 : (r c * g cs).natAbs ≤ B * G := by
      rw [Int.natAbs_mul]
      exact Nat.mul_le_mul (hr c) (hg cs (by simp))
    simp only [lap, List.length_cons]
    rw [Nat.succ_mul]
    omega
theorem DF_bd {M : Nat → Row} {B : Nat} (hB : 1 ≤ B) (hM : ∀ i j, (M i j).natAbs ≤ B) : ∀ (k : Nat) (cs : List Nat), cs.length ≤ 16 → (DF M k cs).natAbs ≤ (16 * B) ^ k
  | 0, cs, _ => by simp only [DF]; split <;> simp
  | k + 1, cs, h => by
    have h1 := lap_bd (hM k) (G := (16 * B) ^ k) (DF M k) cs (fun t ht => DF_bd hB hM k t (by omega))
    refine Nat.le_trans h1 ?_
    rw [Nat.pow_succ]
    have : cs.length * (B * (16 * B) ^ k) ≤ 16 * (B * (16 * B) ^ k) := Nat.mul_le_mul_right _ h
    calc _ ≤ _ := this
      _ = _ := by rw [Nat.mul_comm ((16 * B) ^ k), Nat.mul_assoc]
theorem cl_len : ∀ k, (cl k).length = k
  | 0 => rfl
  | k + 1 => by simp [cl, cl_len k]
theorem Bm_bd {M : Nat → Row} {B : Nat} (hB : 1 ≤ B) (hM : ∀ i j, (M i j).natAbs ≤ B) (k i j : Nat) (hk : k ≤ 12) : (Bm M k i j).natAbs ≤ (16 * B) ^ (k + 1) := by
  have h1 := lap_bd (hM i) (G := (16 * B) ^ k) (DF M k) (j :: cl k) (fun t ht => DF_bd hB hM k t (by simp [cl_len] at ht; omega))
  refine Nat.le_trans h1 ?_
  rw [Nat.pow_succ, List.length_cons, cl_len]
  have : (k + 1) * (B * (16 * B) ^ k) ≤ 16 * (B * (16 * B) ^ k) := Nat.mul_le_mul_right _ (by omega)
  calc _ ≤ _ := this
    _ = _ := by rw [Nat.mul_comm ((16 * B) ^ k), Nat.mul_assoc]
theorem Bm_small {M : Nat → Row} (hM : ∀ i j, (M i j).natAbs ≤ 2 ^ 15) (k i j : Nat) (hk : k ≤ 12) : (Bm M k i j).natAbs < 2 ^ 250 := by
  have h := Bm_bd (by decide) hM k i j hk
  have e : (16 * 2 ^ 15) ^ (k + 1) = 2 ^ (19 * (k + 1)) := by
    rw [show 16 * 2 ^ 15 = 2 ^ 19 by decide, ← Nat.pow_mul]
  rw [e] at h
  exact Nat.lt_of_le_of_lt h (Nat.pow_lt_pow_right (by decide) (by omega))
theorem Hz_bd {u l : Sq} {B : Nat} (hu : ∀ i, (u i).natAbs ≤ B) (hl : ∀ i, (l i).natAbs ≤ B) (i j : Nat) : (Hz u l i j).natAbs ≤ B := by
  unfold Hz
  split
  · simp
  · split
    · exact hl _
    · exact hu _
theorem fs_bd {ns : List Int} {B : Nat} (h : ∀ i, (co ns i).natAbs ≤ B) (k : Nat) : (fs ns k).natAbs ≤ B := by
  unfold fs sg
  split
  · have := h (ns.length - 1 - k)
    split
    · omega
    · omega
  · simp
/-- the entry of the law's table -/
theorem hz_entry {f : Sq} {n i j : Nat} (sf : Sup n f) (hj : j < n) : Hz (up f) (lo f) i j = if (i : Int) ≤ 2 * (j : Int) + 1 ∧ 2 * (j : Int) + 1 - i ≤ n then f (2 * j + 1 - i) else 0 := by
  unfold Hz up lo
  by_cases h : j < i / 2
  · rw [if_pos h, if_neg (by omega)]
  · rw [if_neg h]
    by_cases he : i % 2 = 0
    · rw [if_pos he]
      have e : 2 * (j - i / 2) + 1 = 2 * j + 1 - i := by omega
      rw [e]
      by_cases hn : 2 * (j : Int) + 1 - i ≤ n
      · rw [if_pos ⟨by omega, hn⟩]
      · rw [if_neg (by omega), sf _ (by omega)]
    · rw [if_neg he]
      have e : 2 * (j - i / 2) = 2 * j + 1 - i := by omega
      rw [e]
      by_cases hn : 2 * (j : Int) + 1 - i ≤ n
      · rw [if_pos ⟨by omega, hn⟩]
      · rw [if_neg (by omega), sf _ (by omega)]
theorem Bm_div {M : Nat → Row} {k : Nat} (h : BI M k) (h0 : 0 < Dl M k) (hp : 0 < Dl M (k + 1)) (i j : Nat) :
    (Bm M k i j * Bm M k k k - Bm M k i k * Bm M k k j) / Dl M k = Bm M (k + 1) i j := by
  have e := Bm_step h (by omega) i j
  have e2 : Bm M k i j * Bm M k k k - Bm M k i k * Bm M k k j = Dl M k * Bm M (k + 1) i j := by rw [e]; grind
  rw [e2]
  exact Int.mul_ediv_cancel_left _ (by omega)
end Coil

set_option linter.all false
namespace Coil
def BdA (b : Nat) (ns : List Int) : Prop := ∀ n ∈ ns, n.natAbs ≤ b
theorem BdA.co {b : Nat} {ns : List Int} (h : BdA b ns) (i : Nat) : (Coil.co ns i).natAbs ≤ b := by
  unfold Coil.co
  rw [List.getD_eq_getElem?_getD]
  cases e : ns[i]? with
  | none => exact Nat.zero_le _
  | some n => exact h n (List.mem_of_getElem? e)
theorem BdA.of_co {b : Nat} {ns : List Int} (h : ∀ i, (Coil.co ns i).natAbs ≤ b) : BdA b ns := fun n hn => by
  obtain ⟨i, hi, rfl⟩ := List.getElem_of_mem hn
  have := h i
  unfold Coil.co at this
  rw [List.getD_eq_getElem?_getD, List.getElem?_eq_getElem hi] at this
  exact this
theorem BdA.mono {b c : Nat} {ns : List Int} (h : BdA b ns) (hbc : b ≤ c) : BdA c ns := fun n hn => Nat.le_trans (h n hn) hbc
/-- the law's polynomial behind i factors; d: all of them are left -/
structure Pst (i : Nat) (ns : List Int) (d : Bool) : Prop where
  pos : 0 < ns.length
  len : ns.length ≤ 1 + 2 * i
  last : co ns (ns.length - 1) ≠ 0
  bd : BdA (2 * 11 ^ i) ns
  good : d = true → RF (ns.length - 1) (fs ns) = true
  bad : d = false → Bad (ns.length - 1) (fs ns)
theorem pst_start {c : Int} (h : c = 1 ∨ c = 2 ∨ c = -1) : Pst 0 [c] true := by
  refine ⟨by simp, by simp, ?_, ?_, fun _ => rfl, fun z => Bool.noConfusion z⟩
  · rcases h with h | h | h <;> subst h <;> decide
  · intro n hn
    have := List.mem_singleton.mp hn
    subst this
    rcases h with h | h | h <;> subst h <;> decide
theorem mul_lin {ns : List Int} {a b : Int} (hp : 0 < ns.length) (hl : co ns (ns.length - 1) ≠ 0) (hb : b ≠ 0) : mulL ns [a, b] = conv ns [a, b] ∧ co (conv ns [a, b]) ((conv ns [a, b]).length - 1) ≠ 0 := by
  have e : (conv ns [a, b]).length = ns.length + 1 := by rw [conv_len]; simp
  have h : co (conv ns [a, b]) ((conv ns [a, b]).length - 1) ≠ 0 := by
    rw [e, Nat.add_sub_cancel, co_lin ns a b hp, co_over (p := ns) (i := ns.length) (by omega), if_pos (by omega)]
    have := Int.mul_ne_zero hb hl
    omega
  refine ⟨?_, h⟩
  unfold mulL
  rw [if_neg, trimL_id h]
  rintro (z | z)
  · rw [z] at hp; exact absurd hp (by decide)
  · cases z
theorem mul_quad {ns : List Int} {a b c : Int} (hp : 0 < ns.length) (hl : co ns (ns.length - 1) ≠ 0) (hc : c ≠ 0) : mulL ns [a, b, c] = conv ns [a, b, c] ∧ co (conv ns [a, b, c]) ((conv ns [a, b, c]).length - 1) ≠ 0 := by
  have e : (conv ns [a, b, c]).length = ns.length + 2 := by rw [conv_len]; simp
  have h : co (conv ns [a, b, c]) ((conv ns [a, b, c]).length - 1) ≠ 0 := by
    rw [e, co_quad ns a b c hp, co_over (p := ns) (i := ns.length + 2 - 1) (by omega), co_over (p := ns) (i := ns.length + 2 - 1 - 1) (by omega), if_pos (by omega), if_pos (by omega), show ns.length + 2 - 1 - 2 = ns.length - 1 by omega]
    have := Int.mul_ne_zero hc hl
    omega
  refine ⟨?_, h⟩
  unfold mulL
  rw [if_neg, trimL_id h]
  rintro (z | z)
  · rw [z] at hp; exact absurd hp (by decide)
  · cases z
theorem mul_abs {x y : Int} {a b : Nat} (hx : x.natAbs ≤ a) (hy : y.natAbs ≤ b) : (x * y).natAbs ≤ a * b := by
  rw [Int.natAbs_mul]; exact Nat.mul_le_mul hx hy
theorem bd_lin {ns : List Int} {a b : Int} {B : Nat} (hp : 0 < ns.length) (h : BdA B ns) (hab : a.natAbs + b.natAbs ≤ 11) : BdA (11 * B) (conv ns [a, b]) := by
  refine BdA.of_co fun i => ?_
  rw [co_lin ns a b hp]
  have h1 := mul_abs (Nat.le_refl a.natAbs) (h.co i)
  have h2 := mul_abs (Nat.le_refl b.natAbs) (h.co (i - 1))
  have h3 : a.natAbs * B + b.natAbs * B ≤ 11 * B := by rw [← Nat.add_mul]; exact Nat.mul_le_mul_right _ hab
  split <;> omega
theorem bd_quad {ns : List Int} {a b c : Int} {B : Nat} (hp : 0 < ns.length) (h : BdA B ns) (hab : a.natAbs + b.natAbs + c.natAbs ≤ 11) : BdA (11 * B) (conv ns [a, b, c]) := by
  refine BdA.of_co fun i => ?_
  rw [co_quad ns a b c hp]
  have h1 := mul_abs (Nat.le_refl a.natAbs) (h.co i)
  have h2 := mul_abs (Nat.le_refl b.natAbs) (h.co (i - 1))
  have h4 := mul_abs (Nat.le_refl c.natAbs) (h.co (i - 2))
  have h3 : a.natAbs * B + b.natAbs * B + c.natAbs * B ≤ 11 * B := by rw [← Nat.add_mul, ← Nat.add_mul]; exact Nat.mul_le_mul_right _ hab
  split <;> split <;> omega
theorem pow11 (i : Nat) : 11 * (2 * 11 ^ i) = 2 * 11 ^ (i + 1) := by rw [Nat.pow_succ]; omega
theorem Pst.lin {i : Nat} {ns : List Int} {d : Bool} {a b : Int} (h : Pst i ns d) (ha : 0 < a) (hb : 0 < b) (hab : a.natAbs + b.natAbs ≤ 11) : Pst (i + 1) (mulL ns [a, b]) d := by
  obtain ⟨e1, e2⟩ := mul_lin (a := a) h.pos h.last (by omega : b ≠ 0)
  have el : (conv ns [a, b]).length = ns.length + 1 := by rw [conv_len]; simp
  have hl := fs_lin (a := a) h.pos hb
  have hs := fs_sup ns h.pos
  rw [e1]
  have hpos := h.pos
  have hle := h.len
  have ei : ns.length + 1 - 1 = ns.length - 1 + 1 := by omega
  refine ⟨by omega, by omega, e2, by rw [← pow11]; exact bd_lin h.pos h.bd hab, fun z => ?_, fun z => ?_⟩
  · rw [el, ei]; exact hl.RF ha hb (fs_pos h.pos h.last) hs (h.good z)
  · rw [el, ei]; exact hl.bad hs (h.bad z)
theorem Pst.quad {i : Nat} {ns : List Int} {d : Bool} {a b c : Int} (h : Pst i ns d) (ha : 0 < a) (hb : 0 < b) (hc : 0 < c) (hab : a.natAbs + b.natAbs + c.natAbs ≤ 11) : Pst (i + 1) (mulL ns [a, b, c]) d := by
  obtain ⟨e1, e2⟩ := mul_quad (a := a) (b := b) h.pos h.last (by omega : c ≠ 0)
  have el : (conv ns [a, b, c]).length = ns.length + 2 := by rw [conv_len]; simp
  have hl := fs_quad (a := a) (b := b) h.pos hc
  have hs := fs_sup ns h.pos
  rw [e1]
  have hpos := h.pos
  have hle := h.len
  have ei : ns.length + 2 - 1 = ns.length - 1 + 2 := by omega
  refine ⟨by omega, by omega, e2, by rw [← pow11]; exact bd_quad h.pos h.bd hab, fun z => ?_, fun z => ?_⟩
  · rw [el, ei]; exact hl.RF ha hb hc (fs_pos h.pos h.last) hs (h.good z)
  · rw [el, ei]; exact hl.bad hs (h.bad z)
theorem Pst.rlin {i : Nat} {ns : List Int} {d : Bool} {x : Int} (h : Pst i ns d) (hx : 0 ≤ x) (hx2 : x ≤ 10) : Pst (i + 1) (mulL ns [-x, 1]) false := by
  obtain ⟨e1, e2⟩ := mul_lin (a := -x) h.pos h.last (by omega : (1 : Int) ≠ 0)
  have el : (conv ns [-x, 1]).length = ns.length + 1 := by rw [conv_len]; simp
  have hl := fs_lin (a := -x) h.pos (by decide : (0 : Int) < 1)
  have hs := fs_sup ns h.pos
  rw [e1]
  have hpos := h.pos
  have hle := h.len
  have ei : ns.length + 1 - 1 = ns.length - 1 + 1 := by omega
  refine ⟨by omega, by omega, e2, by rw [← pow11]; exact bd_lin h.pos h.bd (by omega), fun z => Bool.noConfusion z, fun _ => ?_⟩
  rw [el, ei]; exact hl.bad_new hx hs
theorem Pst.rquad {i : Nat} {ns : List Int} {d : Bool} {a b : Int} (h : Pst i ns d) (hab : a.natAbs + b.natAbs ≤ 10) (hbad : (∃ x : Int, 0 ≤ x ∧ x * x + b * x + a = 0) ∨ (b ≤ 0 ∧ b * b < 4 * a)) : Pst (i + 1) (mulL ns [a, b, 1]) false := by
  obtain ⟨e1, e2⟩ := mul_quad (a := a) (b := b) h.pos h.last (by omega : (1 : Int) ≠ 0)
  have el : (conv ns [a, b, 1]).length = ns.length + 2 := by rw [conv_len]; simp
  have hl := fs_quad (a := a) (b := b) h.pos (by decide : (0 : Int) < 1)
  have hs := fs_sup ns h.pos
  rw [e1]
  have hpos := h.pos
  have hle := h.len
  have ei : ns.length + 2 - 1 = ns.length - 1 + 2 := by omega
  refine ⟨by omega, by omega, e2, by rw [← pow11]; exact bd_quad h.pos h.bd (by omega), fun z => Bool.noConfusion z, fun _ => ?_⟩
  rw [el, ei]
  rcases hbad with ⟨x, hx, hz⟩ | ⟨h1, h2⟩
  · exact hl.bad_real x hx hz hs
  · have hl' : Quad a (-(-b)) 1 (fs ns) (fs (conv ns [a, b, 1])) := by rw [Int.neg_neg]; exact hl
    refine hl'.bad_new (by omega) ?_ hs
    have : -b * -b = b * b := by grind
    rw [this]; exact h2
theorem Pst.end {i : Nat} {ns : List Int} {d : Bool} (h : Pst i ns d) : leftB ns = d ∧ minB ns = d := by
  have e : leftB ns = d := by
    rw [leftB_RF h.pos]
    cases hd : d with
    | true => exact h.good hd
    | false =>
      cases hr : RF (ns.length - 1) (fs ns) with
      | false => rfl
      | true => exact absurd (h.bad hd) (RF_good (fs_pos h.pos h.last) (fs_sup ns h.pos) hr)
  exact ⟨e, by rw [minB_left h.pos h.last, e]⟩
end Coil

set_option linter.all false
namespace Coil
/-! series over the rational numbers -/
def rsh (f : Nat → Rat) : Nat → Rat := fun n => f (n + 1)
def rcv : (Nat → Rat) → (Nat → Rat) → Nat → Rat
  | f, g, 0 => f 0 * g 0
  | f, g, n + 1 => f 0 * g (n + 1) + rcv (rsh f) g n
def rsum (f g : Nat → Rat) (n : Nat) : Nat → Rat
  | 0 => 0
  | j + 1 => rsum f g n j + f j * g (n - j)
theorem rsum_sh (f g : Nat → Rat) (n : Nat) : ∀ j, rsum f g (n + 1) (j + 1) = f 0 * g (n + 1) + rsum (rsh f) g n j
  | 0 => by simp only [rsum]; rw [Nat.sub_zero]; grind
  | j + 1 => by
    have h := rsum_sh f g n j
    have e : n + 1 - (j + 1) = n - j := by omega
    rw [rsum, h, rsum]
    simp only [rsh, e]; grind
theorem rcv_sum : ∀ (n : Nat) (f g : Nat → Rat), rcv f g n = rsum f g n (n + 1)
  | 0, f, g => by simp only [rcv, rsum]; grind
  | n + 1, f, g => by rw [rcv, rcv_sum n, rsum_sh]
theorem rsum_congr {f g f' g' : Nat → Rat} {n : Nat} : ∀ j, (∀ i, i < j → f i * g (n - i) = f' i * g' (n - i)) → rsum f g n j = rsum f' g' n j
  | 0, _ => rfl
  | j + 1, h => by
    rw [rsum, rsum, rsum_congr j (fun i hi => h i (by omega)), h j (by omega)]
theorem rcv_congr {f g f' g' : Nat → Rat} {n : Nat} (hf : ∀ i, i ≤ n → f i = f' i) (hg : ∀ i, i ≤ n → g i = g' i) : rcv f g n = rcv f' g' n := by
  rw [rcv_sum, rcv_sum]
  exact rsum_congr _ fun i hi => by rw [hf i (by omega), hg (n - i) (by omega)]
theorem rcv_add_l (f e g : Nat → Rat) : ∀ n, rcv (fun i => f i + e i) g n = rcv f g n + rcv e g n := by
  intro n
  induction n generalizing f e with
  | zero => simp only [rcv]; grind
  | succ n ih =>
    simp only [rcv]
    have := ih (rsh f) (rsh e)
    have h : rsh (fun i => f i + e i) = fun i => rsh f i + rsh e i := rfl
    rw [h, this]; grind
theorem rcv_mul_l (c : Rat) (f g : Nat → Rat) : ∀ n, rcv (fun i => c * f i) g n = c * rcv f g n := by
  intro n
  induction n generalizing f with
  | zero => simp only [rcv]; grind
  | succ n ih =>
    simp only [rcv]
    have := ih (rsh f)
    have h : rsh (fun i => c * f i) = fun i => c * rsh f i := rfl
    rw [h, this]; grind
theorem rcv_right (f g : Nat → Rat) : ∀ n, rcv f g (n + 1) = f (n + 1) * g 0 + rcv f (rsh g) n := by
  intro n
  induction n generalizing f with
  | zero => simp only [rcv, rsh]; grind
  | succ n ih =>
    rw [rcv, ih (rsh f), rcv]
    simp only [rsh]; grind
theorem rcv_comm (f g : Nat → Rat) : ∀ n, rcv f g n = rcv g f n := by
  intro n
  induction n generalizing f g with
  | zero => simp only [rcv]; grind
  | succ n ih => rw [rcv, rcv_right g f, ih]; grind
theorem rcv_add_r (f g e : Nat → Rat) (n : Nat) : rcv f (fun i => g i + e i) n = rcv f g n + rcv f e n := by
  rw [rcv_comm, rcv_add_l, rcv_comm g, rcv_comm e]
theorem rcv_mul_r (c : Rat) (f g : Nat → Rat) (n : Nat) : rcv f (fun i => c * g i) n = c * rcv f g n := by
  rw [rcv_comm, rcv_mul_l, rcv_comm g]
theorem rcv_assoc (f g h : Nat → Rat) : ∀ n, rcv (rcv f g) h n = rcv f (rcv g h) n := by
  intro n
  induction n generalizing f with
  | zero => simp only [rcv]; grind
  | succ n ih =>
    have e : rsh (rcv f g) = fun i => f 0 * rsh g i + rcv (rsh f) g i := by funext i; simp only [rsh, rcv]
    rw [rcv, e, rcv_add_l, rcv_mul_l, ih (rsh f)]
    simp only [rcv]; grind
theorem rcv_cancel {b f g : Nat → Rat} (hb : b 0 ≠ 0) {N : Nat} (h : ∀ n, n < N → rcv b f n = rcv b g n) : ∀ n, n < N → f n = g n := by
  intro n
  induction n using Nat.strongRecOn with
  | ind n ih =>
    intro hn
    have h1 := h n hn
    cases n with
    | zero =>
      simp only [rcv] at h1
      grind
    | succ n =>
      simp only [rcv] at h1
      have h2 : rcv (rsh b) f n = rcv (rsh b) g n := rcv_congr (fun _ _ => rfl) fun i hi => ih i (by omega) (by omega)
      rw [h2] at h1
      grind
def rzs (f : Nat → Rat) : Nat → Rat
  | 0 => 0
  | n + 1 => f n
def rone : Nat → Rat
  | 0 => 1
  | _ + 1 => 0
theorem rcv_zs (f g : Nat → Rat) : ∀ n, rcv (rzs f) g n = rzs (rcv f g) n
  | 0 => by simp only [rcv, rzs]; grind
  | n + 1 => by
    have e : rsh (rzs f) = f := rfl
    simp only [rcv, e, rzs]; grind
theorem rcv_zs_r (f g : Nat → Rat) (n : Nat) : rcv f (rzs g) n = rzs (rcv f g) n := by
  rw [rcv_comm, rcv_zs]
  cases n with
  | zero => rfl
  | succ n => simp only [rzs]; rw [rcv_comm]
theorem rcv_one (g : Nat → Rat) : ∀ n, rcv rone g n = g n
  | 0 => by simp only [rcv, rone]; grind
  | n + 1 => by
    have : ∀ n, rcv (rsh rone) g n = 0 := by
      intro n
      have e : rsh rone = fun i => 0 * rone i := by funext i; simp only [rsh, rone]; grind
      rw [e, rcv_mul_l]; grind
    simp only [rcv, this, rone]; grind
theorem rcv_one_r (g : Nat → Rat) (n : Nat) : rcv g rone n = g n := by rw [rcv_comm, rcv_one]
theorem rzs_congr {f g : Nat → Rat} {n : Nat} (h : ∀ i, i < n → f i = g i) : rzs f n = rzs g n := by
  cases n with
  | zero => rfl
  | succ n => exact h n (by omega)
/-! ### division -/
def atL (l : List Rat) : Nat → Rat := fun i => l.getD i 0
def rdl (t b : Nat → Rat) : Nat → List Rat
  | 0 => []
  | n + 1 => rdl t b n ++ [(t n - rcv b (atL (rdl t b n)) n) / b 0]
theorem rdl_len (t b : Nat → Rat) : ∀ n, (rdl t b n).length = n
  | 0 => rfl
  | n + 1 => by rw [rdl, List.length_append, rdl_len t b n]; rfl
theorem atL_app {l : List Rat} {x : Rat} {i : Nat} (h : i < l.length) : atL (l ++ [x]) i = atL l i := by
  unfold atL
  rw [List.getD_eq_getElem?_getD, List.getD_eq_getElem?_getD, List.getElem?_append_left h]
theorem atL_last {l : List Rat} {x : Rat} : atL (l ++ [x]) l.length = x := by
  unfold atL
  rw [List.getD_eq_getElem?_getD, List.getElem?_append_right (Nat.le_refl _)]
  simp
theorem atL_over {l : List Rat} {i : Nat} (h : l.length ≤ i) : atL l i = 0 := by
  unfold atL
  rw [List.getD_eq_getElem?_getD, List.getElem?_eq_none h]; rfl
def rdv (t b : Nat → Rat) (n : Nat) : Rat := atL (rdl t b (n + 1)) n
theorem rdl_at (t b : Nat → Rat) : ∀ m i, i < m → atL (rdl t b m) i = rdv t b i
  | 0, _, h => absurd h (Nat.not_lt_zero _)
  | m + 1, i, h => by
    by_cases e : i = m
    · subst e; rfl
    · rw [rdl, atL_app (by rw [rdl_len]; omega)]
      exact rdl_at t b m i (by omega)
/-- the sum with the newest term left out -/
theorem rcv_new {b f g : Nat → Rat} {n : Nat} (h : ∀ i, i < n → f i = g i) (h0 : f n = 0) : rcv b g n = b 0 * g n + rcv b f n := by
  cases n with
  | zero => simp only [rcv, h0]; grind
  | succ n =>
    simp only [rcv, h0]
    have : rcv (rsh b) f n = rcv (rsh b) g n := rcv_congr (fun _ _ => rfl) fun i hi => h i (by omega)
    rw [this]; grind
theorem rdv_cv {t b : Nat → Rat} (hb : b 0 ≠ 0) (n : Nat) : rcv b (rdv t b) n = t n := by
  have h1 : rcv b (rdv t b) n = b 0 * rdv t b n + rcv b (atL (rdl t b n)) n := rcv_new (fun i hi => rdl_at t b n i hi) (atL_over (by rw [rdl_len]; exact Nat.le_refl _))
  have h2 : rdv t b n = (t n - rcv b (atL (rdl t b n)) n) / b 0 := by
    unfold rdv
    rw [rdl]
    have := @atL_last (rdl t b n) ((t n - rcv b (atL (rdl t b n)) n) / b 0)
    rwa [rdl_len] at this
  rw [h1, h2]; grind
theorem rdv_unique {t b f : Nat → Rat} (hb : b 0 ≠ 0) {N : Nat} (h : ∀ n, n < N → rcv b f n = t n) (n : Nat) (hn : n < N) : f n = rdv t b n :=
  rcv_cancel hb (fun n hn => by rw [h n hn, rdv_cv hb]) n hn
/-! ### sums of squares -/
def ren (f : Nat → Rat) : Nat → Rat
  | 0 => 0
  | n + 1 => ren f n + f n * f n
theorem sq_nn (a : Rat) : 0 ≤ a * a := by
  rcases Rat.le_total (a := 0) (b := a) with h | h
  · exact Rat.mul_nonneg h h
  · have : 0 ≤ (-a) * (-a) := Rat.mul_nonneg (by grind) (by grind)
    grind
theorem ren_nn (f : Nat → Rat) : ∀ n, 0 ≤ ren f n
  | 0 => by simp only [ren]; grind
  | n + 1 => by
    have := ren_nn f n
    have := sq_nn (f n)
    simp only [ren]; grind
theorem ren_up (f : Nat → Rat) (n : Nat) : ren f n ≤ ren f (n + 1) := by
  have := sq_nn (f n)
  simp only [ren]; grind
theorem ren_congr {f g : Nat → Rat} : ∀ n, (∀ i, i < n → f i = g i) → ren f n = ren g n
  | 0, _ => rfl
  | n + 1, h => by simp only [ren]; rw [ren_congr n fun i hi => h i (by omega), h n (by omega)]
theorem ren_zs (f : Nat → Rat) : ∀ n, ren (rzs f) (n + 1) = ren f n
  | 0 => by simp only [ren, rzs]; grind
  | n + 1 => by rw [ren, ren_zs f n]; simp only [ren, rzs]
theorem sq_le_ren (f : Nat → Rat) {i : Nat} : ∀ {n : Nat}, i < n → f i * f i ≤ ren f n
  | 0, h => absurd h (Nat.not_lt_zero _)
  | n + 1, h => by
    by_cases e : i = n
    · subst e
      have := ren_nn f i
      simp only [ren]; grind
    · have h1 := sq_le_ren f (i := i) (n := n) (by omega)
      have := ren_up f n
      grind
theorem ren_lin (k : Rat) (f g : Nat → Rat) : ∀ n, ren (fun i => f i + k * g i) n - ren (fun i => k * f i + g i) n = (1 - k * k) * (ren f n - ren g n)
  | 0 => by simp only [ren]; grind
  | n + 1 => by
    have := ren_lin k f g n
    simp only [ren]; grind
def Contr (R : Nat → Rat) : Prop := ∀ (v : Nat → Rat) (N : Nat), ren (rcv R v) N ≤ ren v N
/-! ### the echo of steps -/
def rTB : List Rat → (Nat → Rat) × (Nat → Rat)
  | [] => (fun _ => 0, rone)
  | k :: ks => (fun n => k * (rTB ks).2 n + rzs (rTB ks).1 n, fun n => (rTB ks).2 n + k * rzs (rTB ks).1 n)
theorem rB0 : ∀ ks, (rTB ks).2 0 = 1
  | [] => rfl
  | k :: ks => by
    have := rB0 ks
    simp only [rTB, rzs, this]; grind
def rS (ks : List Rat) : Nat → Rat := rdv (rTB ks).1 (rTB ks).2
theorem rB_ne (ks : List Rat) : (rTB ks).2 0 ≠ 0 := by rw [rB0]; grind
theorem rS_cv (ks : List Rat) (n : Nat) : rcv (rTB ks).2 (rS ks) n = (rTB ks).1 n := rdv_cv (rB_ne ks) n
theorem rS_nil (n : Nat) : rS [] n = 0 := by
  have h := rcv_cancel (b := rone) (f := rS []) (g := fun _ => 0) (N := n + 1) (by simp only [rone]; grind) (fun i _ => by
    have h1 : rcv rone (rS []) i = 0 := rS_cv [] i
    rw [h1, rcv_one]) n (by omega)
  exact h
/-- (1 + k z R) E = k + z R -/
theorem rS_step (k : Rat) (ks : List Rat) (n : Nat) : rcv (fun i => rone i + k * rzs (rS ks) i) (rS (k :: ks)) n = k * rone n + rzs (rS ks) n := by
  refine rcv_cancel (b := (rTB ks).2) (f := fun n => rcv (fun i => rone i + k * rzs (rS ks) i) (rS (k :: ks)) n) (g := fun n => k * rone n + rzs (rS ks) n) (N := n + 1) (rB_ne ks) (fun m _ => ?_) n (by omega)
  have e1 : ∀ m, rcv (rTB ks).2 (fun i => rone i + k * rzs (rS ks) i) m = (rTB (k :: ks)).2 m := fun m => by
    rw [rcv_add_r, rcv_mul_r, rcv_one_r, rcv_zs_r]
    show _ = (rTB ks).2 m + k * rzs (rTB ks).1 m
    rw [rzs_congr (n := m) fun i _ => rS_cv ks i]
  show rcv (rTB ks).2 (rcv (fun i => rone i + k * rzs (rS ks) i) (rS (k :: ks))) m = _
  rw [← rcv_assoc, rcv_congr (f' := (rTB (k :: ks)).2) (g' := rS (k :: ks)) (fun i _ => e1 i) (fun _ _ => rfl), rS_cv, rcv_add_r, rcv_mul_r, rcv_one_r, rcv_zs_r, rzs_congr (n := m) fun i _ => rS_cv ks i]
  rfl
theorem rS_zero (k : Rat) (ks : List Rat) : rS (k :: ks) 0 = k := by
  have := rS_step k ks 0
  simp only [rcv, rone, rzs] at this
  grind
/-- what stands behind a step -/
theorem rS_behind (k : Rat) (ks : List Rat) (n : Nat) : rcv (fun i => rone i - k * rS (k :: ks) i) (rS ks) n = rS (k :: ks) (n + 1) := by
  have h := rS_step k ks (n + 1)
  have h1 : rcv (fun i => rone i + k * rzs (rS ks) i) (rS (k :: ks)) (n + 1) = rS (k :: ks) (n + 1) + k * rcv (rS ks) (rS (k :: ks)) n := by
    rw [rcv_add_l, rcv_mul_l, rcv_one, rcv_zs]; rfl
  have h2 : rcv (fun i => rone i - k * rS (k :: ks) i) (rS ks) n = rS ks n + (-k) * rcv (rS (k :: ks)) (rS ks) n := by
    have e : (fun i => rone i - k * rS (k :: ks) i) = fun i => rone i + (-k) * rS (k :: ks) i := by funext i; grind
    rw [e, rcv_add_l, rcv_mul_l, rcv_one]
  rw [h1] at h
  rw [h2, rcv_comm (rS (k :: ks))]
  simp only [rone, rzs] at h
  grind
theorem contr_step {k : Rat} {ks : List Rat} (hk : k * k < 1) (h : Contr (rS ks)) : Contr (rS (k :: ks)) := by
  intro v N
  let D : Nat → Rat := fun i => rone i + k * rzs (rS ks) i
  have hD : D 0 ≠ 0 := by show rone 0 + k * rzs (rS ks) 0 ≠ 0; simp only [rone, rzs]; grind
  let x := rdv v D
  have e0 : ∀ n, rcv D x n = v n := rdv_cv hD
  let g : Nat → Rat := rzs (rcv (rS ks) x)
  have e1 : ∀ n, v n = x n + k * g n := fun n => by
    rw [← e0 n]
    show rcv (fun i => rone i + k * rzs (rS ks) i) x n = _
    rw [rcv_add_l, rcv_mul_l, rcv_one, rcv_zs]
  have e2 : ∀ n, rcv (rS (k :: ks)) v n = k * x n + g n := fun n => by
    rw [rcv_congr (f' := rS (k :: ks)) (g' := rcv D x) (fun _ _ => rfl) (fun i _ => (e0 i).symm), ← rcv_assoc, rcv_congr (f' := fun n => k * rone n + rzs (rS ks) n) (g' := x) (fun i _ => by rw [rcv_comm]; exact rS_step k ks i) (fun _ _ => rfl), rcv_add_l, rcv_mul_l, rcv_one, rcv_zs]
  rw [ren_congr N (fun i _ => e2 i), ren_congr (f := v) (g := fun i => x i + k * g i) N (fun i _ => e1 i)]
  have h3 := ren_lin k x g N
  have h4 : ren g N ≤ ren x N := by
    cases N with
    | zero => simp only [ren]; grind
    | succ N =>
      show ren (rzs (rcv (rS ks) x)) (N + 1) ≤ _
      rw [ren_zs]
      have := h x N
      have := ren_up x N
      grind
  have h5 : 0 ≤ (1 - k * k) * (ren x N - ren g N) := Rat.mul_nonneg (by grind) (by grind)
  grind
theorem contr_all : ∀ ks : List Rat, (∀ k ∈ ks, k * k < 1) → Contr (rS ks)
  | [], _ => fun v N => by
    have : ∀ n, rcv (rS []) v n = 0 := fun n => by
      rw [rcv_congr (f' := fun i => 0 * rone i) (g' := v) (fun i _ => by rw [rS_nil]; grind) (fun _ _ => rfl), rcv_mul_l]; grind
    rw [ren_congr (g := fun _ => 0) N fun i _ => this i]
    have h0 : ∀ n, ren (fun _ => 0) n = 0 := fun n => by
      induction n with
      | zero => rfl
      | succ n ih => simp only [ren, ih]; grind
    rw [h0]; exact ren_nn v N
  | k :: ks, h => contr_step (h k List.mem_cons_self) (contr_all ks fun x hx => h x (List.mem_cons_of_mem _ hx))
theorem ren_one : ∀ n, ren rone (n + 1) = 1
  | 0 => by simp only [ren, rone]; grind
  | n + 1 => by rw [ren, ren_one n]; simp only [rone]; grind
theorem rS_bessel {ks : List Rat} (h : ∀ k ∈ ks, k * k < 1) (n : Nat) : ren (rS ks) (n + 1) ≤ 1 := by
  have h1 := contr_all ks h rone (n + 1)
  rw [ren_one, ren_congr (g := rS ks) (n + 1) fun i _ => rcv_one_r (rS ks) i] at h1
  exact h1
end Coil

set_option linter.all false
namespace Coil
/-! ### a power of g is enough of a bottom -/
def Gp (g m : Nat) : Rat := (((g ^ m : Nat) : Int) : Rat)
theorem Gp_add (g m n : Nat) : Gp g (m + n) = Gp g m * Gp g n := by
  unfold Gp
  rw [Nat.pow_add, Int.natCast_mul, Rat.intCast_mul]
def Dv (g m : Nat) (q : Rat) : Prop := ∃ z : Int, q * Gp g m = (z : Rat)
theorem Dv.mono {g m n : Nat} {q : Rat} (h : Dv g m q) (hm : m ≤ n) : Dv g n q := by
  obtain ⟨z, hz⟩ := h
  refine ⟨z * ((g ^ (n - m) : Nat) : Int), ?_⟩
  rw [Rat.intCast_mul, ← hz, show n = m + (n - m) by omega, Gp_add, show m + (n - m) - m = n - m by omega]
  show _ = q * Gp g m * Gp g (n - m)
  grind
theorem Dv.add {g m : Nat} {p q : Rat} (h : Dv g m p) (h' : Dv g m q) : Dv g m (p + q) := by
  obtain ⟨y, hy⟩ := h
  obtain ⟨z, hz⟩ := h'
  exact ⟨y + z, by rw [Rat.intCast_add, ← hy, ← hz]; grind⟩
theorem Dv.sub {g m : Nat} {p q : Rat} (h : Dv g m p) (h' : Dv g m q) : Dv g m (p - q) := by
  obtain ⟨y, hy⟩ := h
  obtain ⟨z, hz⟩ := h'
  exact ⟨y - z, by rw [Rat.intCast_sub, ← hy, ← hz]; grind⟩
theorem Dv.mul {g m n : Nat} {p q : Rat} (h : Dv g m p) (h' : Dv g n q) : Dv g (m + n) (p * q) := by
  obtain ⟨y, hy⟩ := h
  obtain ⟨z, hz⟩ := h'
  exact ⟨y * z, by rw [Rat.intCast_mul, ← hy, ← hz, Gp_add]; grind⟩
theorem Dv.int (g m : Nat) (z : Int) : Dv g m (z : Rat) := ⟨z * ((g ^ m : Nat) : Int), by rw [Rat.intCast_mul]; rfl⟩
theorem Dv.zero (g m : Nat) : Dv g m 0 := Dv.int g m 0
theorem Dv.one (g m : Nat) : Dv g m 1 := Dv.int g m 1
theorem Dv.up {g d m : Nat} {q : Rat} (h : Dv g m q) : Dv (d * g) m q := by
  obtain ⟨z, hz⟩ := h
  refine ⟨z * ((d ^ m : Nat) : Int), ?_⟩
  rw [Rat.intCast_mul, ← hz]
  unfold Gp
  rw [Nat.mul_pow, Int.natCast_mul, Rat.intCast_mul]
  grind
theorem rat_split (q : Rat) : q * (((q.den : Nat) : Int) : Rat) = (q.num : Rat) := by
  have h1 : q = (q.num : Rat) / (q.den : Rat) := by
    have := Rat.mkRat_eq_div q.num q.den
    rw [Rat.mkRat_self] at this
    exact this
  have hd : (q.den : Rat) ≠ 0 := by
    intro z
    have : ((q.den : Int) : Rat) = ((0 : Int) : Rat) := z
    have := Rat.intCast_inj.mp this
    have := q.den_nz
    omega
  have : q * (q.den : Rat) = (q.num : Rat) := by grind
  exact this
theorem den_ne (q : Rat) : (((q.den : Nat) : Int) : Rat) ≠ 0 := by
  intro z
  have : ((q.den : Int) : Rat) = ((0 : Int) : Rat) := z
  have := Rat.intCast_inj.mp this
  have := q.den_nz
  omega
theorem den_pos (q : Rat) : (0 : Rat) < (((q.den : Nat) : Int) : Rat) := by
  have : ((0 : Int) : Rat) < (((q.den : Nat) : Int) : Rat) := Rat.intCast_lt_intCast.mpr (by have := q.den_nz; omega)
  exact this
theorem Dv.den {g m : Nat} {q : Rat} (hg : 0 < g) (h : Dv g m q) : q.den ≤ g ^ m := by
  obtain ⟨z, hz⟩ := h
  have h1 := rat_split q
  have h2 : (q.num : Rat) * Gp g m = z * (((q.den : Nat) : Int) : Rat) := by
    rw [← hz, ← h1]
    grind
  unfold Gp at h2
  rw [← Rat.intCast_mul, ← Rat.intCast_mul] at h2
  have h3 := Rat.intCast_inj.mp h2
  have h4 : q.den ∣ q.num.natAbs * g ^ m := by
    have h5 := congrArg Int.natAbs h3
    rw [Int.natAbs_mul, Int.natAbs_mul, Int.natAbs_natCast, Int.natAbs_natCast] at h5
    exact ⟨z.natAbs, by rw [h5, Nat.mul_comm]⟩
  exact Nat.le_of_dvd (Nat.pow_pos hg) (q.reduced.symm.dvd_of_dvd_mul_left h4)
/-- numbers of a size -/
def Lim (c : Nat) (q : Rat) : Prop := -(((2 ^ c : Nat) : Int) : Rat) ≤ q ∧ q ≤ (((2 ^ c : Nat) : Int) : Rat)
theorem num_le {c d : Nat} {q : Rat} (h : Lim c q) (hd : q.den ≤ 2 ^ d) : q.num.natAbs ≤ 2 ^ (c + d) := by
  have h0 := den_pos q
  have h1 := rat_split q
  have h2 : (q.num : Rat) ≤ (((2 ^ c : Nat) : Int) : Rat) * (((q.den : Nat) : Int) : Rat) := by
    rw [← h1]
    exact Rat.mul_le_mul_of_nonneg_right h.2 (by grind)
  have h3 : -((((2 ^ c : Nat) : Int) : Rat) * (((q.den : Nat) : Int) : Rat)) ≤ (q.num : Rat) := by
    rw [← h1]
    have := Rat.mul_le_mul_of_nonneg_right h.1 (c := (((q.den : Nat) : Int) : Rat)) (by grind)
    rw [Rat.neg_mul] at this
    exact this
  rw [← Rat.intCast_mul] at h2 h3
  have h4 := Rat.intCast_le_intCast.mp h2
  have h5 : ((-(((2 ^ c : Nat) : Int) * ((q.den : Nat) : Int)) : Int) : Rat) ≤ (q.num : Rat) := by rw [Rat.intCast_neg]; exact h3
  have h6 := Rat.intCast_le_intCast.mp h5
  have h7 : 2 ^ c * q.den ≤ 2 ^ (c + d) := by
    rw [Nat.pow_add]
    exact Nat.mul_le_mul_left _ hd
  have h8 : ((2 ^ c : Nat) : Int) * ((q.den : Nat) : Int) = ((2 ^ c * q.den : Nat) : Int) := by rw [Int.natCast_mul]
  rw [h8] at h4 h6
  omega
/-- both parts of a ratio are below a power of 2 -/
def Sm (c : Nat) (q : Rat) : Prop := q.num.natAbs < 2 ^ c ∧ q.den < 2 ^ c
theorem Sm.mono {c d : Nat} {q : Rat} (h : Sm c q) (hd : c ≤ d) : Sm d q :=
  ⟨Nat.lt_of_lt_of_le h.1 (Nat.pow_le_pow_right (by decide) hd), Nat.lt_of_lt_of_le h.2 (Nat.pow_le_pow_right (by decide) hd)⟩
theorem sm_of {c d : Nat} {q : Rat} (h : Lim c q) (hd : q.den ≤ 2 ^ d) : Sm (c + d + 1) q :=
  ⟨Nat.lt_of_le_of_lt (num_le h hd) (Nat.pow_lt_pow_right (by decide) (by omega)), Nat.lt_of_le_of_lt hd (Nat.pow_lt_pow_right (by decide) (by omega))⟩
theorem sm_dv {g m c e : Nat} {q : Rat} (hg : 0 < g) (hg2 : g ≤ 2 ^ e) (h : Dv g m q) (hl : Lim c q) : Sm (c + e * m + 1) q := by
  refine sm_of hl (Nat.le_trans (h.den hg) ?_)
  rw [Nat.pow_mul]
  exact Nat.pow_le_pow_left hg2 m
theorem Lim.mono {c d : Nat} {q : Rat} (h : Lim c q) (hd : c ≤ d) : Lim d q := by
  have h1 : (((2 ^ c : Nat) : Int) : Rat) ≤ (((2 ^ d : Nat) : Int) : Rat) := Rat.intCast_le_intCast.mpr (Int.ofNat_le.mpr (Nat.pow_le_pow_right (by decide) hd))
  unfold Lim at *
  generalize (((2 ^ c : Nat) : Int) : Rat) = x at *
  generalize (((2 ^ d : Nat) : Int) : Rat) = y at *
  grind
theorem Lim.add {c : Nat} {p q : Rat} (h : Lim c p) (h' : Lim c q) : Lim (c + 1) (p + q) := by
  have e : (((2 ^ (c + 1) : Nat) : Int) : Rat) = 2 * (((2 ^ c : Nat) : Int) : Rat) := by
    rw [Nat.pow_succ, Nat.mul_comm, Int.natCast_mul, Rat.intCast_mul]; rfl
  unfold Lim at *
  rw [e]
  generalize (((2 ^ c : Nat) : Int) : Rat) = x at *
  grind
theorem Lim.neg {c : Nat} {q : Rat} (h : Lim c q) : Lim c (-q) := by
  unfold Lim at *
  generalize (((2 ^ c : Nat) : Int) : Rat) = x at *
  grind
theorem Lim.sub {c : Nat} {p q : Rat} (h : Lim c p) (h' : Lim c q) : Lim (c + 1) (p - q) := by
  have := h.add h'.neg
  have e : p - q = p + -q := by grind
  rw [e]; exact this
theorem lim_one {q : Rat} (h : q * q ≤ 1) : Lim 0 q := by
  have e : (((2 ^ 0 : Nat) : Int) : Rat) = 1 := rfl
  unfold Lim
  rw [e]
  constructor
  · refine Rat.not_lt.mp fun z => ?_
    have h1 : 0 < (-1 - q) := by grind
    have h2 := Rat.mul_pos h1 h1
    have h3 := Rat.mul_pos h1 (show (0:Rat) < 2 by grind)
    grind
  · refine Rat.not_lt.mp fun z => ?_
    have h1 : 0 < (q - 1) := by grind
    have h2 := Rat.mul_pos h1 h1
    have h3 := Rat.mul_pos h1 (show (0:Rat) < 2 by grind)
    grind
theorem Lim.mul1 {c : Nat} {p q : Rat} (h : Lim 0 p) (h' : Lim c q) : Lim c (p * q) := by
  have e : (((2 ^ 0 : Nat) : Int) : Rat) = 1 := rfl
  unfold Lim at *
  rw [e] at h
  generalize (((2 ^ c : Nat) : Int) : Rat) = x at *
  have a1 := Rat.mul_nonneg (show 0 ≤ 1 - p by grind) (show 0 ≤ x - q by grind)
  have a2 := Rat.mul_nonneg (show 0 ≤ 1 + p by grind) (show 0 ≤ x + q by grind)
  have a3 := Rat.mul_nonneg (show 0 ≤ 1 - p by grind) (show 0 ≤ x + q by grind)
  have a4 := Rat.mul_nonneg (show 0 ≤ 1 + p by grind) (show 0 ≤ x - q by grind)
  grind
theorem lim_int {c : Nat} {z : Int} (h : z.natAbs ≤ 2 ^ c) : Lim c (z : Rat) := by
  have h1 : ((-((2 ^ c : Nat) : Int) : Int) : Rat) ≤ (z : Rat) := Rat.intCast_le_intCast.mpr (by omega)
  rw [Rat.intCast_neg] at h1
  exact ⟨h1, Rat.intCast_le_intCast.mpr (by omega)⟩
theorem rsum_lim {c : Nat} {f g : Nat → Rat} {n : Nat} : ∀ j, (∀ i, i < j → Lim c (f i * g (n - i))) → Lim (c + j) (rsum f g n j)
  | 0, _ => lim_int (z := 0) (Nat.zero_le _)
  | j + 1, h => by
    rw [rsum]
    exact (rsum_lim j fun i hi => h i (by omega)).add ((h j (by omega)).mono (by omega))
theorem rsum_dv {g0 m : Nat} {f g : Nat → Rat} {n : Nat} : ∀ j, (∀ i, i < j → Dv g0 m (f i * g (n - i))) → Dv g0 m (rsum f g n j)
  | 0, _ => Dv.zero _ _
  | j + 1, h => by
    rw [rsum]
    exact (rsum_dv j fun i hi => h i (by omega)).add (h j (by omega))
/-! ### steps of one bottom -/
def Gs : List Rat → Nat
  | [] => 1
  | k :: ks => k.den * Gs ks
theorem Gs_pos : ∀ ks, 0 < Gs ks
  | [] => by decide
  | k :: ks => Nat.mul_pos (Nat.pos_of_ne_zero k.den_nz) (Gs_pos ks)
theorem dv_step {g : Nat} {k q : Rat} (h : Dv g 1 q) : Dv (k.den * g) 1 (k * q) := by
  obtain ⟨z, hz⟩ := h
  refine ⟨k.num * z, ?_⟩
  have h1 := rat_split k
  unfold Gp at *
  rw [Nat.pow_one] at *
  rw [Rat.intCast_mul, ← hz, ← h1, Int.natCast_mul, Rat.intCast_mul]
  grind
theorem TB_dv : ∀ (ks : List Rat) (n : Nat), Dv (Gs ks) 1 ((rTB ks).1 n) ∧ Dv (Gs ks) 1 ((rTB ks).2 n)
  | [], n => ⟨Dv.zero _ _, by cases n with | zero => exact Dv.one _ _ | succ n => exact Dv.zero _ _⟩
  | k :: ks, n => by
    have hz : Dv (Gs ks) 1 (rzs (rTB ks).1 n) := by
      cases n with
      | zero => exact Dv.zero _ _
      | succ n => exact (TB_dv ks n).1
    exact ⟨(dv_step (TB_dv ks n).2).add hz.up, (TB_dv ks n).2.up.add (dv_step hz)⟩
theorem rS_dv (ks : List Rat) (n : Nat) : Dv (Gs ks) (n + 1) (rS ks n) := by
  induction n using Nat.strongRecOn with
  | ind n ih =>
    have h1 : rcv (rTB ks).2 (rS ks) n = (rTB ks).2 0 * rS ks n + rcv (rTB ks).2 (atL (rdl (rTB ks).1 (rTB ks).2 n)) n := rcv_new (fun i hi => rdl_at _ _ n i hi) (atL_over (by rw [rdl_len]; exact Nat.le_refl _))
    rw [rS_cv, rB0] at h1
    have h2 : rS ks n = (rTB ks).1 n - rcv (rTB ks).2 (atL (rdl (rTB ks).1 (rTB ks).2 n)) n := by grind
    rw [h2, rcv_sum]
    refine ((TB_dv ks n).1.mono (by omega)).sub (rsum_dv _ fun i hi => ?_)
    by_cases h0 : i = 0
    · subst h0
      rw [Nat.sub_zero, atL_over (by rw [rdl_len]; exact Nat.le_refl _)]
      have : (rTB ks).2 0 * 0 = 0 := by grind
      rw [this]; exact Dv.zero _ _
    · rw [rdl_at _ _ n _ (by omega)]
      exact ((TB_dv ks i).2.mul (ih (n - i) (by omega))).mono (by omega)
theorem Gs_le : ∀ ks : List Rat, (∀ k ∈ ks, k.den ≤ 6) → Gs ks ≤ 6 ^ ks.length
  | [], _ => Nat.le_refl _
  | k :: ks, h => by
    have h1 := Gs_le ks fun x hx => h x (List.mem_cons_of_mem _ hx)
    have h2 := h k List.mem_cons_self
    rw [List.length_cons, Nat.pow_succ, Nat.mul_comm]
    exact Nat.mul_le_mul h2 h1
end Coil

set_option Elab.async false
set_option linter.all false
set_option maxRecDepth 100000
set_option maxHeartbeats 4000000
namespace Coil
open PySem L2 Evl PySem.Spec PyProof.Rows

/-! ### a def that stands, with its promise -/
structure Def (P : Program) (w : World) (K : PySem.W.Frag) (mg : Str → Option Value) (base : Heap) (x : Str) (k : Nat) (ps : List Str) (sp : Sp) : Prop where
  ex : ∃ (f : Addr) (fd : FuncData), FnOk P w K mg base CX0 k f fd ps sp ∧ mg x = some (.ref f) ∧ PySem.W.keepIn K (.ref f) = true ∧ Binds K fd ps []
section
variable {X : Cx} {x : Str} {k : Nat} {ps : List Str} {sp : Sp} {p pos : Pos} {e : Expr} {es : List Expr} {t : TA}
theorem pe_callD (D : Def X.prog X.w X.K X.mg X.base x k ps sp) (hr : Room k X.A) (ha : PA X (e :: es) t) (hg : Gl X x := by rfl)
    (hdb : (x == ("__debug__" : Str)) = false := by decide) (he : starEach (e :: es) X.env = (false, eval e X.env) :: starEach es X.env := by rfl) (hpl : (backTo pos (starEach es X.env)).any (·.1) = false := by rfl) :
    PE X (.Call (.Name x p) (e :: es) [] pos) (tCall sp [] E0 t) := by
  obtain ⟨f, fd, F, hm, hk, hb⟩ := D.ex
  exact pe_call F hr hg hm hk hb .nil pass0 ha hdb he hpl
end

/-! ### slices with a step -/
def stepV (xs : List V) (lo hi : Option Int) (st : Int) : List V :=
  match sliceBounds lo hi (some st) xs.length with
  | (a, b, c) => (sliceRange a b c).filterMap (xs[·]?)
theorem vals_pick {xs : List V} {us : List Value} (r : Vals xs us) : ∀ ks : List Nat, Vals (ks.filterMap (xs[·]?)) (ks.filterMap (us[·]?))
  | [] => .nil
  | k :: ks => by
    cases e : xs[k]? with
    | none =>
      rw [List.filterMap_cons_none e, List.filterMap_cons_none (r.none_of e)]
      exact vals_pick r ks
    | some v =>
      obtain ⟨u, h1, h2⟩ := r.get e
      rw [List.filterMap_cons_some e, List.filterMap_cons_some h1]
      exact .cons h2 (vals_pick r ks)
section
variable {X : Cx}
def tStepL (K : PySem.W.Frag) (te : TE) (tl th : TO) (st : Int) : TE := fun σ H Q => te σ H fun x H1 => tl σ H1 fun lo H2 => th σ H2 fun hi H3 =>
  ∃ a xs, x = .ref a ∧ SqL K H3 a xs ∧ (stepV xs lo hi st).length ≤ xs.length ∧ ∀ p, H3 p = none → Q (.ref p) (upd H3 p (.lst (stepV xs lo hi st)))
theorem pe_stepL {e : Expr} {te : TE} {lo hi : Option Expr} {tl th : TO} {n : Int} {k : Nat} {p1 p3 pos : Pos} (he : PE X e te) (hl : PO X lo tl) (hu : PO X hi th) (h0 : n ≠ 0) :
    PE X (.Subscript e (.Slice lo hi (some (.Constant (.int n) k p1)) p3) pos) (tStepL X.K te tl th n) := by
  refine ⟨fun pins s σ H Q I h => ?_⟩
  refine Subscript_ (thn (he.run pins s σ H _ I h) fun v s1 ⟨x, H1, I1, r1, q1⟩ => ?_)
  have hst : PO X (some (.Constant (.int n) k p1)) (tPart (tC (.int n))) := po_some pe_int
  refine wpAny_Slice (thn (hl.run pins s1 σ H1 _ I1 q1) fun vl s2 ⟨l, H2, I2, pl, q2⟩ => thn (hu.run pins s2 σ H2 _ I2 q2) fun vu s3 ⟨u, H3, I3, pu, q3⟩ => ?_)
  refine thn (hst.run pins s3 σ H3 (fun o H4 => o = some n ∧ H4 = H3) I3 ⟨n, rfl, rfl, rfl⟩) fun vs s4 ⟨o, H4, I4, ps, eo, e4⟩ => ?_
  subst eo e4
  obtain ⟨a, xs, ex, hx, hle, q⟩ := q3
  subst ex
  cases r1
  have I5 : Inv X pins σ H4 { s4 with heap := s4.heap.push { cls := .type "slice", data := .fields #[vl, vu, vs] } } := I4.kept (t' := s4.toks) fun b ob q => Heap.get?_push_of_some _ q
  obtain ⟨its, r, ht, hz⟩ := I5.list hx
  have hlen := r.length
  show wpAny (model X.prog X.w) X.A (subscriptTail e (.Slice lo hi (some (.Constant (.int n) k p1)) p3) (.ref a) (.ref s4.heap.objs.size)) (EP X pins σ Q) X.xe { s4 with heap := s4.heap.push { cls := .type "slice", data := .fields #[vl, vu, vs] } }
  refine tail_any (ops := [.ref a, .ref s4.heap.objs.size]) ht.isList.typeIs (PySem.slot_list_getitem.lookup) ?_ (by with_unfolding_all rfl)
  refine wpAny_getItem_list_slice ht.isList (Heap.IsSliceOf.new _ vl vu vs) pl pu ps (by intro z; exact h0 (Option.some.inj z)) ?_ (by rw [List.size_toArray]; omega)
  have e1 : slicePick its.toArray l u (some n) = ((match sliceBounds l u (some n) its.length with | (a, b, c) => (sliceRange a b c).filterMap (its[·]?))).toArray := by
    unfold slicePick
    rw [List.size_toArray]
    simp
  rw [e1]
  refine ⟨.ref _, _, I5.laid (t' := s4.toks) (o := .lst (stepV xs l u n)) (fun b ob q => Heap.get?_push_of_some _ q) (Nat.le_refl _) ?_, rfl, q _ (I5.hok.fresh (Nat.le_refl _))⟩
  refine ⟨Nat.le_trans hle hz, _, 0, ?_, Heap.get?_push_size _ rfl⟩
  unfold stepV
  rw [← hlen]
  exact vals_pick r _
end

/-! ### t[::-1] of a tuple -/
section
variable {prog : Program} {w : World} {A : Around} {E : Value → Shared → Prop} {s : Shared}
theorem adjust_rev (n : Nat) : Builtin.Slice.sliceAdjust none none (-1) (n : Int) = ((n : Int) - 1, -1) := by
  unfold Builtin.Slice.sliceAdjust
  simp
theorem places_rev (n : Nat) : Builtin.Slice.slicePlaces ((n : Int) - 1) (-1) (-1) = n := by
  unfold Builtin.Slice.slicePlaces
  have h1 : ¬ ((-1 : Int) > 0) := by omega
  have h2 : (-(-1) : Int) = 1 := by decide
  simp only [h1, if_false, h2, Int.ediv_one]
  split <;> omega
theorem pick_rev (xs : Array Value) : ((List.range xs.size).filterMap fun (m : Nat) => xs[(((xs.size : Nat) : Int) - 1 + (m : Int) * (-1)).toNat]?).toArray = xs.toList.reverse.toArray := by
  have e : (List.range xs.size).filterMap (fun (m : Nat) => xs[(((xs.size : Nat) : Int) - 1 + (m : Int) * (-1)).toNat]?) = ((List.range xs.size).map (fun k => xs.size - 1 - k)).filterMap (xs[·]?) := by
    rw [List.filterMap_map]
    congr 1
    funext m
    show xs[(((xs.size : Nat) : Int) - 1 + (m : Int) * (-1)).toNat]? = xs[xs.size - 1 - m]?
    have : (((xs.size : Nat) : Int) - 1 + (m : Int) * (-1)).toNat = xs.size - 1 - m := by omega
    rw [this]
  rw [e, PySem.W.krv_range, List.filterMap_reverse, PySem.W.krv_all]
theorem getItem_tuple_rev {t sl : Addr} {items : Array Value} {vl vu vs : Value} {Q : Value → Shared → Prop} (ht : IsTup s.heap t items) (hs : s.heap.IsSliceOf sl vl vu vs) (pl : IsPart vl none) (pu : IsPart vu none) (ps : IsPart vs (some (-1)))
    (h : Q (.ref s.heap.objs.size) { s with heap := s.heap.push { cls := .type "tuple", data := .seq items.toList.reverse.toArray } })
    (hsz : items.size ≤ sizeLine) : wpAny (model prog w) A (getItem (.ref t) (.ref sl)) Q E s := by
  have htake : sizeOk (.seq items.toList.reverse.toArray) := by
    show items.toList.reverse.toArray.size ≤ sizeLine
    rw [List.size_toArray, List.length_reverse, Array.length_toList]
    exact hsz
  obtain ⟨os, hos, hcs, hds⟩ := id hs
  have hTs : s.TypeIs (.ref sl) "slice" := ⟨os, hos, hcs⟩
  unfold getItem
  try with_reducible refine wpAny_holding ?_
  first | refine wpAny_bind (wpAny_pure ?_) | skip
  refine wpAny_bind (wpAny_sequenceKey ht.typeIs (by decide) ?_)
  refine wpAny_bind (wpAny_callSpecial?_slot (name := Str.ofString "__getitem__") ht.typeIs PyProof.Rows.slot_tuple_getitem
    (wpAny_call_entry PyProof.Rows.slot_tuple_getitem ht.typeIs entry_tuple_getitem ?_ (args_tuple_getitem _ _)))
  show wpAny _ _ (Builtin.Tuple.tupleItemsOf (.ref t) >>= _) _ _ s
  refine wpAny_bind (tupleItemsOf_ ht ?_)
  refine wpAny_bind (wpAny_typeOf hTs ?_)
  rw [if_pos (by decide)]
  refine wpAny_bind ?_
  · unfold Builtin.Slice.sliceApplied Builtin.Slice.sliceFields
    refine wpAny_bind (wpAny_bind (wpAny_field hos hds (x := vl) rfl (wpAny_bind (wpAny_field hos hds (x := vu) rfl (wpAny_bind (wpAny_field hos hds (x := vs) rfl (wpAny_pure ?_)))))))
    refine wpAny_bind (HT.slicePart_ ps ?_)
    show wpAny _ _ (if ((-1 : Int) == 0) = true then _ else _) _ _ s
    rw [if_neg (by decide)]
    refine wpAny_bind (HT.slicePart_ pl (wpAny_bind (HT.slicePart_ pu (wpAny_bind (wpAny_pure ?_)))))
    show wpAny _ _ (match Builtin.Slice.sliceAdjust none none (-1) ((items.size : Nat) : Int) with | (lo, hi) => pure (lo, (-1 : Int), Builtin.Slice.slicePlaces lo hi (-1))) _ _ s
    rw [adjust_rev]
    show wpAny _ _ (pure ((((items.size : Nat) : Int) - 1), (-1 : Int), Builtin.Slice.slicePlaces (((items.size : Nat) : Int) - 1) (-1) (-1))) _ _ s
    rw [places_rev]
    refine wpAny_pure ?_
    have hno : ¬ ((((((items.size : Nat) : Int) - 1) == 0) && (-1 : Int) == 1 && items.size == items.size) = true) := by
      intro q
      rw [Bool.and_eq_true, Bool.and_eq_true] at q
      have q1 : (-1 : Int) = 1 := eq_of_beq q.1.2
      omega
    show wpAny _ _ (if (((((items.size : Nat) : Int) - 1) == 0) && (-1 : Int) == 1 && items.size == items.size) = true then _ else _) _ _ s
    rw [if_neg hno, pick_rev]
    first
      | exact wpAny_bind (m := Builtin.Tuple.tupleExact _) (wpAny_newObj_type (wpAny_pure ⟨_, rfl, wpAny_pure h⟩) htake)
      | exact wpAny_bind (m := Builtin.Tuple.tupleExact _) (wpAny_newObj_type (wpAny_bind (wpAny_pure (wpAny_pure ⟨_, rfl, wpAny_pure h⟩))) htake)
      | exact wpAny_bind (wpAny_bind (m := Builtin.Tuple.tupleExact _) (wpAny_newObj_type (wpAny_pure (wpAny_pure ⟨_, rfl, wpAny_pure h⟩)) htake))
      | exact wpAny_bind (wpAny_bind (m := Builtin.Tuple.tupleExact _) (wpAny_newObj_type (wpAny_pure ⟨_, rfl, wpAny_pure h⟩) htake))
end
section
variable {X : Cx}
def tRevT (K : PySem.W.Frag) (te : TE) : TE := fun σ H Q => te σ H fun x H1 => ∃ a xs, x = .ref a ∧ SqT K H1 a xs ∧ ∀ p, H1 p = none → Q (.ref p) (upd H1 p (.tup xs.reverse))
theorem pe_revT {e : Expr} {te : TE} {k : Nat} {p1 p2 p3 pos : Pos} (he : PE X e te) : PE X (.Subscript e (.Slice none none (some (.UnaryOp .USub (.Constant (.int 1) k p1) p2)) p3) pos) (tRevT X.K te) := by
  refine ⟨fun pins s σ H Q I h => ?_⟩
  refine Subscript_ (thn (he.run pins s σ H _ I h) fun v s1 ⟨x, H1, I1, r1, q1⟩ => ?_)
  obtain ⟨a, xs, ex, hx, q⟩ := q1
  subst ex
  cases r1
  have hst : PO X (some (.UnaryOp .USub (.Constant (.int 1) k p1) p2)) (tPart (tUn (rU fun i => .int (-i)) (tC (.int 1)))) := po_some (pe_un un_neg pe_int)
  refine wpAny_Slice (thn (po_none.run pins s1 σ H1 (fun o H2 => o = none ∧ H2 = H1) I1 ⟨rfl, rfl⟩) fun vl s2 ⟨l, H2, I2, pl, el, e2⟩ => ?_)
  subst el e2
  refine thn (po_none.run pins s2 σ H2 (fun o H3 => o = none ∧ H3 = H2) I2 ⟨rfl, rfl⟩) fun vu s3 ⟨u, H3, I3, pu, eu, e3⟩ => ?_
  subst eu e3
  refine thn (hst.run pins s3 σ H3 (fun o H4 => o = some (-1) ∧ H4 = H3) I3 ⟨1, rfl, -1, rfl, rfl, rfl⟩) fun vs s4 ⟨o, H4, I4, ps, eo, e4⟩ => ?_
  subst eo e4
  have I5 : Inv X pins σ H4 { s4 with heap := s4.heap.push { cls := .type "slice", data := .fields #[vl, vu, vs] } } := I4.kept (t' := s4.toks) fun b ob q => Heap.get?_push_of_some _ q
  obtain ⟨its, r, ht, hz⟩ := I5.tuple hx
  have hlen := r.length
  show wpAny (model X.prog X.w) X.A (subscriptTail e (.Slice none none (some (.UnaryOp .USub (.Constant (.int 1) k p1) p2)) p3) (.ref a) (.ref s4.heap.objs.size)) (EP X pins σ Q) X.xe { s4 with heap := s4.heap.push { cls := .type "slice", data := .fields #[vl, vu, vs] } }
  refine tail_any (ops := [.ref a, .ref s4.heap.objs.size]) ht.typeIs (PyProof.Rows.slot_tuple_getitem.lookup) ?_ (by with_unfolding_all rfl)
  refine getItem_tuple_rev ht (Heap.IsSliceOf.new _ vl vu vs) pl pu ps ?_ (by rw [List.size_toArray, ← hlen]; exact hz)
  refine ⟨.ref _, _, I5.laid (t' := s4.toks) (o := .tup xs.reverse) (fun b ob q => Heap.get?_push_of_some _ q) (Nat.le_refl _) ?_, rfl, q _ (I5.hok.fresh (Nat.le_refl _))⟩
  exact ⟨by rw [List.length_reverse]; exact hz, _, r.reverse, IsTup.new _ _⟩
end

/-! ### the row of draws: its list is not told, only what holds of it -/
def rowPhi (a r : Addr) (h : Heap) : Prop := ∃ (n s b : Int) (its : List Value) (k : Nat), 0 ≤ n ∧ 0 ≤ s ∧ s < 2147483647 ∧ 0 ≤ b ∧ Vals [.ref a, .int n, .int s, .int b] its ∧ h.get? r = some { cls := .type "list", data := .seq its.toArray k }
def RowO (a r : Addr) : HO := .ext (rowPhi a r)
def rowL (a : Addr) (n s b : Int) : HO := .lst [.ref a, .int n, .int s, .int b]
theorem upd_back {H : Hp} {r : Addr} {o u : HO} (h : H r = some o) : upd (upd H r u) r o = H := by
  funext b
  by_cases e : b = r
  · subst e; rw [upd_same, h]
  · rw [upd_ne e, upd_ne e]
def rowEnd (a r : Addr) (k : Hp → Prop) (H : Hp) : Prop := ∃ n s b : Int, 0 ≤ n ∧ 0 ≤ s ∧ s < 2147483647 ∧ 0 ≤ b ∧ H r = some (rowL a n s b) ∧ k (upd H r (RowO a r))
def tView (a r : Addr) (t : TS) : TS := fun D σ H => H r = some (RowO a r) ∧ ∀ n s b : Int, 0 ≤ n → 0 ≤ s → s < 2147483647 → 0 ≤ b →
  t { nx := fun σ' => rowEnd a r (D.nx σ'), rt := fun v => rowEnd a r (D.rt v), bk := fun σ' => rowEnd a r (D.bk σ'), ct := fun σ' => rowEnd a r (D.ct σ') } σ (upd H r (rowL a n s b))
section
variable {X : Cx} {pins : List (Addr × Obj)} {σ : L2.St} {H : Hp} {s : Shared} {a r : Addr}
theorem row_back {k : Hp → Prop} (I : Inv X pins σ H s) (h : rowEnd a r k H) : ∃ H', Inv X pins σ H' s ∧ k H' := by
  obtain ⟨n, z, b, h1, h2, h3, h4, e, q⟩ := h
  obtain ⟨_, its, m, rv, hg⟩ := (show ObjOk X.prog X.w H s.heap r (.lst [.ref a, .int n, .int z, .int b]) from I.hok r _ e)
  refine ⟨_, I.write (h' := s.heap) (t' := s.toks) (x := r) (e := r) (o := RowO a r) (by rw [e]; exact True.intro) (.inl rfl) (fun _ _ _ q => q) ⟨_, hg⟩ ?_, q⟩
  refine ⟨⟨n, z, b, its, m, h1, h2, h3, h4, rv, hg⟩, ⟨_, hg⟩, fun g1 g2 p st => ?_⟩
  obtain ⟨n', z', b', its', m', h1', h2', h3', h4', rv', hg'⟩ := p
  exact ⟨n', z', b', its', m', h1', h2', h3', h4', rv', st _ hg'⟩
theorem pss_view {st : List Stmt} {t : TS} (h : PSs X st t) : PSs X st (tView a r t) := by
  refine ⟨fun pins s σ H D I q => ?_⟩
  obtain ⟨e, q⟩ := q
  obtain ⟨⟨n, z, b, its, m, h1, h2, h3, h4, rv, hg⟩, _, _⟩ := (show ObjOk X.prog X.w H s.heap r (RowO a r) from I.hok r _ e)
  have I' : Inv X pins σ (upd H r (rowL a n z b)) s := I.write (h' := s.heap) (t' := s.toks) (x := r) (e := r) (o := rowL a n z b) (by rw [e]; exact True.intro) (.inl rfl) (fun _ _ _ q => q) ⟨_, hg⟩ ⟨by show 4 ≤ sizeLine; decide, its, m, rv, hg⟩
  refine thn (h.run pins s σ _ _ I' (q n z b h1 h2 h3 h4)) fun f s' p => ?_
  cases f with
  | next =>
    obtain ⟨σ', H', I2, p⟩ := p
    obtain ⟨H2, I3, p⟩ := row_back I2 p
    exact ⟨σ', H2, I3, p⟩
  | brk =>
    obtain ⟨σ', H', I2, p⟩ := p
    obtain ⟨H2, I3, p⟩ := row_back I2 p
    exact ⟨σ', H2, I3, p⟩
  | cont =>
    obtain ⟨σ', H', I2, p⟩ := p
    obtain ⟨H2, I3, p⟩ := row_back I2 p
    exact ⟨σ', H2, I3, p⟩
  | ret u =>
    obtain ⟨v, σ', H', I2, rr, p⟩ := p
    obtain ⟨H2, I3, p⟩ := row_back I2 p
    exact ⟨v, σ', H2, I3, rr, p⟩
/-- over a list or a tuple -/
theorem pi_or {tg e : Expr} {wi wi' : TI} (h : PI X tg e wi) (h' : PI X tg e wi') : PI X tg e (fun σ H R => wi σ H R ∨ wi' σ H R) := by
  refine ⟨fun pins s σ H R I q => ?_⟩
  rcases q with q | q
  · exact h.run pins s σ H R I q
  · exact h'.run pins s σ H R I q
end
/-- the law's row is laid: a list of four that is from then on only told by what holds of it -/
def tRow (ta : TA) : TE := fun σ H Q => ta σ H fun vs H1 => ∃ (a : Addr) (s : Int), vs = [.ref a, .int 0, .int s, .int 0] ∧ 0 ≤ s ∧ s < 2147483647 ∧ ∀ r, H1 r = none → Q (.ref r) (upd H1 r (RowO a r))
section
variable {X : Cx}
theorem pe_row {es : List Expr} {ta : TA} {pos : Pos} (h : PA X es ta) : PE X (.List es pos) (tRow ta) := by
  refine ⟨fun pins s σ H Q I hq => ?_⟩
  refine wpAny_List_spliced (thn (h.run pos pins s σ H _ I hq) fun us s1 ⟨xs, H1, I1, r, a, z, e, h1, h2, q⟩ => ?_)
  subst e
  refine ⟨by rw [← r.length]; show 4 ≤ sizeLine; decide, ?_⟩
  have hf : H1 s1.heap.objs.size = none := I1.hok.fresh (Nat.le_refl _)
  have I2 := I1.laid (t' := s1.toks) (a := s1.heap.objs.size) (o := rowL a 0 z 0) (h' := s1.heap.push { cls := .type "list", data := .seq us.toArray }) (fun b ob q => Heap.get?_push_of_some _ q) (Nat.le_refl _) ⟨by show 4 ≤ sizeLine; decide, us, 0, r, Heap.get?_push_size _ rfl⟩
  obtain ⟨H2, I3, e⟩ := row_back (a := a) (r := s1.heap.objs.size) (k := fun H' => H' = upd (upd H1 s1.heap.objs.size (rowL a 0 z 0)) s1.heap.objs.size (RowO a s1.heap.objs.size)) I2 ⟨0, z, 0, by decide, h1, h2, by decide, upd_same, rfl⟩
  subst e
  rw [upd_upd] at I3
  exact ⟨.ref _, _, I3, rfl, q _ hf⟩
end
end Coil

set_option linter.all false
namespace Coil
open PySem L2
theorem step_evens (xs : List V) : stepV xs none none 2 = evens xs := by
  unfold stepV
  have e : sliceBounds none none (some 2) xs.length = (0, (xs.length : Int), 2) := by
    simp [sliceBounds]
  rw [e]
  show (sliceRange 0 (xs.length : Int) 2).filterMap (xs[·]?) = evens xs
  rw [← evens_pick xs]
  congr 1
  unfold sliceRange
  have h1 : (2 : Int) > 0 := by decide
  simp only [h1, if_true]
  have e2 : (if (0 : Int) < (xs.length : Int) then ((xs.length : Int) - 0 + 2 - 1) / 2 else 0).toNat = (xs.length + 1) / 2 := by
    split <;> omega
  rw [e2]
  apply List.map_congr_left
  intro k _
  omega
theorem step_odds (xs : List V) : stepV xs (some 1) none 2 = odds xs := by
  unfold stepV
  cases xs with
  | nil => rfl
  | cons a t =>
    have e : sliceBounds (some 1) none (some 2) (a :: t).length = (1, ((a :: t).length : Int), 2) := by
      have hm : min (1 : Int) ((t.length : Int) + 1) = 1 := by omega
      simp [sliceBounds, hm]
      omega
    rw [e]
    show (sliceRange 1 ((a :: t).length : Int) 2).filterMap ((a :: t)[·]?) = evens t
    rw [← evens_pick t]
    unfold sliceRange
    have h1 : (2 : Int) > 0 := by decide
    simp only [h1, if_true]
    have e2 : (if (1 : Int) < ((a :: t).length : Int) then (((a :: t).length : Int) - 1 + 2 - 1) / 2 else 0).toNat = (t.length + 1) / 2 := by
      simp only [List.length_cons]; split <;> omega
    rw [e2, List.filterMap_map, List.filterMap_map]
    congr 1
    funext k
    show (a :: t)[((1 : Int) + 2 * (k : Int)).toNat]? = t[2 * k]?
    have : ((1 : Int) + 2 * (k : Int)).toNat = 2 * k + 1 := by omega
    rw [this]
    rfl
end Coil

set_option linter.all false
namespace Coil
open PySem L2 Evl
theorem dpall_ints (K : PySem.W.Frag) (H : Hp) : ∀ ns : List Int, DpAll K H (ns.map V.int) (ns.map PyData.int)
  | [] => .nil
  | n :: ns => .cons (.int n) (dpall_ints K H ns)
theorem dp_tup {K : PySem.W.Frag} {H : Hp} {a : Addr} {ns : List Int} (h : SqT K H a (ns.map V.int)) : Dp K H (.ref a) (.tuple (ns.map PyData.int)) := .tup h (dpall_ints K H ns)
theorem lay_ints : ∀ ns : List Int, PyData.canLayAll0 (ns.map PyData.int) = true
  | [] => by simp [PyData.canLayAll0]
  | n :: ns => by simp [PyData.canLayAll0, PyData.canLay0, lay_ints ns]
theorem eqv_ints : ∀ ns ms : List Int, PyData.eqvAll (ns.map PyData.int) (ms.map PyData.int) = decide (ns = ms)
  | [], [] => by simp [PyData.eqvAll]
  | [], _ :: _ => by simp [PyData.eqvAll]
  | _ :: _, [] => by simp [PyData.eqvAll]
  | n :: ns, m :: ms => by
    simp only [List.map_cons, PyData.eqvAll, PyData.eqv, eqv_ints ns ms]
    by_cases h : n = m <;> by_cases h2 : ns = ms <;> simp [h, h2]
theorem eqv_tups (ns ms : List Int) : PyData.eqv (.tuple (ns.map PyData.int)) (.tuple (ms.map PyData.int)) = decide (ns = ms) := by
  rw [PyData.eqv]; exact eqv_ints ns ms
theorem depth_ints : ∀ ns : List Int, PyData.depthAll (ns.map PyData.int) ≤ 1
  | [] => by simp [PyData.depthAll]
  | n :: ns => by
    have := depth_ints ns
    simp only [List.map_cons, PyData.depthAll, PyData.depth]
    omega
theorem shaped_ints (ns : List Int) : SeqAt.shaped (.tuple (ns.map PyData.int)) = true := by
  unfold SeqAt.shaped
  rw [Bool.and_eq_true]
  refine ⟨by rw [PyData.canLay0]; exact lay_ints ns, decide_eq_true ?_⟩
  have := depth_ints ns
  rw [PyData.depth]
  omega
end Coil

set_option Elab.async false
set_option linter.all false
set_option maxRecDepth 100000
set_option maxHeartbeats 4000000
/-! enumerate(tuple); any(ints); o[i] op= e of a list -/
namespace Coil
open PySem L2 Evl PySem.Spec PyProof.Rows
set_option maxHeartbeats 4000000 in
theorem meets_enumerate_new1 {v : Value} {o : Obj} {H : Heap → Prop} (B : Begins v o H) :
    Meets (Builtin.«enumerate.__new__» ⟨[.type "enumerate", v], []⟩) (fun _ R s => H s.heap ∧
      R (.ok (.ret (.ref (s.heap.push o).objs.size))) { s with heap := (s.heap.push o).push { cls := .type "enumerate", data := .fields #[.none, .bool false, .ref s.heap.objs.size, rawInt 0, .none, .none] } }) :=
  .of_wp fun prog w A R s h => by
    obtain ⟨hp, g, d, tk, os⟩ := s; obtain ⟨h1, h⟩ := h
    have hsub := sub_enumerate
    have q1 : ∀ {A' : Around} {E : Value → Shared → Prop} {Q : Value → Shared → Prop}, Q (.ref hp.objs.size) ⟨hp.push o, g, d, tk, os⟩ → wpAny (model prog w) A' (pyIter v) Q E ⟨hp, g, d, tk, os⟩ :=
      fun q => B.iter prog w _ _ ⟨hp, g, d, tk, os⟩ _ h1 q
    wp_walk using q1
    refine wpAny_stack_any fun st => wpAny_pure ?_
    split
    · rename_i c _ _ _ _ _
      cases (c == Value.type "enumerate")
      · wp_walk using q1
        exact ⟨_, rfl, h⟩
      · wp_walk using q1
        exact ⟨_, rfl, h⟩
    · wp_walk using q1
      exact ⟨_, rfl, h⟩
section
variable {prog : Program} {w : World} {A : Around} {E : Value → Shared → Prop} {s : Shared}
theorem enum_begins1 {v : Value} {o : Obj} {H : Heap → Prop} {Q : Value → Shared → Prop} (B : Begins v o H) (h1 : H s.heap)
    (h : ∀ h', IsEnum h' (s.heap.objs.size + 1) s.heap.objs.size 0 .none → h'.get? s.heap.objs.size = some o → h'.objs.size = s.heap.objs.size + 2 →
      (∀ b o, s.heap.get? b = some o → h'.get? b = some o) → Q (.ref (s.heap.objs.size + 1)) { s with heap := h' }) :
    wpAny (model prog w) A (call (.type "enumerate") [v]) Q E s := by
  refine callType_new F.called_enumerate (by decide) (F.typeCall_enumerate_1 _) (F.newCall_enumerate_1 _) (fun obj => F.args_object_init_2 obj _) F.entry_enumerate_new
    (meets_enumerate_new1 B) ⟨h1, ?_⟩
  have hz : (s.heap.push o).objs.size = s.heap.objs.size + 1 := Heap.size_push ..
  show _ ∧ _
  rw [hz]
  have he : IsEnum ((s.heap.push o).push { cls := .type "enumerate", data := .fields #[.none, .bool false, .ref s.heap.objs.size, rawInt 0, .none, .none] }) (s.heap.objs.size + 1) s.heap.objs.size 0 .none := by
    have := Heap.get?_push_size (s.heap.push o) (o := { cls := .type "enumerate", data := .fields #[.none, .bool false, .ref s.heap.objs.size, rawInt 0, .none, .none] }) rfl
    rw [hz] at this; exact this
  refine ⟨⟨_, he, rfl⟩, h _ he (Heap.get?_push_of_some _ (Heap.get?_push_size _ B.free)) (by rw [Heap.size_push, hz]) fun b o x => Heap.get?_push_of_some _ (Heap.get?_push_of_some _ x)⟩
end
section
variable {prog : Program} {w : World} {A : Around} {E : Value → Shared → Prop} {s : Shared}
theorem enum_endT {e it a : Addr} {n : Nat} {its : Array Value} {i : Int} {old : Value} {Q : Option Value → Shared → Prop} (hh : A.handled = none)
    (he : IsEnum s.heap e it i old) (hit : s.heap.IsTupleIter it a n) (ht : s.heap.IsTuple a its) (hx : its[n]? = none)
    (hQ : ∀ h', Heap.ExtBut it s.heap h' → Q none { s with heap := h' }) : wpAny (model prog w) A (pyNext (.ref e)) Q E s := by
  have hT : s.TypeIs (.ref e) "enumerate" := ⟨_, he, rfl⟩
  unfold pyNext
  refine wpAny_bind (wpAny_attempt (wpAny_callSpecial?_slot (name := Str.ofString "__next__") hT F.slot_enumerate_next
    (wpAny_call_entry F.slot_enumerate_next hT F.entry_enumerate_next ?_ (F.args_enumerate_next_1 _))))
  show wpAny _ _ (field (.ref e) 2 >>= _) _ _ _
  refine wpAny_bind (wpAny_field he rfl (x := .ref it) rfl ?_)
  refine wpAny_bind (wpAny_nextOf_tuple_end (A := A.in1) hh hit ht hx fun h' x he' hx' => ?_)
  obtain ⟨o, ho, hc⟩ := hx'
  refine wpAny_bind (wpAny_isInstance (T := "StopIteration") (b := true) ⟨o, ho, hc⟩ isSubtype_stop ?_)
  exact wpAny_pure (hQ _ he')
end
/-- the tuple at a as it stands at each turn, each item in a new pair -/
def IteT (K : PySem.W.Frag) (a : Addr) : It :=
  ⟨fun i H => ∃ (xs : List V) (x : V), SqT K H a xs ∧ xs[i]? = some x, fun i H v H' => ∃ T x, v = .ref T ∧ H T = none ∧ H' = upd H T (.tup [.int (i : Nat), x]) ∧ ∀ xs, SqT K H a xs → xs[i]? = some x, fun i H => ∃ xs : List V, SqT K H a xs ∧ xs.length ≤ i⟩
theorem turn_enumT {P : Program} {w : World} {K : PySem.W.Frag} {elts : List Expr} {kk : Nat} {tpos : Pos} (a e it : Addr) :
    Turn P w K (.Tuple elts kk tpos) (IteT K a) [e, it] e (fun i h => (∃ old, IsEnum h e it ((i : Nat) : Int) old) ∧ h.IsTupleIter it a i ∧ e ≠ it ∧ a ≠ it ∧ a ≠ e) where
  mem := by simp
  obj := fun i h st b hb => by
    obtain ⟨⟨old, he⟩, ⟨o, ho, hc, hd⟩, _⟩ := st
    have e' : b = e ∨ b = it := by simpa using hb
    rcases e' with z | z
    · rw [z]; exact ⟨_, he, fun v q => nomatch q⟩
    · rw [z]; exact ⟨o, ho, fun v q => by rw [hd] at q; cases q⟩
  keep := fun i h h' st k => let ⟨⟨old, he⟩, hi, hne⟩ := st; ⟨⟨old, k e (by simp) _ he⟩, hi.at fun o q => k it (by simp) o q, hne⟩
  item := by
    intro X hP hw hK hc i pins s σ H E I hf st hg
    subst hP hw hK
    obtain ⟨⟨old, he⟩, hit, hne, hai, hae⟩ := st
    obtain ⟨xs, x, hq, hx⟩ := hg
    obtain ⟨its, rv, p, hz⟩ := I.tuple hq
    obtain ⟨u, hu, ru⟩ := rv.get hx
    have hel : e < s.heap.objs.size := Heap.lt_size he
    have hil : it < s.heap.objs.size := by obtain ⟨_, q, _⟩ := hit; exact Heap.lt_size q
    have hlt : i < its.toArray.size := by
      rw [List.size_toArray]
      exact (List.getElem?_eq_some_iff.mp hu).1
    have hef : e ∉ [it, a] := by
      intro hm
      rcases List.mem_cons.mp hm with z | hm
      · exact hne z
      · exact hae (List.mem_singleton.mp hm).symm
    refine wpAny_pyNext_enum_itemD (Draws.tuple (A := X.A.in1) (I.ok.hd hc) it a hai its.toArray) he ⟨hit, p⟩ hlt hne hef fun y h' tk hy ho hs' hT hsz hk => ?_
    have ey : y = u := by
      have h1 : its[i]? = some y := by simpa using hy
      rw [hu] at h1; exact (Option.some.inj h1).symm
    subst ey
    refine ⟨_, rfl, wpAny_letOwnedTupleGo_enum (s := { s with heap := h', toks := tk + 1 }) ho fun h'' he' sb => ?_⟩
    have hT2 : h''.get? s.heap.objs.size = some { cls := .type "tuple", data := .seq #[.int i tk, y] } := (sb.2 _ (Nat.ne_of_gt hel)).trans hT
    have new : ObjOk X.prog X.w (upd H s.heap.objs.size (.tup [.int (i : Nat), x])) h'' s.heap.objs.size (.tup [.int (i : Nat), x]) :=
      ⟨by show 2 ≤ sizeLine; decide, [.int i tk, y], .cons ⟨_, rfl⟩ (.cons ru .nil), ⟨_, hT2, rfl, _, rfl⟩⟩
    have I1 : Inv X pins σ (upd H s.heap.objs.size (.tup [.int (i : Nat), x])) { s with heap := h'', toks := tk + 1 } :=
      I.turnedNew (ch := [e, it]) (fun b ob hb q => (sb.2 b (fun z => hb (by simp [z]))).trans (hk b ob (fun z => hb (by simp [z])) (fun z => hb (by simp [z])) q)) hf (Nat.le_refl _) new
    refine ⟨.ref s.heap.objs.size, _, I1, rfl, ⟨_, x, rfl, I.hok.fresh (Nat.le_refl _), rfl, fun ys hy => by rw [I.tuple_inj hy hq]; exact hx⟩, ⟨⟨y, ?_⟩, hs'.1.at fun o q => (sb.2 it (Ne.symm hne)).trans q, hne, hai, hae⟩, fun b hb => ?_⟩
    · have e1 : ((i + 1 : Nat) : Int) = (i : Int) + 1 := by omega
      rw [e1]; exact he'
    · have hb' : b < s.heap.objs.size := by
        have e' : b = e ∨ b = it := by simpa using hb
        rcases e' with z | z
        · rw [z]; exact hel
        · rw [z]; exact hil
      rw [upd_ne (Nat.ne_of_lt hb')]
      exact (hf b hb).1
  done := by
    intro X hP hw hK hc i pins s σ H E I hf st hg
    subst hP hw hK
    obtain ⟨⟨old, he⟩, hit, hne, hai, hae⟩ := st
    obtain ⟨xs, hq, hx⟩ := hg
    obtain ⟨its, rv, p, hz⟩ := I.tuple hq
    obtain ⟨f0, f1, f2, f3, f4, f5⟩ := hf it (by simp)
    have hl := rv.length
    have hx' : its.toArray[i]? = none := by
      rw [List.getElem?_toArray, List.getElem?_eq_none_iff]; omega
    refine enum_endT (I.ok.hd hc) he hit p hx' fun h' eb => ⟨rfl, I.turned (t' := s.toks) (fun b o hb q => eb b o hb q) f0 f1 f3 f4 f5⟩
  self := fun A i s Q E st h => let ⟨⟨_, he⟩, _⟩ := st; wpAny_pyIter_enum he h
def iEnumT (K : PySem.W.Frag) (ta : TA) : TI := fun σ H R => ta σ H fun vs H1 => ∃ a xs, vs = [.ref a] ∧ SqT K H1 a xs ∧ R (IteT K a) H1
theorem pi_enumT {X : Cx} {e : Expr} {ta : TA} {p pos tpos : Pos} {elts : List Expr} {kk : Nat} (hg : Gl X "enumerate") (hm : X.mg "enumerate" = none) (ha : PA X [e] ta) (hs : starEach [e] X.env = [(false, eval e X.env)] := by rfl) :
    PI X (.Tuple elts kk tpos) (.Call (.Name "enumerate" p) [e] [] pos) (iEnumT X.K ta) := by
  refine ⟨fun pins s σ H R I h => ?_⟩
  refine Call_ (ld_blt I hg hm boot_enumerate (PyProof.Rows.callWith_type1 (thn (ha.run pos pins s σ H _ I h) fun us s1 ⟨vs, H1, I1, r1, q1⟩ => ?_) hs rfl))
  obtain ⟨a, xs, ex, hq, q⟩ := q1
  subst ex
  cases r1 with
  | cons r rr =>
    cases rr
    cases r
    obtain ⟨its, rv, p', hz⟩ := I1.tuple hq
    have hal : a < s1.heap.objs.size := by obtain ⟨o, ho, _⟩ := id p'; exact Heap.lt_size ho
    refine enum_begins1 (begins_tuple a its.toArray) p' fun h' he hit hsz hk => wpAny_pyIter_enum he ?_
    have I2 : Inv X pins σ H1 { s1 with heap := h' } := I1.kept (t' := s1.toks) hk
    refine ⟨s1.heap.objs.size + 1, [s1.heap.objs.size + 1, s1.heap.objs.size], _, _, H1, rfl, I2, turn_enumT a (s1.heap.objs.size + 1) s1.heap.objs.size, ⟨⟨.none, he⟩, ⟨_, hit, rfl, rfl⟩, Nat.succ_ne_self _, Nat.ne_of_lt hal, Nat.ne_of_lt (Nat.lt_succ_of_lt hal)⟩, fun b hb => ?_, q⟩
    have e' : b = s1.heap.objs.size + 1 ∨ b = s1.heap.objs.size := by simpa using hb
    have hle : s1.heap.objs.size ≤ b := by
      rcases e' with z | z
      · rw [z]; exact Nat.le_add_right _ _
      · rw [z]; exact Nat.le_refl _
    exact I1.fpOk hle (I1.hok.fresh hle)

/-! ### any of ints -/
theorem vals_ints {ns : List Int} {its : List Value} (h : Vals (ns.map V.int) its) : ∀ i v, its.toArray[i]? = some v → ∃ t, v = Value.int (ns.getD i 0) t := by
  intro i v hv
  have hv' : its[i]? = some v := by simpa using hv
  have hi : i < ns.length := by
    have := (List.getElem?_eq_some_iff.mp hv').1
    rw [← h.length, List.length_map] at this
    exact this
  obtain ⟨u, hu, r⟩ := h.get (i := i) (x := V.int (ns.getD i 0)) (by
    rw [List.getElem?_map, List.getElem?_eq_getElem hi, List.getD_eq_getElem?_getD, List.getElem?_eq_getElem hi]; rfl)
  rw [hv'] at hu
  cases hu
  exact r
theorem truth_ints {prog : Program} {w : World} {A : Around} {ns : List Int} {its : List Value} (h : Vals (ns.map V.int) its) :
    TruthOf prog w A (fun i v => its.toArray[i]? = some v) (fun i => ns.getD i 0 != 0) := fun i v s Q E hv hq => by
  obtain ⟨t, rfl⟩ := vals_ints h i v hv
  exact truthy_int hq
theorem any_rangeI : ∀ ns : List Int, (List.range ns.length).any (fun i => ns.getD i 0 != 0) = ns.any (· != 0)
  | [] => rfl
  | b :: ns => by
    rw [List.length_cons, List.range_succ_eq_map, List.any_cons, List.any_map, List.any_cons, ← any_rangeI ns]
    all_goals rfl
def rAnyI (K : PySem.W.Frag) : List V → Hp → VK → Prop := fun vs H Q => ∃ (a : Addr) (ns : List Int), vs = [V.ref a] ∧ SqL K H a (ns.map V.int) ∧ Q (.bl (ns.any (· != 0))) H
theorem cr_anyI {X : Cx} (hc : X.calm = true) : CallR X (.builtin "any") (rAnyI X.K) := by
  intro pins s σ H vs us Q I r h
  obtain ⟨a, ns, rfl, hs, q⟩ := h
  obtain ⟨its, rv, hl, _⟩ := I.list hs
  have hlen := rv.length
  rw [List.length_map] at hlen
  rw [Vals.ref1 r]
  refine call_any_walk (iter_any hl.isList fun s₂ e2 st hne => ?_)
  subst e2
  refine ⟨_, _, _, _, _, _, _, rfl, Walks.list (A := X.A.in1) (I.ok.hd hc) _ a hne its.toArray, st, truth_ints rv, fun h' tk hk => ?_⟩
  refine ⟨.bl _, H, I.kept fun b o eo => hk b o (fun hmem => ?_) (Heap.get?_push_of_some _ eo), ?_, q⟩
  · rcases List.mem_cons.mp hmem with e1 | hmem
    · exact absurd (e1 ▸ Heap.lt_size eo) (Nat.lt_irrefl _)
    · cases hmem
  · show Value.bool _ = Value.bool _
    rw [← any_rangeI, List.size_toArray, ← hlen]

/-! ### o[i] of a list, by values -/
def rGetL (K : PySem.W.Frag) : V → V → Hp → VK → Prop := fun o i H Q => ∃ (a : Addr) (xs : List V) (k : Int) (x : V), o = .ref a ∧ i = .int k ∧ SqL K H a xs ∧ atI xs k = some x ∧ Q x H
theorem get_listI {X : Cx} : PGet X (rGetL X.K) := by
  intro pins s σ H o i ov iv Q I ro ri h
  obtain ⟨p, xs, k, z, rfl, rfl, hq, he, q⟩ := h
  cases ro
  obtain ⟨t, rfl⟩ := ri
  obtain ⟨its, r, pl, hz⟩ := I.list hq
  obtain ⟨j, h1, h2, h3, h4, h5⟩ := atI_get he
  obtain ⟨w, ew, rw'⟩ := r.get h2
  have hl := r.length
  have hn := line63
  have fin : EP X pins σ Q w s := ⟨z, H, I, rw', q⟩
  by_cases h0 : 0 ≤ k
  · have hj : k.toNat = j := by
      rw [seqIndex_of h0 h5] at h1
      exact Option.some.inj h1
    exact wpAny_getItem_list pl.isList h0 (by omega) (by rw [hj]; simpa using ew) fin
  · have hj : (k + (its.toArray.size : Int)).toNat = j := by
      rw [seqIndex_neg (by omega) h4] at h1
      rw [List.size_toArray, ← hl]
      exact Option.some.inj h1
    exact wpAny_getItem_list_neg pl.isList (by omega) (by rw [List.size_toArray] <;> omega) (by omega) (by rw [hj]; simpa using ew) fin
end Coil

set_option Elab.async false
set_option linter.all false
set_option maxRecDepth 100000
set_option maxHeartbeats 4000000
/-! what the proofs of single defs share, whatever the text -/
namespace Coil
open PySem L2 Evl
theorem gcdL_take {ns : List Int} {i : Nat} {n : Int} (h : ns[i]? = some n) : gcdL (ns.take (i + 1)) = ((Nat.gcd (gcdL (ns.take i)).natAbs n.natAbs : Nat) : Int) := by
  unfold gcdL
  rw [List.take_add_one, h]
  simp [List.foldl_append]
theorem map_int_get {ns : List Int} {i : Nat} {x : V} (h : (ns.map V.int)[i]? = some x) : ∃ n, ns[i]? = some n ∧ x = .int n := by
  rw [List.getElem?_map] at h
  cases e : ns[i]? with
  | none => rw [e] at h; cases h
  | some n => rw [e] at h; exact ⟨n, rfl, (Option.some.inj h).symm⟩
theorem ty_tup {K : PySem.W.Frag} {H : Hp} {a : Addr} {xs : List V} (h : SqT K H a xs) : TyX K H (.ref a) (.type "tuple") := by
  rcases h with (h | ⟨o, h⟩) | h
  · exact .base (.tup h)
  · exact .fTuple h
  · obtain ⟨o, its, m, h1, h2, _⟩ := h
    exact .kTuple h1 h2
theorem emap_last {ns : List Int} {n : Int} (h : ns.getLast? = some n) : atI (ns.map V.int) (-1) = some (.int n) := by
  have hne : ns ≠ [] := by intro e; rw [e] at h; cases h
  have e : ns = ns.dropLast ++ [n] := by
    rw [List.getLast?_eq_some_getLast hne] at h
    rw [← Option.some.inj h]
    exact (List.dropLast_concat_getLast hne).symm
  rw [e, List.map_append]
  exact atI_last _ _
theorem at_map {ns : List Int} {j : Nat} (h : j < ns.length) : atI (ns.map V.int) ((j : Nat) : Int) = some (.int (ns.getD j 0)) := by
  refine atI_nat ?_
  rw [List.getElem?_map, List.getElem?_eq_getElem h, List.getD_eq_getElem?_getD, List.getElem?_eq_getElem h]
  rfl
theorem at_map0 {ns : List Int} (h : 0 < ns.length) : atI (ns.map V.int) 0 = some (.int (ns.getD 0 0)) := at_map (j := 0) h
theorem at_last {ns : List Int} (h : ns ≠ []) : atI (ns.map V.int) (-1) = some (.int (co ns (ns.length - 1))) := by
  refine emap_last ?_
  have hl : 0 < ns.length := List.length_pos_iff.mpr h
  unfold co
  rw [List.getLast?_eq_getElem?, List.getD_eq_getElem?_getD, List.getElem?_eq_getElem (by omega)]; rfl
theorem rep_int (k : Nat) (xs : List Int) : (List.replicate k (xs.map V.int)).flatten = ((List.replicate k xs).flatten).map V.int := by
  rw [List.map_flatten, List.map_replicate]
theorem rep_zero (k : Nat) : (List.replicate k [(0 : Int)]).flatten = List.replicate k 0 := by
  induction k with
  | zero => rfl
  | succ k ih => rw [List.replicate_succ, List.flatten_cons, ih, List.replicate_succ]; rfl
theorem upd_id {H : Hp} {r : Addr} {o : HO} (h : H r = some o) : upd H r o = H := by
  funext b
  by_cases e : b = r
  · subst e; rw [upd_same, h]
  · rw [upd_ne e]
theorem seq_upd {K : PySem.W.Frag} {H : Hp} {a r : Addr} {ns : List Int} {o u : HO} (hr : H r = some (RowO a r)) (h : SqL K H a (ns.map V.int)) : SqL K (upd H r u) a (ns.map V.int) := by
  rcases h with (h | ⟨ob, h⟩) | h
  · have ne : a ≠ r := ne_of h hr (by intro z; cases z)
    exact .inl (.inl (by rw [upd_ne ne]; exact h))
  · have ne : a ≠ r := ne_of h hr (by intro z; cases z)
    exact .inl (.inr ⟨ob, by rw [upd_ne ne]; exact h⟩)
  · exact .inr h
/-- // by a number that is not 0 -/
def CDivN (_ j : Int) : Prop := j ≠ 0 ∧ j.natAbs.log2 < 9000
theorem op_fdivN {X : Cx} : OpR X (binaryOp .FloorDiv) (rI CDivN fun i j => .int (i.fdiv j)) := opI fun i j _ _ _ _ _ hc q => PyProof.Rows.floordiv_int hc.1 q (.inl (PyProof.noPylong_of_log2 hc.2))
theorem divN {i j : Int} {b : Nat} (h : j ≠ 0) (hb : j.natAbs < 2 ^ b) (h0 : 0 < b) (h9 : b ≤ 9000) : CDivN i j := ⟨h, Nat.lt_of_lt_of_le (PySem.Flt.log2_lt_of h0 hb) h9⟩
/-- a tuple's truth -/
theorem tru_t {K : PySem.W.Frag} {H : Hp} {a : Addr} {ns : List Int} (h : SqT K H a (ns.map V.int)) : TruV K (.ref a) H (decide (ns ≠ [])) := by
  refine .inr (.inl ⟨_, h, ?_⟩)
  cases ns <;> simp
theorem line_of {n : Nat} (h : n ≤ 1000) : n < sizeLine := Nat.lt_of_le_of_lt h (by decide)
end Coil

set_option Elab.async false
set_option linter.all false
set_option maxRecDepth 100000
set_option maxHeartbeats 4000000
namespace Coil
open PySem L2 Evl RT
variable {K : PySem.W.Frag} {a : Addr} {xs : List V}
theorem walk_revT : Walk (ItvT K a xs.length) xs.length (fun H => SqT K H a xs) (fun i H x H' => H' = H ∧ xs[xs.length - 1 - i]? = some x) :=
  ⟨fun i _ hi q => ⟨hi, xs, xs[xs.length - 1 - i]'(by omega), q, by simp [show xs.length - 1 - i < xs.length by omega]⟩, fun _ _ => Nat.le_refl _, fun _ _ _ _ _ q y => ⟨y.1, y.2 xs q⟩⟩
/-- enumerate(tuple): a new pair each turn -/
theorem walk_enumT : Walk (IteT K a) xs.length (fun H => SqT K H a xs) (fun i H v H' => ∃ T x, v = .ref T ∧ H T = none ∧ H' = upd H T (.tup [.int (i : Nat), x]) ∧ xs[i]? = some x) :=
  ⟨fun i _ hi q => ⟨xs, xs[i], q, by simp [hi]⟩, fun _ q => ⟨xs, q, Nat.le_refl _⟩, fun _ _ _ _ _ q ⟨T, x, h1, h2, h3, h4⟩ => ⟨T, x, h1, h2, h3, h4 xs q⟩⟩
end Coil

set_option Elab.async false
set_option linter.all false
set_option maxRecDepth 100000
set_option maxHeartbeats 4000000
/-! every second of a tuple: t[::2] -/
namespace Coil
open PySem L2 Evl PySem.Spec PyProof.Rows
section
variable {prog : Program} {w : World} {A : Around} {E : Value → Shared → Prop} {s : Shared}
theorem adjust_two (n : Nat) : Builtin.Slice.sliceAdjust none none 2 (n : Int) = (0, (n : Int)) := by
  unfold Builtin.Slice.sliceAdjust
  simp
theorem places_two (n : Nat) : Builtin.Slice.slicePlaces 0 (n : Int) 2 = (n + 1) / 2 := by
  unfold Builtin.Slice.slicePlaces
  have h1 : ((2 : Int) > 0) := by omega
  simp only [h1, if_true]
  split <;> omega
theorem pick_two (xs : Array Value) : ((List.range ((xs.size + 1) / 2)).filterMap fun (m : Nat) => xs[((0 : Int) + (m : Int) * 2).toNat]?).toArray = (evens xs.toList).toArray := by
  rw [← evens_pick xs.toList, List.filterMap_map, Array.length_toList]
  congr 2
  funext m
  show xs[((0 : Int) + (m : Int) * 2).toNat]? = xs.toList[2 * m]?
  have : ((0 : Int) + (m : Int) * 2).toNat = 2 * m := by omega
  rw [this, Array.getElem?_toList]
theorem getItem_tuple_two {t sl : Addr} {items : Array Value} {vl vu vs : Value} {Q : Value → Shared → Prop} (ht : IsTup s.heap t items) (hs : s.heap.IsSliceOf sl vl vu vs) (pl : IsPart vl none) (pu : IsPart vu none) (ps : IsPart vs (some 2))
    (h : Q (.ref s.heap.objs.size) { s with heap := s.heap.push { cls := .type "tuple", data := .seq (evens items.toList).toArray } })
    (hsz : items.size ≤ sizeLine) : wpAny (model prog w) A (getItem (.ref t) (.ref sl)) Q E s := by
  have htake : sizeOk (.seq (evens items.toList).toArray) := by
    show (evens items.toList).toArray.size ≤ sizeLine
    rw [List.size_toArray, evens_len, Array.length_toList]
    omega
  obtain ⟨os, hos, hcs, hds⟩ := id hs
  have hTs : s.TypeIs (.ref sl) "slice" := ⟨os, hos, hcs⟩
  unfold getItem
  try with_reducible refine wpAny_holding ?_
  first | refine wpAny_bind (wpAny_pure ?_) | skip
  refine wpAny_bind (wpAny_sequenceKey ht.typeIs (by decide) ?_)
  refine wpAny_bind (wpAny_callSpecial?_slot (name := Str.ofString "__getitem__") ht.typeIs PyProof.Rows.slot_tuple_getitem
    (wpAny_call_entry PyProof.Rows.slot_tuple_getitem ht.typeIs entry_tuple_getitem ?_ (args_tuple_getitem _ _)))
  show wpAny _ _ (Builtin.Tuple.tupleItemsOf (.ref t) >>= _) _ _ s
  refine wpAny_bind (tupleItemsOf_ ht ?_)
  refine wpAny_bind (wpAny_typeOf hTs ?_)
  rw [if_pos (by decide)]
  refine wpAny_bind ?_
  · unfold Builtin.Slice.sliceApplied Builtin.Slice.sliceFields
    refine wpAny_bind (wpAny_bind (wpAny_field hos hds (x := vl) rfl (wpAny_bind (wpAny_field hos hds (x := vu) rfl (wpAny_bind (wpAny_field hos hds (x := vs) rfl (wpAny_pure ?_)))))))
    refine wpAny_bind (HT.slicePart_ ps ?_)
    show wpAny _ _ (if ((2 : Int) == 0) = true then _ else _) _ _ s
    rw [if_neg (by decide)]
    refine wpAny_bind (HT.slicePart_ pl (wpAny_bind (HT.slicePart_ pu (wpAny_bind (wpAny_pure ?_)))))
    show wpAny _ _ (match Builtin.Slice.sliceAdjust none none 2 ((items.size : Nat) : Int) with | (lo, hi) => pure (lo, (2 : Int), Builtin.Slice.slicePlaces lo hi 2)) _ _ s
    rw [adjust_two]
    show wpAny _ _ (pure ((0 : Int), (2 : Int), Builtin.Slice.slicePlaces 0 ((items.size : Nat) : Int) 2)) _ _ s
    rw [places_two]
    refine wpAny_pure ?_
    have hno : ¬ (((((0 : Int)) == 0) && (2 : Int) == 1 && (items.size + 1) / 2 == items.size) = true) := by
      intro q
      rw [Bool.and_eq_true, Bool.and_eq_true] at q
      have q1 : (2 : Int) = 1 := eq_of_beq q.1.2
      omega
    show wpAny _ _ (if ((((0 : Int)) == 0) && (2 : Int) == 1 && (items.size + 1) / 2 == items.size) = true then _ else _) _ _ s
    rw [if_neg hno, pick_two]
    first
      | exact wpAny_bind (m := Builtin.Tuple.tupleExact _) (wpAny_newObj_type (wpAny_pure ⟨_, rfl, wpAny_pure h⟩) htake)
      | exact wpAny_bind (m := Builtin.Tuple.tupleExact _) (wpAny_newObj_type (wpAny_bind (wpAny_pure (wpAny_pure ⟨_, rfl, wpAny_pure h⟩))) htake)
      | exact wpAny_bind (wpAny_bind (m := Builtin.Tuple.tupleExact _) (wpAny_newObj_type (wpAny_pure (wpAny_pure ⟨_, rfl, wpAny_pure h⟩)) htake))
      | exact wpAny_bind (wpAny_bind (m := Builtin.Tuple.tupleExact _) (wpAny_newObj_type (wpAny_pure ⟨_, rfl, wpAny_pure h⟩) htake))
end
section
variable {X : Cx}
def tTwoT (K : PySem.W.Frag) (te : TE) : TE := fun σ H Q => te σ H fun x H1 => ∃ a xs, x = .ref a ∧ SqT K H1 a xs ∧ ∀ p, H1 p = none → Q (.ref p) (upd H1 p (.tup (evens xs)))
theorem vals_evens : ∀ {xs : List V} {us : List Value}, Vals xs us → Vals (evens xs) (evens us)
  | _, _, .nil => .nil
  | _, _, .cons h .nil => .cons h .nil
  | _, _, .cons h (.cons _ t) => .cons h (vals_evens t)
theorem pe_twoT {e : Expr} {te : TE} {k : Nat} {p1 p3 pos : Pos} (he : PE X e te) : PE X (.Subscript e (.Slice none none (some (.Constant (.int 2) k p1)) p3) pos) (tTwoT X.K te) := by
  refine ⟨fun pins s σ H Q I h => ?_⟩
  refine Subscript_ (thn (he.run pins s σ H _ I h) fun v s1 ⟨x, H1, I1, r1, q1⟩ => ?_)
  obtain ⟨a, xs, ex, hx, q⟩ := q1
  subst ex
  cases r1
  have hst : PO X (some (.Constant (.int 2) k p1)) (tPart (tC (.int 2))) := po_some pe_int
  refine wpAny_Slice (thn (po_none.run pins s1 σ H1 (fun o H2 => o = none ∧ H2 = H1) I1 ⟨rfl, rfl⟩) fun vl s2 ⟨l, H2, I2, pl, el, e2⟩ => ?_)
  subst el e2
  refine thn (po_none.run pins s2 σ H2 (fun o H3 => o = none ∧ H3 = H2) I2 ⟨rfl, rfl⟩) fun vu s3 ⟨u, H3, I3, pu, eu, e3⟩ => ?_
  subst eu e3
  refine thn (hst.run pins s3 σ H3 (fun o H4 => o = some 2 ∧ H4 = H3) I3 ⟨2, rfl, rfl, rfl⟩) fun vs s4 ⟨o, H4, I4, ps, eo, e4⟩ => ?_
  subst eo e4
  have I5 : Inv X pins σ H4 { s4 with heap := s4.heap.push { cls := .type "slice", data := .fields #[vl, vu, vs] } } := I4.kept (t' := s4.toks) fun b ob q => Heap.get?_push_of_some _ q
  obtain ⟨its, r, ht, hz⟩ := I5.tuple hx
  have hlen := r.length
  show wpAny (model X.prog X.w) X.A (subscriptTail e (.Slice none none (some (.Constant (.int 2) k p1)) p3) (.ref a) (.ref s4.heap.objs.size)) (EP X pins σ Q) X.xe { s4 with heap := s4.heap.push { cls := .type "slice", data := .fields #[vl, vu, vs] } }
  refine tail_any (ops := [.ref a, .ref s4.heap.objs.size]) ht.typeIs (PyProof.Rows.slot_tuple_getitem.lookup) ?_ (by with_unfolding_all rfl)
  refine getItem_tuple_two ht (Heap.IsSliceOf.new _ vl vu vs) pl pu ps ?_ (by rw [List.size_toArray, ← hlen]; exact hz)
  refine ⟨.ref _, _, I5.laid (t' := s4.toks) (o := .tup (evens xs)) (fun b ob q => Heap.get?_push_of_some _ q) (Nat.le_refl _) ?_, rfl, q _ (I5.hok.fresh (Nat.le_refl _))⟩
  exact ⟨by rw [evens_len]; omega, _, vals_evens r, IsTup.new _ _⟩
end
end Coil

set_option linter.all false
namespace Coil
/-! ### polynomials by their values -/
def ev : List Int → Int → Int
  | [], _ => 0
  | c :: p, x => c + x * ev p x
def addP : List Int → List Int → List Int
  | [], q => q
  | p, [] => p
  | a :: p, b :: q => (a + b) :: addP p q
def smul (a : Int) (p : List Int) : List Int := p.map (a * ·)
theorem ev_add : ∀ (p q : List Int) (x : Int), ev (addP p q) x = ev p x + ev q x
  | [], q, x => by simp [addP, ev]
  | a :: p, [], x => by simp [addP, ev]
  | a :: p, b :: q, x => by
    have := ev_add p q x
    simp only [addP, ev, this]; grind
theorem ev_smul (a : Int) : ∀ (p : List Int) (x : Int), ev (smul a p) x = a * ev p x
  | [], x => by simp [smul, ev]
  | c :: p, x => by
    have := ev_smul a p x
    simp only [smul, List.map_cons, ev] at *
    rw [this]; grind
theorem addP_len : ∀ p q : List Int, (addP p q).length = max p.length q.length
  | [], q => by simp [addP]
  | a :: p, [] => by simp [addP]
  | a :: p, b :: q => by simp [addP, addP_len p q]
theorem smul_len (a : Int) (p : List Int) : (smul a p).length = p.length := by simp [smul]
theorem co_nil (i : Nat) : co [] i = 0 := by simp [co]
theorem co_cons_zero (c : Int) (p : List Int) : co (c :: p) 0 = c := rfl
theorem co_cons_succ (c : Int) (p : List Int) (i : Nat) : co (c :: p) (i + 1) = co p i := by simp [co]
theorem co_smul (a : Int) (p : List Int) (i : Nat) : co (smul a p) i = a * co p i := by
  unfold co smul
  rw [List.getD_eq_getElem?_getD, List.getElem?_map, List.getD_eq_getElem?_getD]
  cases p[i]? <;> simp
theorem co_add : ∀ (p q : List Int) (i : Nat), co (addP p q) i = co p i + co q i
  | [], q, i => by simp [addP, co_nil]
  | a :: p, [], i => by simp [addP, co_nil]
  | a :: p, b :: q, 0 => by simp [addP, co_cons_zero]
  | a :: p, b :: q, i + 1 => by simp only [addP, co_cons_succ]; exact co_add p q i
/-- values far out tell the coefficients -/
theorem ev_ext : ∀ (p q : List Int) (B : Int), (∀ x, B < x → ev p x = ev q x) → ∀ i, co p i = co q i
  | [], [], _, _, _ => rfl
  | [], b :: q, B, h, i => by
    have key : ∀ x, max B (max b.natAbs 1) < x → b = 0 ∧ ev q x = 0 := by
      intro x hx
      have e := h x (by omega)
      simp only [ev] at e
      have hb : b = 0 := by
        have hd : x ∣ b := ⟨-ev q x, by rw [Int.mul_neg]; omega⟩
        rcases hd with ⟨k, hk⟩
        rcases Int.lt_trichotomy k 0 with hk0 | hk0 | hk0
        · have : x * k ≤ x * (-1) := Int.mul_le_mul_of_nonneg_left (by omega) (by omega)
          omega
        · subst hk0; omega
        · have : x * 1 ≤ x * k := Int.mul_le_mul_of_nonneg_left (by omega) (by omega)
          omega
      refine ⟨hb, ?_⟩
      subst hb
      have : x * ev q x = 0 := by omega
      rcases Int.mul_eq_zero.mp this with z | z
      · omega
      · exact z
    have hb := (key (max B (max b.natAbs 1) + 1) (by omega)).1
    cases i with
    | zero => simp [co_nil, co_cons_zero, hb]
    | succ i =>
      have := ev_ext [] q (max B (max b.natAbs 1)) (fun x hx => by simp only [ev]; exact (key x hx).2.symm) i
      rw [co_cons_succ, ← this, co_nil, co_nil]
  | a :: p, [], B, h, i => by
    have key : ∀ x, max B (max a.natAbs 1) < x → a = 0 ∧ ev p x = 0 := by
      intro x hx
      have e := h x (by omega)
      simp only [ev] at e
      have hb : a = 0 := by
        have hd : x ∣ a := ⟨-ev p x, by rw [Int.mul_neg]; omega⟩
        rcases hd with ⟨k, hk⟩
        rcases Int.lt_trichotomy k 0 with hk0 | hk0 | hk0
        · have : x * k ≤ x * (-1) := Int.mul_le_mul_of_nonneg_left (by omega) (by omega)
          omega
        · subst hk0; omega
        · have : x * 1 ≤ x * k := Int.mul_le_mul_of_nonneg_left (by omega) (by omega)
          omega
      refine ⟨hb, ?_⟩
      subst hb
      have : x * ev p x = 0 := by omega
      rcases Int.mul_eq_zero.mp this with z | z
      · omega
      · exact z
    have hb := (key (max B (max a.natAbs 1) + 1) (by omega)).1
    cases i with
    | zero => simp [co_nil, co_cons_zero, hb]
    | succ i =>
      have := ev_ext p [] (max B (max a.natAbs 1)) (fun x hx => by simp only [ev]; exact (key x hx).2) i
      rw [co_cons_succ, this, co_nil, co_nil]
  | a :: p, b :: q, B, h, i => by
    have key : ∀ x, max B (max (a - b).natAbs 1) < x → a = b ∧ ev p x = ev q x := by
      intro x hx
      have e := h x (by omega)
      simp only [ev] at e
      have hb : a - b = 0 := by
        have hd : x ∣ a - b := ⟨ev q x - ev p x, by rw [Int.mul_sub]; omega⟩
        rcases hd with ⟨k, hk⟩
        rcases Int.lt_trichotomy k 0 with hk0 | hk0 | hk0
        · have : x * k ≤ x * (-1) := Int.mul_le_mul_of_nonneg_left (by omega) (by omega)
          omega
        · subst hk0; omega
        · have : x * 1 ≤ x * k := Int.mul_le_mul_of_nonneg_left (by omega) (by omega)
          omega
      refine ⟨by omega, ?_⟩
      have : x * (ev p x - ev q x) = 0 := by rw [Int.mul_sub]; omega
      rcases Int.mul_eq_zero.mp this with z | z
      · omega
      · omega
    have hb := (key (max B (max (a - b).natAbs 1) + 1) (by omega)).1
    cases i with
    | zero => simp [co_cons_zero, hb]
    | succ i =>
      have := ev_ext p q (max B (max (a - b).natAbs 1)) (fun x hx => (key x hx).2) i
      rw [co_cons_succ, co_cons_succ, this]
theorem co_ext : ∀ {p q : List Int}, p.length = q.length → (∀ i, co p i = co q i) → p = q
  | [], [], _, _ => rfl
  | [], _ :: _, h, _ => by simp at h
  | _ :: _, [], h, _ => by simp at h
  | a :: p, b :: q, h, e => by
    have h0 := e 0
    simp only [co_cons_zero] at h0
    have := co_ext (p := p) (q := q) (by simpa using h) (fun i => by have := e (i + 1); simpa only [co_cons_succ] using this)
    rw [h0, this]
/-- no coefficient 0 at the end -/
def Nm (p : List Int) : Prop := p = [] ∨ co p (p.length - 1) ≠ 0
theorem nm_len {p q : List Int} (hp : Nm p) (hq : Nm q) (e : ∀ i, co p i = co q i) : p.length = q.length := by
  have one : ∀ {p q : List Int}, Nm p → (∀ i, co p i = co q i) → p.length ≤ q.length := by
    intro p q hp e
    rcases hp with h | h
    · subst h; exact Nat.zero_le _
    · refine Decidable.byContradiction fun z => h ?_
      rw [e, co_over (by omega)]
  exact Nat.le_antisymm (one hp e) (one hq fun i => (e i).symm)
theorem nm_ext {p q : List Int} (hp : Nm p) (hq : Nm q) {B : Int} (h : ∀ x, B < x → ev p x = ev q x) : p = q :=
  co_ext (nm_len hp hq (ev_ext p q B h)) (ev_ext p q B h)
theorem ev_co {p q : List Int} (e : ∀ i, co p i = co q i) (x : Int) : ev p x = ev q x := by
  induction p generalizing q with
  | nil =>
    induction q with
    | nil => rfl
    | cons b q ih =>
      have h0 := e 0
      simp only [co_nil, co_cons_zero] at h0
      have := ih (fun i => by have := e (i + 1); simpa only [co_cons_succ, co_nil] using this)
      simp only [ev] at *
      rw [← this, ← h0]; omega
  | cons a p ih =>
    cases q with
    | nil =>
      have h0 := e 0
      simp only [co_nil, co_cons_zero] at h0
      have := ih (q := []) (fun i => by have := e (i + 1); simpa only [co_cons_succ, co_nil] using this)
      simp only [ev] at *
      rw [this, h0]; omega
    | cons b q =>
      have h0 := e 0
      simp only [co_cons_zero] at h0
      have := ih (q := q) (fun i => by have := e (i + 1); simpa only [co_cons_succ] using this)
      simp only [ev]
      rw [this, h0]
def mulP : List Int → List Int → List Int
  | [], _ => []
  | a :: p, q => addP (smul a q) (0 :: mulP p q)
theorem ev_mul : ∀ (p q : List Int) (x : Int), ev (mulP p q) x = ev p x * ev q x
  | [], q, x => by simp [mulP, ev]
  | a :: p, q, x => by
    have := ev_mul p q x
    simp only [mulP, ev_add, ev_smul, ev, this]; grind
/-- division by root - x -/
theorem synth (z : Int) : ∀ p : List Int, ∃ q : List Int, q.length = p.length - 1 ∧ ∀ x, ev p x = ev p z + (z - x) * ev q x
  | [] => ⟨[], rfl, fun x => by simp [ev]⟩
  | c :: p => by
    obtain ⟨q, hq, e⟩ := synth z p
    cases p with
    | nil => exact ⟨[], rfl, fun x => by simp [ev]⟩
    | cons d t =>
      refine ⟨(-ev (d :: t) z) :: q, by simp [hq], fun x => ?_⟩
      have e0 : ev (c :: d :: t) z = c + z * ev (d :: t) z := rfl
      have e1 : ev (c :: d :: t) x = c + x * ev (d :: t) x := rfl
      have e2 : ev ((-ev (d :: t) z) :: q) x = -ev (d :: t) z + x * ev q x := rfl
      rw [e0, e1, e2, e x]
      generalize ev (d :: t) z = s
      grind
end Coil

set_option linter.all false
namespace Coil
/-! ### a factor's value far out -/
def nsum : Nat → (Nat → Nat) → Nat
  | 0, _ => 0
  | n + 1, f => nsum n f + f n
theorem nsum_le {f g : Nat → Nat} : ∀ n, (∀ i, i < n → f i ≤ g i) → nsum n f ≤ nsum n g
  | 0, _ => Nat.le_refl _
  | n + 1, h => Nat.add_le_add (nsum_le n fun i hi => h i (by omega)) (h n (by omega))
theorem nsum_add (f g : Nat → Nat) : ∀ n, nsum n (fun i => f i + g i) = nsum n f + nsum n g
  | 0 => rfl
  | n + 1 => by have := nsum_add f g n; simp only [nsum]; omega
theorem nsum_mul (a : Nat) (f : Nat → Nat) : ∀ n, nsum n (fun i => a * f i) = a * nsum n f
  | 0 => rfl
  | n + 1 => by have := nsum_mul a f n; simp only [nsum, this, Nat.mul_add]
theorem nsum_congr {f g : Nat → Nat} : ∀ n, (∀ i, i < n → f i = g i) → nsum n f = nsum n g
  | 0, _ => rfl
  | n + 1, h => by simp only [nsum, nsum_congr n fun i hi => h i (by omega), h n (by omega)]
theorem nsum_shift (f : Nat → Nat) : ∀ n, nsum (n + 1) (fun i => if i = 0 then 0 else f (i - 1)) = nsum n f
  | 0 => rfl
  | n + 1 => by
    have := nsum_shift f n
    rw [nsum, this]
    simp [nsum]
theorem nsum_zero {f : Nat → Nat} : ∀ {n}, nsum n f = 0 → ∀ i, i < n → f i = 0
  | 0, _, _, h => absurd h (by omega)
  | n + 1, h, i, hi => by
    simp only [nsum] at h
    by_cases e : i = n
    · subst e; omega
    · exact nsum_zero (n := n) (by omega) i (by omega)
theorem co_shift (q : List Int) (i : Nat) : co (0 :: q) i = if i = 0 then 0 else co q (i - 1) := by
  cases i with
  | zero => simp [co]
  | succ i => simp [co]
theorem rec_co {F G a : List Int} {z N w : Int} (h : ∀ x, (z - x) * ev G x = N * ev F x - w * ev a x) (i : Nat) :
    z * co G i - (if i = 0 then 0 else co G (i - 1)) = N * co F i - w * co a i := by
  have e := ev_ext (addP (smul z G) (smul (-1) (0 :: G))) (addP (smul N F) (smul (-w) a)) 0 (fun x _ => by
    have := h x
    simp only [ev_add, ev_smul, ev]
    grind) i
  simp only [co_add, co_smul, co_shift] at e
  split at e <;> rename_i hi
  · rw [if_pos hi]; grind
  · rw [if_neg hi]; grind
def nW (s t n : Nat) (F : List Int) : Nat := nsum n fun i => (co F i).natAbs * (s ^ i * t ^ (n - i))
theorem nW_step {s t n : Nat} {F G a : List Int} {z N w : Int} (hn : 0 < n) (h : ∀ x, (z - x) * ev G x = N * ev F x - w * ev a x) (hF : F.length ≤ n) (hG : G.length ≤ n)
    (hdom : nsum n (fun i => (co a i).natAbs * (s ^ i * t ^ (n - i))) ≤ (co a n).natAbs * s ^ n) :
    t * (z.natAbs * nW s t n G) ≤ t * (N.natAbs * nW s t n F) + s * nW s t n G := by
  have hr := rec_co h
  have top := hr n
  rw [co_over hG, co_over hF, if_neg (by omega)] at top
  have htop : (co G (n - 1)).natAbs = w.natAbs * (co a n).natAbs := by
    rw [← Int.natAbs_mul]; congr 1; omega
  have pt : ∀ i, i < n → z.natAbs * ((co G i).natAbs * (s ^ i * t ^ (n - i))) ≤
      N.natAbs * ((co F i).natAbs * (s ^ i * t ^ (n - i))) + ((if i = 0 then 0 else (co G (i - 1)).natAbs) * (s ^ i * t ^ (n - i)) + w.natAbs * ((co a i).natAbs * (s ^ i * t ^ (n - i)))) := by
    intro i _
    have e := hr i
    have e2 : (z * co G i).natAbs ≤ (N * co F i).natAbs + (w * co a i).natAbs + (if i = 0 then 0 else (co G (i - 1)).natAbs) := by
      split at e <;> rename_i hi
      · rw [if_pos hi]; omega
      · rw [if_neg hi]; omega
    rw [Int.natAbs_mul, Int.natAbs_mul, Int.natAbs_mul] at e2
    have e3 := Nat.mul_le_mul_right (s ^ i * t ^ (n - i)) e2
    rw [Nat.add_mul, Nat.add_mul] at e3
    generalize s ^ i * t ^ (n - i) = W at e3 ⊢
    have a1 := Nat.mul_assoc z.natAbs (co G i).natAbs W
    have a2 := Nat.mul_assoc N.natAbs (co F i).natAbs W
    have a3 := Nat.mul_assoc w.natAbs (co a i).natAbs W
    omega
  have s1 := nsum_le n pt
  rw [nsum_mul, nsum_add, nsum_add, nsum_mul, nsum_mul] at s1
  have e1 : t * nsum n (fun i => (if i = 0 then 0 else (co G (i - 1)).natAbs) * (s ^ i * t ^ (n - i))) = s * nsum (n - 1) (fun i => (co G i).natAbs * (s ^ i * t ^ (n - i))) := by
    rw [← nsum_mul, ← nsum_mul, ← nsum_shift (fun i => s * ((co G i).natAbs * (s ^ i * t ^ (n - i)))) (n - 1), show n - 1 + 1 = n by omega]
    apply nsum_congr
    intro i hi
    by_cases h0 : i = 0
    · rw [if_pos h0, if_pos h0]; simp
    · rw [if_neg h0, if_neg h0]
      obtain ⟨j, rfl⟩ : ∃ j, i = j + 1 := ⟨i - 1, by omega⟩
      rw [Nat.add_sub_cancel, Nat.pow_succ, show n - j = (n - (j + 1)) + 1 by omega, Nat.pow_succ]
      generalize s ^ j = A
      generalize t ^ (n - (j + 1)) = B
      generalize (co G j).natAbs = C
      clear s1 pt hr top htop hdom h
      grind
  have e2 : nW s t n G = nsum (n - 1) (fun i => (co G i).natAbs * (s ^ i * t ^ (n - i))) + (co G (n - 1)).natAbs * (s ^ (n - 1) * t) := by
    unfold nW
    obtain ⟨m, rfl⟩ : ∃ m, n = m + 1 := ⟨n - 1, by omega⟩
    simp only [nsum, Nat.add_sub_cancel]
    rw [show m + 1 - m = 1 by omega, Nat.pow_one]
  have e3 : t * (w.natAbs * nsum n (fun i => (co a i).natAbs * (s ^ i * t ^ (n - i)))) ≤ s * ((co G (n - 1)).natAbs * (s ^ (n - 1) * t)) := by
    have := Nat.mul_le_mul_left (t * w.natAbs) hdom
    rw [htop]
    have e4 : s * (w.natAbs * (co a n).natAbs * (s ^ (n - 1) * t)) = t * w.natAbs * ((co a n).natAbs * s ^ n) := by
      obtain ⟨m, rfl⟩ : ∃ m, n = m + 1 := ⟨n - 1, by omega⟩
      rw [Nat.add_sub_cancel, Nat.pow_succ]
      generalize s ^ m = A
      generalize (co a (m + 1)).natAbs = C
      generalize w.natAbs = D
      clear s1 pt hr top htop hdom h e1 e2 this
      grind
    rw [e4, ← Nat.mul_assoc]
    exact this
  have s2 := Nat.mul_le_mul_left t s1
  rw [Nat.mul_add, Nat.mul_add, e1] at s2
  have u1 : nsum n (fun i => (co G i).natAbs * (s ^ i * t ^ (n - i))) = nW s t n G := rfl
  have u2 : nsum n (fun i => (co F i).natAbs * (s ^ i * t ^ (n - i))) = nW s t n F := rfl
  rw [u1, u2] at s2
  rw [e2] at s2 ⊢
  rw [Nat.mul_add s]
  omega
end Coil

set_option linter.all false
namespace Coil
theorem geo (s t : Nat) : ∀ n, s * nsum n (fun i => s ^ i * t ^ (n - i)) + t * t ^ n = t * nsum n (fun i => s ^ i * t ^ (n - i)) + t * s ^ n
  | 0 => by simp [nsum]
  | n + 1 => by
    have ih := geo s t n
    have e : nsum (n + 1) (fun i => s ^ i * t ^ (n + 1 - i)) = t * nsum n (fun i => s ^ i * t ^ (n - i)) + t * s ^ n := by
      simp only [nsum]
      rw [← nsum_mul, show n + 1 - n = 1 by omega, Nat.pow_one, Nat.mul_comm (s ^ n) t]
      congr 1
      apply nsum_congr
      intro i hi
      rw [show n + 1 - i = (n - i) + 1 by omega, Nat.pow_succ]
      generalize s ^ i = A
      generalize t ^ (n - i) = B
      clear ih
      grind
    rw [e, Nat.pow_succ, Nat.pow_succ]
    generalize nsum n (fun i => s ^ i * t ^ (n - i)) = S at *
    generalize s ^ n = A at *
    generalize t ^ n = B at *
    grind
theorem pow_geo (b : Nat) (hb : 1 ≤ b) : ∀ n, nsum n (fun i => (b + 1) ^ i) ≤ (b + 1) ^ n
  | 0 => by simp [nsum]
  | n + 1 => by
    have ih := pow_geo b hb n
    simp only [nsum]
    rw [Nat.pow_succ]
    have : (b + 1) ^ n * 2 ≤ (b + 1) ^ n * (b + 1) := Nat.mul_le_mul_left _ (by omega)
    omega
theorem dominance {H n : Nat} (hH : 1 ≤ H) : H * nsum n (fun i => ((H + 1) * (H + 1) ^ n - 1) ^ i * ((H + 1) ^ n) ^ (n - i)) ≤ ((H + 1) * (H + 1) ^ n - 1) ^ n := by
  have ht : 1 ≤ (H + 1) ^ n := Nat.pow_pos (by omega)
  have hpg := pow_geo H hH n
  generalize hT : (H + 1) ^ n = t at *
  have hs1 : 1 ≤ (H + 1) * t := Nat.le_trans ht (Nat.le_mul_of_pos_left t (by omega))
  have g := geo ((H + 1) * t - 1) t n
  have up : nsum n (fun i => ((H + 1) * t - 1) ^ i * t ^ (n - i)) ≤ t * t ^ n := by
    have h1 : nsum n (fun i => ((H + 1) * t - 1) ^ i * t ^ (n - i)) ≤ nsum n (fun i => t ^ n * (H + 1) ^ i) := by
      apply nsum_le
      intro i hi
      have h2 : ((H + 1) * t - 1) ^ i ≤ ((H + 1) * t) ^ i := Nat.pow_le_pow_left (by omega) i
      have h3 := Nat.mul_le_mul_right (t ^ (n - i)) h2
      refine Nat.le_trans h3 ?_
      rw [Nat.mul_pow]
      have : t ^ n = t ^ i * t ^ (n - i) := by rw [← Nat.pow_add]; congr 1; omega
      rw [this, Nat.mul_assoc, Nat.mul_comm ((H + 1) ^ i)]
      exact Nat.le_refl _
    rw [nsum_mul] at h1
    refine Nat.le_trans h1 ?_
    rw [Nat.mul_comm t]
    exact Nat.mul_le_mul_left _ hpg
  generalize nsum n (fun i => ((H + 1) * t - 1) ^ i * t ^ (n - i)) = S at *
  have g2 : (H + 1) * t * S - S + t * t ^ n = t * S + t * ((H + 1) * t - 1) ^ n := by
    rw [← g, Nat.sub_mul, Nat.one_mul]
  have g3 : S ≤ (H + 1) * t * S := Nat.le_mul_of_pos_left S (by omega)
  have g4 : (H + 1) * t * S = t * (H * S) + t * S := by grind
  have g5 : t * (H * S) ≤ t * ((H + 1) * t - 1) ^ n := by omega
  exact Nat.le_of_mul_le_mul_left g5 (by omega)
/-- some coefficient is not 0 -/
def Nz (p : List Int) : Prop := ∃ i, co p i ≠ 0
theorem ev_far : ∀ p : List Int, Nz p → ∃ B : Int, ∀ x, B < x → ev p x ≠ 0
  | [], ⟨i, h⟩ => absurd (co_nil i) h
  | c :: p, hz => by
    by_cases hp : Nz p
    · obtain ⟨B, hB⟩ := ev_far p hp
      refine ⟨max B (c.natAbs + 1), fun x hx e => ?_⟩
      have h1 := hB x (by omega)
      simp only [ev] at e
      have h2 : (x * ev p x).natAbs = c.natAbs := by
        have : x * ev p x = -c := by omega
        rw [this, Int.natAbs_neg]
      rw [Int.natAbs_mul] at h2
      have h3 : x.natAbs * 1 ≤ x.natAbs * (ev p x).natAbs := Nat.mul_le_mul_left _ (by omega)
      omega
    · have hc : c ≠ 0 := by
        obtain ⟨i, hi⟩ := hz
        cases i with
        | zero => exact hi
        | succ i => rw [co_cons_succ] at hi; exact absurd ⟨i, hi⟩ hp
      refine ⟨0, fun x _ => ?_⟩
      have : ev p x = ev [] x := ev_co (fun i => by rw [co_nil]; exact Decidable.byContradiction fun z => hp ⟨i, z⟩) x
      simp only [ev, this]
      omega
theorem not_nz {p : List Int} (h : ¬ Nz p) (x : Int) : ev p x = 0 := by
  have : ev p x = ev [] x := ev_co (fun i => by rw [co_nil]; exact Decidable.byContradiction fun z => h ⟨i, z⟩) x
  rw [this]; rfl
theorem nz_mul {p q r : List Int} (hp : Nz p) (hq : Nz q) (e : ∀ x, ev r x = ev p x * ev q x) : Nz r := by
  refine Classical.byContradiction fun h => ?_
  obtain ⟨B, hB⟩ := ev_far p hp
  obtain ⟨C, hC⟩ := ev_far q hq
  have h1 := hB (max B C + 1) (by omega)
  have h2 := hC (max B C + 1) (by omega)
  have := e (max B C + 1)
  rw [not_nz h] at this
  rcases Int.mul_eq_zero.mp this.symm with z | z <;> contradiction
theorem mulP_len : ∀ (p q : List Int), 1 ≤ q.length → p ≠ [] → (mulP p q).length = p.length + q.length - 1
  | [], _, _, h => absurd rfl h
  | a :: p, q, hq, _ => by
    by_cases hp : p = []
    · subst hp
      simp only [mulP, addP_len, smul_len, List.length_cons, List.length_nil]; omega
    · have := mulP_len p q hq hp
      simp only [mulP, addP_len, smul_len, List.length_cons, this]
      have : 0 < p.length := List.length_pos_iff.mpr hp
      omega
theorem mulP_len_le (p q : List Int) : (mulP p q).length ≤ p.length + q.length - 1 ∨ q = [] := by
  by_cases hq : q = []
  · exact .inr hq
  · by_cases hp : p = []
    · subst hp; exact .inl (by simp [mulP])
    · exact .inl (Nat.le_of_eq (mulP_len p q (List.length_pos_iff.mpr hq) hp))
theorem nW_pos {s t n : Nat} {F : List Int} (hs : 0 < s) (ht : 0 < t) (hF : F.length ≤ n) (hz : Nz F) : 0 < nW s t n F := by
  refine Decidable.byContradiction fun h => ?_
  obtain ⟨i, hi⟩ := hz
  have hin : i < n := by
    refine Decidable.byContradiction fun q => hi (co_over (by omega))
  have := nsum_zero (show nW s t n F = 0 by omega) i hin
  have w : 0 < s ^ i * t ^ (n - i) := Nat.mul_pos (Nat.pow_pos hs) (Nat.pow_pos ht)
  rcases Nat.mul_eq_zero.mp this with z | z
  · omega
  · omega
/-- one step of the descent -/
theorem descent {a h k : List Int} {n m H : Nat} {z : Int} (hm : 1 ≤ m) (ha : a.length = n + 1) (hh : h.length = m + 1) (hk : k.length + m = n + 1) (hkz : Nz k) (hm0 : co h m ≠ 0) (an : co a n ≠ 0)
    (e : ∀ x, ev a x = ev h x * ev k x) (hH : 1 ≤ H) (hb : ∀ i, (co a i).natAbs ≤ H) (hz : 2 * (H : Int) + 2 ≤ z) (hN : 2 * (ev h z).natAbs ≤ z.natAbs) (hN0 : ev h z ≠ 0) :
    ∀ (c : Nat) (R : List Int), R.length ≤ m → Nz R → nW ((H + 1) * (H + 1) ^ n - 1) ((H + 1) ^ n) n (mulP k R) ≤ c → False := by
  have hn : 0 < n := by
    have : 0 < k.length := by
      refine Decidable.byContradiction fun q => ?_
      obtain ⟨i, hi⟩ := hkz
      exact hi (co_over (by omega))
    omega
  have ht : 1 ≤ (H + 1) ^ n := Nat.pow_pos (by omega)
  have ht2 : 2 ≤ (H + 1) ^ n := by
    have : (H + 1) ^ 1 ≤ (H + 1) ^ n := Nat.pow_le_pow_right (by omega) hn
    rw [Nat.pow_one] at this
    omega
  have hdom : nsum n (fun i => (co a i).natAbs * (((H + 1) * (H + 1) ^ n - 1) ^ i * ((H + 1) ^ n) ^ (n - i))) ≤ (co a n).natAbs * ((H + 1) * (H + 1) ^ n - 1) ^ n := by
    have h1 := nsum_le n (fun i _ => Nat.mul_le_mul_right (((H + 1) * (H + 1) ^ n - 1) ^ i * ((H + 1) ^ n) ^ (n - i)) (hb i))
    rw [nsum_mul] at h1
    refine Nat.le_trans h1 (Nat.le_trans (dominance hH) ?_)
    exact Nat.le_mul_of_pos_left _ (by omega)
  intro c
  induction c with
  | zero =>
    intro R hR hRz hc
    have hF := nz_mul hkz hRz (ev_mul k R)
    have hlen : (mulP k R).length ≤ n := by
      rcases mulP_len_le k R with q | q
      · omega
      · subst q; obtain ⟨i, hi⟩ := hRz; exact absurd (co_nil i) hi
    have hs : 0 < (H + 1) * (H + 1) ^ n - 1 := by
      have : 2 * (H + 1) ^ n ≤ (H + 1) * (H + 1) ^ n := Nat.mul_le_mul_right _ (by omega)
      omega
    have := nW_pos hs (by omega : 0 < (H + 1) ^ n) hlen hF
    omega
  | succ c ih =>
    intro R hR hRz hc
    have hs : 0 < (H + 1) * (H + 1) ^ n - 1 := by
      have : 2 * (H + 1) ^ n ≤ (H + 1) * (H + 1) ^ n := Nat.mul_le_mul_right _ (by omega)
      omega
    have hF := nz_mul hkz hRz (ev_mul k R)
    have hRn : R ≠ [] := by
      intro q; subst q; obtain ⟨i, hi⟩ := hRz; exact hi (co_nil i)
    have hlen : (mulP k R).length ≤ n := by
      rcases mulP_len_le k R with q | q
      · omega
      · exact absurd q hRn
    have hpos := nW_pos hs (by omega : 0 < (H + 1) ^ n) hlen hF
    obtain ⟨R', hl', e'⟩ := synth z (addP (smul (ev h z) R) (smul (-(ev R z)) h))
    have ez : ev (addP (smul (ev h z) R) (smul (-(ev R z)) h)) z = 0 := by
      rw [ev_add, ev_smul, ev_smul]; grind
    rw [ez] at e'
    have hlR' : R'.length ≤ m := by
      rw [hl', addP_len, smul_len, smul_len]; omega
    have hstep : ∀ x, (z - x) * ev R' x = ev h z * ev R x - ev R z * ev h x := by
      intro x
      have := e' x
      rw [ev_add, ev_smul, ev_smul] at this
      grind
    have hR'z : Nz R' := by
      refine Classical.byContradiction fun q => ?_
      have h0 : ∀ x, ev h z * ev R x - ev R z * ev h x = 0 := fun x => by rw [← hstep, not_nz q]; simp
      have hco := fun i => rec_co (F := R) (G := []) (a := h) (z := z) (N := ev h z) (w := ev R z) (fun x => by rw [h0]; simp [ev]) i
      simp only [co_nil] at hco
      have h1 := hco m
      rw [co_over hR] at h1
      have hw : ev R z = 0 := by
        have : ev R z * co h m = 0 := by split at h1 <;> omega
        rcases Int.mul_eq_zero.mp this with y | y
        · exact y
        · exact absurd y hm0
      obtain ⟨i, hi⟩ := hRz
      have h2 := hco i
      rw [hw] at h2
      have : ev h z * co R i = 0 := by split at h2 <;> omega
      rcases Int.mul_eq_zero.mp this with y | y
      · exact hN0 y
      · exact hi y
    refine ih R' hlR' hR'z ?_
    have hR'n : R' ≠ [] := by
      intro q; subst q; obtain ⟨i, hi⟩ := hR'z; exact hi (co_nil i)
    have hlen' : (mulP k R').length ≤ n := by
      rcases mulP_len_le k R' with q | q
      · omega
      · exact absurd q hR'n
    have st := nW_step (s := (H + 1) * (H + 1) ^ n - 1) (t := (H + 1) ^ n) (F := mulP k R) (G := mulP k R') (a := a) (z := z) (N := ev h z) (w := ev R z) hn (fun x => by
      rw [ev_mul, ev_mul, e x]
      have := hstep x
      have : (z - x) * (ev k x * ev R' x) = ev k x * ((z - x) * ev R' x) := by grind
      rw [this, hstep x]; grind) hlen hlen' hdom
    generalize nW ((H + 1) * (H + 1) ^ n - 1) ((H + 1) ^ n) n (mulP k R) = f at *
    generalize nW ((H + 1) * (H + 1) ^ n - 1) ((H + 1) ^ n) n (mulP k R') = g at *
    generalize (H + 1) ^ n = t at *
    -- t z g ≤ t N f + ((H+1) t - 1) g
    refine Decidable.byContradiction fun q => ?_
    have hfg : f ≤ g := by omega
    have hzz : 2 * H + 2 ≤ z.natAbs := by omega
    generalize z.natAbs = Z at *
    generalize (ev h z).natAbs = M at *
    have a1 : t * (M * f) * 2 ≤ t * (Z * f) := by
      have := Nat.mul_le_mul_left t (Nat.mul_le_mul_right f hN)
      have e1 : t * (2 * M * f) = t * (M * f) * 2 := by grind
      omega
    have a2 : t * (Z * f) ≤ t * (Z * g) := Nat.mul_le_mul_left t (Nat.mul_le_mul_left Z hfg)
    have a3 : ((H + 1) * t - 1) * g = (H + 1) * t * g - g := by rw [Nat.sub_mul, Nat.one_mul]
    have a4 : g ≤ (H + 1) * t * g := Nat.le_mul_of_pos_left g (by omega)
    have a5 : (H + 1) * t * g * 2 ≤ t * (Z * g) := by
      have := Nat.mul_le_mul_left t (Nat.mul_le_mul_right g hzz)
      have e1 : t * ((2 * H + 2) * g) = (H + 1) * t * g * 2 := by grind
      omega
    omega
end Coil

set_option linter.all false
namespace Coil
theorem ev_big : ∀ (p : List Int) (H : Nat) (z : Int), p ≠ [] → co p (p.length - 1) ≠ 0 → (∀ i, (co p i).natAbs ≤ H) → 2 * (H : Int) + 2 ≤ z → ev p z ≠ 0
  | [], _, _, h, _, _, _ => absurd rfl h
  | [c], H, z, _, hl, _, _ => by
    simp only [ev]
    simp [co] at hl
    omega
  | c :: d :: t, H, z, _, hl, hb, hz => by
    have ih := ev_big (d :: t) H z (by simp) (by simpa [co] using hl) (fun i => by have := hb (i + 1); rwa [co_cons_succ] at this) hz
    have hc := hb 0
    rw [co_cons_zero] at hc
    intro e
    rw [ev] at e
    have h2 : (z * ev (d :: t) z).natAbs = c.natAbs := by
      have : z * ev (d :: t) z = -c := by omega
      rw [this, Int.natAbs_neg]
    rw [Int.natAbs_mul] at h2
    have h3 : z.natAbs * 1 ≤ z.natAbs * (ev (d :: t) z).natAbs := Nat.mul_le_mul_left _ (by omega)
    omega
theorem root_bd {a h k : List Int} {n m H : Nat} {z : Int} (hm : 1 ≤ m) (ha : a.length = n + 1) (hh : h.length = m + 1) (hk : k.length + m = n + 1) (hkz : Nz k) (hm0 : co h m ≠ 0) (an : co a n ≠ 0)
    (e : ∀ x, ev a x = ev h x * ev k x) (hH : 1 ≤ H) (hb : ∀ i, (co a i).natAbs ≤ H) (hz : 2 * (H : Int) + 2 ≤ z) : z.natAbs < 2 * (ev h z).natAbs := by
  refine Decidable.byContradiction fun q => ?_
  have h0 : ev a z ≠ 0 := ev_big a H z (by intro y; rw [y] at ha; simp at ha) (by rw [ha]; exact an) hb hz
  have hN0 : ev h z ≠ 0 := by
    intro y
    rw [e, y] at h0
    simp at h0
  exact descent hm ha hh hk hkz hm0 an e hH hb hz (by omega) hN0 _ [1] (by simpa using hm) ⟨0, by simp [co]⟩ (Nat.le_refl _)
/-! ### trimming -/
def trimZ : List Int → List Int
  | [] => []
  | c :: p => if trimZ p = [] ∧ c = 0 then [] else c :: trimZ p
theorem co_trimZ : ∀ (p : List Int) (i : Nat), co (trimZ p) i = co p i
  | [], _ => rfl
  | c :: p, i => by
    have ih := co_trimZ p
    unfold trimZ
    split
    · rename_i h
      cases i with
      | zero => rw [co_nil, co_cons_zero, h.2]
      | succ i => rw [co_nil, co_cons_succ, ← ih, h.1, co_nil]
    · cases i with
      | zero => rfl
      | succ i => rw [co_cons_succ, co_cons_succ, ih]
theorem nm_trimZ : ∀ p : List Int, Nm (trimZ p)
  | [] => .inl rfl
  | c :: p => by
    have ih := nm_trimZ p
    unfold trimZ
    split
    · exact .inl rfl
    · rename_i h
      right
      rcases ih with q | q
      · rw [q] at h ⊢
        simp only [true_and] at h
        simpa [co] using h
      · cases hp : trimZ p with
        | nil =>
          rw [hp] at h
          simp only [true_and] at h
          simpa [co] using h
        | cons d t =>
          rw [hp] at q
          simpa [co] using q
theorem trimZ_len : ∀ p : List Int, (trimZ p).length ≤ p.length
  | [] => Nat.le_refl _
  | c :: p => by
    have := trimZ_len p
    unfold trimZ
    split <;> simp <;> omega
theorem ev_trimZ (p : List Int) (x : Int) : ev (trimZ p) x = ev p x := ev_co (co_trimZ p) x
theorem Nz.len {p : List Int} (h : Nz p) : 0 < p.length := by
  obtain ⟨i, hi⟩ := h
  refine Decidable.byContradiction fun q => hi (co_over (by omega))
theorem nz_of_nm {p : List Int} (h : Nm p) (hn : p ≠ []) : Nz p := by
  rcases h with h | h
  · exact absurd h hn
  · exact ⟨_, h⟩
theorem trimZ_short {p : List Int} {n : Nat} (h : ∀ i, n ≤ i → co p i = 0) : (trimZ p).length ≤ n := by
  rcases nm_trimZ p with q | q
  · rw [q]; exact Nat.zero_le _
  · refine Decidable.byContradiction fun y => q ?_
    rw [co_trimZ]
    exact h _ (by omega)
/-! ### Euclid, with whole numbers -/
structure Bez (a b : List Int) where
  g : List Int
  nz : Nz g
  u : List Int
  v : List Int
  comb : ∀ x, ev g x = ev u x * ev a x + ev v x * ev b x
  s : Int
  s0 : s ≠ 0
  a1 : List Int
  ea : ∀ x, s * ev a x = ev g x * ev a1 x
  t : Int
  t0 : t ≠ 0
  b1 : List Int
  eb : ∀ x, t * ev b x = ev g x * ev b1 x
def shiftP : Nat → List Int → List Int
  | 0, p => p
  | n + 1, p => 0 :: shiftP n p
theorem ev_shift : ∀ (n : Nat) (p : List Int) (x : Int), ev (shiftP n p) x = x ^ n * ev p x
  | 0, p, x => by simp [shiftP]
  | n + 1, p, x => by
    simp only [shiftP, ev, ev_shift n p x, Int.pow_succ]; grind
theorem co_shiftP : ∀ (n : Nat) (p : List Int) (i : Nat), co (shiftP n p) i = if i < n then 0 else co p (i - n)
  | 0, p, i => by simp [shiftP]
  | n + 1, p, i => by
    simp only [shiftP, co_shift]
    by_cases h0 : i = 0
    · subst h0; simp
    · rw [if_neg h0, co_shiftP n p (i - 1)]
      by_cases h1 : i - 1 < n
      · rw [if_pos h1, if_pos (by omega)]
      · rw [if_neg h1, if_neg (by omega), show i - 1 - n = i - (n + 1) by omega]
theorem nz_congr {p q : List Int} (e : ∀ i, co p i = co q i) (h : Nz p) : Nz q := by
  obtain ⟨i, hi⟩ := h
  exact ⟨i, by rw [← e]; exact hi⟩
theorem euclid : ∀ (c : Nat) (a b : List Int), Nm a → Nm b → (a ≠ [] ∨ b ≠ []) → a.length + b.length ≤ c → Nonempty (Bez a b)
  | c, [], b, _, hb, h, _ => by
    have hbn : b ≠ [] := by rcases h with h | h; exact absurd rfl h; exact h
    exact ⟨⟨b, nz_of_nm hb hbn, [], [1], fun x => by simp [ev], 1, by decide, [], fun x => by simp [ev], 1, by decide, [1], fun x => by simp [ev]⟩⟩
  | c, a :: a', [], ha, _, _, _ =>
    ⟨⟨a :: a', nz_of_nm ha (by simp), [1], [], fun x => by simp [ev], 1, by decide, [1], fun x => by simp [ev], 1, by decide, [], fun x => by simp [ev]⟩⟩
  | 0, a :: a', b :: b', _, _, _, h => by simp at h
  | c + 1, a :: a', b :: b', ha, hb, _, hc => by
    have la : co (a :: a') ((a :: a').length - 1) ≠ 0 := by rcases ha with h | h; cases h; exact h
    have lb : co (b :: b') ((b :: b').length - 1) ≠ 0 := by rcases hb with h | h; cases h; exact h
    generalize hA : a :: a' = A at *
    generalize hB : b :: b' = B at *
    have hAl : 0 < A.length := by rw [← hA]; simp
    have hBl : 0 < B.length := by rw [← hB]; simp
    have hAn : A ≠ [] := by rw [← hA]; simp
    have hBn : B ≠ [] := by rw [← hB]; simp
    by_cases hle : B.length ≤ A.length
    · -- a loses its lead
      have er : ∀ x, ev (trimZ (addP (smul (co B (B.length - 1)) A) (smul (-(co A (A.length - 1))) (shiftP (A.length - B.length) B)))) x = co B (B.length - 1) * ev A x - co A (A.length - 1) * (x ^ (A.length - B.length) * ev B x) := by
        intro x
        rw [ev_trimZ, ev_add, ev_smul, ev_smul, ev_shift]; grind
      have hl : (trimZ (addP (smul (co B (B.length - 1)) A) (smul (-(co A (A.length - 1))) (shiftP (A.length - B.length) B)))).length ≤ A.length - 1 := by
        apply trimZ_short
        intro i hi
        rw [co_add, co_smul, co_smul, co_shiftP]
        by_cases h1 : i = A.length - 1
        · subst h1
          rw [if_neg (by omega), show A.length - 1 - (A.length - B.length) = B.length - 1 by omega]; grind
        · rw [co_over (p := A) (i := i) (by omega), if_neg (show ¬ i < A.length - B.length by omega), co_over (p := B) (i := i - (A.length - B.length)) (by omega)]; simp
      have hnm := nm_trimZ (addP (smul (co B (B.length - 1)) A) (smul (-(co A (A.length - 1))) (shiftP (A.length - B.length) B)))
      generalize trimZ (addP (smul (co B (B.length - 1)) A) (smul (-(co A (A.length - 1))) (shiftP (A.length - B.length) B))) = r at er hl hnm
      obtain ⟨⟨g, nz, u, v, comb, s, s0, a1, ea, t, t0, b1, eb⟩⟩ := euclid c r B hnm hb (.inr hBn) (by omega)
      refine ⟨⟨g, nz, smul (co B (B.length - 1)) u, addP v (smul (-(co A (A.length - 1))) (mulP u (shiftP (A.length - B.length) [1]))), fun x => ?_, s * t * co B (B.length - 1), Int.mul_ne_zero (Int.mul_ne_zero s0 t0) lb,
        addP (smul t a1) (smul (s * co A (A.length - 1)) (mulP (shiftP (A.length - B.length) [1]) b1)), fun x => ?_, t, t0, b1, eb⟩⟩
      · rw [comb x, er x, ev_add, ev_smul, ev_smul, ev_mul, ev_shift]
        simp only [ev]
        generalize x ^ (A.length - B.length) = y
        clear er hl ea eb comb
        grind
      · have h1 := ea x
        have h2 := eb x
        rw [er x] at h1
        rw [ev_add, ev_smul, ev_smul, ev_mul, ev_shift]
        simp only [ev]
        generalize x ^ (A.length - B.length) = y at *
        generalize co B (B.length - 1) = p at *
        generalize co A (A.length - 1) = q at *
        generalize ev A x = eA at *
        generalize ev B x = eB at *
        generalize ev g x = eg at *
        generalize ev a1 x = x1 at *
        generalize ev b1 x = x2 at *
        have : s * t * p * eA = t * (s * (p * eA - q * (y * eB))) + s * q * y * (t * eB) := by clear h1 h2 er hl ea eb comb; grind
        rw [this, h1, h2]
        clear h1 h2 er hl ea eb comb this
        grind
    · -- b loses its lead
      have er : ∀ x, ev (trimZ (addP (smul (co A (A.length - 1)) B) (smul (-(co B (B.length - 1))) (shiftP (B.length - A.length) A)))) x = co A (A.length - 1) * ev B x - co B (B.length - 1) * (x ^ (B.length - A.length) * ev A x) := by
        intro x
        rw [ev_trimZ, ev_add, ev_smul, ev_smul, ev_shift]; grind
      have hl : (trimZ (addP (smul (co A (A.length - 1)) B) (smul (-(co B (B.length - 1))) (shiftP (B.length - A.length) A)))).length ≤ B.length - 1 := by
        apply trimZ_short
        intro i hi
        rw [co_add, co_smul, co_smul, co_shiftP]
        by_cases h1 : i = B.length - 1
        · subst h1
          rw [if_neg (by omega), show B.length - 1 - (B.length - A.length) = A.length - 1 by omega]; grind
        · rw [co_over (p := B) (i := i) (by omega), if_neg (show ¬ i < B.length - A.length by omega), co_over (p := A) (i := i - (B.length - A.length)) (by omega)]; simp
      have hnm := nm_trimZ (addP (smul (co A (A.length - 1)) B) (smul (-(co B (B.length - 1))) (shiftP (B.length - A.length) A)))
      generalize trimZ (addP (smul (co A (A.length - 1)) B) (smul (-(co B (B.length - 1))) (shiftP (B.length - A.length) A))) = r at er hl hnm
      obtain ⟨⟨g, nz, u, v, comb, s, s0, a1, ea, t, t0, b1, eb⟩⟩ := euclid c A r ha hnm (.inl hAn) (by omega)
      refine ⟨⟨g, nz, addP u (smul (-(co B (B.length - 1))) (mulP v (shiftP (B.length - A.length) [1]))), smul (co A (A.length - 1)) v, fun x => ?_, s, s0, a1, ea, s * t * co A (A.length - 1), Int.mul_ne_zero (Int.mul_ne_zero s0 t0) la,
        addP (smul s b1) (smul (t * co B (B.length - 1)) (mulP (shiftP (B.length - A.length) [1]) a1)), fun x => ?_⟩⟩
      · rw [comb x, er x, ev_add, ev_smul, ev_smul, ev_mul, ev_shift]
        simp only [ev]
        generalize x ^ (B.length - A.length) = y
        clear er hl ea eb comb
        grind
      · have h1 := ea x
        have h2 := eb x
        rw [er x] at h2
        rw [ev_add, ev_smul, ev_smul, ev_mul, ev_shift]
        simp only [ev]
        generalize x ^ (B.length - A.length) = y at *
        generalize co B (B.length - 1) = p at *
        generalize co A (A.length - 1) = q at *
        generalize ev A x = eA at *
        generalize ev B x = eB at *
        generalize ev g x = eg at *
        generalize ev a1 x = x1 at *
        generalize ev b1 x = x2 at *
        have : s * t * q * eB = s * (t * (q * eB - p * (y * eA))) + t * p * y * (s * eA) := by clear h1 h2 er hl ea eb comb; grind
        rw [this, h1, h2]
        clear h1 h2 er hl ea eb comb this
        grind
end Coil

set_option linter.all false
namespace Coil
/-! ### primes and the content of a product -/
def PrimeN (p : Nat) : Prop := 2 ≤ p ∧ ∀ a b : Nat, p ∣ a * b → p ∣ a ∨ p ∣ b
theorem prime_least (n : Nat) (hn : 2 ≤ n) : ∀ (k p : Nat), p + k = n → 2 ≤ p → (∀ q, 2 ≤ q → q < p → ¬ q ∣ n) → ∃ p, PrimeN p ∧ p ∣ n
  | 0, p, h, h2, hmin => by
    have hp : p = n := by omega
    subst hp
    refine ⟨p, ⟨h2, fun a b hab => ?_⟩, Nat.dvd_refl p⟩
    by_cases ha : p ∣ a
    · exact .inl ha
    · right
      have hg : Nat.gcd p a = 1 := by
        have h1 := Nat.gcd_dvd_left p a
        have h0 := Nat.gcd_pos_of_pos_left a (by omega : 0 < p)
        refine Decidable.byContradiction fun y => ?_
        by_cases hlt : Nat.gcd p a < p
        · exact hmin _ (by omega) hlt h1
        · have : Nat.gcd p a = p := Nat.le_antisymm (Nat.le_of_dvd (by omega) h1) (by omega)
          exact ha (this ▸ Nat.gcd_dvd_right p a)
      exact Nat.Coprime.dvd_of_dvd_mul_left hg hab
  | k + 1, p, h, h2, hmin => by
    by_cases hd : p ∣ n
    · refine ⟨p, ⟨h2, fun a b hab => ?_⟩, hd⟩
      by_cases ha : p ∣ a
      · exact .inl ha
      · right
        have hg : Nat.gcd p a = 1 := by
          have h1 := Nat.gcd_dvd_left p a
          have h0 := Nat.gcd_pos_of_pos_left a (by omega : 0 < p)
          refine Decidable.byContradiction fun y => ?_
          by_cases hlt : Nat.gcd p a < p
          · exact hmin _ (by omega) hlt (Nat.dvd_trans h1 hd)
          · have : Nat.gcd p a = p := Nat.le_antisymm (Nat.le_of_dvd (by omega) h1) (by omega)
            exact ha (this ▸ Nat.gcd_dvd_right p a)
        exact Nat.Coprime.dvd_of_dvd_mul_left hg hab
    · exact prime_least n hn k (p + 1) (by omega) (by omega) (fun q h3 h4 => by
        by_cases e : q = p
        · subst e; exact hd
        · exact hmin q h3 (by omega))
theorem prime_ex {n : Nat} (hn : 2 ≤ n) : ∃ p, PrimeN p ∧ p ∣ n := prime_least n hn (n - 2) 2 (by omega) (by omega) (fun q h1 h2 => by omega)
theorem PrimeN.int {p : Nat} (h : PrimeN p) {a b : Int} (hab : (p : Int) ∣ a * b) : (p : Int) ∣ a ∨ (p : Int) ∣ b := by
  have h1 : p ∣ a.natAbs * b.natAbs := by
    rw [← Int.natAbs_mul]
    exact Int.ofNat_dvd_left.mp hab
  rcases h.2 _ _ h1 with q | q
  · exact .inl (Int.ofNat_dvd_left.mpr q)
  · exact .inr (Int.ofNat_dvd_left.mpr q)
/-- all coefficients -/
def DvA (d : Int) (p : List Int) : Prop := ∀ i, d ∣ co p i
theorem co_mul_left (c : Int) (p q : List Int) (i : Nat) : co (mulP (c :: p) q) i = c * co q i + (if i = 0 then 0 else co (mulP p q) (i - 1)) := by
  simp only [mulP, co_add, co_smul, co_shift]
theorem co_mul_right (d : Int) (p q : List Int) (i : Nat) : co (mulP p (d :: q)) i = d * co p i + (if i = 0 then 0 else co (mulP p q) (i - 1)) := by
  have e := ev_ext (mulP p (d :: q)) (addP (smul d p) (0 :: mulP p q)) 0 (fun x _ => by
    simp only [ev_mul, ev_add, ev_smul, ev]; grind) i
  rw [e]
  simp only [co_add, co_smul, co_shift]
theorem gauss_p {p : Nat} (hp : PrimeN p) : ∀ (n : Nat) (g w : List Int), g.length + w.length ≤ n → DvA p (mulP g w) → DvA p g ∨ DvA p w
  | _, [], _, _, _ => .inl fun i => by rw [co_nil]; exact Int.dvd_zero _
  | _, _ :: _, [], _, _ => .inr fun i => by rw [co_nil]; exact Int.dvd_zero _
  | 0, _ :: _, _ :: _, h, _ => by simp at h
  | n + 1, c :: g, d :: w, h, hd => by
    simp only [List.length_cons] at h
    by_cases hc : (p : Int) ∣ c
    · have h1 : DvA p (mulP g (d :: w)) := by
        intro i
        have := hd (i + 1)
        rw [co_mul_left, if_neg (by omega), Nat.add_sub_cancel] at this
        exact (Int.dvd_add_right (Int.dvd_trans hc (Int.dvd_mul_right c _))).mp this
      rcases gauss_p hp n g (d :: w) (by simp only [List.length_cons]; omega) h1 with q | q
      · left
        intro i
        cases i with
        | zero => exact hc
        | succ i => rw [co_cons_succ]; exact q i
      · exact .inr q
    · by_cases hdd : (p : Int) ∣ d
      · have h1 : DvA p (mulP (c :: g) w) := by
          intro i
          have := hd (i + 1)
          rw [co_mul_right, if_neg (by omega), Nat.add_sub_cancel] at this
          exact (Int.dvd_add_right (Int.dvd_trans hdd (Int.dvd_mul_right d _))).mp this
        rcases gauss_p hp n (c :: g) w (by simp only [List.length_cons]; omega) h1 with q | q
        · exact .inl q
        · right
          intro i
          cases i with
          | zero => exact hdd
          | succ i => rw [co_cons_succ]; exact q i
      · have := hd 0
        rw [co_mul_left, if_pos rfl, co_cons_zero, Int.add_zero] at this
        rcases hp.int this with q | q
        · exact absurd q hc
        · exact absurd q hdd
def Prim (g : List Int) : Prop := ∀ p : Nat, 2 ≤ p → ¬ DvA p g
/-- a polynomial divided by a number that divides all its coefficients -/
def sdiv (p : List Int) (d : Int) : List Int := p.map (· / d)
theorem co_sdiv {p : List Int} {d : Int} (h : DvA d p) (i : Nat) : d * co (sdiv p d) i = co p i := by
  have e : co (sdiv p d) i = co p i / d := by
    unfold co sdiv
    rw [List.getD_eq_getElem?_getD, List.getElem?_map, List.getD_eq_getElem?_getD]
    cases p[i]? <;> simp
  rw [e]
  exact Int.mul_ediv_cancel' (h i)
theorem ev_sdiv {p : List Int} {d : Int} (h : DvA d p) (x : Int) : d * ev (sdiv p d) x = ev p x := by
  rw [← ev_smul]
  exact ev_co (fun i => by rw [co_smul, co_sdiv h]) x
/-- what a primitive polynomial divides up to a number it divides -/
theorem gauss : ∀ (n : Nat) (s : Nat), s ≤ n → 0 < s → ∀ (g w a : List Int), Prim g → (∀ x, (s : Int) * ev a x = ev g x * ev w x) → ∃ w' : List Int, ∀ x, ev a x = ev g x * ev w' x
  | 0, s, h, h0, _, _, _, _, _ => by omega
  | n + 1, s, h, h0, g, w, a, hg, e => by
    by_cases h1 : s = 1
    · subst h1
      exact ⟨w, fun x => by have := e x; simpa using this⟩
    · obtain ⟨p, hp, t, ht⟩ := prime_ex (n := s) (by omega)
      have hpp := hp.1
      have hd : DvA p (mulP g w) := by
        intro i
        have := ev_ext (mulP g w) (smul s a) 0 (fun x _ => by rw [ev_mul, ev_smul, e x]) i
        rw [this, co_smul, ht, Int.natCast_mul, Int.mul_assoc]
        exact Int.dvd_mul_right _ _
      have hw : DvA p w := by
        rcases gauss_p hp _ g w (Nat.le_refl _) hd with q | q
        · exact absurd q (hg p hpp)
        · exact q
      have htpos : 0 < t := by
        refine Decidable.byContradiction fun q => ?_
        have : t = 0 := by omega
        subst this
        simp at ht; omega
      have hts : t < s := by
        have : 2 * t ≤ p * t := Nat.mul_le_mul_right t hpp
        omega
      refine gauss n t (by omega) htpos g (sdiv w p) a hg fun x => ?_
      have e1 := e x
      rw [ht, Int.natCast_mul, ← ev_sdiv hw x] at e1
      have : (p : Int) * ((t : Int) * ev a x - ev g x * ev (sdiv w p) x) = 0 := by grind
      rcases Int.mul_eq_zero.mp this with q | q
      · omega
      · omega
theorem gauss_int {s : Int} (hs : s ≠ 0) {g w a : List Int} (hg : Prim g) (e : ∀ x, s * ev a x = ev g x * ev w x) : ∃ w' : List Int, ∀ x, ev a x = ev g x * ev w' x := by
  rcases Int.lt_trichotomy s 0 with h | h | h
  · obtain ⟨w', hw⟩ := gauss s.natAbs s.natAbs (Nat.le_refl _) (by omega) g (smul (-1) w) a hg (fun x => by
      have := e x
      rw [ev_smul, show ((s.natAbs : Nat) : Int) = -s by omega]
      grind)
    exact ⟨w', hw⟩
  · exact absurd h hs
  · obtain ⟨w', hw⟩ := gauss s.natAbs s.natAbs (Nat.le_refl _) (by omega) g w a hg (fun x => by
      have := e x
      rw [show ((s.natAbs : Nat) : Int) = s by omega]; exact this)
    exact ⟨w', hw⟩
/-! ### content -/
theorem gcd_greatest (d : Int) : ∀ (ns : List Int) (g : Int), d ∣ g → (∀ n ∈ ns, d ∣ n) → d ∣ ns.foldl (fun g n => ((Nat.gcd g.natAbs n.natAbs : Nat) : Int)) g
  | [], _, h, _ => h
  | n :: ns, g, h, hn => by
    refine gcd_greatest d ns _ ?_ (fun m hm => hn m (List.mem_cons_of_mem _ hm))
    have h1 := Int.natAbs_dvd_natAbs.mpr h
    have h2 := Int.natAbs_dvd_natAbs.mpr (hn n List.mem_cons_self)
    exact Int.natAbs_dvd.mp (Int.ofNat_dvd.mpr (Nat.dvd_gcd h1 h2))
theorem gcdL_dvd {ns : List Int} (i : Nat) : gcdL ns ∣ co ns i := by
  unfold co
  rw [List.getD_eq_getElem?_getD]
  cases e : ns[i]? with
  | none => exact Int.dvd_zero _
  | some n => exact (gcd_dvd ns 0).2 n (List.mem_of_getElem? e)
theorem dvd_gcdL {d : Int} {ns : List Int} (h : DvA d ns) : d ∣ gcdL ns := by
  refine gcd_greatest d ns 0 (Int.dvd_zero _) fun n hn => ?_
  obtain ⟨i, hi, rfl⟩ := List.getElem_of_mem hn
  have := h i
  unfold co at this
  rw [List.getD_eq_getElem?_getD, List.getElem?_eq_getElem hi] at this
  exact this
theorem gcdL_nonneg (ns : List Int) : 0 ≤ gcdL ns := by
  have : ∀ (l : List Int) (g : Int), 0 ≤ g → 0 ≤ l.foldl (fun g n => ((Nat.gcd g.natAbs n.natAbs : Nat) : Int)) g := by
    intro l
    induction l with
    | nil => intro g h; exact h
    | cons n l ih => intro g _; exact ih _ (Int.natCast_nonneg _)
  exact this ns 0 (Int.le_refl 0)
theorem gcdL_pos {ns : List Int} (h : Nz ns) : 0 < gcdL ns := by
  have h0 := gcdL_nonneg ns
  refine Decidable.byContradiction fun q => ?_
  have e : gcdL ns = 0 := by omega
  obtain ⟨i, hi⟩ := h
  have := gcdL_dvd (ns := ns) i
  rw [e] at this
  exact hi (Int.zero_dvd.mp this)
/-- a polynomial without its content -/
def ppart (ns : List Int) : List Int := sdiv ns (gcdL ns)
theorem ev_ppart (ns : List Int) (x : Int) : gcdL ns * ev (ppart ns) x = ev ns x := ev_sdiv gcdL_dvd x
theorem co_ppart (ns : List Int) (i : Nat) : gcdL ns * co (ppart ns) i = co ns i := co_sdiv gcdL_dvd i
theorem prim_ppart {ns : List Int} (h : Nz ns) : Prim (ppart ns) := by
  intro p hp hd
  have hg := gcdL_pos h
  have : (gcdL ns * p) ∣ gcdL ns := dvd_gcdL fun i => by
    rw [← co_ppart]
    exact Int.mul_dvd_mul_left _ (hd i)
  have h1 := Int.le_of_dvd hg this
  have h2 : gcdL ns * 2 ≤ gcdL ns * p := Int.mul_le_mul_of_nonneg_left (by omega) (by omega)
  omega
theorem ppart_len (ns : List Int) : (ppart ns).length = ns.length := by simp [ppart, sdiv]
theorem nz_ppart {ns : List Int} (h : Nz ns) : Nz (ppart ns) := by
  obtain ⟨i, hi⟩ := h
  refine ⟨i, fun q => hi ?_⟩
  rw [← co_ppart, q]; simp
end Coil

set_option linter.all false
namespace Coil
theorem mulP_top : ∀ (p q : List Int), p ≠ [] → q ≠ [] → co (mulP p q) (p.length + q.length - 2) = co p (p.length - 1) * co q (q.length - 1)
  | [], _, h, _ => absurd rfl h
  | c :: p, q, _, hq => by
    have hql : 0 < q.length := List.length_pos_iff.mpr hq
    rw [co_mul_left]
    by_cases hp : p = []
    · subst hp
      simp only [List.length_cons, List.length_nil, mulP, co_nil]
      rw [show 0 + 1 + q.length - 2 = q.length - 1 by omega]
      simp [co]
    · have ih := mulP_top p q hp hq
      have hpl : 0 < p.length := List.length_pos_iff.mpr hp
      rw [if_neg (by simp only [List.length_cons]; omega), co_over (p := q) (by simp only [List.length_cons]; omega)]
      simp only [List.length_cons]
      rw [show p.length + 1 + q.length - 2 - 1 = p.length + q.length - 2 by omega, ih]
      have : co (c :: p) (p.length + 1 - 1) = co p (p.length - 1) := by
        rw [show p.length + 1 - 1 = (p.length - 1) + 1 by omega, co_cons_succ]
      rw [this]; omega
theorem nm_mulP {p q : List Int} (hp : Nm p) (hq : Nm q) (hpn : p ≠ []) (hqn : q ≠ []) : Nm (mulP p q) ∧ (mulP p q).length = p.length + q.length - 1 := by
  have hl := mulP_len p q (List.length_pos_iff.mpr hqn) hpn
  refine ⟨.inr ?_, hl⟩
  rw [hl, show p.length + q.length - 1 - 1 = p.length + q.length - 2 by omega, mulP_top p q hpn hqn]
  rcases hp with h | h
  · exact absurd h hpn
  · rcases hq with h2 | h2
    · exact absurd h2 hqn
    · exact Int.mul_ne_zero h h2
theorem len_mul {a p q : List Int} (ha : Nm a) (hp : Nm p) (hq : Nm q) (hpn : p ≠ []) (hqn : q ≠ []) (e : ∀ x, ev a x = ev p x * ev q x) : a.length = p.length + q.length - 1 := by
  obtain ⟨h1, h2⟩ := nm_mulP hp hq hpn hqn
  rw [← h2]
  exact nm_len ha h1 (ev_ext a (mulP p q) 0 fun x _ => by rw [e, ev_mul])
theorem ev_cancel {g p q : List Int} (hg : Nz g) (e : ∀ x, ev g x * ev p x = ev g x * ev q x) (x : Int) : ev p x = ev q x := by
  obtain ⟨B, hB⟩ := ev_far g hg
  refine ev_co (ev_ext p q B fun y hy => ?_) x
  have := e y
  have h : ev g y * (ev p y - ev q y) = 0 := by grind
  rcases Int.mul_eq_zero.mp h with z | z
  · exact absurd z (hB y hy)
  · omega
theorem nz_iff {p : List Int} (h : Nm p) : Nz p ↔ p ≠ [] := ⟨fun hz e => by subst e; obtain ⟨i, hi⟩ := hz; exact hi (co_nil i), nz_of_nm h⟩
/-- the greatest common divisor, with what is left, and a sum of these that is a number -/
structure Gcd (a b g p q : List Int) : Prop where
  prim : Prim g
  nz : Nz g
  ea : ∀ x, ev a x = ev g x * ev p x
  eb : ∀ x, ev b x = ev g x * ev q x
  bez : ∃ (u v : List Int) (c : Int), c ≠ 0 ∧ ∀ x, ev u x * ev p x + ev v x * ev q x = c
theorem true_gcd {a b : List Int} (h : Nz a ∨ Nz b) : ∃ g p q, Gcd a b g p q := by
  have h' : trimZ a ≠ [] ∨ trimZ b ≠ [] := by
    rcases h with h | h
    · exact .inl ((nz_iff (nm_trimZ a)).mp (nz_congr (fun i => (co_trimZ a i).symm) h))
    · exact .inr ((nz_iff (nm_trimZ b)).mp (nz_congr (fun i => (co_trimZ b i).symm) h))
  obtain ⟨⟨g, nz, u, v, comb, s, s0, a1, ea, t, t0, b1, eb⟩⟩ := euclid _ (trimZ a) (trimZ b) (nm_trimZ a) (nm_trimZ b) h' (Nat.le_refl _)
  have hp := prim_ppart nz
  have hz := nz_ppart nz
  obtain ⟨p, ep⟩ := gauss_int s0 (g := ppart g) (w := smul (gcdL g) a1) (a := a) hp (fun x => by
    have := ea x
    rw [ev_trimZ, ← ev_ppart g x] at this
    rw [ev_smul]; grind)
  obtain ⟨q, eq⟩ := gauss_int t0 (g := ppart g) (w := smul (gcdL g) b1) (a := b) hp (fun x => by
    have := eb x
    rw [ev_trimZ, ← ev_ppart g x] at this
    rw [ev_smul]; grind)
  refine ⟨ppart g, p, q, hp, hz, ep, eq, u, v, gcdL g, by have := gcdL_pos nz; omega, fun x => ?_⟩
  have := ev_cancel hz (p := addP (mulP u p) (mulP v q)) (q := [gcdL g]) (fun x => by
    have h1 := comb x
    rw [ev_trimZ, ev_trimZ, ep x, eq x, ← ev_ppart g x] at h1
    rw [ev_add, ev_mul, ev_mul]
    simp only [ev]
    grind) x
  rw [ev_add, ev_mul, ev_mul] at this
  rw [this]
  simp [ev]
/-- what the heuristic accepts is the greatest one -/
theorem accept {a b f p q : List Int} {z c : Int} {H : Nat} (ha : Nm a) (han : a ≠ []) (hH : 1 ≤ H) (hb : ∀ i, (co a i).natAbs ≤ H) (hz : 2 * (H : Int) + 2 ≤ z)
    (ea : ∀ x, ev a x = ev f x * ev p x) (eb : ∀ x, ev b x = ev f x * ev q x) (hf : Nz f) (hc : 0 < c) (hcz : ∀ i, 2 * (c * co f i).natAbs ≤ z.natAbs)
    (hg : c * ev f z = ((Nat.gcd (ev a z).natAbs (ev b z).natAbs : Nat) : Int)) : ∃ (u v : List Int) (r : Int), r ≠ 0 ∧ ∀ x, ev u x * ev p x + ev v x * ev q x = r := by
  have haz : Nz a := nz_of_nm ha han
  have hpz : Nz p := by
    refine Classical.byContradiction fun y => ?_
    obtain ⟨B, hB⟩ := ev_far a haz
    have := hB (B + 1) (by omega)
    rw [ea, not_nz y] at this
    simp at this
  obtain ⟨h, p1, q1, hprim, hnz, e1, e2, u, v, r, r0, hr⟩ := true_gcd (b := q) (.inl hpz)
  have hth : trimZ h ≠ [] := (nz_iff (nm_trimZ h)).mp (nz_congr (fun i => (co_trimZ h i).symm) hnz)
  have hp1z : Nz p1 := by
    refine Classical.byContradiction fun y => ?_
    obtain ⟨B, hB⟩ := ev_far p hpz
    have := hB (B + 1) (by omega)
    rw [e1, not_nz y] at this
    simp at this
  -- a = h (f p1)
  have hk : Nz (mulP f p1) := nz_mul hf hp1z (ev_mul f p1)
  have htk : trimZ (mulP f p1) ≠ [] := (nz_iff (nm_trimZ _)).mp (nz_congr (fun i => (co_trimZ _ i).symm) hk)
  have ehk : ∀ x, ev a x = ev (trimZ h) x * ev (trimZ (mulP f p1)) x := fun x => by
    rw [ev_trimZ, ev_trimZ, ev_mul, ea, e1]; grind
  have hl := len_mul ha (nm_trimZ h) (nm_trimZ (mulP f p1)) hth htk ehk
  have hl1 : 0 < (trimZ h).length := List.length_pos_iff.mpr hth
  have hl2 : 0 < (trimZ (mulP f p1)).length := List.length_pos_iff.mpr htk
  have lead : ∀ {w : List Int}, Nm w → w ≠ [] → co w (w.length - 1) ≠ 0 := fun {w} h1 h2 => by
    rcases h1 with y | y
    · exact absurd y h2
    · exact y
  have hm : (trimZ h).length = 1 := by
    refine Decidable.byContradiction fun y => ?_
    have hbig := root_bd (a := a) (h := trimZ h) (k := trimZ (mulP f p1)) (n := a.length - 1) (m := (trimZ h).length - 1) (H := H) (z := z) (by omega) (by omega) (by omega) (by omega)
      (nz_of_nm (nm_trimZ _) htk) (lead (nm_trimZ h) hth) (lead ha han) ehk hH hb hz
    rw [ev_trimZ] at hbig
    have haz' : ev a z ≠ 0 := ev_big a H z han (lead ha han) hb hz
    have hfz : ev f z ≠ 0 := fun y => haz' (by rw [ea, y]; simp)
    have hpz' : ev p z ≠ 0 := fun y => haz' (by rw [ea, y]; simp)
    have hgcd : Nat.gcd (ev a z).natAbs (ev b z).natAbs = (ev f z).natAbs * Nat.gcd (ev p z).natAbs (ev q z).natAbs := by
      rw [ea, eb, Int.natAbs_mul, Int.natAbs_mul, Nat.gcd_mul_left]
    rw [hgcd] at hg
    have hce : c.natAbs = Nat.gcd (ev p z).natAbs (ev q z).natAbs := by
      have h1 := congrArg Int.natAbs hg
      rw [Int.natAbs_mul, Int.natAbs_natCast, Nat.mul_comm] at h1
      exact Nat.eq_of_mul_eq_mul_left (by omega) h1
    have hd : (ev h z).natAbs ∣ c.natAbs := by
      rw [hce]
      refine Nat.dvd_gcd ?_ ?_
      · rw [e1, Int.natAbs_mul]; exact Nat.dvd_mul_right _ _
      · rw [e2, Int.natAbs_mul]; exact Nat.dvd_mul_right _ _
    have hle := Nat.le_of_dvd (by omega) hd
    obtain ⟨i, hi⟩ := hf
    have h2 := hcz i
    rw [Int.natAbs_mul] at h2
    have h3 : c.natAbs * 1 ≤ c.natAbs * (co f i).natAbs := Nat.mul_le_mul_left _ (by omega)
    omega
  obtain ⟨h0, hh0⟩ : ∃ h0, trimZ h = [h0] := List.length_eq_one_iff.mp hm
  have hh0n : h0 ≠ 0 := by
    have := lead (nm_trimZ h) hth
    rw [hh0] at this
    simpa [co] using this
  have evh : ∀ x, ev h x = h0 := fun x => by rw [← ev_trimZ, hh0]; simp [ev]
  refine ⟨u, v, h0 * r, Int.mul_ne_zero hh0n r0, fun x => ?_⟩
  rw [e1, e2, evh, ← hr x]; grind
end Coil

set_option linter.all false
namespace Coil
/-! ### a small solution of a system with more unknowns than rows -/
theorem pigeon : ∀ (k : Nat) (n : Nat) (f : Nat → Nat), k < n → (∀ i, i < n → f i < k) → ∃ i j, i < j ∧ j < n ∧ f i = f j
  | 0, n, f, h, hf => absurd (hf 0 (by omega)) (by omega)
  | k + 1, n, f, h, hf => by
    by_cases hc : ∃ i, i < n - 1 ∧ f i = f (n - 1)
    · obtain ⟨i, h1, h2⟩ := hc
      exact ⟨i, n - 1, h1, by omega, h2⟩
    · -- swap the last value with k
      have hne : ∀ i, i < n - 1 → f i ≠ f (n - 1) := fun i hi e => hc ⟨i, hi, e⟩
      obtain ⟨i, j, h1, h2, h3⟩ := pigeon k (n - 1) (fun i => if f i = k then f (n - 1) else f i) (by omega) (fun i hi => by
        have a1 := hf i (by omega)
        have a2 := hf (n - 1) (by omega)
        have a3 := hne i hi
        show (if f i = k then f (n - 1) else f i) < k
        split <;> omega)
      refine ⟨i, j, h1, by omega, ?_⟩
      have a1 := hne i (by omega)
      have a2 := hne j h2
      split at h3 <;> split at h3 <;> omega
def dig (b n j : Nat) : Nat := n / b ^ j % b
theorem dig_lt {b : Nat} (hb : 0 < b) (n j : Nat) : dig b n j < b := Nat.mod_lt _ hb
theorem dig_ext {b : Nat} (hb : 0 < b) : ∀ (k m n : Nat), m < b ^ k → n < b ^ k → (∀ j, j < k → dig b m j = dig b n j) → m = n
  | 0, m, n, hm, hn, _ => by simp at hm hn; omega
  | k + 1, m, n, hm, hn, h => by
    have h0 := h 0 (by omega)
    simp only [dig, Nat.pow_zero, Nat.div_one] at h0
    have := dig_ext hb k (m / b) (n / b) (Nat.div_lt_of_lt_mul (by rw [Nat.pow_succ, Nat.mul_comm] at hm; exact hm))
      (Nat.div_lt_of_lt_mul (by rw [Nat.pow_succ, Nat.mul_comm] at hn; exact hn)) (fun j hj => by
        have := h (j + 1) (by omega)
        simp only [dig, Nat.pow_succ] at this
        rw [Nat.mul_comm (b ^ j) b, ← Nat.div_div_eq_div_mul, ← Nat.div_div_eq_div_mul] at this
        exact this)
    have e1 := Nat.div_add_mod m b
    have e2 := Nat.div_add_mod n b
    rw [this] at e1
    omega
def enc (b : Nat) : Nat → (Nat → Nat) → Nat
  | 0, _ => 0
  | k + 1, f => enc b k f + f k * b ^ k
theorem enc_lt {b : Nat} {f : Nat → Nat} : ∀ k, (∀ i, i < k → f i < b) → enc b k f < b ^ k
  | 0, _ => by simp [enc]
  | k + 1, h => by
    have h1 := enc_lt (b := b) (f := f) k fun i hi => h i (by omega)
    have h2 : f k + 1 ≤ b := h k (by omega)
    have h3 := Nat.mul_le_mul_right (b ^ k) h2
    rw [Nat.add_mul] at h3
    simp only [enc, Nat.pow_succ]
    rw [Nat.mul_comm (b ^ k) b]; omega
theorem enc_ext {b : Nat} {f g : Nat → Nat} : ∀ k, (∀ i, i < k → f i < b) → (∀ i, i < k → g i < b) → enc b k f = enc b k g → ∀ i, i < k → f i = g i
  | 0, _, _, _, i, hi => absurd hi (by omega)
  | k + 1, hf, hg, e, i, hi => by
    have h1 := enc_lt (b := b) (f := f) k fun i hi => hf i (by omega)
    have h2 := enc_lt (b := b) (f := g) k fun i hi => hg i (by omega)
    simp only [enc] at e
    have hk : f k = g k := by
      have hp : 0 < b ^ k := by omega
      have a1 : (enc b k f + f k * b ^ k) / b ^ k = f k := by
        rw [Nat.add_mul_div_right _ _ hp, Nat.div_eq_of_lt h1]; omega
      have a2 : (enc b k g + g k * b ^ k) / b ^ k = g k := by
        rw [Nat.add_mul_div_right _ _ hp, Nat.div_eq_of_lt h2]; omega
      rw [← a1, ← a2, e]
    by_cases hik : i = k
    · subst hik; exact hk
    · exact enc_ext k (fun i hi => hf i (by omega)) (fun i hi => hg i (by omega)) (by rw [hk] at e; omega) i (by omega)
theorem sumN_abs {f : Nat → Int} {B : Nat} : ∀ n, (∀ i, i < n → (f i).natAbs ≤ B) → (sumN n f).natAbs ≤ n * B
  | 0, _ => by simp [sumN]
  | n + 1, h => by
    have h1 := sumN_abs n fun i hi => h i (by omega)
    have h2 := h n (by omega)
    have h3 := Int.natAbs_add_le (sumN n f) (f n)
    simp only [sumN]
    rw [Nat.add_mul, Nat.one_mul]; omega
theorem sumN_sub (f g : Nat → Int) : ∀ n, sumN n (fun i => f i - g i) = sumN n f - sumN n g
  | 0 => rfl
  | n + 1 => by have := sumN_sub f g n; simp only [sumN, this]; omega
theorem sumN_congr' {f g : Nat → Int} : ∀ n, (∀ i, i < n → f i = g i) → sumN n f = sumN n g
  | 0, _ => rfl
  | n + 1, h => by simp only [sumN, sumN_congr' n fun i hi => h i (by omega), h n (by omega)]
theorem siegel {M H : Nat} (r : Nat → Nat → Int) (hH : 1 ≤ H) (hr : ∀ i j, (r i j).natAbs ≤ H) :
    ∃ x : Nat → Int, (∃ j, j ≤ M ∧ x j ≠ 0) ∧ (∀ j, (x j).natAbs ≤ (2 * (M + 1) * H) ^ M) ∧ ∀ i, i < M → sumN (M + 1) (fun j => r i j * x j) = 0 := by
  let B := (2 * (M + 1) * H) ^ M
  let C := (M + 1) * (H * B)
  let V := 2 * C + 1
  let s : Nat → Nat → Int := fun n i => sumN (M + 1) fun j => r i j * ((dig (B + 1) n j : Nat) : Int)
  have hs : ∀ n i, (s n i).natAbs ≤ C := fun n i => sumN_abs (M + 1) fun j _ => by
    rw [Int.natAbs_mul, Int.natAbs_natCast]
    exact Nat.mul_le_mul (hr i j) (by have := dig_lt (show 0 < B + 1 by omega) n j; omega)
  let f : Nat → Nat := fun n => enc V M fun i => (s n i + C).toNat
  have hv : ∀ n i, (s n i + C).toNat < V := fun n i => by have := hs n i; omega
  have hfl : ∀ n, f n < V ^ M := fun n => enc_lt M fun i _ => hv n i
  have hB1 : 1 ≤ B := Nat.pow_pos (Nat.mul_pos (by omega) hH)
  have hcount : V ^ M < (B + 1) ^ (M + 1) := by
    have h1 : V ≤ (2 * (M + 1) * H) * (B + 1) := by
      have : 2 * (M + 1) * H * (B + 1) = 2 * C + 2 * (M + 1) * H := by
        show _ = 2 * ((M + 1) * (H * B)) + _
        rw [Nat.mul_add, Nat.mul_one]; simp only [Nat.mul_assoc]
      have h2 : 0 < 2 * (M + 1) * H := Nat.mul_pos (by omega) hH
      show 2 * C + 1 ≤ _
      omega
    calc V ^ M ≤ ((2 * (M + 1) * H) * (B + 1)) ^ M := Nat.pow_le_pow_left h1 M
      _ = B * (B + 1) ^ M := Nat.mul_pow _ _ _
      _ < (B + 1) * (B + 1) ^ M := Nat.mul_lt_mul_of_pos_right (by omega) (Nat.pow_pos (by omega))
      _ = (B + 1) ^ (M + 1) := by rw [Nat.pow_succ, Nat.mul_comm]
  obtain ⟨m, n, hmn, hn, e⟩ := pigeon (V ^ M) ((B + 1) ^ (M + 1)) f hcount fun i _ => hfl i
  refine ⟨fun j => ((dig (B + 1) m j : Nat) : Int) - ((dig (B + 1) n j : Nat) : Int), ?_, fun j => ?_, fun i hi => ?_⟩
  · refine Classical.byContradiction fun y => ?_
    have := dig_ext (show 0 < B + 1 by omega) (M + 1) m n (by omega) hn fun j hj => by
      refine Decidable.byContradiction fun z => y ⟨j, by omega, ?_⟩
      show ((dig (B + 1) m j : Nat) : Int) - ((dig (B + 1) n j : Nat) : Int) ≠ 0
      omega
    omega
  · have h1 := dig_lt (show 0 < B + 1 by omega) m j
    have h2 := dig_lt (show 0 < B + 1 by omega) n j
    show (((dig (B + 1) m j : Nat) : Int) - ((dig (B + 1) n j : Nat) : Int)).natAbs ≤ B
    omega
  · have h1 := enc_ext M (fun i _ => hv m i) (fun i _ => hv n i) e i hi
    have h2 := hs m i
    have h3 := hs n i
    have h4 : s m i = s n i := by omega
    have h5 := sumN_sub (fun j => r i j * ((dig (B + 1) m j : Nat) : Int)) (fun j => r i j * ((dig (B + 1) n j : Nat) : Int)) (M + 1)
    rw [sumN_congr' (g := fun j => r i j * ((dig (B + 1) m j : Nat) : Int) - r i j * ((dig (B + 1) n j : Nat) : Int)) (M + 1) fun j _ => Int.mul_sub _ _ _, h5]
    exact Int.sub_eq_zero.mpr h4
end Coil

set_option linter.all false
namespace Coil
/-! ### a small combination of two polynomials that is a number times their greatest common divisor -/
theorem sumN_add' (f g : Nat → Int) : ∀ n, sumN n (fun i => f i + g i) = sumN n f + sumN n g
  | 0 => rfl
  | n + 1 => by have := sumN_add' f g n; simp only [sumN, this]; omega
theorem sumN_front (f : Nat → Int) : ∀ n, sumN (n + 1) f = f 0 + sumN n fun i => f (i + 1)
  | 0 => by simp [sumN]
  | n + 1 => by
    have := sumN_front f n
    rw [sumN, this]
    simp only [sumN]; omega
theorem sumN_app (f : Nat → Int) (n : Nat) : ∀ m, sumN (n + m) f = sumN n f + sumN m fun j => f (n + j)
  | 0 => by simp [sumN]
  | m + 1 => by
    have := sumN_app f n m
    rw [← Nat.add_assoc]
    simp only [sumN, this]; omega
theorem sumN_zero' {f : Nat → Int} : ∀ n, (∀ i, i < n → f i = 0) → sumN n f = 0
  | 0, _ => rfl
  | n + 1, h => by rw [sumN, sumN_zero' n (fun i hi => h i (by omega)), h n (by omega)]; rfl
theorem co_mulP : ∀ (p q : List Int) (k : Nat), co (mulP p q) k = sumN p.length fun j => co p j * sh q k j
  | [], q, k => by simp [mulP, co_nil, sumN]
  | c :: p, q, k => by
    rw [co_mul_left, List.length_cons, sumN_front]
    have h0 : co (c :: p) 0 * sh q k 0 = c * co q k := by simp [sh, co_cons_zero]
    rw [h0]
    congr 1
    by_cases hk : k = 0
    · subst hk
      rw [if_pos rfl]
      exact (sumN_zero' _ fun i _ => by simp [sh]).symm
    · rw [if_neg hk, co_mulP p q (k - 1)]
      refine sumN_congr' _ fun i _ => ?_
      rw [co_cons_succ]
      congr 1
      simp only [sh]
      by_cases h : i + 1 ≤ k
      · rw [if_pos h, if_pos (by omega)]; congr 1; omega
      · rw [if_neg h, if_neg (by omega)]
theorem indep {p q u v U V : List Int} {c : Int} (hp : Nm p) (hpn : p ≠ []) (hc : c ≠ 0) (bez : ∀ x, ev u x * ev p x + ev v x * ev q x = c)
    (h0 : ∀ x, ev U x * ev p x + ev V x * ev q x = 0) (hl : V.length ≤ p.length - 1) : ¬ Nz V := by
  intro hz
  let W := addP (mulP V u) (smul (-1) (mulP v U))
  have eW : ∀ x, ev W x = ev V x * ev u x - ev v x * ev U x := fun x => by
    show ev (addP _ _) x = _
    rw [ev_add, ev_smul, ev_mul, ev_mul]; omega
  have e : ∀ x, ev (smul c V) x = ev p x * ev W x := fun x => by
    rw [ev_smul, eW]
    have h1 := bez x
    have h2 := h0 x
    grind
  have hcz : Nz (smul c V) := by
    obtain ⟨i, hi⟩ := hz
    exact ⟨i, by rw [co_smul]; exact Int.mul_ne_zero hc hi⟩
  have hW : trimZ W ≠ [] := fun y => by
    obtain ⟨B, hB⟩ := ev_far _ hcz
    have := hB (B + 1) (by omega)
    rw [e, ← ev_trimZ W, y] at this
    simp [ev] at this
  have hV : trimZ (smul c V) ≠ [] := (nz_iff (nm_trimZ _)).mp (nz_congr (fun i => (co_trimZ _ i).symm) hcz)
  have := len_mul (a := trimZ (smul c V)) (p := p) (q := trimZ W) (nm_trimZ _) hp (nm_trimZ _) hpn hW (fun x => by rw [ev_trimZ, ev_trimZ, e])
  have h1 := trimZ_len (smul c V)
  rw [smul_len] at h1
  have h2 : 0 < (trimZ W).length := List.length_pos_iff.mpr hW
  have h3 : 0 < p.length := List.length_pos_iff.mpr hpn
  omega
theorem co_pick {n : Nat} {x : Nat → Int} {j : Nat} (h : j < n) : co ((List.range n).map x) j = x j := by
  unfold co; rw [List.getD_eq_getElem?_getD, List.getElem?_map, List.getElem?_range h]; rfl
theorem small_bez {a b g p q u v : List Int} {c : Int} {H M : Nat} (ha : Nm a) (hb : Nm b) (hg : Nm g) (hp : Nm p) (hq : Nm q) (han : a ≠ []) (hbn : b ≠ []) (hgn : g ≠ []) (hpn : p ≠ []) (hqn : q ≠ [])
    (ea : ∀ x, ev a x = ev g x * ev p x) (eb : ∀ x, ev b x = ev g x * ev q x) (hc : c ≠ 0) (bez : ∀ x, ev u x * ev p x + ev v x * ev q x = c)
    (hH : 1 ≤ H) (hah : ∀ i, (co a i).natAbs ≤ H) (hbh : ∀ i, (co b i).natAbs ≤ H) (hM : M + 3 = p.length + q.length) :
    ∃ (U V : List Int) (r : Int), r ≠ 0 ∧ (∀ x, ev U x * ev p x + ev V x * ev q x = r) ∧ ∀ i, (r * co g i).natAbs ≤ (2 * (M + 1) * H) ^ (M + 1) := by
  have hla := len_mul ha hg hp hgn hpn ea
  have hlb := len_mul hb hg hq hgn hqn eb
  have hlg : 0 < g.length := List.length_pos_iff.mpr hgn
  have hlp : 0 < p.length := List.length_pos_iff.mpr hpn
  have hlq : 0 < q.length := List.length_pos_iff.mpr hqn
  let nu := q.length - 1
  let nv := p.length - 1
  have hn : nu + nv = M + 1 := by show q.length - 1 + (p.length - 1) = _; omega
  let r : Nat → Nat → Int := fun i j => if j < nu then sh a (g.length + i) j else sh b (g.length + i) (j - nu)
  have hr : ∀ i j, (r i j).natAbs ≤ H := fun i j => by
    show (if j < nu then sh a (g.length + i) j else sh b (g.length + i) (j - nu)).natAbs ≤ H
    simp only [sh]
    split
    · split
      · exact hah _
      · simp
    · split
      · exact hbh _
      · simp
  obtain ⟨x, ⟨j0, hj0, hx0⟩, hxb, hx⟩ := siegel (M := M) r hH hr
  let U := (List.range nu).map x
  let V := (List.range nv).map fun j => x (nu + j)
  have hUl : U.length = nu := by simp [U]
  have hVl : V.length = nv := by simp [V]
  let S := addP (mulP U a) (mulP V b)
  let T := addP (mulP U p) (mulP V q)
  have eS : ∀ y, ev S y = ev g y * ev T y := fun y => by
    show ev (addP _ _) y = ev g y * ev (addP _ _) y
    rw [ev_add, ev_add, ev_mul, ev_mul, ev_mul, ev_mul, ea, eb]; grind
  have cS : ∀ k, co S k = sumN nu (fun j => x j * sh a k j) + sumN nv (fun j => x (nu + j) * sh b k j) := fun k => by
    show co (addP _ _) k = _
    rw [co_add, co_mulP, co_mulP, hUl, hVl]
    congr 1
    · exact sumN_congr' _ fun j hj => by rw [co_pick hj]
    · exact sumN_congr' _ fun j hj => by rw [co_pick (x := fun j => x (nu + j)) hj]
  have hS0 : ∀ k, g.length ≤ k → co S k = 0 := fun k hk => by
    by_cases hki : k - g.length < M
    · have h1 := hx (k - g.length) hki
      rw [show M + 1 = nu + nv from hn.symm, sumN_app] at h1
      rw [cS, ← h1]
      congr 1
      · refine sumN_congr' _ fun j hj => ?_
        show _ = (if j < nu then sh a (g.length + (k - g.length)) j else sh b (g.length + (k - g.length)) (j - nu)) * x j
        rw [if_pos hj, show g.length + (k - g.length) = k by omega, Int.mul_comm]
      · refine sumN_congr' _ fun j hj => ?_
        show _ = (if nu + j < nu then sh a (g.length + (k - g.length)) (nu + j) else sh b (g.length + (k - g.length)) (nu + j - nu)) * x (nu + j)
        rw [if_neg (by omega), show g.length + (k - g.length) = k by omega, show nu + j - nu = j by omega, Int.mul_comm]
    · refine co_over ?_
      show (addP _ _).length ≤ k
      rw [addP_len]
      have h1 := mulP_len_le U a
      have h2 := mulP_len_le V b
      rw [hUl] at h1
      rw [hVl] at h2
      have h3 : (mulP U a).length ≤ nu + a.length - 1 := h1.resolve_right han
      have h4 : (mulP V b).length ≤ nv + b.length - 1 := h2.resolve_right hbn
      have : nu = q.length - 1 := rfl
      have : nv = p.length - 1 := rfl
      omega
  have hTn : trimZ T ≠ [] := fun y => by
    have h0 : ∀ z, ev U z * ev p z + ev V z * ev q z = 0 := fun z => by
      have h3 : ev T z = 0 := by rw [← ev_trimZ, y]; rfl
      rw [← h3]
      show _ = ev (addP (mulP U p) (mulP V q)) z
      rw [ev_add, ev_mul, ev_mul]
    have hV := indep hp hpn hc bez h0 (by rw [hVl]; exact Nat.le_refl _)
    have hU := indep (p := q) (q := p) (u := v) (v := u) (U := V) (V := U) hq hqn hc (fun z => by rw [← bez z]; omega) (fun z => by rw [← h0 z]; omega) (by rw [hUl]; exact Nat.le_refl _)
    by_cases hj : j0 < nu
    · exact hU ⟨j0, by rw [co_pick hj]; exact hx0⟩
    · exact hV ⟨j0 - nu, by rw [co_pick (x := fun j => x (nu + j)) (show j0 - nu < nv by omega), show nu + (j0 - nu) = j0 by omega]; exact hx0⟩
  have hSz : trimZ S ≠ [] := by
    have hz : Nz S := nz_mul (p := g) (q := T) (nz_of_nm hg hgn) (nz_congr (fun i => co_trimZ T i) (nz_of_nm (nm_trimZ T) hTn)) eS
    exact (nz_iff (nm_trimZ _)).mp (nz_congr (fun i => (co_trimZ _ i).symm) hz)
  have hl := len_mul (a := trimZ S) (p := g) (q := trimZ T) (nm_trimZ S) hg (nm_trimZ T) hgn hTn (fun y => by rw [ev_trimZ, ev_trimZ, eS])
  have hsl : (trimZ S).length ≤ g.length := trimZ_short hS0
  have htl : 0 < (trimZ T).length := List.length_pos_iff.mpr hTn
  obtain ⟨c1, hc1⟩ : ∃ c1, trimZ T = [c1] := List.length_eq_one_iff.mp (by omega)
  have hT : ∀ y, ev T y = c1 := fun y => by rw [← ev_trimZ, hc1]; simp [ev]
  have hcn : c1 ≠ 0 := by
    have := nm_trimZ T
    rw [hc1] at this
    rcases this with z | z
    · exact absurd z (by simp)
    · simpa [co] using z
  refine ⟨U, V, c1, hcn, fun y => ?_, fun i => ?_⟩
  · rw [← hT y]
    show _ = ev (addP (mulP U p) (mulP V q)) y
    rw [ev_add, ev_mul, ev_mul]
  · have h1 : co (smul c1 g) i = co S i := ev_ext (smul c1 g) S 0 (fun y _ => by rw [ev_smul, eS, hT, Int.mul_comm]) i
    rw [co_smul] at h1
    rw [h1, cS]
    have hB : ∀ j, (x j).natAbs ≤ (2 * (M + 1) * H) ^ M := hxb
    have hsa : ∀ j, (sh a i j).natAbs ≤ H := fun j => by simp only [sh]; split; exact hah _; simp
    have hsb : ∀ j, (sh b i j).natAbs ≤ H := fun j => by simp only [sh]; split; exact hbh _; simp
    have b1 := sumN_abs (f := fun j => x j * sh a i j) (B := (2 * (M + 1) * H) ^ M * H) nu fun j _ => by
      rw [Int.natAbs_mul]; exact Nat.mul_le_mul (hB j) (hsa j)
    have b2 := sumN_abs (f := fun j => x (nu + j) * sh b i j) (B := (2 * (M + 1) * H) ^ M * H) nv fun j _ => by
      rw [Int.natAbs_mul]; exact Nat.mul_le_mul (hB _) (hsb j)
    have b3 := Int.natAbs_add_le (sumN nu fun j => x j * sh a i j) (sumN nv fun j => x (nu + j) * sh b i j)
    have b4 : nu * ((2 * (M + 1) * H) ^ M * H) + nv * ((2 * (M + 1) * H) ^ M * H) = (M + 1) * ((2 * (M + 1) * H) ^ M * H) := by rw [← Nat.add_mul, hn]
    have b5 : (2 * (M + 1) * H) ^ (M + 1) = 2 * ((M + 1) * ((2 * (M + 1) * H) ^ M * H)) := by
      rw [Nat.pow_succ]; simp only [Nat.mul_assoc, Nat.mul_comm, Nat.mul_left_comm]
    omega
end Coil

set_option linter.all false
namespace Coil
/-! ### balanced digits -/
def bdig (z n : Int) : Int := if 2 * (n % z) > z then n % z - z else n % z
def digF (z : Int) : Nat → Int → List Int
  | 0, _ => []
  | k + 1, n => if n = 0 then [] else bdig z n :: digF z k ((n - bdig z n) / z)
theorem bdig_bd {z : Int} (hz : 3 ≤ z) (n : Int) : 2 * (bdig z n).natAbs ≤ z.natAbs := by
  have h1 := Int.emod_nonneg n (show z ≠ 0 by omega)
  have h2 := Int.emod_lt_of_pos n (show 0 < z by omega)
  simp only [bdig]; split <;> omega
theorem bdig_dvd {z : Int} (n : Int) : z ∣ n - bdig z n := by
  have h := Int.emod_add_mul_ediv n z
  simp only [bdig]; split
  · exact ⟨n / z + 1, by rw [Int.mul_add, Int.mul_one]; omega⟩
  · exact ⟨n / z, by omega⟩
theorem bdig_next {z : Int} (hz : 3 ≤ z) (n : Int) : n = bdig z n + z * ((n - bdig z n) / z) := by
  have := Int.mul_ediv_cancel' (bdig_dvd (z := z) n)
  omega
theorem bdig_less {z : Int} (hz : 3 ≤ z) {n : Int} (hn : 0 < n) : 0 ≤ (n - bdig z n) / z ∧ (n - bdig z n) / z < n := by
  have h1 := Int.emod_nonneg n (show z ≠ 0 by omega)
  have h2 := Int.emod_lt_of_pos n (show 0 < z by omega)
  have h3 := Int.emod_add_mul_ediv n z
  have hq : 0 ≤ n / z := Int.ediv_nonneg (by omega) (by omega)
  have hqz : 3 * (n / z) ≤ z * (n / z) := Int.mul_le_mul_of_nonneg_right hz hq
  by_cases h : 2 * (n % z) > z
  · have e : (n - bdig z n) / z = n / z + 1 := by
      have : n - bdig z n = (n / z + 1) * z := by
        simp only [bdig, if_pos h]
        rw [Int.add_mul, Int.one_mul, Int.mul_comm (n / z) z]; omega
      rw [this, Int.mul_ediv_cancel _ (show z ≠ 0 by omega)]
    rw [e]; omega
  · have e : (n - bdig z n) / z = n / z := by
      have : n - bdig z n = (n / z) * z := by
        simp only [bdig, if_neg h]
        rw [Int.mul_comm (n / z) z]; omega
      rw [this, Int.mul_ediv_cancel _ (show z ≠ 0 by omega)]
    rw [e]; omega
theorem digF_ev {z : Int} (hz : 3 ≤ z) : ∀ (k : Nat) (n : Int), 0 ≤ n → n < k → ev (digF z k n) z = n
  | 0, n, h0, hk => by omega
  | k + 1, n, h0, hk => by
    simp only [digF]
    split
    · simp [ev]; omega
    · have hl := bdig_less hz (show 0 < n by omega)
      simp only [ev]
      rw [digF_ev hz k _ hl.1 (by omega)]
      exact (bdig_next hz n).symm
theorem digF_bd {z : Int} (hz : 3 ≤ z) : ∀ (k : Nat) (n : Int) (i : Nat), 2 * (co (digF z k n) i).natAbs ≤ z.natAbs
  | 0, n, i => by simp [digF, co_nil]
  | k + 1, n, i => by
    simp only [digF]
    split
    · simp [co_nil]
    · cases i with
      | zero => exact bdig_bd hz n
      | succ i => rw [co_cons_succ]; exact digF_bd hz k _ i
theorem digF_nm {z : Int} (hz : 3 ≤ z) : ∀ (k : Nat) (n : Int), 0 ≤ n → n < k → Nm (digF z k n)
  | 0, n, h0, hk => by omega
  | k + 1, n, h0, hk => by
    simp only [digF]
    split
    · exact .inl rfl
    · have hl := bdig_less hz (show 0 < n by omega)
      have ih := digF_nm hz k _ hl.1 (show (n - bdig z n) / z < k by omega)
      refine .inr ?_
      by_cases e : digF z k ((n - bdig z n) / z) = []
      · rw [e]
        have h1 := digF_ev hz k _ hl.1 (show (n - bdig z n) / z < k by omega)
        rw [e] at h1
        have h2 := bdig_next hz n
        simp only [ev] at h1
        rw [← h1] at h2
        simp [co]; omega
      · rcases ih with h | h
        · exact absurd h e
        · have hl : 0 < (digF z k ((n - bdig z n) / z)).length := List.length_pos_iff.mpr e
          rw [List.length_cons, show (digF z k ((n - bdig z n) / z)).length + 1 - 1 = ((digF z k ((n - bdig z n) / z)).length - 1) + 1 by omega, co_cons_succ]
          exact h
/-- a polynomial with coefficients below half a place is what the digits of its value tell -/
theorem dig_uniq {z : Int} (hz : 3 ≤ z) : ∀ (f g : List Int), (∀ i, 2 * (co f i).natAbs < z.natAbs) → (∀ i, 2 * (co g i).natAbs ≤ z.natAbs) → ev f z = ev g z → ∀ i, co f i = co g i
  | [], [], _, _, _, i => rfl
  | [], d :: g, hf, hg, e, i => by
    have ih := dig_uniq hz [] g (fun i => by rw [co_nil]; simp; omega) (fun i => by have := hg (i + 1); rwa [co_cons_succ] at this)
    have h0 := hg 0
    rw [co_cons_zero] at h0
    simp only [ev] at e ih
    have hv : ev g z = 0 := by
      refine Decidable.byContradiction fun y => ?_
      have h1 : (z * ev g z).natAbs = z.natAbs * (ev g z).natAbs := Int.natAbs_mul _ _
      have h2 : z.natAbs * 1 ≤ z.natAbs * (ev g z).natAbs := Nat.mul_le_mul_left _ (by omega)
      omega
    rw [hv, Int.mul_zero] at e
    have hd : d = 0 := by omega
    cases i with
    | zero => rw [co_cons_zero, hd, co_nil]
    | succ i => rw [co_cons_succ, ← ih hv.symm i, co_nil, co_nil]
  | c :: f, [], hf, hg, e, i => by
    have ih := dig_uniq hz f [] (fun i => by have := hf (i + 1); rwa [co_cons_succ] at this) (fun i => by rw [co_nil]; simp)
    have h0 := hf 0
    rw [co_cons_zero] at h0
    simp only [ev] at e ih
    have hv : ev f z = 0 := by
      refine Decidable.byContradiction fun y => ?_
      have h1 : (z * ev f z).natAbs = z.natAbs * (ev f z).natAbs := Int.natAbs_mul _ _
      have h2 : z.natAbs * 1 ≤ z.natAbs * (ev f z).natAbs := Nat.mul_le_mul_left _ (by omega)
      omega
    rw [hv, Int.mul_zero] at e
    have hd : c = 0 := by omega
    cases i with
    | zero => rw [co_cons_zero, hd, co_nil]
    | succ i => rw [co_cons_succ, ih hv i, co_nil, co_nil]
  | c :: f, d :: g, hf, hg, e, i => by
    have ih := dig_uniq hz f g (fun i => by have := hf (i + 1); rwa [co_cons_succ] at this) (fun i => by have := hg (i + 1); rwa [co_cons_succ] at this)
    have h0 := hf 0
    have h0' := hg 0
    rw [co_cons_zero] at h0 h0'
    simp only [ev] at e
    have he : c - d = z * (ev g z - ev f z) := by rw [Int.mul_sub]; omega
    have hv : ev g z - ev f z = 0 := by
      refine Decidable.byContradiction fun y => ?_
      have h1 : (z * (ev g z - ev f z)).natAbs = z.natAbs * (ev g z - ev f z).natAbs := Int.natAbs_mul _ _
      have h2 : z.natAbs * 1 ≤ z.natAbs * (ev g z - ev f z).natAbs := Nat.mul_le_mul_left _ (by omega)
      rw [← he] at h1
      omega
    rw [hv, Int.mul_zero] at he
    cases i with
    | zero => rw [co_cons_zero, co_cons_zero]; omega
    | succ i => rw [co_cons_succ, co_cons_succ]; exact ih (by omega) i
end Coil

set_option linter.all false
namespace Coil
/-! ### a place that is great enough ends the heuristic -/
def Hp (N H : Nat) : Nat := (2 * N * H) ^ N
theorem Hp_le {N H : Nat} (hN : 1 ≤ N) (hH : 1 ≤ H) : H ≤ Hp N H := by
  have h1 : H ≤ 2 * N * H := Nat.le_mul_of_pos_left H (by omega)
  have h2 : 2 * N * H ≤ (2 * N * H) ^ N := by
    have := Nat.pow_le_pow_right (show 0 < 2 * N * H by omega) hN
    rwa [Nat.pow_one] at this
  exact Nat.le_trans h1 h2
theorem nm_co_trim {p : List Int} (i : Nat) : co (trimZ p) i = co p i := co_trimZ p i
/-- the digits of the value at z -/
def digs (z n : Int) : List Int := digF z (n.toNat + 1) n
def found (z n : Int) : List Int := ppart (digs z n)
theorem heur_done {a b : List Int} {H : Nat} {z : Int} (ha : Nm a) (hb : Nm b) (han : a ≠ []) (hbn : b ≠ []) (hH : 1 ≤ H) (hah : ∀ i, (co a i).natAbs ≤ H) (hbh : ∀ i, (co b i).natAbs ≤ H)
    (hz : 2 * (Hp (a.length + b.length) H : Int) + 2 ≤ z) :
    ∃ p q : List Int, (∀ x, ev a x = ev (found z ((Nat.gcd (ev a z).natAbs (ev b z).natAbs : Nat) : Int)) x * ev p x) ∧ (∀ x, ev b x = ev (found z ((Nat.gcd (ev a z).natAbs (ev b z).natAbs : Nat) : Int)) x * ev q x) := by
  have hla0 : 0 < a.length := List.length_pos_iff.mpr han
  have hlb0 : 0 < b.length := List.length_pos_iff.mpr hbn
  have hHB := Hp_le (N := a.length + b.length) (by omega) hH
  have haz : Nz a := nz_of_nm ha han
  have hbz : Nz b := nz_of_nm hb hbn
  have lead : ∀ {w : List Int}, Nm w → w ≠ [] → co w (w.length - 1) ≠ 0 := fun {w} h1 h2 => by
    rcases h1 with y | y
    · exact absurd y h2
    · exact y
  have hza : ev a z ≠ 0 := ev_big a H z han (lead ha han) hah (by omega)
  have hzb : ev b z ≠ 0 := ev_big b H z hbn (lead hb hbn) hbh (by omega)
  obtain ⟨g, p, q, hprim, hgz, ea, eb, u, v, c, hc, bez⟩ := true_gcd (b := b) (.inl haz)
  have hpz : Nz p := by
    refine Classical.byContradiction fun y => hza ?_
    rw [ea, not_nz y, Int.mul_zero]
  have hqz : Nz q := by
    refine Classical.byContradiction fun y => hzb ?_
    rw [eb, not_nz y, Int.mul_zero]
  have tz : ∀ {w : List Int}, Nz w → trimZ w ≠ [] := fun {w} h => (nz_iff (nm_trimZ w)).mp (nz_congr (fun i => (co_trimZ w i).symm) h)
  have hlp := len_mul ha (nm_trimZ g) (nm_trimZ p) (tz hgz) (tz hpz) (fun x => by rw [ev_trimZ, ev_trimZ, ea])
  have hlq := len_mul hb (nm_trimZ g) (nm_trimZ q) (tz hgz) (tz hqz) (fun x => by rw [ev_trimZ, ev_trimZ, eb])
  have l1 : 0 < (trimZ g).length := List.length_pos_iff.mpr (tz hgz)
  have l2 : 0 < (trimZ p).length := List.length_pos_iff.mpr (tz hpz)
  have l3 : 0 < (trimZ q).length := List.length_pos_iff.mpr (tz hqz)
  -- a small combination
  obtain ⟨U, V, r, hr, hbr, hrb⟩ : ∃ (U V : List Int) (r : Int), r ≠ 0 ∧ (∀ x, ev U x * ev p x + ev V x * ev q x = r) ∧ ∀ i, (r * co g i).natAbs ≤ Hp (a.length + b.length) H := by
    by_cases h : 3 ≤ (trimZ p).length + (trimZ q).length
    · obtain ⟨U, V, r, h1, h2, h3⟩ := small_bez (u := u) (v := v) (M := (trimZ p).length + (trimZ q).length - 3) ha hb (nm_trimZ g) (nm_trimZ p) (nm_trimZ q) han hbn (tz hgz) (tz hpz) (tz hqz)
        (fun x => by rw [ev_trimZ, ev_trimZ, ea]) (fun x => by rw [ev_trimZ, ev_trimZ, eb]) hc (fun x => by rw [ev_trimZ, ev_trimZ]; exact bez x) hH hah hbh (by omega)
      refine ⟨U, V, r, h1, fun x => by have := h2 x; rwa [ev_trimZ, ev_trimZ] at this, fun i => ?_⟩
      have h4 := h3 i
      rw [co_trimZ] at h4
      refine Nat.le_trans h4 ?_
      have k1 : 2 * ((trimZ p).length + (trimZ q).length - 3 + 1) * H ≤ 2 * (a.length + b.length) * H := Nat.mul_le_mul_right H (by omega)
      refine Nat.le_trans (Nat.pow_le_pow_left k1 _) (Nat.pow_le_pow_right ?_ (by omega))
      exact Nat.mul_pos (by omega) hH
    · obtain ⟨p0, hp0⟩ : ∃ p0, trimZ p = [p0] := List.length_eq_one_iff.mp (by omega)
      have evp : ∀ x, ev p x = p0 := fun x => by rw [← ev_trimZ, hp0]; simp [ev]
      have hp00 : p0 ≠ 0 := by
        have := lead (nm_trimZ p) (tz hpz)
        rw [hp0] at this
        simpa [co] using this
      refine ⟨[1], [], p0, hp00, fun x => by rw [evp]; simp [ev], fun i => ?_⟩
      have h1 : co (smul p0 g) i = co a i := ev_ext (smul p0 g) a 0 (fun y _ => by rw [ev_smul, ea, evp, Int.mul_comm]) i
      rw [co_smul] at h1
      rw [h1]
      exact Nat.le_trans (hah i) hHB
  have hpz' : ev p z ≠ 0 := fun y => hza (by rw [ea, y, Int.mul_zero])
  let e : Nat := Nat.gcd (ev p z).natAbs (ev q z).natAbs
  have he : 0 < e := Nat.gcd_pos_of_pos_left _ (by omega)
  have her : (e : Int) ∣ r := by
    rw [← hbr z]
    refine Int.dvd_add ?_ ?_
    · exact Int.dvd_trans (Int.ofNat_dvd_left.mpr (Nat.gcd_dvd_left _ _)) (Int.dvd_mul_left _ _)
    · exact Int.dvd_trans (Int.ofNat_dvd_left.mpr (Nat.gcd_dvd_right _ _)) (Int.dvd_mul_left _ _)
  have hn : Nat.gcd (ev a z).natAbs (ev b z).natAbs = (ev g z).natAbs * e := by
    rw [ea, eb, Int.natAbs_mul, Int.natAbs_mul, Nat.gcd_mul_left]
  rw [hn]
  obtain ⟨s, hs, hsg⟩ : ∃ s : Int, (s = 1 ∨ s = -1) ∧ s * ev g z = ((ev g z).natAbs : Int) := by
    by_cases h : 0 ≤ ev g z
    · exact ⟨1, .inl rfl, by omega⟩
    · exact ⟨-1, .inr rfl, by omega⟩
  let n : Int := (((ev g z).natAbs * e : Nat) : Int)
  have hnn : 0 ≤ n := Int.natCast_nonneg _
  have hD1 : ev (digs z n) z = n := digF_ev (by omega) _ n hnn (by omega)
  have hF : ev (smul (s * e) g) z = n := by
    rw [ev_smul]
    show _ = (((ev g z).natAbs * e : Nat) : Int)
    rw [Int.natCast_mul, ← hsg]; grind
  have hco : ∀ i, co (digs z n) i = s * e * co g i := fun i => by
    have := dig_uniq (z := z) (by omega) (smul (s * e) g) (digs z n) (fun i => ?_) (fun i => digF_bd (by omega) _ n i) (by rw [hD1, hF]) i
    · rw [← this, co_smul]
    · have h1 : (s * e * co g i).natAbs = e * (co g i).natAbs := by
        rw [Int.natAbs_mul, Int.natAbs_mul, Int.natAbs_natCast]
        rcases hs with rfl | rfl <;> simp
      have h2 : e * (co g i).natAbs ≤ r.natAbs * (co g i).natAbs := Nat.mul_le_mul_right _ (Nat.le_of_dvd (by omega) (Int.ofNat_dvd_left.mp her))
      have h3 := hrb i
      rw [Int.natAbs_mul] at h3
      rw [co_smul, h1]; omega
  have hDz : Nz (digs z n) := by
    obtain ⟨i, hi⟩ := hgz
    refine ⟨i, ?_⟩
    rw [hco]
    exact Int.mul_ne_zero (Int.mul_ne_zero (by rcases hs with rfl | rfl <;> decide) (by omega)) hi
  have hG := gcdL_pos hDz
  obtain ⟨t, ht⟩ : (e : Int) ∣ gcdL (digs z n) := dvd_gcdL fun i => by rw [hco]; exact ⟨s * co g i, by grind⟩
  have htp : 0 < t := by
    refine Decidable.byContradiction fun y => ?_
    have : (e : Int) * t ≤ 0 := Int.mul_nonpos_of_nonneg_of_nonpos (by omega) (by omega)
    omega
  have hft : ∀ i, t * co (found z n) i = s * co g i := fun i => by
    have h1 := co_ppart (digs z n) i
    rw [hco, ht] at h1
    refine Int.eq_of_mul_eq_mul_left (show (e : Int) ≠ 0 by omega) ?_
    show (e : Int) * (t * co (ppart (digs z n)) i) = _
    grind
  have ht1 : t = 1 := by
    refine Decidable.byContradiction fun y => ?_
    refine hprim t.toNat (by omega) fun i => ?_
    rw [Int.toNat_of_nonneg (by omega)]
    have h2 : co g i = s * (t * co (found z n) i) := by
      rw [hft]; rcases hs with rfl | rfl <;> omega
    exact ⟨s * co (found z n) i, by rw [h2]; grind⟩
  have hfg : ∀ x, ev (found z n) x = s * ev g x := fun x => by
    rw [← ev_smul]
    refine ev_co (fun i => ?_) x
    have := hft i
    rw [ht1, Int.one_mul] at this
    rw [co_smul]; exact this
  refine ⟨smul s p, smul s q, fun x => ?_, fun x => ?_⟩
  · show _ = ev (found z n) x * _
    rw [hfg, ev_smul, ea]
    rcases hs with rfl | rfl <;> grind
  · show _ = ev (found z n) x * _
    rw [hfg, ev_smul, eb]
    rcases hs with rfl | rfl <;> grind
/-- what is found at any place: its digits are small, and it is no null -/
theorem found_facts {z n : Int} (hz : 3 ≤ z) (hn : 0 < n) : Nm (digs z n) ∧ digs z n ≠ [] ∧ 0 < gcdL (digs z n) ∧ Nz (found z n) ∧ Prim (found z n) ∧ gcdL (digs z n) * ev (found z n) z = n ∧
    ∀ i, 2 * (gcdL (digs z n) * co (found z n) i).natAbs ≤ z.natAbs := by
  have h1 : ev (digs z n) z = n := digF_ev hz _ n (by omega) (by omega)
  have h2 : Nm (digs z n) := digF_nm hz _ n (by omega) (by omega)
  have h3 : digs z n ≠ [] := fun y => by rw [y] at h1; simp [ev] at h1; omega
  have h4 := nz_of_nm h2 h3
  refine ⟨h2, h3, gcdL_pos h4, nz_ppart h4, prim_ppart h4, by rw [found, ev_ppart, h1], fun i => ?_⟩
  rw [found, co_ppart]
  exact digF_bd hz _ n i
end Coil

set_option linter.all false
namespace Coil
/-! ### division of polynomials with integers, step by step -/
def subX (r : List Int) (m : Nat) (q : Int) (ms : List Int) : List Int := (List.range r.length).map fun k => co r k - q * (if m ≤ k then co ms (k - m) else 0)
theorem subX_len (r : List Int) (m : Nat) (q : Int) (ms : List Int) : (subX r m q ms).length = r.length := by simp [subX]
theorem co_subX {r : List Int} {m : Nat} {q : Int} {ms : List Int} {k : Nat} (h : k < r.length) : co (subX r m q ms) k = co r k - q * (if m ≤ k then co ms (k - m) else 0) := co_pick h
theorem co_subX' {r : List Int} {m : Nat} {q : Int} {ms : List Int} (h : m + ms.length ≤ r.length) (k : Nat) : co (subX r m q ms) k = co r k - q * (if m ≤ k then co ms (k - m) else 0) := by
  by_cases hk : k < r.length
  · exact co_subX hk
  · rw [co_over (by rw [subX_len]; omega), co_over (p := r) (by omega), co_over (p := ms) (i := k - m) (by omega)]; simp
theorem ev_subX {r : List Int} {m : Nat} {q : Int} {ms : List Int} (h : m + ms.length ≤ r.length) (x : Int) : ev (subX r m q ms) x = ev r x - q * (x ^ m * ev ms x) := by
  have e : ev (subX r m q ms) x = ev (addP r (smul (-q) (shiftP m ms))) x := ev_co (fun k => by
    rw [co_subX' h, co_add, co_smul, co_shiftP]
    by_cases hk : m ≤ k
    · rw [if_pos hk, if_neg (by omega), Int.neg_mul]; omega
    · rw [if_neg hk, if_pos (by omega)]; simp) x
  rw [e, ev_add, ev_smul, ev_shift, Int.neg_mul]; omega
/-- one step of the inner loop -/
theorem subX_set {r : List Int} {m : Nat} {q : Int} {ms : List Int} {j : Nat} (hj : j < ms.length) (h : m + ms.length ≤ r.length) :
    (subX r m q (ms.take j)).set (m + j) (co (subX r m q (ms.take j)) (m + j) - q * co ms j) = subX r m q (ms.take (j + 1)) := by
  have ct : ∀ (n k : Nat), co (ms.take n) k = if k < n then co ms k else 0 := fun n k => by
    unfold co
    rw [List.getD_eq_getElem?_getD, List.getElem?_take]
    split
    · rw [List.getD_eq_getElem?_getD]
    · rfl
  refine co_ext (by rw [List.length_set, subX_len, subX_len]) fun k => ?_
  by_cases hk : k < r.length
  · have e1 : co ((subX r m q (ms.take j)).set (m + j) (co (subX r m q (ms.take j)) (m + j) - q * co ms j)) k = if m + j = k then co (subX r m q (ms.take j)) (m + j) - q * co ms j else co (subX r m q (ms.take j)) k := by
      show (List.set _ _ _).getD k 0 = _
      rw [List.getD_eq_getElem?_getD, List.getElem?_set]
      by_cases hmk : m + j = k
      · rw [if_pos hmk, if_pos (by rw [subX_len]; omega), if_pos hmk]; rfl
      · rw [if_neg hmk, if_neg hmk, ← List.getD_eq_getElem?_getD]; rfl
    rw [e1, co_subX hk]
    by_cases hmk : m + j = k
    · subst hmk
      rw [if_pos rfl, co_subX hk, co_subX hk, if_pos (by omega), ct, ct, show m + j - m = j by omega, if_neg (by omega), if_pos (by omega), if_pos (by omega)]; simp
    · rw [if_neg hmk, co_subX hk, ct, ct]
      congr 2
      by_cases hm : m ≤ k
      · rw [if_pos hm, if_pos hm]
        by_cases hlt : k - m < j
        · rw [if_pos hlt, if_pos (by omega)]
        · rw [if_neg hlt, if_neg (by omega)]
      · rw [if_neg hm, if_neg hm]
  · rw [co_over (by rw [List.length_set, subX_len]; omega), co_over (by rw [subX_len]; omega)]
theorem subX_zero (r : List Int) (m : Nat) (q : Int) (ms : List Int) : subX r m q (ms.take 0) = r := by
  refine co_ext (subX_len ..) fun k => ?_
  by_cases hk : k < r.length
  · rw [co_subX hk]; simp [co_nil]
  · rw [co_over (by rw [subX_len]; omega), co_over (p := r) (by omega)]
def ldc (ms : List Int) : Int := co ms (ms.length - 1)
/-- the quotient and the rest, places from m - 1 down -/
def xq (ms : List Int) : Nat → List Int → List Int × List Int
  | 0, r => (r, [])
  | m + 1, r => ((xq ms m (subX r m ((co r (m + ms.length - 1)).fdiv (ldc ms)) ms)).1, (xq ms m (subX r m ((co r (m + ms.length - 1)).fdiv (ldc ms)) ms)).2 ++ [(co r (m + ms.length - 1)).fdiv (ldc ms)])
theorem xq_len (ms : List Int) : ∀ (m : Nat) (r : List Int), (xq ms m r).2.length = m ∧ (xq ms m r).1.length = r.length
  | 0, r => ⟨rfl, rfl⟩
  | m + 1, r => by
    have := xq_len ms m (subX r m ((co r (m + ms.length - 1)).fdiv (ldc ms)) ms)
    simp only [xq, List.length_append, List.length_singleton]
    exact ⟨by omega, by rw [this.2, subX_len]⟩
theorem ev_snoc : ∀ (p : List Int) (c x : Int), ev (p ++ [c]) x = ev p x + c * x ^ p.length
  | [], c, x => by simp [ev]
  | d :: p, c, x => by
    have := ev_snoc p c x
    simp only [List.cons_append, ev, this, List.length_cons, Int.pow_succ]; grind
theorem xq_ev (ms : List Int) : ∀ (m : Nat) (r : List Int), m + ms.length ≤ r.length + 1 → ∀ x, ev r x = ev (xq ms m r).2 x * ev ms x + ev (xq ms m r).1 x
  | 0, r, _, x => by simp [xq, ev]
  | m + 1, r, h, x => by
    have ih := xq_ev ms m (subX r m ((co r (m + ms.length - 1)).fdiv (ldc ms)) ms) (by rw [subX_len]; omega) x
    rw [ev_subX (by omega)] at ih
    simp only [xq]
    rw [ev_snoc, (xq_len ms m _).1]
    grind
theorem fdiv_cancel {a b : Int} (hb : b ≠ 0) : (a * b).fdiv b = a := Int.mul_fdiv_cancel a hb
/-- where there is a quotient, it is found -/
theorem xq_exact {ms : List Int} (hm : ms ≠ []) (h0 : ldc ms ≠ 0) : ∀ (m : Nat) (r w : List Int), m + ms.length ≤ r.length + 1 → (∀ i, m ≤ i → co w i = 0) → (∀ x, ev r x = ev w x * ev ms x) → ∀ i, co (xq ms m r).1 i = 0
  | 0, r, w, _, hw, e, i => by
    simp only [xq]
    have : co r i = co [] i := ev_ext r [] 0 (fun x _ => by
      rw [e, show ev w x = ev [] x from ev_co (fun i => by rw [hw i (Nat.zero_le _), co_nil]) x]; simp [ev]) i
    rw [this, co_nil]
  | m + 1, r, w, h, hw, e, i => by
    have hml : 0 < ms.length := List.length_pos_iff.mpr hm
    have cr : ∀ k, co r k = co (mulP w ms) k := ev_ext r (mulP w ms) 0 fun x _ => by rw [e, ev_mul]
    -- the upmost coefficient
    have htop : co r (m + ms.length - 1) = co w m * ldc ms := by
      rw [cr, co_mulP]
      have hs : ∀ j, j < w.length → j ≠ m → co w j * sh ms (m + ms.length - 1) j = 0 := fun j hj hne => by
        by_cases hjm : j < m
        · simp only [sh]
          rw [if_pos (by omega), co_over (p := ms) (by omega), Int.mul_zero]
        · rw [hw j (by omega), Int.zero_mul]
      by_cases hl : m < w.length
      · have : ∀ n, m < n → n ≤ w.length → sumN n (fun j => co w j * sh ms (m + ms.length - 1) j) = co w m * ldc ms := fun n => by
          induction n with
          | zero => intro h; omega
          | succ n ih =>
            intro h1 h2
            rw [sumN]
            by_cases hmn : m < n
            · rw [ih hmn (by omega), hs n (by omega) (by omega), Int.add_zero]
            · have : m = n := by omega
              subst this
              rw [sumN_zero' m (fun j hj => hs j (by omega) (by omega)), Int.zero_add]
              simp only [sh, ldc]
              rw [if_pos (by omega), show m + ms.length - 1 - m = ms.length - 1 by omega]
        exact this w.length hl (Nat.le_refl _)
      · rw [sumN_zero' _ (fun j hj => hs j hj (by omega)), co_over (p := w) (by omega), Int.zero_mul]
    have hq : (co r (m + ms.length - 1)).fdiv (ldc ms) = co w m := by rw [htop]; exact fdiv_cancel h0
    simp only [xq]
    rw [hq]
    refine xq_exact hm h0 m (subX r m (co w m) ms) (addP w (smul (-(co w m)) (shiftP m [1]))) (by rw [subX_len]; omega) (fun i hi => ?_) (fun x => ?_) i
    · rw [co_add, co_smul, co_shiftP]
      by_cases him : i = m
      · subst him
        rw [if_neg (by omega), Nat.sub_self, co_cons_zero]; omega
      · rw [hw i (by omega), if_neg (by omega), co_over (p := [1]) (by simp; omega)]; simp
    · rw [ev_subX (by omega), ev_add, ev_smul, ev_shift, e]
      simp only [ev]; grind
/-- sizes -/
theorem natAbs_fdiv_le (a b : Int) : (a.fdiv b).natAbs ≤ a.natAbs := by
  have pos : ∀ a b : Int, 0 < b → (a.fdiv b).natAbs ≤ a.natAbs := fun a b hb => by
    rw [Int.fdiv_eq_ediv_of_nonneg a (by omega)]
    have h1 := Int.emod_add_mul_ediv a b
    have h2 := Int.emod_nonneg a (show b ≠ 0 by omega)
    have h3 := Int.emod_lt_of_pos a hb
    by_cases h0 : 0 ≤ a / b
    · have : 1 * (a / b) ≤ b * (a / b) := Int.mul_le_mul_of_nonneg_right (by omega) h0
      omega
    · have h4 : (b - 1) * (a / b) ≤ (b - 1) * (-1) := Int.mul_le_mul_of_nonneg_left (by omega) (by omega)
      rw [Int.sub_mul] at h4
      omega
  by_cases hb : 0 < b
  · exact pos a b hb
  · by_cases h0 : b = 0
    · subst h0; simp
    · have := pos (-a) (-b) (by omega)
      rw [Int.neg_fdiv_neg] at this
      omega
theorem subX_bd {r ms : List Int} {R M m : Nat} (hr : ∀ i, (co r i).natAbs ≤ R) (hm : ∀ i, (co ms i).natAbs ≤ M) {j k : Nat} {b : Int} (i : Nat) :
    (co (subX r m ((co r k).fdiv b) (ms.take j)) i).natAbs ≤ R * (M + 1) := by
  by_cases hi : i < r.length
  · rw [co_subX hi]
    have h1 := natAbs_fdiv_le (co r k) b
    have h2 := hr k
    have h3 := hr i
    have h4 : (if m ≤ i then co (ms.take j) (i - m) else 0).natAbs ≤ M := by
      split
      · by_cases hl : i - m < j
        · rw [co_take hl]; exact hm _
        · rw [co_over (by rw [List.length_take]; omega)]; simp
      · simp
    have h5 : ((co r k).fdiv b * (if m ≤ i then co (ms.take j) (i - m) else 0)).natAbs ≤ R * M := by
      rw [Int.natAbs_mul]; exact Nat.mul_le_mul (by omega) h4
    rw [Nat.mul_add, Nat.mul_one]
    omega
  · rw [co_over (by rw [subX_len]; omega)]; simp
end Coil

set_option linter.all false
namespace Coil
theorem ldc_ne {ms : List Int} (h : Nm ms) (hn : ms ≠ []) : ldc ms ≠ 0 := by
  rcases h with z | z
  · exact absurd z hn
  · exact z
theorem zero_of_co {p : List Int} (h : ∀ i, co p i = 0) (x : Int) : ev p x = 0 := by
  rw [show ev p x = ev [] x from ev_co (fun i => by rw [h, co_nil]) x]; rfl
theorem xq_yes {ns ms : List Int} (hm : ms ≠ []) (h : ∀ i, co (xq ms (ns.length + 1 - ms.length) ns).1 i = 0) (x : Int) : ev ns x = ev (trimZ (xq ms (ns.length + 1 - ms.length) ns).2) x * ev ms x := by
  rw [ev_trimZ]
  by_cases hl : ms.length ≤ ns.length + 1
  · have := xq_ev ms (ns.length + 1 - ms.length) ns (by omega) x
    rw [zero_of_co h x] at this
    omega
  · rw [show ns.length + 1 - ms.length = 0 by omega] at h ⊢
    simp only [xq] at h ⊢
    rw [zero_of_co h x]; simp [ev]
theorem xq_no {ns ms w : List Int} (hn : Nm ns) (hms : Nm ms) (hm : ms ≠ []) (e : ∀ x, ev ns x = ev w x * ev ms x) : ∀ i, co (xq ms (ns.length + 1 - ms.length) ns).1 i = 0 := by
  have hml : 0 < ms.length := List.length_pos_iff.mpr hm
  have e' : ∀ x, ev ns x = ev (trimZ w) x * ev ms x := fun x => by rw [ev_trimZ, e]
  by_cases hw : trimZ w = []
  · have hz : ns = [] := nm_ext (B := 0) hn (.inl rfl) fun x _ => by rw [e', hw]; simp [ev]
    subst hz
    intro i
    have : ([] : List Int).length + 1 - ms.length = 0 := by simp only [List.length_nil]; omega
    rw [this]
    simp only [xq, co_nil]
  · have hl := len_mul hn (nm_trimZ w) hms hw hm e'
    have hwl : 0 < (trimZ w).length := List.length_pos_iff.mpr hw
    exact xq_exact hm (ldc_ne hms hm) _ ns (trimZ w) (by omega) (fun i hi => co_over (by omega)) e'
theorem co_any {p : List Int} : p.any (· != 0) = false ↔ ∀ i, co p i = 0 := by
  rw [List.any_eq_false]
  constructor
  · intro h i
    by_cases hi : i < p.length
    · have := h p[i] (List.getElem_mem hi)
      unfold co
      rw [List.getD_eq_getElem?_getD, List.getElem?_eq_getElem hi]
      simpa using this
    · exact co_over (by omega)
  · intro h n hn
    obtain ⟨i, hi, e⟩ := List.getElem_of_mem hn
    have := h i
    unfold co at this
    rw [List.getD_eq_getElem?_getD, List.getElem?_eq_getElem hi] at this
    simp only [Option.getD_some] at this
    rw [← e, this]; simp
end Coil

set_option linter.all false
namespace Coil
theorem ev_upper {h : Nat} {z : Int} (hz : (h : Int) + 1 ≤ z) : ∀ p : List Int, (∀ i, (co p i).natAbs ≤ h) → (ev p z).natAbs + 1 ≤ z.natAbs ^ p.length
  | [], _ => by simp [ev]
  | d :: p, hp => by
    have ih := ev_upper hz p fun i => by have := hp (i + 1); rwa [co_cons_succ] at this
    have hd := hp 0
    rw [co_cons_zero] at hd
    simp only [ev, List.length_cons, Nat.pow_succ]
    have h1 := Int.natAbs_add_le d (z * ev p z)
    rw [Int.natAbs_mul] at h1
    have h2 : z.natAbs * ((ev p z).natAbs + 1) ≤ z.natAbs * z.natAbs ^ p.length := Nat.mul_le_mul_left _ ih
    rw [Nat.mul_add, Nat.mul_one, Nat.mul_comm z.natAbs (z.natAbs ^ p.length)] at h2
    omega
theorem ev_lower {z : Int} (hz : 4 ≤ z) : ∀ p : List Int, Nm p → p ≠ [] → (∀ i, 2 * (co p i).natAbs ≤ z.natAbs) → z.natAbs ^ (p.length - 1) + 2 ≤ 3 * (ev p z).natAbs
  | [], _, h, _ => absurd rfl h
  | d :: p, hn, _, hp => by
    have hd := hp 0
    rw [co_cons_zero] at hd
    by_cases h : p = []
    · subst h
      rcases hn with z1 | z1
      · cases z1
      · simp only [List.length_singleton, Nat.sub_self, co_cons_zero] at z1
        simp only [ev, List.length_singleton]
        simp only [Nat.sub_self, Nat.pow_zero, Int.mul_zero, Int.add_zero]
        omega
    · have hl : 0 < p.length := List.length_pos_iff.mpr h
      have hn' : Nm p := by
        rcases hn with z1 | z1
        · cases z1
        · right
          rw [List.length_cons, show p.length + 1 - 1 = (p.length - 1) + 1 by omega, co_cons_succ] at z1
          exact z1
      have ih := ev_lower hz p hn' h fun i => by have := hp (i + 1); rwa [co_cons_succ] at this
      simp only [ev, List.length_cons]
      have h1 : (z * ev p z).natAbs ≤ (d + z * ev p z).natAbs + d.natAbs := by omega
      rw [Int.natAbs_mul] at h1
      have h2 : z.natAbs * (z.natAbs ^ (p.length - 1) + 2) ≤ z.natAbs * (3 * (ev p z).natAbs) := Nat.mul_le_mul_left _ ih
      rw [Nat.mul_add, ← Nat.pow_succ', show (p.length - 1).succ = p.length by omega] at h2
      rw [show p.length + 1 - 1 = p.length by omega]
      have h3 : z.natAbs * (3 * (ev p z).natAbs) = 3 * (z.natAbs * (ev p z).natAbs) := Nat.mul_left_comm _ _ _
      omega
theorem digs_len {z : Int} {n l : Nat} (hz : 4 ≤ z) (hn : 0 < n) (hl : n + 1 ≤ z.natAbs ^ l) : (digs z n).length ≤ l + 1 := by
  obtain ⟨h1, h2, _, _, _, h6, _⟩ := found_facts (z := z) (n := (n : Int)) (by omega) (by omega)
  have h3 := ev_lower hz (digs z n) h1 h2 fun i => digF_bd (by omega) _ _ i
  have h4 : ev (digs z n) z = n := digF_ev (by omega) _ _ (by omega) (by omega)
  rw [h4, Int.natAbs_natCast] at h3
  have h5 : z.natAbs ^ ((digs z n).length - 1) < z.natAbs ^ (l + 1) := by
    rw [Nat.pow_succ]
    have : z.natAbs ^ l * 4 ≤ z.natAbs ^ l * z.natAbs := Nat.mul_le_mul_left _ (by omega)
    omega
  have := (Nat.pow_lt_pow_iff_right (show 1 < z.natAbs by omega)).mp h5
  omega
theorem nm_ppart {ns : List Int} (h : Nm ns) : Nm (ppart ns) := by
  rcases h with z | z
  · subst z; exact .inl rfl
  · right
    rw [ppart_len]
    intro y
    have := co_ppart ns (ns.length - 1)
    rw [y, Int.mul_zero] at this
    exact z this.symm
theorem ppart_nil {ns : List Int} : ppart ns = [] ↔ ns = [] := by
  unfold ppart sdiv; exact List.map_eq_nil_iff
theorem ppart_bd {ns : List Int} {B : Nat} (h : ∀ i, (co ns i).natAbs ≤ B) (i : Nat) : (co (ppart ns) i).natAbs ≤ B := by
  have h1 := co_ppart ns i
  have h2 := h i
  rw [← h1, Int.natAbs_mul] at h2
  by_cases hz : gcdL ns = 0
  · have : ∀ i, co ns i = 0 := fun i => by have := co_ppart ns i; rw [hz, Int.zero_mul] at this; exact this.symm
    have e : co (ppart ns) i = 0 := by
      unfold ppart sdiv co
      rw [List.getD_eq_getElem?_getD, List.getElem?_map, hz]
      cases ns[i]? <;> simp
    rw [e]; simp
  · have : 1 * (co (ppart ns) i).natAbs ≤ (gcdL ns).natAbs * (co (ppart ns) i).natAbs := Nat.mul_le_mul_right _ (by omega)
    omega
theorem gcdL_le {ns : List Int} {B : Nat} (hz : Nz ns) (h : ∀ i, (co ns i).natAbs ≤ B) : (gcdL ns).natAbs ≤ B := by
  obtain ⟨i, hi⟩ := hz
  have h1 := gcdL_dvd (ns := ns) i
  have h2 := Int.natAbs_dvd_natAbs.mpr h1
  exact Nat.le_trans (Nat.le_of_dvd (by omega) h2) (h i)
/-- a greatest common divisor of primitive parts is one of the polynomials -/
theorem bez_up {ns ms g p q : List Int} (hn : Nz ns) (hm : Nz ms) (e1 : ∀ x, ev (ppart ns) x = ev g x * ev p x) (e2 : ∀ x, ev (ppart ms) x = ev g x * ev q x)
    (hb : ∃ (u v : List Int) (r : Int), r ≠ 0 ∧ ∀ x, ev u x * ev p x + ev v x * ev q x = r) :
    ∃ (p' q' u v : List Int) (r : Int), r ≠ 0 ∧ (∀ x, ev ns x = ev g x * ev p' x) ∧ (∀ x, ev ms x = ev g x * ev q' x) ∧ ∀ x, ev u x * ev p' x + ev v x * ev q' x = r := by
  obtain ⟨u, v, r, hr, h⟩ := hb
  have g1 := gcdL_pos hn
  have g2 := gcdL_pos hm
  refine ⟨smul (gcdL ns) p, smul (gcdL ms) q, smul (gcdL ms) u, smul (gcdL ns) v, gcdL ns * gcdL ms * r, Int.mul_ne_zero (Int.mul_ne_zero (by omega) (by omega)) hr, fun x => ?_, fun x => ?_, fun x => ?_⟩
  · rw [ev_smul, ← ev_ppart ns x, e1]; grind
  · rw [ev_smul, ← ev_ppart ms x, e2]; grind
  · rw [ev_smul, ev_smul, ev_smul, ev_smul, ← h x]; grind
theorem acc_swap {p q : List Int} (h : ∃ (u v : List Int) (r : Int), r ≠ 0 ∧ ∀ x, ev u x * ev p x + ev v x * ev q x = r) : ∃ (u v : List Int) (r : Int), r ≠ 0 ∧ ∀ x, ev u x * ev q x + ev v x * ev p x = r := by
  obtain ⟨u, v, r, hr, h⟩ := h
  exact ⟨v, u, r, hr, fun x => by rw [← h x]; omega⟩
/-- what is accepted at a place that is great enough for the lower one of two -/
theorem heur_yes {a b p q : List Int} {h1 h2 : Nat} {z : Int} (ha : Nm a) (hb : Nm b) (han : a ≠ []) (hbn : b ≠ []) (b1 : ∀ i, (co a i).natAbs ≤ h1) (b2 : ∀ i, (co b i).natAbs ≤ h2) (hp1 : 1 ≤ h1) (hp2 : 1 ≤ h2)
    (hz : 2 * ((min h1 h2 : Nat) : Int) + 2 ≤ z) (e1 : ∀ x, ev a x = ev (found z ((Nat.gcd (ev a z).natAbs (ev b z).natAbs : Nat) : Int)) x * ev p x)
    (e2 : ∀ x, ev b x = ev (found z ((Nat.gcd (ev a z).natAbs (ev b z).natAbs : Nat) : Int)) x * ev q x) (hn : 0 < Nat.gcd (ev a z).natAbs (ev b z).natAbs) :
    ∃ (u v : List Int) (r : Int), r ≠ 0 ∧ ∀ x, ev u x * ev p x + ev v x * ev q x = r := by
  obtain ⟨f1, f2, f3, f4, f5, f6, f7⟩ := found_facts (z := z) (n := ((Nat.gcd (ev a z).natAbs (ev b z).natAbs : Nat) : Int)) (by omega) (by omega)
  by_cases h : h1 ≤ h2
  · exact accept ha han hp1 b1 (by omega) e1 e2 f4 f3 f7 f6
  · refine acc_swap (accept hb hbn hp2 b2 (by omega) e2 e1 f4 f3 f7 ?_)
    rw [f6, Nat.gcd_comm]
/-- the value that is told by its digits is not 0 and not too great -/
theorem heur_val {a b : List Int} {h1 h2 : Nat} {z : Int} (ha : Nm a) (hb : Nm b) (han : a ≠ []) (hbn : b ≠ []) (b1 : ∀ i, (co a i).natAbs ≤ h1) (b2 : ∀ i, (co b i).natAbs ≤ h2)
    (hz : 2 * ((min h1 h2 : Nat) : Int) + 2 ≤ z) : 0 < Nat.gcd (ev a z).natAbs (ev b z).natAbs ∧ ∃ l, (l = a.length ∨ l = b.length) ∧ Nat.gcd (ev a z).natAbs (ev b z).natAbs + 1 ≤ z.natAbs ^ l := by
  by_cases h : h1 ≤ h2
  · have hne := ev_big a h1 z han (by rcases ha with y | y; exact absurd y han; exact y) b1 (by omega)
    have hg := Nat.gcd_le_left (ev b z).natAbs (show 0 < (ev a z).natAbs by omega)
    have hu := ev_upper (h := h1) (z := z) (by omega) a b1
    exact ⟨Nat.gcd_pos_of_pos_left _ (by omega), a.length, .inl rfl, by omega⟩
  · have hne := ev_big b h2 z hbn (by rcases hb with y | y; exact absurd y hbn; exact y) b2 (by omega)
    have hg := Nat.gcd_le_right (ev a z).natAbs (show 0 < (ev b z).natAbs by omega)
    have hu := ev_upper (h := h2) (z := z) (by omega) b b2
    exact ⟨Nat.gcd_pos_of_pos_right _ (by omega), b.length, .inr rfl, by omega⟩
end Coil

set_option linter.all false
namespace Coil
/-! ### the one form of a quotient -/
structure Can (t b : List Int) : Prop where
  nt : Nm t
  nb : Nm b
  b0 : b ≠ []
  pos : 0 < ldc b
  one : Nat.gcd (gcdL t).natAbs (gcdL b).natAbs = 1
  bez : ∃ (u v : List Int) (r : Int), r ≠ 0 ∧ ∀ x, ev u x * ev t x + ev v x * ev b x = r
theorem gcdL_smul_dvd {p q : List Int} {c d : Int} (h : ∀ i, c * co p i = d * co q i) : c.natAbs * (gcdL p).natAbs ∣ d.natAbs * (gcdL q).natAbs := by
  rw [← Int.natAbs_mul, ← Int.natAbs_mul, Int.natAbs_dvd_natAbs]
  -- all d q_i are multiples of c gcd p, so d gcd q is one
  by_cases hd : d = 0
  · rw [hd, Int.zero_mul]; exact Int.dvd_zero _
  have h1 : ∀ i, c * gcdL p ∣ d * co q i := fun i => by
    rw [← h i]
    exact Int.mul_dvd_mul_left c (gcdL_dvd i)
  have h2 : DvA (c * gcdL p) (smul d q) := fun i => by rw [co_smul]; exact h1 i
  have h3 := dvd_gcdL h2
  have h4 : gcdL (smul d q) ∣ d * gcdL q := by
    -- every number that divides all d q_i divides d gcd q: by d's share
    have h5 : d ∣ gcdL (smul d q) := dvd_gcdL fun i => by rw [co_smul]; exact Int.dvd_mul_right d _
    obtain ⟨e, he⟩ := h5
    have h6 : DvA e q := fun i => by
      have := gcdL_dvd (ns := smul d q) i
      rw [co_smul, he] at this
      exact Int.dvd_of_mul_dvd_mul_left hd this
    rw [he]
    exact Int.mul_dvd_mul_left d (dvd_gcdL h6)
  exact Int.dvd_trans h3 h4
theorem can_same {t b t' b' : List Int} (h : Can t b) (h' : Can t' b') (e : ∀ x, ev t x * ev b' x = ev t' x * ev b x) : t = t' ∧ b = b' := by
  obtain ⟨u, v, r, hr, hb⟩ := h.bez
  obtain ⟨u', v', r', hr', hb'⟩ := h'.bez
  have hbz : Nz b := nz_of_nm h.nb h.b0
  have hbz' : Nz b' := nz_of_nm h'.nb h'.b0
  -- r b' = b w, r' b = b' w'
  have w1 : ∀ x, ev (smul r b') x = ev b x * ev (addP (mulP u t') (mulP v b')) x := fun x => by
    rw [ev_smul, ev_add, ev_mul, ev_mul, ← hb x]
    have := e x
    grind
  have w2 : ∀ x, ev (smul r' b) x = ev b' x * ev (addP (mulP u' t) (mulP v' b)) x := fun x => by
    rw [ev_smul, ev_add, ev_mul, ev_mul, ← hb' x]
    have := e x
    grind
  have sm : ∀ {c : Int} {p : List Int}, c ≠ 0 → Nm p → p ≠ [] → Nm (smul c p) ∧ smul c p ≠ [] := fun {c p} hc hn h0 => by
    refine ⟨.inr ?_, fun y => h0 (List.map_eq_nil_iff.mp y)⟩
    rw [smul_len, co_smul]
    rcases hn with z | z
    · exact absurd z h0
    · exact Int.mul_ne_zero hc z
  have tz : ∀ {c : Int} {p q w : List Int}, c ≠ 0 → Nm p → p ≠ [] → (∀ x, ev (smul c p) x = ev q x * ev w x) → trimZ w ≠ [] := fun {c p q w} hc hn h0 h y => by
    obtain ⟨B, hB⟩ := ev_far _ (nz_of_nm (sm hc hn h0).1 (sm hc hn h0).2)
    have := hB (B + 1) (by omega)
    rw [h, ← ev_trimZ w, y] at this
    simp [ev] at this
  have l1 := len_mul (sm hr h'.nb h'.b0).1 h.nb (nm_trimZ (addP (mulP u t') (mulP v b'))) h.b0 (tz hr h'.nb h'.b0 w1) (fun x => by rw [ev_trimZ, w1])
  have l2 := len_mul (sm hr' h.nb h.b0).1 h'.nb (nm_trimZ (addP (mulP u' t) (mulP v' b))) h'.b0 (tz hr' h.nb h.b0 w2) (fun x => by rw [ev_trimZ, w2])
  rw [smul_len] at l1 l2
  have p1 : 0 < (trimZ (addP (mulP u t') (mulP v b'))).length := List.length_pos_iff.mpr (tz hr h'.nb h'.b0 w1)
  have p2 : 0 < (trimZ (addP (mulP u' t) (mulP v' b))).length := List.length_pos_iff.mpr (tz hr' h.nb h.b0 w2)
  have q1 : 0 < b.length := List.length_pos_iff.mpr h.b0
  obtain ⟨w0, hw0⟩ : ∃ w0, trimZ (addP (mulP u t') (mulP v b')) = [w0] := List.length_eq_one_iff.mp (by omega)
  have ew : ∀ x, ev (addP (mulP u t') (mulP v b')) x = w0 := fun x => by rw [← ev_trimZ, hw0]; simp [ev]
  have eb : ∀ i, r * co b' i = w0 * co b i := fun i => by
    have := ev_ext (smul r b') (smul w0 b) 0 (fun x _ => by rw [w1, ew, ev_smul, Int.mul_comm]) i
    rwa [co_smul, co_smul] at this
  have et : ∀ i, r * co t' i = w0 * co t i := fun i => by
    have := ev_ext (smul r t') (smul w0 t) 0 (fun x hx => ev_cancel hbz (p := smul r t') (q := smul w0 t) (fun x => by
      rw [ev_smul, ev_smul]
      have h1 := e x
      have h2 : r * ev b' x = w0 * ev b x := by
        have := w1 x
        rw [ev_smul, ew] at this
        rw [this, Int.mul_comm]
      grind) x) i
    rwa [co_smul, co_smul] at this
  -- the contents
  have d1 := gcdL_smul_dvd et
  have d2 := gcdL_smul_dvd eb
  have d3 := gcdL_smul_dvd (fun i => (et i).symm)
  have d4 := gcdL_smul_dvd (fun i => (eb i).symm)
  have hrw : r.natAbs = w0.natAbs := by
    refine Nat.dvd_antisymm ?_ ?_
    · have := Nat.dvd_gcd (Nat.dvd_trans (Nat.dvd_mul_right _ _) d1) (Nat.dvd_trans (Nat.dvd_mul_right _ _) d2)
      rwa [Nat.gcd_mul_left, h.one, Nat.mul_one] at this
    · have := Nat.dvd_gcd (Nat.dvd_trans (Nat.dvd_mul_right _ _) d3) (Nat.dvd_trans (Nat.dvd_mul_right _ _) d4)
      rwa [Nat.gcd_mul_left, h'.one, Nat.mul_one] at this
  have hlen : b'.length = b.length := by omega
  have hw : w0 = r := by
    have h1 := eb (b.length - 1)
    have h2 := h.pos
    have h3 := h'.pos
    unfold ldc at h2 h3
    rw [hlen] at h3
    rcases Int.natAbs_eq_natAbs_iff.mp hrw with z | z
    · exact z.symm
    · exfalso
      rw [z, Int.neg_mul] at h1
      have hw0 : w0 ≠ 0 := by omega
      have h4 : w0 * (co b' (b.length - 1) + co b (b.length - 1)) = 0 := by rw [Int.mul_add]; omega
      rcases Int.mul_eq_zero.mp h4 with y | y
      · exact hw0 y
      · omega
  have eqc : ∀ {p q : List Int}, (∀ i, r * co q i = w0 * co p i) → ∀ i, co p i = co q i := fun {p q} h i => by
    have := h i
    rw [hw] at this
    exact (Int.eq_of_mul_eq_mul_left hr this).symm
  exact ⟨co_ext (nm_len h.nt h'.nt (eqc et)) (eqc et), co_ext hlen.symm (eqc eb)⟩
end Coil

set_option linter.all false
namespace Coil
/-! ### how great the coefficients of a factor can be -/
theorem roots_le : ∀ (n : Nat) (p : List Int), p.length ≤ n → Nz p → ∀ ks : List Int, ks.Nodup → (∀ k ∈ ks, ev p k = 0) → ks.length + 1 ≤ n
  | 0, p, hl, hz, _, _, _ => by
    obtain ⟨i, hi⟩ := hz
    exact absurd (co_over (by omega)) hi
  | n + 1, p, hl, hz, [], _, _ => by simp
  | n + 1, p, hl, hz, z :: ks, hnd, hr => by
    obtain ⟨q, hq, e⟩ := synth z p
    have h0 := hr z List.mem_cons_self
    have hqz : Nz q := by
      refine Classical.byContradiction fun y => ?_
      obtain ⟨B, hB⟩ := ev_far p hz
      have := hB (B + 1) (by omega)
      rw [e, h0, not_nz y] at this
      simp at this
    have hnd' := List.nodup_cons.mp hnd
    have := roots_le n q (by omega) hqz ks hnd'.2 fun k hk => by
      have h1 := hr k (List.mem_cons_of_mem _ hk)
      rw [e, h0, Int.zero_add] at h1
      rcases Int.mul_eq_zero.mp h1 with y | y
      · have : z = k := by omega
        subst this
        exact absurd hk hnd'.1
      · exact y
    simp only [List.length_cons]; omega
theorem newton_bd {n : Nat} : ∀ (d : Nat) (M : Nat) (p ks : List Int), p.length ≤ d + 1 → ks.Nodup → ks.length = d + 1 → (∀ k ∈ ks, k.natAbs ≤ n ∧ (ev p k).natAbs ≤ M) → ∀ i, (co p i).natAbs ≤ M * (2 * n + 3) ^ d
  | 0, M, p, ks, hl, hnd, hk, h, i => by
    match ks, hk with
    | [z], _ =>
      have h1 := (h z List.mem_cons_self).2
      match p, hl with
      | [], _ => rw [co_nil]; simp
      | [c], _ =>
        simp only [ev, Int.mul_zero, Int.add_zero] at h1
        cases i with
        | zero => rw [co_cons_zero]; simpa using h1
        | succ i => rw [co_cons_succ, co_nil]; simp
  | d + 1, M, p, ks, hl, hnd, hk, h, i => by
    match ks, hk with
    | z :: ks, hk =>
      obtain ⟨q, hq, e⟩ := synth z p
      have hnd' := List.nodup_cons.mp hnd
      have hz := h z List.mem_cons_self
      have ih := newton_bd (n := n) d (2 * M) q ks (by omega) hnd'.2 (by simpa using hk) fun k hk' => by
        have h1 := h k (List.mem_cons_of_mem _ hk')
        refine ⟨h1.1, ?_⟩
        have h2 := e k
        have hne : z - k ≠ 0 := fun y => hnd'.1 (by have : z = k := (by omega); rw [this]; exact hk')
        have h3 : (z - k).natAbs * (ev q k).natAbs = (ev p k - ev p z).natAbs := by rw [← Int.natAbs_mul]; congr 1; omega
        have h4 : 1 * (ev q k).natAbs ≤ (z - k).natAbs * (ev q k).natAbs := Nat.mul_le_mul_right _ (by omega)
        omega
      have hc : co p i = co (addP [ev p z] (addP (smul z q) (smul (-1) (0 :: q)))) i := ev_ext p _ 0 (fun x _ => by
        rw [ev_add, ev_add, ev_smul, ev_smul, e x]
        simp only [ev]
        grind) i
      rw [hc, co_add, co_add, co_smul, co_smul, co_shift]
      have b1 : (co [ev p z] i).natAbs ≤ M := by
        cases i with
        | zero => rw [co_cons_zero]; exact hz.2
        | succ i => rw [co_cons_succ, co_nil]; simp
      have b2 : (z * co q i).natAbs ≤ n * (2 * M * (2 * n + 3) ^ d) := by
        rw [Int.natAbs_mul]; exact Nat.mul_le_mul hz.1 (ih i)
      have b3 : (if i = 0 then (0 : Int) else co q (i - 1)).natAbs ≤ 2 * M * (2 * n + 3) ^ d := by
        split
        · simp
        · exact ih _
      have b4 : M ≤ M * (2 * n + 3) ^ d := Nat.le_mul_of_pos_right M (Nat.pow_pos (by omega))
      have b5 : M * (2 * n + 3) ^ (d + 1) = M * (2 * n + 3) ^ d + n * (2 * M * (2 * n + 3) ^ d) + 2 * M * (2 * n + 3) ^ d := by
        rw [Nat.pow_succ]
        have e1 : n * (2 * M * (2 * n + 3) ^ d) = 2 * n * (M * (2 * n + 3) ^ d) := by
          rw [Nat.mul_comm 2 n]; simp only [Nat.mul_assoc, Nat.mul_left_comm]
        rw [e1, ← Nat.mul_assoc, Nat.mul_add, Nat.mul_comm _ (2 * n), Nat.mul_assoc 2 M]
        omega
      omega
theorem ev_le {H : Nat} {k : Int} : ∀ p : List Int, (∀ i, (co p i).natAbs ≤ H) → (ev p k).natAbs ≤ H * (k.natAbs + 1) ^ p.length
  | [], _ => by simp [ev]
  | d :: p, hp => by
    have ih := ev_le (H := H) (k := k) p fun i => by have := hp (i + 1); rwa [co_cons_succ] at this
    have hd := hp 0
    rw [co_cons_zero] at hd
    simp only [ev, List.length_cons]
    have h1 := Int.natAbs_add_le d (k * ev p k)
    rw [Int.natAbs_mul] at h1
    have h2 : k.natAbs * (ev p k).natAbs ≤ k.natAbs * (H * (k.natAbs + 1) ^ p.length) := Nat.mul_le_mul_left _ ih
    have h3 : H ≤ H * (k.natAbs + 1) ^ p.length := Nat.le_mul_of_pos_right H (Nat.pow_pos (by omega))
    rw [Nat.pow_succ, ← Nat.mul_assoc, Nat.mul_add, Nat.mul_one, Nat.mul_comm _ k.natAbs]
    omega
theorem nodup_ints (n m : Nat) : ((List.range m).map fun i : Nat => (i : Int) - (n : Int)).Nodup :=
  List.pairwise_map.mpr (List.nodup_range.imp fun h e => h (by omega))
/-- a bound of the coefficients of a factor -/
def Fb (n H : Nat) : Nat := H * (n + 1) ^ (n + 1) * (2 * n + 3) ^ n
theorem factor_bd {a p q : List Int} {n H : Nat} (ha : Nm a) (hl : a.length = n + 1) (hH : ∀ i, (co a i).natAbs ≤ H) (hp : Nm p) (e : ∀ x, ev a x = ev p x * ev q x) (i : Nat) : (co p i).natAbs ≤ Fb n H := by
  have han : a ≠ [] := fun y => by rw [y] at hl; simp at hl
  have haz := nz_of_nm ha han
  by_cases hpn : p = []
  · subst hpn; rw [co_nil]; simp
  have hqz : trimZ q ≠ [] := fun y => by
    obtain ⟨B, hB⟩ := ev_far a haz
    have := hB (B + 1) (by omega)
    rw [e, ← ev_trimZ q, y] at this
    simp [ev] at this
  have hlen := len_mul ha hp (nm_trimZ q) hpn hqz (fun x => by rw [ev_trimZ, e])
  have hql : 0 < (trimZ q).length := List.length_pos_iff.mpr hqz
  let L := (List.range (2 * n + 1)).map fun i : Nat => (i : Int) - (n : Int)
  have hL : L.Nodup := nodup_ints n _
  have hLl : L.length = 2 * n + 1 := by simp [L]
  have h0 : (L.filter fun k => decide (ev a k = 0)).length + 1 ≤ n + 1 := roots_le (n + 1) a (by omega) haz _ (hL.sublist List.filter_sublist) fun k hk => of_decide_eq_true (List.mem_filter.mp hk).2
  have h1 := List.length_eq_countP_add_countP (fun k => decide (ev a k = 0)) (l := L)
  rw [List.countP_eq_length_filter, List.countP_eq_length_filter, hLl] at h1
  have h2 : n + 1 ≤ (L.filter fun k => decide ¬(decide (ev a k = 0) = true)).length := by omega
  generalize hks : (L.filter fun k => decide ¬(decide (ev a k = 0) = true)) = ks at h2
  have hmem : ∀ k ∈ ks, k.natAbs ≤ n ∧ ev a k ≠ 0 := fun k hk => by
    rw [← hks] at hk
    obtain ⟨h3, h4⟩ := List.mem_filter.mp hk
    obtain ⟨i, hi, rfl⟩ := List.mem_map.mp h3
    have := List.mem_range.mp hi
    refine ⟨by omega, fun y => ?_⟩
    rw [y] at h4
    simp at h4
  have hnd : ks.Nodup := by rw [← hks]; exact hL.sublist List.filter_sublist
  refine newton_bd (n := n) n (H * (n + 1) ^ (n + 1)) p (ks.take (n + 1)) (by omega) (hnd.sublist (List.take_sublist _ _)) (by rw [List.length_take]; omega) (fun k hk => ?_) i
  obtain ⟨h3, h4⟩ := hmem k (List.mem_of_mem_take hk)
  refine ⟨h3, ?_⟩
  have h5 : (ev p k).natAbs ≤ (ev a k).natAbs := by
    have := e k
    rw [this, Int.natAbs_mul]
    have hq0 : ev q k ≠ 0 := fun y => h4 (by rw [this, y, Int.mul_zero])
    exact Nat.le_mul_of_pos_right _ (by omega)
  have h6 := ev_le (k := k) a hH
  rw [hl] at h6
  exact Nat.le_trans h5 (Nat.le_trans h6 (Nat.mul_le_mul_left _ (Nat.pow_le_pow_left (by omega) _)))
end Coil

set_option linter.all false
namespace Coil
def overL (ns : List Int) (n : Int) : List Int := ns.map (·.fdiv n)
theorem overL_len (ns : List Int) (n : Int) : (overL ns n).length = ns.length := by simp [overL]
theorem co_overL {ns : List Int} {n : Int} (hn : n ≠ 0) (h : DvA n ns) (i : Nat) : n * co (overL ns n) i = co ns i := by
  by_cases hi : i < ns.length
  · have e : co (overL ns n) i = (co ns i).fdiv n := by
      unfold overL co
      rw [List.getD_eq_getElem?_getD, List.getElem?_map, List.getElem?_eq_getElem hi, List.getD_eq_getElem?_getD, List.getElem?_eq_getElem hi]; rfl
    rw [e]
    obtain ⟨c, hc⟩ := h i
    rw [hc, Int.mul_comm n c, Int.mul_fdiv_cancel c hn, Int.mul_comm]
  · rw [co_over (by rw [overL_len]; omega), co_over (p := ns) (by omega), Int.mul_zero]
theorem ev_overL {ns : List Int} {n : Int} (hn : n ≠ 0) (h : DvA n ns) (x : Int) : n * ev (overL ns n) x = ev ns x := by
  rw [← ev_smul]; exact ev_co (fun i => by rw [co_smul, co_overL hn h]) x
theorem nm_overL {ns : List Int} {n : Int} (hn : n ≠ 0) (h : DvA n ns) (hm : Nm ns) : Nm (overL ns n) := by
  rcases hm with z | z
  · left; rw [z]; rfl
  · right
    rw [overL_len]
    intro y
    rw [← co_overL hn h, y, Int.mul_zero] at z
    exact z rfl
/-- the one form that is made of the two cofactors -/
theorem form_of {t b g p q u v : List Int} {r s : Int} {B : Nat} (hb0 : b ≠ []) (ht : Nm t) (hb : Nm b) (hg : Nm g) (hg0 : g ≠ []) (hp : Nm p) (hq : Nm q) (ep : ∀ x, ev t x = ev p x * ev g x) (eq : ∀ x, ev b x = ev q x * ev g x)
    (hr : r ≠ 0) (bez : ∀ x, ev u x * ev p x + ev v x * ev q x = r) (hs : s = if ldc q < 0 then -1 else 1) (hbt : ∀ i, (co t i).natAbs ≤ B) (hbb : ∀ i, (co b i).natAbs ≤ B) :
    q ≠ [] ∧ (s * ((Nat.gcd (gcdL p).natAbs (gcdL q).natAbs : Nat) : Int) ≠ 0) ∧ (s * ((Nat.gcd (gcdL p).natAbs (gcdL q).natAbs : Nat) : Int)).natAbs ≤ Fb (b.length - 1) B ∧
    Can (overL p (s * ((Nat.gcd (gcdL p).natAbs (gcdL q).natAbs : Nat) : Int))) (overL q (s * ((Nat.gcd (gcdL p).natAbs (gcdL q).natAbs : Nat) : Int))) ∧
    (∀ x, ev (overL p (s * ((Nat.gcd (gcdL p).natAbs (gcdL q).natAbs : Nat) : Int))) x * ev b x = ev t x * ev (overL q (s * ((Nat.gcd (gcdL p).natAbs (gcdL q).natAbs : Nat) : Int))) x) ∧
    p.length ≤ t.length ∧ q.length ≤ b.length ∧ (∀ i, (co (overL p (s * ((Nat.gcd (gcdL p).natAbs (gcdL q).natAbs : Nat) : Int))) i).natAbs ≤ Fb (t.length - 1) B) ∧ (∀ i, (co (overL q (s * ((Nat.gcd (gcdL p).natAbs (gcdL q).natAbs : Nat) : Int))) i).natAbs ≤ Fb (b.length - 1) B) := by
  have hbz := nz_of_nm hb hb0
  have hgz := nz_of_nm hg hg0
  have hq0 : q ≠ [] := fun y => by
    obtain ⟨B', hB⟩ := ev_far b hbz
    have := hB (B' + 1) (by omega)
    rw [eq, y] at this
    simp [ev] at this
  have hqz := nz_of_nm hq hq0
  have hgq := gcdL_pos hqz
  have hgp := gcdL_nonneg p
  have hn0 : 0 < Nat.gcd (gcdL p).natAbs (gcdL q).natAbs := Nat.gcd_pos_of_pos_right _ (by omega)
  generalize hN : Nat.gcd (gcdL p).natAbs (gcdL q).natAbs = N at hn0
  have hs1 : s = 1 ∨ s = -1 := by rw [hs]; split <;> simp
  have hsn : s * (N : Int) ≠ 0 := Int.mul_ne_zero (by rcases hs1 with y | y <;> omega) (by omega)
  have habs : (s * (N : Int)).natAbs = N := by
    rw [Int.natAbs_mul, Int.natAbs_natCast]
    rcases hs1 with y | y <;> rw [y] <;> simp
  have dN : ∀ {w : List Int} {d : Int}, DvA (d.natAbs : Int) w → DvA d w := fun {w d} h i => by
    have := h i
    rwa [Int.natAbs_dvd] at this
  have dp : DvA (s * (N : Int)) p := dN (by
    rw [habs]
    intro i
    exact Int.dvd_trans (by rw [← hN]; exact Int.dvd_trans (Int.ofNat_dvd.mpr (Nat.gcd_dvd_left _ _)) (Int.natAbs_dvd.mpr (Int.dvd_refl _))) (gcdL_dvd i))
  have dq : DvA (s * (N : Int)) q := dN (by
    rw [habs]
    intro i
    exact Int.dvd_trans (by rw [← hN]; exact Int.dvd_trans (Int.ofNat_dvd.mpr (Nat.gcd_dvd_right _ _)) (Int.natAbs_dvd.mpr (Int.dvd_refl _))) (gcdL_dvd i))
  have hlb := len_mul hb hq hg hq0 hg0 eq
  have hgl : 0 < g.length := List.length_pos_iff.mpr hg0
  have hql : 0 < q.length := List.length_pos_iff.mpr hq0
  have hbl : 0 < b.length := List.length_pos_iff.mpr hb0
  have fq : ∀ i, (co q i).natAbs ≤ Fb (b.length - 1) B := factor_bd hb (by omega) hbb hq eq
  have fp : ∀ i, (co p i).natAbs ≤ Fb (t.length - 1) B := fun i => by
    by_cases ht0 : t = []
    · have : ¬ Nz p := fun hz => by
        have hz2 := nz_mul hz hgz (r := t) ep
        rw [ht0] at hz2
        obtain ⟨i, hi⟩ := hz2
        exact hi (co_nil i)
      have h0 : co p i = 0 := Classical.byContradiction fun y => this ⟨i, y⟩
      rw [h0]; simp
    · have := List.length_pos_iff.mpr ht0
      exact factor_bd ht (by omega) hbt hp ep i
  have hlp : p.length ≤ t.length := by
    by_cases hp0 : p = []
    · rw [hp0]; simp
    · have := len_mul ht hp hg hp0 hg0 ep
      omega
  have small : ∀ {w : List Int} {i : Nat}, DvA (s * (N : Int)) w → (co (overL w (s * (N : Int))) i).natAbs ≤ (co w i).natAbs := fun {w i} h => by
    rw [← co_overL hsn h i, Int.natAbs_mul, habs]
    exact Nat.le_mul_of_pos_left _ hn0
  refine ⟨hq0, hsn, ?_, ⟨nm_overL hsn dp hp, nm_overL hsn dq hq, fun y => hq0 (List.map_eq_nil_iff.mp y), ?_, ?_, smul (s * (N : Int)) u, smul (s * (N : Int)) v, r, hr, fun x => ?_⟩, fun x => ?_, hlp, by omega, fun i => Nat.le_trans (small dp) (fp i), fun i => Nat.le_trans (small dq) (fq i)⟩
  · rw [habs, ← hN]
    exact Nat.le_trans (Nat.gcd_le_right _ (by omega)) (gcdL_le hqz fq)
  · have h1 := co_overL hsn dq (q.length - 1)
    unfold ldc
    rw [overL_len]
    have h2 := ldc_ne hq hq0
    unfold ldc at h2 hs
    by_cases hneg : co q (q.length - 1) < 0
    · rw [if_pos hneg] at hs
      refine Decidable.byContradiction fun y => ?_
      have : 0 ≤ s * (N : Int) * co (overL q (s * (N : Int))) (q.length - 1) := Int.mul_nonneg_of_nonpos_of_nonpos (by rw [hs]; omega) (by omega)
      omega
    · rw [if_neg hneg] at hs
      refine Decidable.byContradiction fun y => ?_
      have : s * (N : Int) * co (overL q (s * (N : Int))) (q.length - 1) ≤ 0 := Int.mul_nonpos_of_nonneg_of_nonpos (by rw [hs]; omega) (by omega)
      omega
  · -- the common content is 1
    have hbz' : Nz (overL q (s * (N : Int))) := by
      obtain ⟨i, hi⟩ := hqz
      exact ⟨i, fun y => hi (by rw [← co_overL hsn dq i, y, Int.mul_zero])⟩
    have hd0 : 0 < Nat.gcd (gcdL (overL p (s * (N : Int)))).natAbs (gcdL (overL q (s * (N : Int)))).natAbs := Nat.gcd_pos_of_pos_right _ (by have := gcdL_pos hbz'; omega)
    generalize hD : Nat.gcd (gcdL (overL p (s * (N : Int)))).natAbs (gcdL (overL q (s * (N : Int)))).natAbs = D at hd0
    have key : ∀ {w : List Int}, DvA (s * (N : Int)) w → (D : Int) ∣ gcdL (overL w (s * (N : Int))) → N * D ∣ (gcdL w).natAbs := fun {w} h hd => by
      have h1 : DvA (s * (N : Int) * D) w := fun i => by
        rw [← co_overL hsn h i]
        exact Int.mul_dvd_mul_left _ (Int.dvd_trans hd (gcdL_dvd i))
      have h2 := Int.natAbs_dvd_natAbs.mpr (dvd_gcdL h1)
      rwa [Int.natAbs_mul, habs, Int.natAbs_natCast] at h2
    have k1 := key dp (by rw [← hD]; exact Int.dvd_trans (Int.ofNat_dvd.mpr (Nat.gcd_dvd_left _ _)) (Int.natAbs_dvd.mpr (Int.dvd_refl _)))
    have k2 := key dq (by rw [← hD]; exact Int.dvd_trans (Int.ofNat_dvd.mpr (Nat.gcd_dvd_right _ _)) (Int.natAbs_dvd.mpr (Int.dvd_refl _)))
    have h3 := Nat.dvd_gcd k1 k2
    rw [hN] at h3
    have h4 := Nat.le_of_dvd hn0 h3
    have h5 : N * D ≤ N * 1 := by omega
    have := Nat.le_of_mul_le_mul_left h5 hn0
    omega
  · rw [ev_smul, ev_smul, ← bez x, ← ev_overL hsn dp x, ← ev_overL hsn dq x]; grind
  · rw [ep, eq, ← ev_overL hsn dp x, ← ev_overL hsn dq x]; grind
end Coil

set_option linter.all false
namespace Coil
theorem Hp_mono {N M B : Nat} (hN : 1 ≤ N) (h : N ≤ M) (hB : 1 ≤ B) : Hp N B ≤ Hp M B := by
  unfold Hp
  refine Nat.le_trans (Nat.pow_le_pow_left (Nat.mul_le_mul_right B (Nat.mul_le_mul_left 2 h)) N) (Nat.pow_le_pow_right ?_ h)
  exact Nat.mul_pos (by omega) hB
theorem Fb_mono {n m B : Nat} (h : n ≤ m) : Fb n B ≤ Fb m B := by
  unfold Fb
  refine Nat.mul_le_mul (Nat.mul_le_mul_left B ?_) ?_
  · exact Nat.le_trans (Nat.pow_le_pow_left (by omega) _) (Nat.pow_le_pow_right (by omega) (by omega))
  · exact Nat.le_trans (Nat.pow_le_pow_left (by omega) _) (Nat.pow_le_pow_right (by omega) (by omega))
theorem mulP_bd {p q : List Int} {X Y : Nat} (hp : ∀ i, (co p i).natAbs ≤ X) (hq : ∀ i, (co q i).natAbs ≤ Y) (k : Nat) : (co (mulP p q) k).natAbs ≤ p.length * (X * Y) := by
  rw [co_mulP]
  refine sumN_abs _ fun j _ => ?_
  rw [Int.natAbs_mul]
  refine Nat.mul_le_mul (hp j) ?_
  simp only [sh]
  split
  · exact hq _
  · simp
end Coil

set_option linter.all false
namespace Coil
/-! ### values at x / y, times y to a power -/
def hv : Nat → List Int → Int → Int → Int
  | _, [], _, _ => 0
  | n, a :: p, x, y => a * y ^ n + x * hv (n - 1) p x y
theorem hv_smul (c : Int) (x y : Int) : ∀ (n : Nat) (p : List Int), hv n (smul c p) x y = c * hv n p x y
  | n, [] => by simp [smul, hv]
  | n, a :: p => by
    have := hv_smul c x y (n - 1) p
    unfold smul at this ⊢
    simp only [List.map_cons, hv, this]
    grind
theorem hv_add (x y : Int) : ∀ (n : Nat) (p q : List Int), hv n (addP p q) x y = hv n p x y + hv n q x y
  | n, [], q => by simp [addP, hv]
  | n, a :: p, [] => by simp [addP, hv]
  | n, a :: p, b :: q => by
    have := hv_add x y (n - 1) p q
    simp only [addP, hv, this]
    grind
theorem hv_shift (x y : Int) (k : Nat) : ∀ (n : Nat) (p : List Int), p.length ≤ n + 1 → hv (n + k) p x y = y ^ k * hv n p x y
  | n, [], _ => by simp [hv]
  | 0, [a], _ => by simp [hv]; exact Int.mul_comm _ _
  | 0, a :: b :: p, h => by simp at h
  | n + 1, a :: p, h => by
    have ih := hv_shift x y k n p (by simpa using h)
    show a * y ^ (n + 1 + k) + x * hv (n + 1 + k - 1) p x y = y ^ k * (a * y ^ (n + 1) + x * hv (n + 1 - 1) p x y)
    rw [show n + 1 + k - 1 = n + k by omega, show n + 1 - 1 = n by omega, ih, Int.pow_add y (n + 1) k]
    grind
theorem hv_mul (x y : Int) (m : Nat) (q : List Int) (hq : q.length ≤ m + 1) : ∀ (n : Nat) (p : List Int), p.length ≤ n + 1 → hv (n + m) (mulP p q) x y = hv n p x y * hv m q x y
  | n, [], _ => by simp [mulP, hv]
  | 0, [a], _ => by
    simp only [mulP, hv, hv_add, hv_smul, Nat.zero_add, Int.pow_zero, Int.zero_mul, Int.mul_zero, Int.add_zero, Int.mul_one]
  | 0, a :: b :: p, h => by simp at h
  | n + 1, a :: p, h => by
    have ih := hv_mul x y m q hq n p (by simpa using h)
    have hs := hv_shift x y (n + 1) m q hq
    show hv (n + 1 + m) (addP (smul a q) (0 :: mulP p q)) x y = (a * y ^ (n + 1) + x * hv (n + 1 - 1) p x y) * hv m q x y
    rw [hv_add, hv_smul]
    show a * hv (n + 1 + m) q x y + (0 * y ^ (n + 1 + m) + x * hv (n + 1 + m - 1) (mulP p q) x y) = _
    rw [show n + 1 + m - 1 = n + m by omega, ih, show n + 1 - 1 = n by omega, show n + 1 + m = m + (n + 1) by omega, hs]
    grind
theorem hv_zero (x y : Int) : ∀ (n : Nat) (p : List Int), (∀ i, co p i = 0) → hv n p x y = 0
  | n, [], _ => rfl
  | n, a :: p, h => by
    have h0 : a = 0 := h 0
    have := hv_zero x y (n - 1) p fun i => by have := h (i + 1); rwa [co_cons_succ] at this
    simp only [hv, this, h0]; omega
theorem hv_co (x y : Int) : ∀ (n : Nat) (p q : List Int), (∀ i, co p i = co q i) → hv n p x y = hv n q x y
  | n, [], q, h => by rw [hv_zero x y n q fun i => by rw [← h]; exact co_nil i]; rfl
  | n, a :: p, [], h => hv_zero x y n (a :: p) fun i => by rw [h]; exact co_nil i
  | n, a :: p, b :: q, h => by
    have h0 : a = b := h 0
    have := hv_co x y (n - 1) p q fun i => by have := h (i + 1); simpa only [co_cons_succ] using this
    simp only [hv, this, h0]
theorem hv_ext (x y : Int) (n : Nat) {p q : List Int} (h : ∀ z, ev p z = ev q z) : hv n p x y = hv n q x y := hv_co x y n p q (ev_ext p q 0 fun z _ => h z)
/-- an identity of two products -/
theorem hv_two {p q r s : List Int} {n : Nat} (x y : Int) (hp : p.length ≤ n + 1) (hq : q.length ≤ n + 1) (hr : r.length ≤ n + 1) (hs : s.length ≤ n + 1) (e : ∀ z, ev p z * ev q z = ev r z * ev s z) : hv n p x y * hv n q x y = hv n r x y * hv n s x y := by
  rw [← hv_mul x y n q hq n p hp, ← hv_mul x y n s hs n r hr]
  exact hv_ext x y _ fun z => by rw [ev_mul, ev_mul, e]
/-- what is drawn by the last coefficients -/
theorem hv_step {p : List Int} {i n : Nat} {x y : Int} (h : p.length ≤ n + 1) (hi : i ≤ n) : hv i (p.drop (n - i)) x y = co p (n - i) * y ^ i + x * hv (i - 1) (p.drop (n + 1 - i)) x y := by
  by_cases hl : n - i < p.length
  · rw [List.drop_eq_getElem_cons hl, show n + 1 - i = n - i + 1 by omega]
    show p[n - i] * y ^ i + _ = _
    unfold co
    rw [List.getD_eq_getElem?_getD, List.getElem?_eq_getElem hl]; rfl
  · rw [co_over (by omega), List.drop_eq_nil_of_le (by omega), List.drop_eq_nil_of_le (by omega)]
    simp [hv]
theorem hv_size {c d : Nat} {x y : Int} (hx : x.natAbs < 2 ^ d) (hy : y.natAbs < 2 ^ d) : ∀ (n : Nat) (p : List Int), p.length ≤ n + 1 → (∀ i, (co p i).natAbs ≤ 2 ^ c) → (hv n p x y).natAbs < 2 ^ (c + 1 + (d + 1) * n)
  | n, [], _, _ => by simp [hv]; exact Nat.pow_pos (by decide)
  | 0, [a], _, h => by
    have := h 0
    simp only [hv, Int.pow_zero, Int.mul_one, Int.mul_zero, Int.add_zero, Nat.mul_zero, Nat.add_zero]
    have h1 : a.natAbs ≤ 2 ^ c := this
    have h2 : (2 : Nat) ^ (c + 1) = 2 * 2 ^ c := by rw [Nat.pow_succ']
    have h3 : 0 < (2 : Nat) ^ c := Nat.pow_pos (by decide)
    omega
  | 0, a :: b :: p, h, _ => by simp at h
  | n + 1, a :: p, h, hc => by
    have ih := hv_size hx hy n p (by simpa using h) fun i => by have := hc (i + 1); rwa [co_cons_succ] at this
    have h1 : a.natAbs ≤ 2 ^ c := hc 0
    show (a * y ^ (n + 1) + x * hv n p x y).natAbs < _
    have h2 := Int.natAbs_add_le (a * y ^ (n + 1)) (x * hv n p x y)
    rw [Int.natAbs_mul, Int.natAbs_mul, Int.natAbs_pow] at h2
    have h3 : a.natAbs * y.natAbs ^ (n + 1) ≤ 2 ^ c * (2 ^ d) ^ (n + 1) := Nat.mul_le_mul h1 (Nat.pow_le_pow_left (Nat.le_of_lt hy) _)
    have h4 : x.natAbs * (hv n p x y).natAbs < 2 ^ d * 2 ^ (c + 1 + (d + 1) * n) := Nat.mul_lt_mul'' hx ih
    have h5 : 2 ^ c * (2 ^ d) ^ (n + 1) ≤ 2 ^ (c + d * (n + 1)) := by rw [← Nat.pow_mul, ← Nat.pow_add]; exact Nat.le_refl _
    have h6 : (2 : Nat) ^ (c + d * (n + 1)) ≤ 2 ^ (d + (c + 1 + (d + 1) * n)) := Nat.pow_le_pow_right (by decide) (by rw [Nat.mul_add, Nat.add_mul]; omega)
    rw [← Nat.pow_add] at h4
    have h7 : (2 : Nat) ^ (c + 1 + (d + 1) * (n + 1)) = 2 * 2 ^ (d + (c + 1 + (d + 1) * n)) := by
      rw [← Nat.pow_succ']
      congr 1
      rw [Nat.mul_add]; omega
    omega
/-- at a pole of the one form the top is not 0 -/
theorem can_hv {t b : List Int} {n : Nat} {x y : Int} (h : Can t b) (hy : y ≠ 0) (ht : t.length ≤ n + 1) (hb : b.length ≤ n + 1) (h1 : hv n t x y = 0) (h2 : hv n b x y = 0) : False := by
  obtain ⟨u, v, r, hr, e⟩ := h.bez
  have hN : ∀ k, hv k [r] x y = r * y ^ k := fun k => by simp [hv]
  have h3 := hv_ext x y (max u.length v.length + n) (p := addP (mulP u t) (mulP v b)) (q := [r]) fun z => by rw [ev_add, ev_mul, ev_mul, e]; simp [ev]
  rw [hv_add, hv_mul x y n t ht _ u (by omega), hv_mul x y n b hb _ v (by omega), h1, h2, hN] at h3
  simp only [Int.mul_zero, Int.add_zero] at h3
  have := Int.mul_ne_zero hr (Int.pow_ne_zero hy (m := max u.length v.length + n))
  omega
/-- a ratio in its one form -/
def Rat1 (a b : Int) : Prop := 0 < b ∧ Nat.gcd a.natAbs b.natAbs = 1
theorem rat_same {a b c d : Int} (h : Rat1 a b) (h' : Rat1 c d) (e : a * d = c * b) : a = c ∧ b = d := by
  obtain ⟨hb, g⟩ := h
  obtain ⟨hd, g'⟩ := h'
  have e' : a.natAbs * d.natAbs = c.natAbs * b.natAbs := by rw [← Int.natAbs_mul, ← Int.natAbs_mul, e]
  have d1 : b.natAbs ∣ d.natAbs := (Nat.Coprime.symm g).dvd_of_dvd_mul_left (by rw [e']; exact Nat.dvd_mul_left _ _)
  have d2 : d.natAbs ∣ b.natAbs := (Nat.Coprime.symm g').dvd_of_dvd_mul_left (by rw [← e']; exact Nat.dvd_mul_left _ _)
  have hbd : b = d := by have := Nat.dvd_antisymm d1 d2; omega
  refine ⟨?_, hbd⟩
  rw [hbd] at e
  exact Int.eq_of_mul_eq_mul_right (by omega) e
end Coil

set_option linter.all false
namespace Coil
/-! ### identities of functions at x / y -/
theorem mulP_len2 : ∀ p q : List Int, (mulP p q).length ≤ p.length + q.length
  | [], q => by simp [mulP]
  | a :: p, q => by
    have := mulP_len2 p q
    simp only [mulP, addP_len, smul_len, List.length_cons]
    omega
theorem mulP_le {p q : List Int} {n m : Nat} (hp : p.length ≤ n + 1) (hq : q.length ≤ m + 1) (h : 0 < n) : (mulP p q).length ≤ n + m + 1 + 1 := by
  have := mulP_len2 p q
  omega
/-- three and three -/
theorem hv_three {p q r s t u : List Int} {n : Nat} (x y : Int) (h1 : p.length ≤ n) (h2 : q.length ≤ n) (h3 : r.length ≤ n) (h4 : s.length ≤ n) (h5 : t.length ≤ n) (h6 : u.length ≤ n)
    (e : ∀ z, ev p z * (ev q z * ev r z) = ev s z * (ev t z * ev u z)) : hv n p x y * (hv n q x y * hv n r x y) = hv n s x y * (hv n t x y * hv n u x y) := by
  have l1 : (mulP q r).length ≤ n + n + 1 := by have := mulP_len2 q r; omega
  have l2 : (mulP t u).length ≤ n + n + 1 := by have := mulP_len2 t u; omega
  rw [← hv_mul x y n r (by omega) n q (by omega), ← hv_mul x y n u (by omega) n t (by omega), ← hv_mul x y (n + n) _ l1 n p (by omega), ← hv_mul x y (n + n) _ l2 n s (by omega)]
  exact hv_ext x y _ fun z => by rw [ev_mul, ev_mul, ev_mul, ev_mul, e]
/-- a sum of two products, times one -/
theorem hv_sum {u b b' t t' v : List Int} {n : Nat} (c x y : Int) (h1 : u.length ≤ n) (h2 : b.length ≤ n) (h3 : b'.length ≤ n) (h4 : t.length ≤ n) (h5 : t'.length ≤ n) (h6 : v.length ≤ n)
    (e : ∀ z, ev u z * (ev b z * ev b' z) = (ev t z * ev b' z + c * (ev t' z * ev b z)) * ev v z) : hv n u x y * (hv n b x y * hv n b' x y) = (hv n t x y * hv n b' x y + c * (hv n t' x y * hv n b x y)) * hv n v x y := by
  have l1 : (mulP b b').length ≤ n + n + 1 := by have := mulP_len2 b b'; omega
  have l2 : (mulP t b').length ≤ n + n + 1 := by have := mulP_len2 t b'; omega
  have l3 : (mulP t' b).length ≤ n + n + 1 := by have := mulP_len2 t' b; omega
  have l4 : (addP (mulP t b') (smul c (mulP t' b))).length ≤ n + n + 1 := by rw [addP_len, smul_len]; omega
  have e1 : hv (n + n) (addP (mulP t b') (smul c (mulP t' b))) x y = hv n t x y * hv n b' x y + c * (hv n t' x y * hv n b x y) := by
    rw [hv_add, hv_smul, hv_mul x y n b' (by omega) n t (by omega), hv_mul x y n b (by omega) n t' (by omega)]
  rw [← e1, ← hv_mul x y n b' (by omega) n b (by omega), ← hv_mul x y (n + n) _ l1 n u (by omega), ← hv_mul x y n v (by omega) (n + n) _ l4, show n + (n + n) = n + n + n by omega]
  exact hv_ext x y _ fun z => by rw [ev_mul, ev_mul, ev_mul, ev_add, ev_smul, ev_mul, ev_mul, e]
/-- cancelling -/
theorem z_cancel {a b c : Int} (h : c ≠ 0) (e : c * a = c * b) : a = b := Int.eq_of_mul_eq_mul_left h e
/-- what a value a / e is, U / V being the function's, N / D what is asked -/
theorem at_eq {a e U V N D : Int} (hV : V ≠ 0) (h : a * V = U * e) (hc : U * D = N * V) : a * D = N * e := z_cancel hV (by grind)
/-- the power -/
def hM (p : List Int) (x y : Int) : Int := hv 60 p x y
theorem hM_of {p : List Int} {n : Nat} {x y : Int} (h : p.length ≤ n + 1) (hn : n ≤ 60) : hM p x y = y ^ (60 - n) * hv n p x y := by
  unfold hM
  have := hv_shift x y (60 - n) n p h
  rwa [show n + (60 - n) = 60 by omega] at this
end Coil

set_option linter.all false
namespace Coil
theorem z_plus {U V T1 V1 T2 V2 A0 A1 B0 B1 c : Int} (h1 : V1 ≠ 0) (h2 : V2 ≠ 0) (e : U * (V1 * V2) = (T1 * V2 + c * (T2 * V1)) * V) (e1 : T1 * A1 = A0 * V1) (e2 : T2 * B1 = B0 * V2) : U * (A1 * B1) = (A0 * B1 + c * (B0 * A1)) * V :=
  z_cancel (Int.mul_ne_zero h1 h2) (by
    have q1 : V1 * V2 * (U * (A1 * B1)) = (U * (V1 * V2)) * (A1 * B1) := by grind
    rw [q1, e]
    have q2 : (T1 * V2 + c * (T2 * V1)) * V * (A1 * B1) = (T1 * A1) * (V2 * V * B1) + c * ((T2 * B1) * (V1 * V * A1)) := by grind
    rw [q2, e1, e2]
    grind)
theorem z_times {U V T1 V1 T2 V2 A0 A1 B0 B1 : Int} (h1 : V1 ≠ 0) (h2 : V2 ≠ 0) (e : U * (V1 * V2) = (T1 * T2) * V) (e1 : T1 * A1 = A0 * V1) (e2 : T2 * B1 = B0 * V2) : U * (A1 * B1) = (A0 * B0) * V :=
  z_cancel (Int.mul_ne_zero h1 h2) (by
    have q1 : V1 * V2 * (U * (A1 * B1)) = (U * (V1 * V2)) * (A1 * B1) := by grind
    rw [q1, e]
    have q2 : (T1 * T2) * V * (A1 * B1) = (T1 * A1) * ((T2 * B1) * V) := by grind
    rw [q2, e1, e2]
    grind)
theorem z_over {U V T1 V1 T2 V2 A0 A1 B0 B1 : Int} (h1 : V1 ≠ 0) (h2 : T2 ≠ 0) (e : U * (V1 * T2) = (T1 * V2) * V) (e1 : T1 * A1 = A0 * V1) (e2 : T2 * B1 = B0 * V2) : U * (A1 * B0) = (A0 * B1) * V :=
  z_cancel (Int.mul_ne_zero h1 h2) (by
    have q1 : V1 * T2 * (U * (A1 * B0)) = (U * (V1 * T2)) * (A1 * B0) := by grind
    rw [q1, e]
    have q2 : (T1 * V2) * V * (A1 * B0) = (T1 * A1) * ((B0 * V2) * V) := by grind
    rw [q2, e1, ← e2]
    grind)
/-- the bottom's value is not 0 where that of a form of it is not -/
theorem z_ne {U V W N : Int} (hW : W ≠ 0) (h : V = 0 → U ≠ 0) (e : U * W = N * V) : V ≠ 0 := fun z => by
  rw [z, Int.mul_zero] at e
  rcases Int.mul_eq_zero.mp e with y | y
  · exact h z y
  · exact hW y
end Coil

set_option linter.all false
namespace Coil
/-! ### a function in the place of the variable -/
theorem hv_one (x : Int) : ∀ (n : Nat) (p : List Int), hv n p x 1 = ev p x
  | n, [] => rfl
  | n, a :: p => by simp only [hv, ev, hv_one x (n - 1) p, Int.one_pow, Int.mul_one]
theorem hv_scale (k x y : Int) : ∀ (n : Nat) (p : List Int), p.length ≤ n + 1 → hv n p (k * x) (k * y) = k ^ n * hv n p x y
  | n, [], _ => by simp [hv]
  | 0, [a], _ => by simp [hv]
  | 0, a :: b :: p, h => by simp at h
  | n + 1, a :: p, h => by
    have ih := hv_scale k x y n p (by simpa using h)
    show a * (k * y) ^ (n + 1) + k * x * hv (n + 1 - 1) p (k * x) (k * y) = k ^ (n + 1) * (a * y ^ (n + 1) + x * hv (n + 1 - 1) p x y)
    rw [show n + 1 - 1 = n by omega, ih, Int.mul_pow, Int.pow_succ k]
    grind
/-- powers of polynomials -/
def powP (b : List Int) : Nat → List Int
  | 0 => [1]
  | n + 1 => mulP (powP b n) b
theorem ev_pow (b : List Int) (x : Int) : ∀ n, ev (powP b n) x = ev b x ^ n
  | 0 => by simp [powP, ev]
  | n + 1 => by simp only [powP, ev_mul, ev_pow b x n, Int.pow_succ]
/-- as a polynomial -/
def hvP : Nat → List Int → List Int → List Int → List Int
  | _, [], _, _ => []
  | n, a :: p, t, b => addP (smul a (powP b n)) (mulP t (hvP (n - 1) p t b))
theorem ev_hvP (t b : List Int) (x : Int) : ∀ (n : Nat) (p : List Int), ev (hvP n p t b) x = hv n p (ev t x) (ev b x)
  | n, [] => rfl
  | n, a :: p => by simp only [hvP, hv, ev_add, ev_smul, ev_mul, ev_pow, ev_hvP t b x (n - 1) p]
theorem hv_low {t b : List Int} (ht : Nz t) : ∀ (n : Nat) (p : List Int), Nz p → (∀ x, hv n p (ev t x) (ev b x) = 0) → ∃ (a : Int) (k : Nat) (w : List Int), a ≠ 0 ∧ ∀ x, a * ev b x ^ k = ev t x * ev w x
  | n, [], hp, _ => by obtain ⟨i, hi⟩ := hp; exact absurd (co_nil i) hi
  | n, a :: p, hp, h => by
    by_cases ha : a = 0
    · have h2 : ∀ x, ev t x * ev (hvP (n - 1) p t b) x = ev t x * ev [] x := fun x => by
        have := h x
        simp only [hv, ha, Int.zero_mul, Int.zero_add] at this
        rw [ev_hvP, this]; simp [ev]
      have h3 := ev_cancel ht h2
      refine hv_low ht (n - 1) p ?_ fun x => by rw [← ev_hvP, h3]; rfl
      obtain ⟨i, hi⟩ := hp
      match i, hi with
      | 0, hi => exact absurd ha hi
      | i + 1, hi => exact ⟨i, by rwa [co_cons_succ] at hi⟩
    · refine ⟨a, n, smul (-1) (hvP (n - 1) p t b), ha, fun x => ?_⟩
      have := h x
      simp only [hv] at this
      rw [ev_smul, ev_hvP]
      grind
theorem hv_high {t b : List Int} : ∀ (m : Nat) (p : List Int), p.length = m + 1 → ∃ w : List Int, ∀ x, hv m p (ev t x) (ev b x) = co p m * ev t x ^ m + ev b x * ev w x
  | 0, [a], _ => ⟨[], fun x => by simp [hv, ev, co]⟩
  | 0, [], h => by simp at h
  | 0, a :: c :: p, h => by simp at h
  | m + 1, [], h => by simp at h
  | m + 1, a :: p, h => by
    obtain ⟨w, hw⟩ := hv_high (t := t) (b := b) m p (by simpa using h)
    refine ⟨addP (smul a (powP b m)) (mulP t w), fun x => ?_⟩
    show a * ev b x ^ (m + 1) + ev t x * hv (m + 1 - 1) p (ev t x) (ev b x) = _
    rw [show m + 1 - 1 = m by omega, hw, co_cons_succ, ev_add, ev_smul, ev_pow, ev_mul, Int.pow_succ, Int.pow_succ]
    grind
/-- what divides a power of what it has nothing in common with -/
theorem bez_pow {t b u v : List Int} {r : Int} (h : ∀ x, ev u x * ev t x + ev v x * ev b x = r) : ∀ k, ∃ w : List Int, ∀ x, r ^ k = ev t x * ev w x + ev v x ^ k * ev b x ^ k
  | 0 => ⟨[], fun x => by simp [ev]⟩
  | k + 1 => by
    obtain ⟨w, hw⟩ := bez_pow h k
    refine ⟨addP (mulP w (smul r [1])) (mulP u (mulP (powP v k) (powP b k))), fun x => ?_⟩
    rw [Int.pow_succ, ev_add, ev_mul, ev_mul, ev_mul, ev_smul, ev_pow, ev_pow, Int.pow_succ, Int.pow_succ]
    have e1 : ev [1] x = 1 := by simp [ev]
    rw [e1]
    have h1 := hw x
    have h2 := h x
    rw [h1]
    have h3 : (ev t x * ev w x + ev v x ^ k * ev b x ^ k) * r = ev t x * ev w x * r + ev v x ^ k * ev b x ^ k * (ev u x * ev t x + ev v x * ev b x) := by rw [h2]; grind
    rw [h3]
    grind
theorem const_of {t b u v w : List Int} {r a : Int} {k : Nat} (ht : Nm t) (hr : r ≠ 0) (ha : a ≠ 0) (h : ∀ x, ev u x * ev t x + ev v x * ev b x = r) (e : ∀ x, a * ev b x ^ k = ev t x * ev w x) : t.length ≤ 1 := by
  obtain ⟨w', hw'⟩ := bez_pow h k
  have hc : a * r ^ k ≠ 0 := Int.mul_ne_zero ha (Int.pow_ne_zero hr)
  have e2 : ∀ x, ev [a * r ^ k] x = ev t x * ev (addP (smul a w') (mulP (powP v k) w)) x := fun x => by
    have h1 := hw' x
    have h2 := e x
    have h3 : ev [a * r ^ k] x = a * r ^ k := by simp [ev]
    rw [h3, h1, ev_add, ev_smul, ev_mul, ev_pow]
    have h4 : a * (ev t x * ev w' x + ev v x ^ k * ev b x ^ k) = a * (ev t x * ev w' x) + ev v x ^ k * (a * ev b x ^ k) := by grind
    rw [h4, h2]
    grind
  by_cases ht0 : t = []
  · rw [ht0]; simp
  have hw0 : trimZ (addP (smul a w') (mulP (powP v k) w)) ≠ [] := fun y => by
    have := e2 0
    rw [← ev_trimZ (addP _ _), y] at this
    simp only [ev, Int.mul_zero, Int.add_zero] at this
    exact hc this
  have := len_mul (a := [a * r ^ k]) (.inr hc) ht (nm_trimZ _) ht0 hw0 (fun x => by rw [ev_trimZ, e2])
  have := List.length_pos_iff.mpr hw0
  simp only [List.length_cons, List.length_nil] at *
  omega
/-- only a constant function meets a pole everywhere -/
theorem all_pole {t b p : List Int} {n : Nat} (h : Can t b) (hp : Nm p) (hp0 : p ≠ []) (hl : p.length ≤ n + 1) (e : ∀ x, hv n p (ev t x) (ev b x) = 0) : t.length ≤ 1 ∧ b.length = 1 := by
  obtain ⟨u, v, r, hr, hb⟩ := h.bez
  have hbz := nz_of_nm h.nb h.b0
  have hpl : 0 < p.length := List.length_pos_iff.mpr hp0
  constructor
  · by_cases ht : t = []
    · rw [ht]; simp
    obtain ⟨a, k, w, ha, hw⟩ := hv_low (nz_of_nm h.nt ht) n p (nz_of_nm hp hp0) e
    exact const_of h.nt hr ha hb hw
  · obtain ⟨w, hw⟩ := hv_high (t := t) (b := b) (p.length - 1) p (by omega)
    have hlast : co p (p.length - 1) ≠ 0 := by
      rcases hp with z | z
      · exact absurd z hp0
      · exact z
    have hbp : ∀ x, ev (powP b (n - (p.length - 1))) x * ev (hvP (p.length - 1) p t b) x = ev (powP b (n - (p.length - 1))) x * ev [] x := fun x => by
      have h1 := hv_shift (ev t x) (ev b x) (n - (p.length - 1)) (p.length - 1) p (by omega)
      rw [show p.length - 1 + (n - (p.length - 1)) = n by omega, e] at h1
      rw [ev_pow, ev_hvP, ← h1]; simp [ev]
    have hpz : ∀ k, Nz (powP b k) := fun k => by
      induction k with
      | zero => exact ⟨0, by simp [powP, co]⟩
      | succ k ih => exact nz_mul ih hbz (ev_mul _ _)
    have h0 := ev_cancel (hpz _) hbp
    have h1 : b.length ≤ 1 := const_of (t := b) (b := t) (u := v) (v := u) (w := smul (-1) w) (k := p.length - 1) h.nb hr hlast (fun x => by rw [Int.add_comm]; exact hb x) fun x => by
      have h2 := h0 x
      rw [ev_hvP, hw] at h2
      simp only [ev] at h2
      rw [ev_smul]
      grind
    have := List.length_pos_iff.mpr h.b0
    omega
end Coil

set_option linter.all false
namespace Coil
/-! ### the one form divides every form -/
theorem can_div_r {t b t0 b0 : List Int} (h : Can t b) : ∀ (n : Nat) (r : Int) (w : List Int), r ≠ 0 → r.natAbs ≤ n → (∀ x, r * ev t0 x = ev t x * ev w x) → (∀ x, r * ev b0 x = ev b x * ev w x) → ∃ w' : List Int, (∀ x, ev t0 x = ev t x * ev w' x) ∧ ∀ x, ev b0 x = ev b x * ev w' x
  | 0, r, w, hr, hn, _, _ => by omega
  | n + 1, r, w, hr, hn, e1, e2 => by
    by_cases h1 : r.natAbs = 1
    · refine ⟨smul r w, fun x => ?_, fun x => ?_⟩
      · have := e1 x
        rw [ev_smul]
        have hrr : r * r = 1 := by rcases Int.natAbs_eq r with z | z <;> rw [z, h1] <;> rfl
        have h2 : r * (r * ev t0 x) = r * (ev t x * ev w x) := by rw [this]
        rw [← Int.mul_assoc, hrr, Int.one_mul] at h2
        rw [h2]; grind
      · have := e2 x
        rw [ev_smul]
        have hrr : r * r = 1 := by rcases Int.natAbs_eq r with z | z <;> rw [z, h1] <;> rfl
        have h2 : r * (r * ev b0 x) = r * (ev b x * ev w x) := by rw [this]
        rw [← Int.mul_assoc, hrr, Int.one_mul] at h2
        rw [h2]; grind
    · obtain ⟨p, hp, hpr⟩ := prime_ex (n := r.natAbs) (by omega)
      have hp2 := hp.1
      have hpr' : (p : Int) ∣ r := Int.natAbs_dvd_natAbs.mp (by simpa using hpr)
      have d1 : DvA p (mulP t w) := fun i => by
        have := ev_ext (mulP t w) (smul r t0) 0 (fun x _ => by rw [ev_mul, ev_smul, e1]) i
        rw [this, co_smul]
        exact Int.dvd_trans hpr' (Int.dvd_mul_right _ _)
      have d2 : DvA p (mulP b w) := fun i => by
        have := ev_ext (mulP b w) (smul r b0) 0 (fun x _ => by rw [ev_mul, ev_smul, e2]) i
        rw [this, co_smul]
        exact Int.dvd_trans hpr' (Int.dvd_mul_right _ _)
      have dw : DvA p w := by
        rcases gauss_p hp _ t w (Nat.le_refl _) d1 with z | z
        · rcases gauss_p hp _ b w (Nat.le_refl _) d2 with z2 | z2
          · exfalso
            have g1 := Int.natAbs_dvd_natAbs.mpr (dvd_gcdL z)
            have g2 := Int.natAbs_dvd_natAbs.mpr (dvd_gcdL z2)
            have g3 := Nat.dvd_gcd g1 g2
            rw [h.one] at g3
            have := Nat.le_of_dvd (by decide) g3
            simp at this
            omega
          · exact z2
        · exact z
      obtain ⟨r2, hr2⟩ := hpr'
      have hp0 : (p : Int) ≠ 0 := by omega
      have hr20 : r2 ≠ 0 := fun z => hr (by rw [hr2, z, Int.mul_zero])
      have hlt : r2.natAbs ≤ n := by
        have : r.natAbs = p * r2.natAbs := by rw [hr2, Int.natAbs_mul]; simp
        have h3 : 2 * r2.natAbs ≤ p * r2.natAbs := Nat.mul_le_mul_right _ hp2
        omega
      refine can_div_r h n r2 (sdiv w p) hr20 hlt (fun x => ?_) (fun x => ?_)
      · refine Int.eq_of_mul_eq_mul_left hp0 ?_
        have := e1 x
        have hs := ev_sdiv dw x
        rw [← hs, hr2] at this
        grind
      · refine Int.eq_of_mul_eq_mul_left hp0 ?_
        have := e2 x
        have hs := ev_sdiv dw x
        rw [← hs, hr2] at this
        grind
theorem can_div {t b t0 b0 : List Int} (h : Can t b) (e : ∀ x, ev t x * ev b0 x = ev t0 x * ev b x) : ∃ w : List Int, (∀ x, ev t0 x = ev t x * ev w x) ∧ ∀ x, ev b0 x = ev b x * ev w x := by
  obtain ⟨u, v, r, hr, hb⟩ := h.bez
  refine can_div_r h r.natAbs r (addP (mulP u t0) (mulP v b0)) hr (Nat.le_refl _) (fun x => ?_) (fun x => ?_)
  · rw [ev_add, ev_mul, ev_mul, ← hb x]
    have := e x
    grind
  · rw [ev_add, ev_mul, ev_mul, ← hb x]
    have := e x
    grind
theorem div_sz {a p w : List Int} {l H : Nat} (ha : Nm a) (hp : Nm p) (l1 : 1 ≤ l) (hl : a.length ≤ l) (hH : ∀ n ∈ a, n.natAbs ≤ H) (h1 : 1 ≤ H) (h0 : a = [] → p = []) (e : ∀ x, ev a x = ev p x * ev w x) : p.length ≤ l ∧ ∀ i, (co p i).natAbs ≤ Fb (l - 1) H := by
  by_cases han : a = []
  · rw [h0 han]
    exact ⟨by simp, fun i => by rw [co_nil]; simp⟩
  by_cases hpn : p = []
  · rw [hpn]
    exact ⟨by simp, fun i => by rw [co_nil]; simp⟩
  have haz := nz_of_nm ha han
  have hw : trimZ w ≠ [] := fun y => by
    obtain ⟨B, hB⟩ := ev_far a haz
    have := hB (B + 1) (by omega)
    rw [e, ← ev_trimZ w, y] at this
    simp [ev] at this
  have hlen := len_mul ha hp (nm_trimZ w) hpn hw fun x => by rw [ev_trimZ, e]
  have := List.length_pos_iff.mpr hw
  have hal : 0 < a.length := List.length_pos_iff.mpr han
  refine ⟨by omega, fun i => Nat.le_trans (factor_bd (n := a.length - 1) ha (by omega) (fun j => ?_) hp e i) (Fb_mono (by omega))⟩
  unfold co
  rw [List.getD_eq_getElem?_getD]
  by_cases hj : j < a.length
  · rw [List.getElem?_eq_getElem hj]
    exact hH _ (List.getElem_mem _)
  · rw [List.getElem?_eq_none (by omega)]
    simp
/-! ### composition, at x / y -/
def Dg (n : Nat) (p : List Int) : Prop := ∀ i, n < i → co p i = 0
theorem dg_len {n : Nat} {p : List Int} (h : p.length ≤ n + 1) : Dg n p := fun i hi => co_over (by omega)
theorem dg_trim {n : Nat} {p : List Int} (h : Dg n p) : (trimZ p).length ≤ n + 1 := trimZ_short fun i hi => h i (by omega)
theorem hv_trim (n : Nat) (p : List Int) (x y : Int) : hv n (trimZ p) x y = hv n p x y := hv_co x y n _ _ (co_trimZ p)
theorem dg_zero {n : Nat} {p : List Int} (h : ∀ x, ev p x = 0) : Dg n p := fun i _ => by
  rw [ev_ext p [] 0 (fun x _ => by rw [h]; rfl) i, co_nil]
theorem dg_mul {n m : Nat} {p q : List Int} (hp : Dg n p) (hq : Dg m q) : Dg (n + m) (mulP p q) := by
  by_cases h : trimZ p = [] ∨ trimZ q = []
  · refine dg_zero fun x => ?_
    rw [ev_mul, ← ev_trimZ p, ← ev_trimZ q]
    rcases h with h | h <;> rw [h] <;> simp [ev]
  · intro i hi
    have e : co (mulP p q) i = co (mulP (trimZ p) (trimZ q)) i := ev_ext _ _ 0 (fun x _ => by rw [ev_mul, ev_mul, ev_trimZ, ev_trimZ]) i
    have := (nm_mulP (nm_trimZ p) (nm_trimZ q) (fun z => h (.inl z)) (fun z => h (.inr z))).2
    have l1 := dg_trim hp
    have l2 := dg_trim hq
    rw [e, co_over (by omega)]
theorem dg_add {n : Nat} {p q : List Int} (hp : Dg n p) (hq : Dg n q) : Dg n (addP p q) := fun i hi => by rw [co_add, hp i hi, hq i hi]; rfl
theorem dg_smul {n : Nat} {p : List Int} (c : Int) (hp : Dg n p) : Dg n (smul c p) := fun i hi => by rw [co_smul, hp i hi, Int.mul_zero]
theorem dg_up {n m : Nat} {p : List Int} (h : Dg n p) (hm : n ≤ m) : Dg m p := fun i hi => h i (by omega)
theorem hv_mulD (x y : Int) {n m : Nat} {p q : List Int} (hp : Dg n p) (hq : Dg m q) : hv (n + m) (mulP p q) x y = hv n p x y * hv m q x y := by
  rw [← hv_trim n p, ← hv_trim m q, ← hv_mul x y m _ (dg_trim hq) n _ (dg_trim hp)]
  exact hv_ext x y _ fun z => by rw [ev_mul, ev_mul, ev_trimZ, ev_trimZ]
theorem hv_pow {b : List Int} {k : Nat} (x y : Int) (hb : Dg k b) : ∀ n, Dg (n * k) (powP b n) ∧ hv (n * k) (powP b n) x y = hv k b x y ^ n
  | 0 => ⟨dg_len (by simp [powP]), by simp [powP, hv]⟩
  | n + 1 => by
    obtain ⟨h1, h2⟩ := hv_pow x y hb n
    rw [Nat.succ_mul]
    exact ⟨dg_mul h1 hb, by rw [show powP b (n + 1) = mulP (powP b n) b from rfl, hv_mulD x y h1 hb, h2, Int.pow_succ]⟩
theorem hv_comp {t b : List Int} {k : Nat} (x y : Int) (ht : Dg k t) (hb : Dg k b) : ∀ (n : Nat) (p : List Int), p.length ≤ n + 1 → Dg (n * k) (hvP n p t b) ∧ hv (n * k) (hvP n p t b) x y = hv n p (hv k t x y) (hv k b x y)
  | n, [], _ => ⟨dg_zero fun _ => rfl, rfl⟩
  | 0, [a], _ => by
    have h1 : ∀ z, ev (mulP t (hvP (0 - 1) [] t b)) z = 0 := fun z => by rw [ev_mul]; simp [hvP, ev]
    refine ⟨dg_add (dg_smul a (dg_len (by simp [powP]))) (dg_zero h1), ?_⟩
    show hv (0 * k) (addP (smul a (powP b 0)) (mulP t (hvP (0 - 1) [] t b))) x y = hv 0 [a] (hv k t x y) (hv k b x y)
    have e : hv (0 * k) (mulP t (hvP (0 - 1) [] t b)) x y = 0 := by
      rw [hv_ext x y _ (q := []) fun z => by rw [h1]; rfl]; rfl
    rw [hv_add, hv_smul, e, Nat.zero_mul]
    simp [powP, hv]
  | 0, a :: c :: p, h => by simp at h
  | n + 1, a :: p, h => by
    obtain ⟨i1, i2⟩ := hv_comp x y ht hb n p (by simpa using h)
    obtain ⟨h1, h2⟩ := hv_pow x y hb (n + 1)
    have e : (n + 1) * k = k + n * k := by rw [Nat.succ_mul]; omega
    refine ⟨dg_add (dg_smul a h1) ?_, ?_⟩
    · show Dg ((n + 1) * k) (mulP t (hvP (n + 1 - 1) p t b))
      rw [show n + 1 - 1 = n by omega, e]
      exact dg_mul ht i1
    · show hv ((n + 1) * k) (addP (smul a (powP b (n + 1))) (mulP t (hvP (n + 1 - 1) p t b))) x y = a * hv k b x y ^ (n + 1) + hv k t x y * hv (n + 1 - 1) p (hv k t x y) (hv k b x y)
      rw [hv_add, hv_smul, h2, show n + 1 - 1 = n by omega]
      congr 1
      rw [e, hv_mulD x y ht i1, i2]
/-- a function of a function, where the inner one has a value -/
theorem comp_at {t b s d u v : List Int} {n k : Nat} {x y m e : Int} (lt : t.length ≤ n + 1) (lb : b.length ≤ n + 1) (ls : s.length ≤ k + 1) (ld : d.length ≤ k + 1) (N : Nat) (lu : u.length ≤ N + 1) (lv : v.length ≤ N + 1)
    (h : ∀ z, ev u z * hv n b (ev s z) (ev d z) = hv n t (ev s z) (ev d z) * ev v z) (he : e ≠ 0) (hd : hv k d x y ≠ 0) (hm : m * hv k d x y = hv k s x y * e) : hv N u x y * hv n b m e = hv n t m e * hv N v x y := by
  obtain ⟨g1, g2⟩ := hv_comp x y (dg_len ls) (dg_len ld) n b lb
  obtain ⟨f1, f2⟩ := hv_comp x y (dg_len ls) (dg_len ld) n t lt
  have q : hv N u x y * hv n b (hv k s x y) (hv k d x y) = hv n t (hv k s x y) (hv k d x y) * hv N v x y := by
    rw [← g2, ← f2, ← hv_mulD x y (dg_len lu) g1, ← hv_mulD x y f1 (dg_len lv), Nat.add_comm N]
    exact hv_ext x y _ fun z => by rw [ev_mul, ev_mul, ev_hvP, ev_hvP, h]
  have sc : ∀ {p : List Int}, p.length ≤ n + 1 → e ^ n * hv n p (hv k s x y) (hv k d x y) = hv k d x y ^ n * hv n p m e := fun {p} hp => by
    rw [← hv_scale e _ _ n p hp, ← hv_scale (hv k d x y) _ _ n p hp]
    congr 1
    · rw [Int.mul_comm e, ← hm, Int.mul_comm]
    · exact Int.mul_comm _ _
  have q2 : e ^ n * (hv N u x y * hv n b (hv k s x y) (hv k d x y)) = e ^ n * (hv n t (hv k s x y) (hv k d x y) * hv N v x y) := by rw [q]
  have s1 := sc lb
  have s2 := sc lt
  have q3 : hv k d x y ^ n * (hv N u x y * hv n b m e) = hv k d x y ^ n * (hv n t m e * hv N v x y) := by
    have r1 : e ^ n * (hv N u x y * hv n b (hv k s x y) (hv k d x y)) = hv N u x y * (e ^ n * hv n b (hv k s x y) (hv k d x y)) := by grind
    have r2 : e ^ n * (hv n t (hv k s x y) (hv k d x y) * hv N v x y) = (e ^ n * hv n t (hv k s x y) (hv k d x y)) * hv N v x y := by grind
    rw [r1, r2, s1, s2] at q2
    grind
  exact Int.eq_of_mul_eq_mul_left (Int.pow_ne_zero hd) q3
end Coil

set_option linter.all false
namespace Coil
/-! ### the variable's negative -/
def bk : Int → List Int → List Int
  | _, [] => []
  | s, a :: p => s * a :: bk (-s) p
theorem bk_len : ∀ (s : Int) (p : List Int), (bk s p).length = p.length
  | _, [] => rfl
  | s, a :: p => by simp [bk, bk_len (-s) p]
theorem bk_snoc : ∀ (s : Int) (p : List Int) (c : Int), bk s (p ++ [c]) = bk s p ++ [s * (-1) ^ p.length * c]
  | s, [], c => by simp [bk]
  | s, a :: p, c => by
    simp only [List.cons_append, bk, bk_snoc (-s) p c, List.length_cons, Int.pow_succ]
    congr 3
    grind
theorem neg_one_pow (i : Nat) : (-1 : Int) ^ i = if i % 2 = 1 then -1 else 1 := by
  induction i with
  | zero => rfl
  | succ i ih =>
    rw [Int.pow_succ, ih]
    by_cases h : i % 2 = 1
    · rw [if_pos h, if_neg (by omega)]; rfl
    · rw [if_neg h, if_pos (by omega)]; rfl
theorem co_bk : ∀ (s : Int) (p : List Int) (i : Nat), co (bk s p) i = s * (-1) ^ i * co p i
  | s, [], i => by simp [bk, co]
  | s, a :: p, 0 => by simp [bk, co]
  | s, a :: p, i + 1 => by
    show co (s * a :: bk (-s) p) (i + 1) = _
    rw [co_cons_succ, co_cons_succ, co_bk (-s) p i, Int.pow_succ]
    grind
theorem pow_one_sq (i : Nat) : ((-1 : Int) ^ i).natAbs = 1 := by
  rw [neg_one_pow]; split <;> rfl
theorem bk_abs (p : List Int) (i : Nat) : (co (bk 1 p) i).natAbs = (co p i).natAbs := by
  rw [co_bk, Int.natAbs_mul, Int.one_mul, pow_one_sq, Nat.one_mul]
theorem bk_nm {p : List Int} (h : Nm p) : Nm (bk 1 p) := by
  rcases h with z | z
  · left; rw [z]; rfl
  · right
    rw [bk_len]
    intro y
    have := bk_abs p (p.length - 1)
    rw [y] at this
    exact z (Int.natAbs_eq_zero.mp this.symm)
/-! ### values at (x + i y) / w, times w to a power: real part, other part -/
def cx : Nat → List Int → Int → Int → Int → Int × Int
  | _, [], _, _, _ => (0, 0)
  | n, a :: p, x, y, w => (a * w ^ n + (x * (cx (n - 1) p x y w).1 - y * (cx (n - 1) p x y w).2), x * (cx (n - 1) p x y w).2 + y * (cx (n - 1) p x y w).1)
section
variable (x y w : Int)
theorem cx_smul (c : Int) : ∀ (n : Nat) (p : List Int), cx n (smul c p) x y w = (c * (cx n p x y w).1, c * (cx n p x y w).2)
  | n, [] => by simp [smul, cx]
  | n, a :: p => by
    have := cx_smul c (n - 1) p
    unfold smul at this ⊢
    simp only [List.map_cons, cx, this]
    refine Prod.ext ?_ ?_ <;> dsimp only <;> grind
theorem cx_add : ∀ (n : Nat) (p q : List Int), cx n (addP p q) x y w = ((cx n p x y w).1 + (cx n q x y w).1, (cx n p x y w).2 + (cx n q x y w).2)
  | n, [], q => by simp [addP, cx]
  | n, a :: p, [] => by simp [addP, cx]
  | n, a :: p, b :: q => by
    have := cx_add (n - 1) p q
    simp only [addP, cx, this]
    refine Prod.ext ?_ ?_ <;> dsimp only <;> grind
theorem cx_shift (k : Nat) : ∀ (n : Nat) (p : List Int), p.length ≤ n + 1 → cx (n + k) p x y w = (w ^ k * (cx n p x y w).1, w ^ k * (cx n p x y w).2)
  | n, [], _ => by simp [cx]
  | 0, [a], _ => by simp [cx]; exact Int.mul_comm _ _
  | 0, a :: b :: p, h => by simp at h
  | n + 1, a :: p, h => by
    have ih := cx_shift k n p (by simpa using h)
    have e1 : cx (n + 1 + k) (a :: p) x y w = (a * w ^ (n + 1 + k) + (x * (cx (n + k) p x y w).1 - y * (cx (n + k) p x y w).2), x * (cx (n + k) p x y w).2 + y * (cx (n + k) p x y w).1) := by
      show (_, _) = _
      rw [show n + 1 + k - 1 = n + k by omega]
    have e2 : cx (n + 1) (a :: p) x y w = (a * w ^ (n + 1) + (x * (cx n p x y w).1 - y * (cx n p x y w).2), x * (cx n p x y w).2 + y * (cx n p x y w).1) := rfl
    rw [e1, e2, ih, Int.pow_add w (n + 1) k]
    refine Prod.ext ?_ ?_ <;> dsimp only <;> grind
theorem cx_mul (m : Nat) (q : List Int) (hq : q.length ≤ m + 1) : ∀ (n : Nat) (p : List Int), p.length ≤ n + 1 →
    cx (n + m) (mulP p q) x y w = ((cx n p x y w).1 * (cx m q x y w).1 - (cx n p x y w).2 * (cx m q x y w).2, (cx n p x y w).1 * (cx m q x y w).2 + (cx n p x y w).2 * (cx m q x y w).1)
  | n, [], _ => by simp [mulP, cx]
  | 0, [a], _ => by
    simp only [mulP, cx_add, cx_smul, cx, Nat.zero_add, Int.pow_zero]
    refine Prod.ext ?_ ?_ <;> dsimp only <;> grind
  | 0, a :: b :: p, h => by simp at h
  | n + 1, a :: p, h => by
    have ih := cx_mul m q hq n p (by simpa using h)
    have hs := cx_shift x y w (n + 1) m q hq
    have e1 : cx (n + 1 + m) (0 :: mulP p q) x y w = (0 * w ^ (n + 1 + m) + (x * (cx (n + m) (mulP p q) x y w).1 - y * (cx (n + m) (mulP p q) x y w).2), x * (cx (n + m) (mulP p q) x y w).2 + y * (cx (n + m) (mulP p q) x y w).1) := by
      show (_, _) = _
      rw [show n + 1 + m - 1 = n + m by omega]
    have e2 : cx (n + 1) (a :: p) x y w = (a * w ^ (n + 1) + (x * (cx n p x y w).1 - y * (cx n p x y w).2), x * (cx n p x y w).2 + y * (cx n p x y w).1) := rfl
    show cx (n + 1 + m) (addP (smul a q) (0 :: mulP p q)) x y w = _
    rw [cx_add, cx_smul, e1, e2, ih, show n + 1 + m = m + (n + 1) by omega, hs]
    refine Prod.ext ?_ ?_ <;> dsimp only <;> grind
theorem cx_zero : ∀ (n : Nat) (p : List Int), (∀ i, co p i = 0) → cx n p x y w = (0, 0)
  | n, [], _ => rfl
  | n, a :: p, h => by
    have h0 : a = 0 := h 0
    have := cx_zero (n - 1) p fun i => by have := h (i + 1); rwa [co_cons_succ] at this
    simp only [cx, this, h0]
    refine Prod.ext ?_ ?_ <;> dsimp only <;> omega
theorem cx_co : ∀ (n : Nat) (p q : List Int), (∀ i, co p i = co q i) → cx n p x y w = cx n q x y w
  | n, [], q, h => by rw [cx_zero x y w n q fun i => by rw [← h]; exact co_nil i]; rfl
  | n, a :: p, [], h => cx_zero x y w n (a :: p) fun i => by rw [h]; exact co_nil i
  | n, a :: p, b :: q, h => by
    have h0 : a = b := h 0
    have := cx_co (n - 1) p q fun i => by have := h (i + 1); simpa only [co_cons_succ] using this
    simp only [cx, this, h0]
theorem cx_scale (k : Int) : ∀ (n : Nat) (p : List Int), p.length ≤ n + 1 → cx n p (k * x) (k * y) (k * w) = (k ^ n * (cx n p x y w).1, k ^ n * (cx n p x y w).2)
  | n, [], _ => by simp [cx]
  | 0, [a], _ => by simp [cx]
  | 0, a :: b :: p, h => by simp at h
  | n + 1, a :: p, h => by
    have ih := cx_scale k n p (by simpa using h)
    have e1 : ∀ x y w, cx (n + 1) (a :: p) x y w = (a * w ^ (n + 1) + (x * (cx n p x y w).1 - y * (cx n p x y w).2), x * (cx n p x y w).2 + y * (cx n p x y w).1) := fun _ _ _ => rfl
    rw [e1, e1, ih, Int.mul_pow, Int.pow_succ k]
    refine Prod.ext ?_ ?_ <;> dsimp only <;> grind
theorem cx_step {p : List Int} {i n : Nat} (h : p.length ≤ n + 1) (hi : i ≤ n) : cx i (p.drop (n - i)) x y w = (co p (n - i) * w ^ i + (x * (cx (i - 1) (p.drop (n + 1 - i)) x y w).1 - y * (cx (i - 1) (p.drop (n + 1 - i)) x y w).2), x * (cx (i - 1) (p.drop (n + 1 - i)) x y w).2 + y * (cx (i - 1) (p.drop (n + 1 - i)) x y w).1) := by
  by_cases hl : n - i < p.length
  · rw [List.drop_eq_getElem_cons hl, show n + 1 - i = n - i + 1 by omega]
    show (p[n - i] * w ^ i + _, _) = _
    unfold co
    rw [List.getD_eq_getElem?_getD, List.getElem?_eq_getElem hl]; rfl
  · rw [co_over (by omega), List.drop_eq_nil_of_le (by omega), List.drop_eq_nil_of_le (by omega)]
    simp [cx]
end
theorem cx_size {c d : Nat} {x y w : Int} (hx : x.natAbs < 2 ^ d) (hy : y.natAbs < 2 ^ d) (hw : w.natAbs < 2 ^ d) : ∀ (n : Nat) (p : List Int), p.length ≤ n + 1 → (∀ i, (co p i).natAbs ≤ 2 ^ c) →
    (cx n p x y w).1.natAbs < 2 ^ (c + 1 + (d + 2) * n) ∧ (cx n p x y w).2.natAbs < 2 ^ (c + 1 + (d + 2) * n)
  | n, [], _, _ => by simp [cx]; exact Nat.pow_pos (by decide)
  | 0, [a], _, h => by
    have := h 0
    simp only [cx, Int.pow_zero, Int.mul_one, Int.mul_zero, Int.add_zero, Int.sub_zero, Nat.mul_zero, Nat.add_zero]
    have h1 : a.natAbs ≤ 2 ^ c := this
    have h2 : (2 : Nat) ^ (c + 1) = 2 * 2 ^ c := by rw [Nat.pow_succ']
    have h3 : 0 < (2 : Nat) ^ c := Nat.pow_pos (by decide)
    refine ⟨by omega, by show 0 < _; omega⟩
  | 0, a :: b :: p, h, _ => by simp at h
  | n + 1, a :: p, h, hc => by
    obtain ⟨i1, i2⟩ := cx_size hx hy hw n p (by simpa using h) fun i => by have := hc (i + 1); rwa [co_cons_succ] at this
    have h1 : a.natAbs ≤ 2 ^ c := hc 0
    have e : cx (n + 1) (a :: p) x y w = (a * w ^ (n + 1) + (x * (cx n p x y w).1 - y * (cx n p x y w).2), x * (cx n p x y w).2 + y * (cx n p x y w).1) := rfl
    rw [e]
    dsimp only
    generalize (cx n p x y w).1 = r at i1
    generalize (cx n p x y w).2 = s at i2
    have m1 : (x * r).natAbs < 2 ^ d * 2 ^ (c + 1 + (d + 2) * n) := by rw [Int.natAbs_mul]; exact Nat.mul_lt_mul'' hx i1
    have m2 : (y * s).natAbs < 2 ^ d * 2 ^ (c + 1 + (d + 2) * n) := by rw [Int.natAbs_mul]; exact Nat.mul_lt_mul'' hy i2
    have m3 : (x * s).natAbs < 2 ^ d * 2 ^ (c + 1 + (d + 2) * n) := by rw [Int.natAbs_mul]; exact Nat.mul_lt_mul'' hx i2
    have m4 : (y * r).natAbs < 2 ^ d * 2 ^ (c + 1 + (d + 2) * n) := by rw [Int.natAbs_mul]; exact Nat.mul_lt_mul'' hy i1
    have m5 : (a * w ^ (n + 1)).natAbs ≤ 2 ^ (c + d * (n + 1)) := by
      rw [Int.natAbs_mul, Int.natAbs_pow]
      have q : w.natAbs ^ (n + 1) ≤ (2 ^ d) ^ (n + 1) := Nat.pow_le_pow_left (Nat.le_of_lt hw) _
      rw [← Nat.pow_mul] at q
      have := Nat.mul_le_mul h1 q
      rwa [← Nat.pow_add] at this
    rw [← Nat.pow_add] at m1 m2 m3 m4
    have h6 : (2 : Nat) ^ (c + d * (n + 1)) ≤ 2 ^ (d + (c + 1 + (d + 2) * n)) := Nat.pow_le_pow_right (by decide) (by rw [Nat.mul_add, Nat.add_mul]; omega)
    have h7 : (2 : Nat) ^ (c + 1 + (d + 2) * (n + 1)) = 4 * 2 ^ (d + (c + 1 + (d + 2) * n)) := by
      rw [show (4 : Nat) = 2 ^ 2 from rfl, ← Nat.pow_add]
      congr 1
      rw [Nat.mul_add]; omega
    rw [h7]
    omega
end Coil
namespace Coil
/-! ### real parts on the axis -/
theorem sq_two (w : Int) : w ^ 2 = w * w := by rw [show (2 : Nat) = 1 + 1 from rfl, Int.pow_succ, Int.pow_succ, Int.pow_zero, Int.one_mul]
def rt : List Int → List Int
  | [] => []
  | [a] => [a]
  | a :: _ :: p => a :: smul (-1) (rt p)
theorem co_rt : ∀ (p : List Int) (i : Nat), co (rt p) i = (-1) ^ i * co p (2 * i)
  | [], i => by simp [rt, co]
  | [a], 0 => by simp [rt, co]
  | [a], i + 1 => by
    show co [a] (i + 1) = _
    rw [co_over (by simp), co_over (p := [a]) (by simp; omega)]; simp
  | a :: b :: p, 0 => by simp [rt, co]
  | a :: b :: p, i + 1 => by
    show co (a :: smul (-1) (rt p)) (i + 1) = _
    rw [co_cons_succ, co_smul, co_rt p i, show 2 * (i + 1) = 2 * i + 1 + 1 by omega, co_cons_succ, co_cons_succ, Int.pow_succ]
    grind
theorem cx_axis (y w : Int) : ∀ (m : Nat) (p : List Int), p.length ≤ 2 * m + 1 → (cx (2 * m) p 0 y w).1 = hv m (rt p) (y * y) (w * w)
  | m, [], _ => by simp [cx, rt, hv]
  | m, [a], _ => by
    simp only [cx, rt, hv, Int.mul_zero, Int.zero_mul, Int.sub_zero, Int.add_zero]
    rw [Int.pow_mul]
    congr 2
    exact sq_two w
  | 0, a :: b :: p, h => by simp at h
  | m + 1, a :: b :: p, h => by
    have ih := cx_axis y w m p (by simp at h; omega)
    have e : (cx (2 * (m + 1)) (a :: b :: p) 0 y w).1 = a * w ^ (2 * (m + 1)) - y * (y * (cx (2 * m) p 0 y w).1) := by
      show a * w ^ (2 * (m + 1)) + (0 * (cx (2 * (m + 1) - 1) (b :: p) 0 y w).1 - y * (0 * (cx (2 * (m + 1) - 1 - 1) p 0 y w).2 + y * (cx (2 * (m + 1) - 1 - 1) p 0 y w).1)) = _
      rw [show 2 * (m + 1) - 1 - 1 = 2 * m by omega]
      grind
    rw [e, ih]
    show _ = a * (w * w) ^ (m + 1) + y * y * hv (m + 1 - 1) (smul (-1) (rt p)) (y * y) (w * w)
    rw [show m + 1 - 1 = m by omega, hv_smul, Int.pow_mul, sq_two w]
    grind
theorem cx_conj (y w : Int) : ∀ (n : Nat) (s : Int) (p : List Int), cx n (bk s p) 0 y w = (s * (cx n p 0 y w).1, -(s * (cx n p 0 y w).2))
  | n, s, [] => by simp [bk, cx]
  | n, s, a :: p => by
    have := cx_conj y w (n - 1) (-s) p
    simp only [bk, cx, this]
    refine Prod.ext ?_ ?_ <;> dsimp only <;> grind
end Coil

set_option linter.all false
namespace Coil
theorem rt_len : ∀ p : List Int, (rt p).length = (p.length + 1) / 2
  | [] => rfl
  | [a] => by simp [rt]
  | a :: b :: p => by simp only [rt, List.length_cons, smul_len, rt_len p]; omega
theorem own_shift (x y u : Int) {p : List Int} {n : Nat} (hp : p.length ≤ n + 1) : cx n p x y u = (u ^ (n - (p.length - 1)) * (cx (p.length - 1) p x y u).1, u ^ (n - (p.length - 1)) * (cx (p.length - 1) p x y u).2) := by
  have := cx_shift x y u (n - (p.length - 1)) (p.length - 1) p (by omega)
  rwa [show p.length - 1 + (n - (p.length - 1)) = n by omega] at this
theorem pt_scale {p : List Int} {n : Nat} {x y u X Y U : Int} (hp : p.length ≤ n + 1) (h1 : X * u = x * U) (h2 : Y * u = y * U) :
    u ^ n * (cx n p X Y U).1 = U ^ n * (cx n p x y u).1 ∧ u ^ n * (cx n p X Y U).2 = U ^ n * (cx n p x y u).2 := by
  have e1 := cx_scale X Y U u n p hp
  have e2 := cx_scale x y u U n p hp
  have e : cx n p (u * X) (u * Y) (u * U) = cx n p (U * x) (U * y) (U * u) := by
    rw [Int.mul_comm u X, h1, Int.mul_comm u Y, h2, Int.mul_comm x U, Int.mul_comm y U, Int.mul_comm u U]
  rw [e1, e2] at e
  exact ⟨congrArg Prod.fst e, congrArg Prod.snd e⟩
/-- two ways to the same value -/
theorem fin_eq {a e c d S X al be tp bp : Int} (hb : be ≠ 0) (hS : S ≠ 0) (ht : tp ≠ 0) (h1 : a * (be * S) = al * X * e) (h2 : al * tp = be * bp) (h3 : c * (S * tp) = X * bp * d) : a * d = c * e := by
  have q1 : be * (a * S * tp) = be * (bp * X * e) := by
    have : be * (a * S * tp) = (a * (be * S)) * tp := by grind
    rw [this, h1]
    have : al * X * e * tp = (al * tp) * (X * e) := by grind
    rw [this, h2]; grind
  have q2 := Int.eq_of_mul_eq_mul_left hb q1
  refine Int.eq_of_mul_eq_mul_left (Int.mul_ne_zero hS ht) ?_
  have : S * tp * (a * d) = (a * S * tp) * d := by grind
  rw [this, q2]
  have : S * tp * (c * e) = (c * (S * tp)) * e := by grind
  rw [this, h3]
  grind
/-- the law's parts at the point, and the program's -/
theorem parts_rel {t b : List Int} {n : Nat} {x y u X Y U : Int} (lt : t.length ≤ n + 1) (lb : b.length ≤ n + 1) (hu : 0 < u) (hU : 0 < U) (h1 : X * u = x * U) (h2 : Y * u = y * U) :
    ∃ P al be : Int, 0 < P ∧ 0 < al ∧ 0 < be ∧ al * u ^ (t.length - 1) = be * u ^ (b.length - 1) ∧
      P * P * ((cx n b X Y U).1 * (cx n b X Y U).1 + (cx n b X Y U).2 * (cx n b X Y U).2) = be * be * ((cx (b.length - 1) b x y u).1 * (cx (b.length - 1) b x y u).1 + (cx (b.length - 1) b x y u).2 * (cx (b.length - 1) b x y u).2) ∧
      P * P * ((cx n t X Y U).1 * (cx n b X Y U).1 + (cx n t X Y U).2 * (cx n b X Y U).2) = al * be * ((cx (t.length - 1) t x y u).1 * (cx (b.length - 1) b x y u).1 + (cx (t.length - 1) t x y u).2 * (cx (b.length - 1) b x y u).2) ∧
      P * P * ((cx n t X Y U).2 * (cx n b X Y U).1 - (cx n t X Y U).1 * (cx n b X Y U).2) = al * be * ((cx (t.length - 1) t x y u).2 * (cx (b.length - 1) b x y u).1 - (cx (t.length - 1) t x y u).1 * (cx (b.length - 1) b x y u).2) := by
  obtain ⟨t1, t2⟩ := pt_scale lt h1 h2
  obtain ⟨b1, b2⟩ := pt_scale lb h1 h2
  rw [own_shift x y u lt] at t1 t2
  rw [own_shift x y u lb] at b1 b2
  dsimp only at t1 t2 b1 b2
  refine ⟨u ^ n, U ^ n * u ^ (n - (t.length - 1)), U ^ n * u ^ (n - (b.length - 1)), Int.pow_pos hu, Int.mul_pos (Int.pow_pos hU) (Int.pow_pos hu), Int.mul_pos (Int.pow_pos hU) (Int.pow_pos hu), ?_, ?_, ?_, ?_⟩
  · rw [Int.mul_assoc, Int.mul_assoc, ← Int.pow_add, ← Int.pow_add]
    congr 2
    omega
  all_goals
    generalize (cx n t X Y U).1 = A1 at *
    generalize (cx n t X Y U).2 = A2 at *
    generalize (cx n b X Y U).1 = B1 at *
    generalize (cx n b X Y U).2 = B2 at *
    generalize (cx (t.length - 1) t x y u).1 = a1 at *
    generalize (cx (t.length - 1) t x y u).2 = a2 at *
    generalize (cx (b.length - 1) b x y u).1 = c1 at *
    generalize (cx (b.length - 1) b x y u).2 = c2 at *
    generalize u ^ n = P at *
    generalize U ^ n = W at *
    generalize u ^ (n - (t.length - 1)) = T at *
    generalize u ^ (n - (b.length - 1)) = B at *
  · have : P * P * (B1 * B1 + B2 * B2) = (P * B1) * (P * B1) + (P * B2) * (P * B2) := by grind
    rw [this, b1, b2]; grind
  · have : P * P * (A1 * B1 + A2 * B2) = (P * A1) * (P * B1) + (P * A2) * (P * B2) := by grind
    rw [this, t1, t2, b1, b2]; grind
  · have : P * P * (A2 * B1 - A1 * B2) = (P * A2) * (P * B1) - (P * A1) * (P * B2) := by grind
    rw [this, t1, t2, b1, b2]; grind
/-- the real part on the axis, by the function of the square -/
theorem axis_rel {t b : List Int} {m : Nat} (y u : Int) (lt : t.length ≤ m + 1) (lb : b.length ≤ m + 1) (hlen : (mulP t (bk 1 b)).length ≤ 2 * m + 1) :
    hv m (rt (mulP t (bk 1 b))) (y * y) (u * u) = (cx m t 0 y u).1 * (cx m b 0 y u).1 + (cx m t 0 y u).2 * (cx m b 0 y u).2 := by
  rw [← cx_axis y u m _ hlen, show 2 * m = m + m by omega, cx_mul 0 y u m (bk 1 b) (by rw [bk_len]; exact lb) m t lt, cx_conj]
  dsimp only
  grind
end Coil

set_option linter.all false
namespace Coil
def lnT (n u : Int) (t b : List Int) : List Int := addP (smul (n * u) t) (0 :: smul (n * n) b)
def lnB (n u : Int) (t b : List Int) : List Int := addP (smul (n * u) b) (0 :: smul (u * u) t)
theorem ev_lnT (n u : Int) (t b : List Int) (x : Int) : ev (lnT n u t b) x = n * u * ev t x + n * n * (x * ev b x) := by
  unfold lnT
  rw [ev_add, ev_smul]
  simp only [ev]
  rw [ev_smul]; grind
theorem ev_lnB (n u : Int) (t b : List Int) (x : Int) : ev (lnB n u t b) x = n * u * ev b x + u * u * (x * ev t x) := by
  unfold lnB
  rw [ev_add, ev_smul]
  simp only [ev]
  rw [ev_smul]; grind
theorem co_lnT (n u : Int) (t b : List Int) (i : Nat) : co (lnT n u t b) (i + 1) = n * u * co t (i + 1) + n * n * co b i := by
  unfold lnT
  rw [co_add, co_smul, co_cons_succ, co_smul]
theorem co_lnB (n u : Int) (t b : List Int) (i : Nat) : co (lnB n u t b) (i + 1) = n * u * co b (i + 1) + u * u * co t i := by
  unfold lnB
  rw [co_add, co_smul, co_cons_succ, co_smul]
theorem div_sq : ∀ p : List Int, ∃ (h : List Int) (a b : Int), ∀ x, ev p x = ev h x * (1 - x * x) + a + b * x
  | [] => ⟨[], 0, 0, fun x => by simp [ev]⟩
  | c :: p => by
    obtain ⟨h, a, b, e⟩ := div_sq p
    refine ⟨addP (0 :: h) [-b], c + b, a, fun x => ?_⟩
    rw [ev_add]
    simp only [ev]
    rw [e]; grind
/-- a pair without a common divisor, of degree m -/
structure Ln (m : Nat) (t b : List Int) : Prop where
  up : ∀ i, m < i → co t i = 0 ∧ co b i = 0
  top : co t m ≠ 0 ∨ co b m ≠ 0
  bez : ∃ (u v : List Int) (r : Int), r ≠ 0 ∧ ∀ x, ev u x * ev t x + ev v x * ev b x = r
theorem ln_step {m : Nat} {n u : Int} {t b : List Int} (hn : 0 < n) (hu : 0 < u) (h : Ln m t b) (p1 : 0 ≤ ev t 1) (p2 : 0 ≤ ev b 1) (p3 : 0 < ev t 1 + ev b 1) (p4 : u * ev t (-1) ≠ n * ev b (-1)) :
    Ln (m + 1) (lnT n u t b) (lnB n u t b) ∧ 0 < ev (lnT n u t b) 1 ∧ 0 < ev (lnB n u t b) 1 ∧ u * ev (lnT n u t b) (-1) = -(n * ev (lnB n u t b) (-1)) ∧ ev (lnT n u t b) (-1) ≠ 0 ∧ u * ev (lnT n u t b) 1 = n * ev (lnB n u t b) 1 := by
  have hs : 0 < u * ev t 1 + n * ev b 1 := by
    have h1 := Int.mul_nonneg (Int.le_of_lt hu) p1
    have h2 := Int.mul_nonneg (Int.le_of_lt hn) p2
    by_cases z : ev t 1 = 0
    · have : 0 < ev b 1 := by omega
      have := Int.mul_pos hn this
      omega
    · have : 0 < ev t 1 := by omega
      have := Int.mul_pos hu this
      omega
  have e1 : ev (lnT n u t b) 1 = n * (u * ev t 1 + n * ev b 1) := by rw [ev_lnT]; grind
  have e2 : ev (lnB n u t b) 1 = u * (u * ev t 1 + n * ev b 1) := by rw [ev_lnB]; grind
  have e3 : ev (lnT n u t b) (-1) = n * (u * ev t (-1) - n * ev b (-1)) := by rw [ev_lnT]; grind
  have e4 : ev (lnB n u t b) (-1) = -(u * (u * ev t (-1) - n * ev b (-1))) := by rw [ev_lnB]; grind
  have q1 : 0 < ev (lnT n u t b) 1 := by rw [e1]; exact Int.mul_pos hn hs
  have q3 : ev (lnT n u t b) (-1) ≠ 0 := by rw [e3]; exact Int.mul_ne_zero (by omega) (by omega)
  refine ⟨⟨fun i hi => ?_, ?_, ?_⟩, q1, by rw [e2]; exact Int.mul_pos hu hs, by rw [e3, e4]; grind, q3, by rw [e1, e2]; grind⟩
  · cases i with
    | zero => omega
    | succ i =>
      rw [co_lnT, co_lnB, (h.up (i + 1) (by omega)).1, (h.up (i + 1) (by omega)).2, (h.up i (by omega)).1, (h.up i (by omega)).2]
      simp
  · rw [co_lnT, co_lnB, (h.up (m + 1) (by omega)).1, (h.up (m + 1) (by omega)).2, Int.mul_zero, Int.zero_add, Int.zero_add]
    rcases h.top with z | z
    · exact .inr (Int.mul_ne_zero (Int.mul_ne_zero (by omega) (by omega)) z)
    · exact .inl (Int.mul_ne_zero (Int.mul_ne_zero (by omega) (by omega)) z)
  · obtain ⟨al, be, c, hc, hbz⟩ := h.bez
    obtain ⟨hq, A, B, hd⟩ := div_sq (lnT n u t b)
    have v1 := hd 1
    have v2 := hd (-1)
    have hAB1 : A + B ≠ 0 := by
      intro z
      have : ev (lnT n u t b) 1 = A + B := by rw [v1]; grind
      omega
    have hAB2 : A - B ≠ 0 := by
      intro z
      have : ev (lnT n u t b) (-1) = A - B := by rw [v2]; grind
      exact q3 (by rw [this, z])
    -- K (1 - x x) and a constant
    refine ⟨addP (smul (n * n * (u * u) * c) [A, -B]) (smul (-1) (mulP (addP (mulP [A, -B] hq) [B * B]) (addP (smul (n * u) al) (0 :: smul (-(u * u)) be)))), smul (-1) (mulP (addP (mulP [A, -B] hq) [B * B]) (addP (smul (n * u) be) (0 :: smul (-(n * n)) al))), n * n * (u * u) * c * ((A + B) * (A - B)), ?_, fun x => ?_⟩
    · exact Int.mul_ne_zero (Int.mul_ne_zero (Int.mul_ne_zero (Int.mul_ne_zero (by omega) (by omega)) (Int.mul_ne_zero (by omega) (by omega))) hc) (Int.mul_ne_zero hAB1 hAB2)
    · have hk : ev (addP (smul (n * u) al) (0 :: smul (-(u * u)) be)) x * ev (lnT n u t b) x + ev (addP (smul (n * u) be) (0 :: smul (-(n * n)) al)) x * ev (lnB n u t b) x = n * n * (u * u) * c * (1 - x * x) := by
        rw [ev_add, ev_add, ev_smul, ev_smul, ev_lnT, ev_lnB]
        simp only [ev]
        rw [ev_smul, ev_smul, ← hbz x]
        generalize ev t x = T
        generalize ev b x = C
        generalize ev al x = L
        generalize ev be x = M
        grind
      rw [ev_add, ev_smul, ev_smul, ev_smul, ev_mul, ev_mul, ev_add (mulP [A, -B] hq), ev_mul]
      simp only [ev]
      generalize ev (addP (smul (n * u) al) (0 :: smul (-(u * u)) be)) x = P at hk ⊢
      generalize ev (addP (smul (n * u) be) (0 :: smul (-(n * n)) al)) x = Q at hk ⊢
      have hx := hd x
      generalize ev (lnT n u t b) x = T1 at hk hx ⊢
      generalize ev (lnB n u t b) x = B1 at hk ⊢
      generalize ev hq x = H at hx ⊢
      have g1 : (A + x * (-B + x * 0)) * T1 = ((A + x * (-B + x * 0)) * H + (B * B + x * 0)) * (1 - x * x) + (A + B) * (A - B) := by rw [hx]; grind
      generalize (A + x * (-B + x * 0)) * H + (B * B + x * 0) = W at g1 ⊢
      have g2 : n * n * (u * u) * c * (A + x * (-B + x * 0)) * T1 = n * n * (u * u) * c * (W * (1 - x * x)) + n * n * (u * u) * c * ((A + B) * (A - B)) := by
        have := congrArg (fun z => n * n * (u * u) * c * z) g1
        grind
      have g3 : W * (P * T1 + Q * B1) = n * n * (u * u) * c * (W * (1 - x * x)) := by rw [hk]; grind
      grind
theorem ln_can {m : Nat} {t0 b0 t b : List Int} (h : Ln m t0 b0) (hC : Can t b) (e : ∀ x, ev t x * ev b0 x = ev t0 x * ev b x) : max t.length b.length = m + 1 ∧ (∀ i, (co t i).natAbs ≤ (co t0 i).natAbs) ∧ ∀ i, (co b i).natAbs ≤ (co b0 i).natAbs := by
  obtain ⟨w, h1, h2⟩ := can_div hC e
  obtain ⟨u, v, r, hr, hb⟩ := h.bez
  have hk : ∀ x, ev [r] x = ev (trimZ w) x * ev (trimZ (addP (mulP u t) (mulP v b))) x := fun x => by
    rw [ev_trimZ, ev_trimZ, ev_add, ev_mul, ev_mul]
    have := hb x
    rw [h1, h2] at this
    simp only [ev]
    grind
  have nw : trimZ w ≠ [] := fun z => by
    have := hk 0
    rw [z] at this
    simp [ev] at this
    exact hr this
  have nk : trimZ (addP (mulP u t) (mulP v b)) ≠ [] := fun z => by
    have := hk 0
    rw [z] at this
    simp [ev] at this
    exact hr this
  have hl := len_mul (a := [r]) (.inr hr) (nm_trimZ w) (nm_trimZ _) nw nk hk
  have l1 := List.length_pos_iff.mpr nw
  have l2 := List.length_pos_iff.mpr nk
  have lw : (trimZ w).length = 1 := by
    simp only [List.length_singleton] at hl
    omega
  obtain ⟨c, hc⟩ : ∃ c, trimZ w = [c] := by
    match hw : trimZ w, lw with
    | [c], _ => exact ⟨c, rfl⟩
  have hc0 : c ≠ 0 := by
    intro z
    have := hk 0
    rw [hc, z] at this
    simp [ev] at this
    exact hr this
  have ew : ∀ x, ev w x = c := fun x => by
    rw [← ev_trimZ, hc]; simp [ev]
  have ct : ∀ i, co t0 i = c * co t i := fun i => by
    rw [← co_smul]
    exact ev_ext _ _ 0 (fun x _ => by rw [h1, ev_smul, ew, Int.mul_comm]) i
  have cb : ∀ i, co b0 i = c * co b i := fun i => by
    rw [← co_smul]
    exact ev_ext _ _ 0 (fun x _ => by rw [h2, ev_smul, ew, Int.mul_comm]) i
  have bd : ∀ z : Int, z.natAbs ≤ (c * z).natAbs := fun z => by
    rw [Int.natAbs_mul]
    exact Nat.le_mul_of_pos_left _ (by omega)
  have short : ∀ {p q : List Int}, Nm p → (∀ i, co q i = c * co p i) → (∀ i, m < i → co q i = 0) → p.length ≤ m + 1 := fun {p q} np hq h0 => by
    rcases np with z | z
    · rw [z]; exact Nat.zero_le _
    · refine Nat.le_of_not_lt fun y => ?_
      have h3 := h0 (p.length - 1) (by omega)
      rw [hq] at h3
      rcases Int.mul_eq_zero.mp h3 with g | g
      · exact hc0 g
      · exact z g
  have s1 := short hC.nt ct fun i hi => (h.up i hi).1
  have s2 := short hC.nb cb fun i hi => (h.up i hi).2
  refine ⟨?_, fun i => by rw [ct]; exact bd _, fun i => by rw [cb]; exact bd _⟩
  have long : ∀ {p : List Int}, co p m ≠ 0 → m + 1 ≤ p.length := fun {p} hp => by
    refine Nat.lt_of_not_le fun y => hp (co_over y)
  rcases h.top with z | z
  · rw [ct] at z
    have := long (p := t) fun y => z (by rw [y, Int.mul_zero])
    omega
  · rw [cb] at z
    have := long (p := b) fun y => z (by rw [y, Int.mul_zero])
    omega
/-! ### lines of pieces -/
abbrev PL := List Int × List Int
def lnL : List Rat → PL → PL
  | [], e => e
  | w :: ws, e => (lnT w.num ((w.den : Nat) : Int) (lnL ws e).1 (lnL ws e).2, lnB w.num ((w.den : Nat) : Int) (lnL ws e).1 (lnL ws e).2)
theorem den_pz (q : Rat) : (0 : Int) < ((q.den : Nat) : Int) := by have := q.den_nz; omega
/-- an end, and no last piece that could be left out -/
def EndOk (e : PL) : Prop := Ln 0 e.1 e.2 ∧ 0 ≤ ev e.1 1 ∧ 0 ≤ ev e.2 1 ∧ 0 < ev e.1 1 + ev e.2 1
def Eff (ws : List Rat) (e : PL) : Prop := ∀ w, ws.getLast? = some w → ((w.den : Nat) : Int) * ev e.1 (-1) ≠ w.num * ev e.2 (-1)
theorem lnL_all {e : PL} (he : EndOk e) : ∀ (ws : List Rat), (∀ w ∈ ws, 0 < w.num) → Eff ws e → Ln ws.length (lnL ws e).1 (lnL ws e).2 ∧ 0 ≤ ev (lnL ws e).1 1 ∧ 0 ≤ ev (lnL ws e).2 1 ∧ 0 < ev (lnL ws e).1 1 + ev (lnL ws e).2 1 ∧
    ∀ w ws', ws = w :: ws' → 0 < ev (lnL ws e).1 1 ∧ 0 < ev (lnL ws e).2 1 ∧ ((w.den : Nat) : Int) * ev (lnL ws e).1 1 = w.num * ev (lnL ws e).2 1 ∧ ((w.den : Nat) : Int) * ev (lnL ws e).1 (-1) = -(w.num * ev (lnL ws e).2 (-1)) ∧ ev (lnL ws e).1 (-1) ≠ 0
  | [], _, _ => ⟨he.1, he.2.1, he.2.2.1, he.2.2.2, fun w ws' h => by cases h⟩
  | w :: ws, hp, hE => by
    have hw := hp w List.mem_cons_self
    have hd := den_pz w
    obtain ⟨i1, i2, i3, i4, i5⟩ := lnL_all he ws (fun x hx => hp x (List.mem_cons_of_mem _ hx)) (fun x hx => hE x (by
      cases ws with
      | nil => cases hx
      | cons y ys => rw [List.getLast?_cons_cons]; exact hx))
    have p4 : ((w.den : Nat) : Int) * ev (lnL ws e).1 (-1) ≠ w.num * ev (lnL ws e).2 (-1) := by
      cases ws with
      | nil => exact hE w rfl
      | cons y ys =>
        obtain ⟨_, _, _, j1, j2⟩ := i5 y ys rfl
        have hy := hp y (List.mem_cons_of_mem _ List.mem_cons_self)
        have hdy := den_pz y
        intro z
        generalize ev (lnL (y :: ys) e).1 (-1) = T at *
        generalize ev (lnL (y :: ys) e).2 (-1) = B at *
        generalize ((y.den : Nat) : Int) = dy at *
        generalize ((w.den : Nat) : Int) = dw at *
        -- B has the sign of T by the one, and not by the other
        have h1 : (w.num * dy + y.num * dw) * B = 0 := by
          have a1 : dy * (dw * T) = dy * (w.num * B) := by rw [z]
          have a2 : dw * (dy * T) = dw * -(y.num * B) := by rw [j1]
          grind
        rcases Int.mul_eq_zero.mp h1 with g | g
        · have := Int.mul_pos hw hdy
          have := Int.mul_pos hy hd
          omega
        · rw [g, Int.mul_zero] at j1
          rcases Int.mul_eq_zero.mp (show dy * T = 0 by omega) with k | k
          · omega
          · exact j2 k
    obtain ⟨k1, k2, k3, k4, k5, k6⟩ := ln_step hw hd i1 i2 i3 i4 p4
    refine ⟨k1, Int.le_of_lt k2, Int.le_of_lt k3, by show 0 < ev (lnT _ _ _ _) 1 + ev (lnB _ _ _ _) 1; omega, fun w' ws' h => ?_⟩
    cases h
    exact ⟨k2, k3, k6, k4, k5⟩
/-- scaled ends -/
theorem lnL_scale {e e' : PL} {F : Int → Int} (h1 : ∀ x, ev e'.1 x = F x * ev e.1 x) (h2 : ∀ x, ev e'.2 x = F x * ev e.2 x) : ∀ (ws : List Rat) (x : Int), ev (lnL ws e').1 x = F x * ev (lnL ws e).1 x ∧ ev (lnL ws e').2 x = F x * ev (lnL ws e).2 x
  | [], x => ⟨h1 x, h2 x⟩
  | w :: ws, x => by
    obtain ⟨i1, i2⟩ := lnL_scale h1 h2 ws x
    refine ⟨?_, ?_⟩
    · show ev (lnT _ _ _ _) x = _ * ev (lnT _ _ _ _) x
      rw [ev_lnT, ev_lnT, i1, i2]; grind
    · show ev (lnB _ _ _ _) x = _ * ev (lnB _ _ _ _) x
      rw [ev_lnB, ev_lnB, i1, i2]; grind
theorem lnL_app (ws vs : List Rat) (e : PL) : lnL (ws ++ vs) e = lnL ws (lnL vs e) := by
  induction ws with
  | nil => rfl
  | cons w ws ih => rw [List.cons_append, lnL, lnL, ih]
/-- a last piece like the load can be left out -/
theorem lnL_like (ws : List Rat) (w : Rat) : ∃ F : Int → Int, ∀ x, ev (lnL (ws ++ [w]) ([w.num], [((w.den : Nat) : Int)])).1 x = F x * ev (lnL ws ([w.num], [((w.den : Nat) : Int)])).1 x ∧ ev (lnL (ws ++ [w]) ([w.num], [((w.den : Nat) : Int)])).2 x = F x * ev (lnL ws ([w.num], [((w.den : Nat) : Int)])).2 x := by
  refine ⟨fun x => w.num * ((w.den : Nat) : Int) * (1 + x), fun x => ?_⟩
  rw [lnL_app]
  refine lnL_scale (e := ([w.num], [((w.den : Nat) : Int)])) (F := fun x => w.num * ((w.den : Nat) : Int) * (1 + x)) (fun x => ?_) (fun x => ?_) ws x
  · show ev (lnT _ _ _ _) x = _
    rw [ev_lnT]
    simp only [lnL, ev]; grind
  · show ev (lnB _ _ _ _) x = _
    rw [ev_lnB]
    simp only [lnL, ev]; grind
/-- sizes -/
theorem lnL_bd {e : PL} (h : (∀ i, (co e.1 i).natAbs ≤ 6) ∧ ∀ i, (co e.2 i).natAbs ≤ 6) : ∀ (ws : List Rat), (∀ w ∈ ws, w.num.natAbs ≤ 6 ∧ w.den ≤ 6) → (∀ i, (co (lnL ws e).1 i).natAbs ≤ 6 * 72 ^ ws.length) ∧ ∀ i, (co (lnL ws e).2 i).natAbs ≤ 6 * 72 ^ ws.length
  | [], _ => ⟨fun i => by show (co e.1 i).natAbs ≤ _; exact h.1 i, fun i => by show (co e.2 i).natAbs ≤ _; exact h.2 i⟩
  | w :: ws, hw => by
    obtain ⟨i1, i2⟩ := lnL_bd h ws fun x hx => hw x (List.mem_cons_of_mem _ hx)
    obtain ⟨w1, w2⟩ := hw w List.mem_cons_self
    have w2' : (((w.den : Nat) : Int)).natAbs ≤ 6 := by rw [Int.natAbs_natCast]; exact w2
    have key : ∀ (x y z v a c : Int), x.natAbs ≤ 6 → y.natAbs ≤ 6 → z.natAbs ≤ 6 → v.natAbs ≤ 6 → a.natAbs ≤ 6 * 72 ^ ws.length → c.natAbs ≤ 6 * 72 ^ ws.length → (x * y * a + z * v * c).natAbs ≤ 6 * 72 ^ (ws.length + 1) := fun x y z v a c h1 h2 h3 h4 h5 h6 => by
      have a1 := Int.natAbs_add_le (x * y * a) (z * v * c)
      rw [Int.natAbs_mul, Int.natAbs_mul, Int.natAbs_mul, Int.natAbs_mul] at a1
      have a2 := Nat.mul_le_mul (Nat.mul_le_mul h1 h2) h5
      have a3 := Nat.mul_le_mul (Nat.mul_le_mul h3 h4) h6
      rw [Nat.pow_succ]
      omega
    refine ⟨fun i => ?_, fun i => ?_⟩
    · cases i with
      | zero =>
        show (co (lnT _ _ _ _) 0).natAbs ≤ _
        unfold lnT
        rw [co_add, co_smul, co_cons_zero]
        have := key w.num ((w.den : Nat) : Int) 0 0 (co (lnL ws e).1 0) 0 w1 w2' (by decide) (by decide) (i1 0) (Nat.zero_le _)
        simpa using this
      | succ i =>
        show (co (lnT _ _ _ _) (i + 1)).natAbs ≤ _
        rw [co_lnT]
        exact key _ _ _ _ _ _ w1 w2' w1 w1 (i1 _) (i2 _)
    · cases i with
      | zero =>
        show (co (lnB _ _ _ _) 0).natAbs ≤ _
        unfold lnB
        rw [co_add, co_smul, co_cons_zero]
        have := key w.num ((w.den : Nat) : Int) 0 0 (co (lnL ws e).2 0) 0 w1 w2' (by decide) (by decide) (i2 0) (Nat.zero_le _)
        simpa using this
      | succ i =>
        show (co (lnB _ _ _ _) (i + 1)).natAbs ≤ _
        rw [co_lnB]
        exact key _ _ _ _ _ _ w1 w2' w2' w2' (i2 _) (i1 _)
theorem lnL_pos {e : PL} (p1 : 0 ≤ ev e.1 1) (p2 : 0 ≤ ev e.2 1) (p3 : 0 < ev e.1 1 + ev e.2 1) : ∀ (ws : List Rat), (∀ w ∈ ws, 0 < w.num) → 0 ≤ ev (lnL ws e).1 1 ∧ 0 ≤ ev (lnL ws e).2 1 ∧ 0 < ev (lnL ws e).1 1 + ev (lnL ws e).2 1 ∧
    ∀ w ws', ws = w :: ws' → 0 < ev (lnL ws e).1 1 ∧ 0 < ev (lnL ws e).2 1 ∧ ((w.den : Nat) : Int) * ev (lnL ws e).1 1 = w.num * ev (lnL ws e).2 1
  | [], _ => ⟨p1, p2, p3, fun w ws' h => by cases h⟩
  | w :: ws, hp => by
    have hn := hp w List.mem_cons_self
    have hu := den_pz w
    obtain ⟨i1, i2, i3, _⟩ := lnL_pos p1 p2 p3 ws fun x hx => hp x (List.mem_cons_of_mem _ hx)
    have e1 : ev (lnL (w :: ws) e).1 1 = w.num * (((w.den : Nat) : Int) * ev (lnL ws e).1 1 + w.num * ev (lnL ws e).2 1) := by
      show ev (lnT _ _ _ _) 1 = _
      rw [ev_lnT]; grind
    have e2 : ev (lnL (w :: ws) e).2 1 = ((w.den : Nat) : Int) * (((w.den : Nat) : Int) * ev (lnL ws e).1 1 + w.num * ev (lnL ws e).2 1) := by
      show ev (lnB _ _ _ _) 1 = _
      rw [ev_lnB]; grind
    have hs : 0 < ((w.den : Nat) : Int) * ev (lnL ws e).1 1 + w.num * ev (lnL ws e).2 1 := by
      have h1 := Int.mul_nonneg (Int.le_of_lt hu) i1
      have h2 := Int.mul_nonneg (Int.le_of_lt hn) i2
      by_cases z : ev (lnL ws e).1 1 = 0
      · have : 0 < ev (lnL ws e).2 1 := by omega
        have := Int.mul_pos hn this
        omega
      · have : 0 < ev (lnL ws e).1 1 := by omega
        have := Int.mul_pos hu this
        omega
    have q1 : 0 < ev (lnL (w :: ws) e).1 1 := by rw [e1]; exact Int.mul_pos hn hs
    have q2 : 0 < ev (lnL (w :: ws) e).2 1 := by rw [e2]; exact Int.mul_pos hu hs
    refine ⟨by omega, by omega, by omega, fun w' ws' h => ?_⟩
    cases h
    exact ⟨q1, q2, by rw [e1, e2]; grind⟩
/-- a function that is the impedance of a line -/
def LC (ws : List Rat) (e : PL) (t b : List Int) : Prop := Can t b ∧ ∀ x, ev t x * ev (lnL ws e).2 x = ev (lnL ws e).1 x * ev b x
theorem LC.less {w : Rat} {ws : List Rat} {e : PL} {t b : List Int} (h : LC (w :: ws) e t b) {t' b' : List Int} {n u : Int} (hn : n = w.num) (hu : u = ((w.den : Nat) : Int)) (h1 : ∀ x, ev t' x = n * u * ev t x + -1 * (n * n) * (x * ev b x)) (h2 : ∀ x, ev b' x = n * u * ev b x + -1 * (u * u) * (x * ev t x)) (x : Int) : ev t' x * ev (lnL ws e).2 x = ev (lnL ws e).1 x * ev b' x := by
  have h3 := h.2 x
  have e1 : ev (lnL (w :: ws) e).1 x = n * u * ev (lnL ws e).1 x + n * n * (x * ev (lnL ws e).2 x) := by
    rw [hn, hu]; exact ev_lnT _ _ _ _ x
  have e2 : ev (lnL (w :: ws) e).2 x = n * u * ev (lnL ws e).2 x + u * u * (x * ev (lnL ws e).1 x) := by
    rw [hn, hu]; exact ev_lnB _ _ _ _ x
  rw [e1, e2] at h3
  rw [h1, h2]
  generalize ev (lnL ws e).1 x = P at *
  generalize ev (lnL ws e).2 x = C at *
  generalize ev t x = T at *
  generalize ev b x = B at *
  grind
/-- the rest has a bottom, if the line behind has one -/
theorem less_ne {t b t' b' : List Int} {n u : Int} (hn : n ≠ 0) (hu : u ≠ 0) (hC : Can t b) (h1 : ∀ x, ev t' x = n * u * ev t x + -1 * (n * n) * (x * ev b x)) (h2 : ∀ x, ev b' x = n * u * ev b x + -1 * (u * u) * (x * ev t x)) (z1 : ∀ x, ev t' x = 0) (z2 : ∀ x, ev b' x = 0) : False := by
  obtain ⟨B, hB⟩ := ev_far b (nz_of_nm hC.nb hC.b0)
  have hx := hB (max B 2 + 1) (by omega)
  generalize hx0 : max B 2 + 1 = x at hx
  have hx2 : 2 < x := by omega
  have a1 := h1 x
  have a2 := h2 x
  rw [z1] at a1
  rw [z2] at a2
  -- n u b (1 - x x) = 0
  have key : n * u * (n * u) * ev b x * (1 - x * x) = 0 := by
    have b1 : u * u * x * (n * u * ev t x + -1 * (n * n) * (x * ev b x)) = 0 := by rw [← a1, Int.mul_zero]
    have b2 : n * u * (n * u * ev b x + -1 * (u * u) * (x * ev t x)) = 0 := by rw [← a2, Int.mul_zero]
    grind
  have hq : 1 - x * x ≠ 0 := by
    intro y
    have : x * 2 ≤ x * x := Int.mul_le_mul_of_nonneg_left (by omega) (by omega)
    omega
  rcases Int.mul_eq_zero.mp key with y | y
  · rcases Int.mul_eq_zero.mp y with y | y
    · exact Int.mul_ne_zero (Int.mul_ne_zero hn hu) (Int.mul_ne_zero hn hu) y
    · exact hx y
  · exact hq y
theorem lnL_like2 (ws : List Rat) (w : Rat) (x : Int) : ev (lnL (ws ++ [w]) ([w.num], [((w.den : Nat) : Int)])).1 x = w.num * ((w.den : Nat) : Int) * (1 + x) * ev (lnL ws ([w.num], [((w.den : Nat) : Int)])).1 x ∧ ev (lnL (ws ++ [w]) ([w.num], [((w.den : Nat) : Int)])).2 x = w.num * ((w.den : Nat) : Int) * (1 + x) * ev (lnL ws ([w.num], [((w.den : Nat) : Int)])).2 x := by
  rw [lnL_app]
  refine lnL_scale (e := ([w.num], [((w.den : Nat) : Int)])) (F := fun x => w.num * ((w.den : Nat) : Int) * (1 + x)) (fun x => ?_) (fun x => ?_) ws x
  · show ev (lnT _ _ _ _) x = _
    rw [ev_lnT]
    simp only [lnL, ev]; grind
  · show ev (lnB _ _ _ _) x = _
    rw [ev_lnB]
    simp only [lnL, ev]; grind
theorem lc_like {ws : List Rat} {w : Rat} {t b : List Int} (hw : 0 < w.num) (h : LC (ws ++ [w]) ([w.num], [((w.den : Nat) : Int)]) t b) : LC ws ([w.num], [((w.den : Nat) : Int)]) t b := by
  refine ⟨h.1, fun x => ?_⟩
  have hd := den_pz w
  have key : ∀ i, co (mulP t (lnL ws ([w.num], [((w.den : Nat) : Int)])).2) i = co (mulP (lnL ws ([w.num], [((w.den : Nat) : Int)])).1 b) i := ev_ext _ _ 0 fun y hy => by
    rw [ev_mul, ev_mul]
    obtain ⟨l1, l2⟩ := lnL_like2 ws w y
    have h2 := h.2 y
    rw [l1, l2] at h2
    have hF : w.num * ((w.den : Nat) : Int) * (1 + y) ≠ 0 := Int.mul_ne_zero (Int.mul_ne_zero (by omega) (by omega)) (by omega)
    generalize w.num * ((w.den : Nat) : Int) * (1 + y) = F at h2 hF
    generalize ev (lnL ws ([w.num], [((w.den : Nat) : Int)])).1 y = P at *
    generalize ev (lnL ws ([w.num], [((w.den : Nat) : Int)])).2 y = C at *
    have : F * (ev t y * C) = F * (P * ev b y) := by grind
    exact Int.eq_of_mul_eq_mul_left hF this
  have := ev_co key x
  rwa [ev_mul, ev_mul] at this
theorem lc_same {ws : List Rat} {e : PL} {m : Nat} {t b t' b' : List Int} (hl : Ln m (lnL ws e).1 (lnL ws e).2) (h : LC ws e t b) (h' : LC ws e t' b') : t = t' ∧ b = b' := by
  have hN : Nz (lnL ws e).2 := by
    refine Classical.byContradiction fun z => ?_
    have hz : ∀ i, co (lnL ws e).2 i = 0 := fun i => Classical.byContradiction fun y => z ⟨i, y⟩
    have hz2 : ∀ x, ev (lnL ws e).2 x = 0 := fun x => by
      have := ev_co (p := (lnL ws e).2) (q := []) (fun i => by rw [hz i]; simp [co]) x
      rw [this]; simp [ev]
    obtain ⟨B, hB⟩ := ev_far b (nz_of_nm h.1.nb h.1.b0)
    obtain ⟨u, v, r, hr, hbz⟩ := hl.bez
    have h1 := h.2 (B + 1)
    rw [hz2, Int.mul_zero] at h1
    have h3 : ev (lnL ws e).1 (B + 1) = 0 := by
      rcases Int.mul_eq_zero.mp h1.symm with y | y
      · exact y
      · exact absurd y (hB (B + 1) (by omega))
    have := hbz (B + 1)
    rw [h3, hz2] at this
    simp at this
    exact hr this.symm
  refine can_same h.1 h'.1 fun x => ?_
  have hm : ∀ y, ev (lnL ws e).2 y * ev (mulP t b') y = ev (lnL ws e).2 y * ev (mulP t' b) y := fun y => by
    rw [ev_mul, ev_mul]
    have h1 := h.2 y
    have h2 := h'.2 y
    generalize ev (lnL ws e).1 y = P at *
    generalize ev (lnL ws e).2 y = C at *
    have a1 : C * (ev t y * ev b' y) = (ev t y * C) * ev b' y := by grind
    have a2 : C * (ev t' y * ev b y) = (ev t' y * C) * ev b y := by grind
    rw [a1, a2, h1, h2]; grind
  have := ev_cancel hN hm x
  rwa [ev_mul, ev_mul] at this
/-- how many pieces are not like the load behind them -/
def mEff (ws : List Rat) (q : Rat) : Nat → Nat
  | 0 => 0
  | m + 1 => if atL ws m = q then mEff ws q m else m + 1
theorem mEff_le (ws : List Rat) (q : Rat) : ∀ m, mEff ws q m ≤ m
  | 0 => Nat.le_refl _
  | m + 1 => by
    have := mEff_le ws q m
    rw [mEff]; split <;> omega
theorem take_at {ws : List Rat} {m : Nat} (h : m < ws.length) : ws.take (m + 1) = ws.take m ++ [atL ws m] := by
  rw [List.take_add_one, List.getElem?_eq_getElem h]
  unfold atL
  rw [List.getD_eq_getElem?_getD, List.getElem?_eq_getElem h]; rfl
theorem mEff_lc {ws : List Rat} {q : Rat} (hq : 0 < q.num) {t b : List Int} : ∀ m, m ≤ ws.length → LC (ws.take m) ([q.num], [((q.den : Nat) : Int)]) t b → LC (ws.take (mEff ws q m)) ([q.num], [((q.den : Nat) : Int)]) t b
  | 0, _, h => h
  | m + 1, hm, h => by
    rw [mEff]
    split
    · rename_i hz
      refine mEff_lc hq m (by omega) (lc_like hq ?_)
      rw [take_at (by omega), hz] at h
      exact h
    · exact h
theorem mEff_ne {ws : List Rat} {q : Rat} : ∀ m, mEff ws q m = 0 ∨ atL ws (mEff ws q m - 1) ≠ q
  | 0 => .inl rfl
  | m + 1 => by
    rw [mEff]
    split
    · exact mEff_ne m
    · rename_i h; exact .inr h
theorem mEff_eff {ws : List Rat} {q : Rat} {m : Nat} (hm : m ≤ ws.length) : Eff (ws.take (mEff ws q m)) ([q.num], [((q.den : Nat) : Int)]) := by
  intro w hw
  have hle := mEff_le ws q m
  rcases mEff_ne (ws := ws) (q := q) m with z | z
  · rw [z] at hw; cases hw
  · have h0 : mEff ws q m ≠ 0 := fun y => by rw [y] at hw; cases hw
    obtain ⟨k, hk⟩ : ∃ k, mEff ws q m = k + 1 := ⟨mEff ws q m - 1, by omega⟩
    rw [hk] at hw z
    rw [take_at (by omega), List.getLast?_append] at hw
    simp at hw
    subst hw
    intro y
    refine z ?_
    show atL ws k = q
    have e1 := rat_split (atL ws k)
    have e2 := rat_split q
    have d1 := den_ne (atL ws k)
    have d2 := den_ne q
    have y2 : (((atL ws k).den : Nat) : Int) * q.num = (atL ws k).num * ((q.den : Nat) : Int) := by
      simpa [ev] using y
    have y3 : ((((atL ws k).den : Nat) : Int) : Rat) * ((q.num : Int) : Rat) = (((atL ws k).num : Int) : Rat) * (((q.den : Nat) : Int) : Rat) := by rw [← Rat.intCast_mul, ← Rat.intCast_mul, y2]
    rw [← e1, ← e2] at y3
    generalize ((((atL ws k).den : Nat) : Int) : Rat) = a at *
    generalize (((q.den : Nat) : Int) : Rat) = c at *
    generalize atL ws k = v at *
    grind
end Coil

set_option linter.all false
namespace Coil
/-! ### ladders at a number -/
/-- a rung: in series or not, its impedance at a number -/
abbrev Rg := Bool × (Int → Rat)
structure M4 where
  a : Int → Rat
  b : Int → Rat
  c : Int → Rat
  d : Int → Rat
def mOne : M4 := ⟨fun _ => 1, fun _ => 0, fun _ => 0, fun _ => 1⟩
/-- a rung ahead of a matrix -/
def mAhead (r : Rg) (m : M4) : M4 := if r.1 then ⟨fun x => m.a x + r.2 x * m.c x, fun x => m.b x + r.2 x * m.d x, m.c, m.d⟩ else ⟨m.a, m.b, fun x => m.c x + m.a x / r.2 x, fun x => m.d x + m.b x / r.2 x⟩
/-- a rung behind a matrix -/
def mBehind (m : M4) (r : Rg) : M4 := if r.1 then ⟨m.a, fun x => m.a x * r.2 x + m.b x, m.c, fun x => m.c x * r.2 x + m.d x⟩ else ⟨fun x => m.a x + m.b x / r.2 x, m.b, fun x => m.c x + m.d x / r.2 x, m.d⟩
def mL : List Rg → M4
  | [] => mOne
  | r :: l => mAhead r (mL l)
/-- impedances that change their sign with their number -/
def OddL (l : List Rg) : Prop := ∀ r ∈ l, ∀ x, r.2 (-x) = -r.2 x
theorem rinv_neg (a : Rat) : (-a)⁻¹ = -(a⁻¹) := by grind
theorem mL_par : ∀ {l : List Rg}, OddL l → ∀ x, (mL l).a (-x) = (mL l).a x ∧ (mL l).b (-x) = -(mL l).b x ∧ (mL l).c (-x) = -(mL l).c x ∧ (mL l).d (-x) = (mL l).d x
  | [], _, x => by simp [mL, mOne]
  | r :: l, h, x => by
    obtain ⟨i1, i2, i3, i4⟩ := mL_par (l := l) (fun q hq => h q (List.mem_cons_of_mem _ hq)) x
    have hr := h r List.mem_cons_self x
    unfold mL mAhead
    split
    · refine ⟨?_, ?_, i3, i4⟩
      · show (mL l).a (-x) + r.2 (-x) * (mL l).c (-x) = (mL l).a x + r.2 x * (mL l).c x
        rw [i1, i3, hr]; grind
      · show (mL l).b (-x) + r.2 (-x) * (mL l).d (-x) = -((mL l).b x + r.2 x * (mL l).d x)
        rw [i2, i4, hr]; grind
    · refine ⟨i1, i2, ?_, ?_⟩
      · show (mL l).c (-x) + (mL l).a (-x) / r.2 (-x) = -((mL l).c x + (mL l).a x / r.2 x)
        rw [i1, i3, hr, Rat.div_def, Rat.div_def, rinv_neg]; grind
      · show (mL l).d (-x) + (mL l).b (-x) / r.2 (-x) = (mL l).d x + (mL l).b x / r.2 x
        rw [i2, i4, hr, Rat.div_def, Rat.div_def, rinv_neg]; grind
theorem mL_det : ∀ (l : List Rg) (x : Int), (∀ r ∈ l, r.2 x ≠ 0) → (mL l).a x * (mL l).d x - (mL l).b x * (mL l).c x = 1
  | [], x, _ => by simp [mL, mOne]; grind
  | r :: l, x, h => by
    have ih := mL_det l x fun q hq => h q (List.mem_cons_of_mem _ hq)
    have hr := h r List.mem_cons_self
    unfold mL mAhead
    split
    · show ((mL l).a x + r.2 x * (mL l).c x) * (mL l).d x - ((mL l).b x + r.2 x * (mL l).d x) * (mL l).c x = 1
      grind
    · show (mL l).a x * ((mL l).d x + (mL l).b x / r.2 x) - (mL l).b x * ((mL l).c x + (mL l).a x / r.2 x) = 1
      grind
theorem mL_app (l : List Rg) (r : Rg) : mL (l ++ [r]) = mBehind (mL l) r := by
  induction l with
  | nil =>
    show mAhead r mOne = mBehind mOne r
    unfold mAhead mBehind mOne
    split
    · congr 1 <;> funext x <;> grind
    · congr 1 <;> funext x <;> grind
  | cons q l ih =>
    show mAhead q (mL (l ++ [r])) = mBehind (mAhead q (mL l)) r
    rw [ih]
    unfold mAhead mBehind
    split <;> split <;> (congr 1 <;> funext x <;> grind)
/-- the ladder from its other end, with impedances divided by the load -/
def rgDiv (k : Rat) (r : Rg) : Rg := (r.1, fun x => r.2 x / k)
theorem mL_turn (k : Rat) (hk : k ≠ 0) : ∀ (l : List Rg) (x : Int), (mL (l.map (rgDiv k)).reverse).a x = (mL l).d x ∧ (mL (l.map (rgDiv k)).reverse).b x = (mL l).b x / k ∧ (mL (l.map (rgDiv k)).reverse).c x = (mL l).c x * k ∧ (mL (l.map (rgDiv k)).reverse).d x = (mL l).a x
  | [], x => by simp [mL, mOne]; grind
  | r :: l, x => by
    obtain ⟨i1, i2, i3, i4⟩ := mL_turn k hk l x
    rw [List.map_cons, List.reverse_cons, mL_app, show mL (r :: l) = mAhead r (mL l) from rfl]
    generalize mL (l.map (rgDiv k)).reverse = M at i1 i2 i3 i4 ⊢
    generalize mL l = L at i1 i2 i3 i4 ⊢
    obtain ⟨s, z⟩ := r
    cases s with
    | true =>
      show M.a x = L.d x ∧ M.a x * (z x / k) + M.b x = (L.b x + z x * L.d x) / k ∧ M.c x = L.c x * k ∧ M.c x * (z x / k) + M.d x = L.a x + z x * L.c x
      rw [i1, i2, i3, i4]
      refine ⟨rfl, by grind, rfl, by grind⟩
    | false =>
      show M.a x + M.b x / (z x / k) = L.d x + L.b x / z x ∧ M.b x = L.b x / k ∧ M.c x + M.d x / (z x / k) = (L.c x + L.a x / z x) * k ∧ M.d x = L.a x
      rw [i1, i2, i3, i4]
      have e1 : ∀ y : Rat, y / (z x / k) = y * k / z x := fun y => by
        by_cases hz : z x = 0
        · rw [hz]; grind
        · grind
      rw [e1, e1]
      refine ⟨by grind, rfl, by grind, rfl⟩
/-- positive everywhere on the right -/
theorem mL_pos : ∀ (l : List Rg) (x : Int), (∀ r ∈ l, 0 < r.2 x) → 0 < (mL l).a x ∧ 0 ≤ (mL l).b x ∧ 0 ≤ (mL l).c x ∧ 0 < (mL l).d x
  | [], x, _ => by simp [mL, mOne]; grind
  | r :: l, x, h => by
    obtain ⟨i1, i2, i3, i4⟩ := mL_pos l x fun q hq => h q (List.mem_cons_of_mem _ hq)
    have hr := h r List.mem_cons_self
    unfold mL mAhead
    split
    · refine ⟨?_, ?_, i3, i4⟩
      · show 0 < (mL l).a x + r.2 x * (mL l).c x
        have := Rat.mul_nonneg (Rat.le_of_lt hr) i3
        grind
      · show 0 ≤ (mL l).b x + r.2 x * (mL l).d x
        have := Rat.mul_pos hr i4
        grind
    · have hi : 0 < (r.2 x)⁻¹ := Rat.inv_pos.mpr hr
      refine ⟨i1, i2, ?_, ?_⟩
      · show 0 ≤ (mL l).c x + (mL l).a x / r.2 x
        have := Rat.mul_pos i1 hi
        rw [Rat.div_def]; grind
      · show 0 < (mL l).d x + (mL l).b x / r.2 x
        have := Rat.mul_nonneg i2 (Rat.le_of_lt hi)
        rw [Rat.div_def]; grind
end Coil

set_option linter.all false
namespace Coil
/-! ### polynomials at - x x -/
def sqm : List Int → List Int
  | [] => []
  | c :: p => c :: 0 :: smul (-1) (sqm p)
theorem ev_sqm : ∀ (p : List Int) (x : Int), ev (sqm p) x = ev p (-(x * x))
  | [], x => by simp [sqm, ev]
  | c :: p, x => by
    simp only [sqm, ev]
    rw [ev_smul, ev_sqm p x]
    grind
theorem sqm_zero : ∀ p : List Int, (∀ i, co (sqm p) i = 0) → ∀ i, co p i = 0
  | [], _, i => by simp [co]
  | c :: p, h, i => by
    have h0 : c = 0 := h 0
    have h2 : ∀ i, co (sqm p) i = 0 := fun i => by
      have := h (i + 2)
      rw [show sqm (c :: p) = c :: 0 :: smul (-1) (sqm p) from rfl, co_cons_succ, co_cons_succ, co_smul] at this
      omega
    cases i with
    | zero => exact h0
    | succ i => rw [co_cons_succ]; exact sqm_zero p h2 i
theorem sq_ext {p q : List Int} {B : Int} (h : ∀ x, B < x → ev p (-(x * x)) = ev q (-(x * x))) (X : Int) : ev p X = ev q X := by
  have h1 : ∀ i, co (sqm (addP p (smul (-1) q))) i = co [] i := ev_ext _ _ B fun x hx => by
    rw [ev_sqm, ev_add, ev_smul, h x hx]
    simp [ev]; omega
  have h2 := sqm_zero _ fun i => by rw [h1]; simp [co]
  have h3 := ev_co (p := addP p (smul (-1) q)) (q := []) (fun i => by rw [h2]; simp [co]) X
  rw [ev_add, ev_smul] at h3
  simp [ev] at h3
  omega
/-! ### the gain does not change -/
/-- far from 0, at both signs -/
def Far (P : Int → Prop) : Prop := ∃ B : Int, ∀ x, B < x → P x ∧ P (-x)
theorem Far.and {P Q : Int → Prop} (h : Far P) (h' : Far Q) : Far fun x => P x ∧ Q x := by
  obtain ⟨B, hB⟩ := h
  obtain ⟨C, hC⟩ := h'
  exact ⟨max B C, fun x hx => ⟨⟨(hB x (by omega)).1, (hC x (by omega)).1⟩, ⟨(hB x (by omega)).2, (hC x (by omega)).2⟩⟩⟩
theorem far_ne {p : List Int} (h : Nz p) : Far fun x => ((ev p x : Int) : Rat) ≠ 0 := by
  obtain ⟨B, hB⟩ := ev_far p h
  -- the same with the variable turned
  have hz : Nz (bk (-1) p) ∨ True := .inr True.intro
  obtain ⟨C, hC⟩ : ∃ C : Int, ∀ x, C < x → ev p (-x) ≠ 0 := by
    let r := fun q : List Int => q
    have ex : ∃ q : List Int, (∀ x, ev q x = ev p (-x)) ∧ Nz q := by
      have key : ∀ p : List Int, ∃ q : List Int, (∀ x, ev q x = ev p (-x)) ∧ ∀ i, co q i = 0 ↔ co p i = 0 := by
        intro p
        induction p with
        | nil => exact ⟨[], fun x => by simp [ev], fun i => Iff.rfl⟩
        | cons c p ih =>
          obtain ⟨q, h1, h2⟩ := ih
          refine ⟨c :: smul (-1) q, fun x => ?_, fun i => ?_⟩
          · simp only [ev]
            rw [ev_smul, h1]; grind
          · cases i with
            | zero => exact Iff.rfl
            | succ i =>
              rw [co_cons_succ, co_cons_succ, co_smul, ← h2 i]
              omega
      obtain ⟨q, h1, h2⟩ := key p
      obtain ⟨i, hi⟩ := h
      exact ⟨q, h1, i, fun y => hi ((h2 i).mp y)⟩
    obtain ⟨q, h1, h2⟩ := ex
    obtain ⟨C, hC⟩ := ev_far q h2
    exact ⟨C, fun x hx => by rw [← h1]; exact hC x hx⟩
  have up : ∀ z : Int, z ≠ 0 → ((z : Int) : Rat) ≠ 0 := fun z hz y => hz (Rat.intCast_inj.mp (show ((z : Int) : Rat) = ((0 : Int) : Rat) from y))
  exact ⟨max B C, fun x hx => ⟨up _ (hB x (by omega)), up _ (hC x (by omega))⟩⟩
/-- what a gain says of a ladder's matrix: g W = (W - V) b -/
theorem gain_rel {m : M4} {r : Rat} {e l se sl gt gb : List Int} (hl : Nz l) (h1 : Far fun x => ((ev e x : Int) : Rat) * (m.a x * r + m.b x + (m.c x * r + m.d x)) = (m.a x * r + m.b x - (m.c x * r + m.d x)) * ((ev l x : Int) : Rat))
    (hsl : ∀ x, ev sl (-(x * x)) = ev l x * ev l (-x)) (hse : ∀ x, ev se (-(x * x)) = ev e x * ev e (-x)) (hg : ∀ X, ev gt X * ev sl X = (ev sl X - ev se X) * ev gb X) :
    ∃ B : Int, ∀ x, B < x → ((ev gt (-(x * x)) : Int) : Rat) * ((m.a x * r + m.b x + (m.c x * r + m.d x)) * (m.a (-x) * r + m.b (-x) + (m.c (-x) * r + m.d (-x)))) =
      ((m.a x * r + m.b x + (m.c x * r + m.d x)) * (m.a (-x) * r + m.b (-x) + (m.c (-x) * r + m.d (-x))) - (m.a x * r + m.b x - (m.c x * r + m.d x)) * (m.a (-x) * r + m.b (-x) - (m.c (-x) * r + m.d (-x)))) * ((ev gb (-(x * x)) : Int) : Rat) := by
  obtain ⟨B, hB⟩ := h1.and (far_ne hl)
  refine ⟨B, fun x hx => ?_⟩
  obtain ⟨⟨a1, a2⟩, ⟨a3, a4⟩⟩ := hB x hx
  have g := congrArg (fun z : Int => (z : Rat)) (hg (-(x * x)))
  rw [hsl, hse, Rat.intCast_mul, Rat.intCast_mul, Rat.intCast_mul, Rat.intCast_sub, Rat.intCast_mul, Rat.intCast_mul] at g
  generalize m.a x * r + m.b x + (m.c x * r + m.d x) = S1 at *
  generalize m.a (-x) * r + m.b (-x) + (m.c (-x) * r + m.d (-x)) = S2 at *
  generalize m.a x * r + m.b x - (m.c x * r + m.d x) = D1 at *
  generalize m.a (-x) * r + m.b (-x) - (m.c (-x) * r + m.d (-x)) = D2 at *
  generalize ((ev l x : Int) : Rat) = L1 at *
  generalize ((ev l (-x) : Int) : Rat) = L2 at *
  generalize ((ev e x : Int) : Rat) = E1 at *
  generalize ((ev e (-x) : Int) : Rat) = E2 at *
  generalize ((ev gt (-(x * x)) : Int) : Rat) = G at *
  generalize ((ev gb (-(x * x)) : Int) : Rat) = C at *
  have h5 : E1 * E2 * (S1 * S2) = D1 * D2 * (L1 * L2) := by
    have : E1 * E2 * (S1 * S2) = (E1 * S1) * (E2 * S2) := by grind
    rw [this, a1, a3]; grind
  have hL : L1 * L2 ≠ 0 := fun z => by
    rcases Rat.mul_eq_zero.mp z with y | y
    · exact a2 y
    · exact a4 y
  have h6 : L1 * L2 * (G * (S1 * S2)) = L1 * L2 * ((S1 * S2 - D1 * D2) * C) := by
    have e1 : L1 * L2 * (G * (S1 * S2)) = (G * (L1 * L2)) * (S1 * S2) := by grind
    have e2 : (L1 * L2 - E1 * E2) * C * (S1 * S2) = (L1 * L2 * (S1 * S2) - E1 * E2 * (S1 * S2)) * C := by grind
    rw [e1, g, e2, h5]; grind
  generalize L1 * L2 = L at *
  grind
theorem gain_same {l : List Rg} {r : Rat} (hr : r ≠ 0) (ho : OddL l) (hz : ∃ B : Int, ∀ x, B < x → ∀ q ∈ l, q.2 x ≠ 0)
    {e1 l1 se1 sl1 t1 b1 e2 l2 se2 sl2 t2 b2 : List Int} (n1 : Nz l1) (n2 : Nz l2) (c1 : Can t1 b1) (c2 : Can t2 b2)
    (h1 : Far fun x => ((ev e1 x : Int) : Rat) * ((mL l).a x * r + (mL l).b x + ((mL l).c x * r + (mL l).d x)) = ((mL l).a x * r + (mL l).b x - ((mL l).c x * r + (mL l).d x)) * ((ev l1 x : Int) : Rat))
    (h2 : Far fun x => ((ev e2 x : Int) : Rat) * ((mL (l.map (rgDiv r)).reverse).a x * r⁻¹ + (mL (l.map (rgDiv r)).reverse).b x + ((mL (l.map (rgDiv r)).reverse).c x * r⁻¹ + (mL (l.map (rgDiv r)).reverse).d x)) = ((mL (l.map (rgDiv r)).reverse).a x * r⁻¹ + (mL (l.map (rgDiv r)).reverse).b x - ((mL (l.map (rgDiv r)).reverse).c x * r⁻¹ + (mL (l.map (rgDiv r)).reverse).d x)) * ((ev l2 x : Int) : Rat))
    (s1 : ∀ x, ev sl1 (-(x * x)) = ev l1 x * ev l1 (-x)) (s2 : ∀ x, ev se1 (-(x * x)) = ev e1 x * ev e1 (-x)) (s3 : ∀ x, ev sl2 (-(x * x)) = ev l2 x * ev l2 (-x)) (s4 : ∀ x, ev se2 (-(x * x)) = ev e2 x * ev e2 (-x))
    (g1 : ∀ X, ev t1 X * ev sl1 X = (ev sl1 X - ev se1 X) * ev b1 X) (g2 : ∀ X, ev t2 X * ev sl2 X = (ev sl2 X - ev se2 X) * ev b2 X) : t1 = t2 ∧ b1 = b2 := by
  obtain ⟨B1, hB1⟩ := gain_rel n1 h1 s1 s2 g1
  obtain ⟨B2, hB2⟩ := gain_rel n2 h2 s3 s4 g2
  obtain ⟨B3, hB3⟩ := hz
  refine can_same c1 c2 fun X => ?_
  have key : ∀ x, max (max B1 B2) B3 < x → ev (mulP t1 b2) (-(x * x)) = ev (mulP t2 b1) (-(x * x)) := fun x hx => by
    have k1 := hB1 x (by omega)
    have k2 := hB2 x (by omega)
    have hd := mL_det l x (hB3 x (by omega))
    obtain ⟨p1, p2, p3, p4⟩ := mL_par ho x
    obtain ⟨u1, u2, u3, u4⟩ := mL_turn r hr l x
    obtain ⟨v1, v2, v3, v4⟩ := mL_turn r hr l (-x)
    rw [u1, u2, u3, u4, v1, v2, v3, v4, p1, p2, p3, p4] at k2
    rw [p1, p2, p3, p4] at k1
    rw [ev_mul, ev_mul]
    refine Rat.intCast_inj.mp ?_
    rw [Rat.intCast_mul, Rat.intCast_mul]
    generalize ((ev t1 (-(x * x)) : Int) : Rat) = T1 at *
    generalize ((ev b1 (-(x * x)) : Int) : Rat) = C1 at *
    generalize ((ev t2 (-(x * x)) : Int) : Rat) = T2 at *
    generalize ((ev b2 (-(x * x)) : Int) : Rat) = C2 at *
    generalize (mL l).a x = a at *
    generalize (mL l).b x = b at *
    generalize (mL l).c x = c at *
    generalize (mL l).d x = d at *
    have w1 : (a * r + b + (c * r + d)) * (a * r + -b + (-c * r + d)) - (a * r + b - (c * r + d)) * (a * r + -b - (-c * r + d)) = 4 * r := by
      have : (a * r + b + (c * r + d)) * (a * r + -b + (-c * r + d)) - (a * r + b - (c * r + d)) * (a * r + -b - (-c * r + d)) = 4 * r * (a * d - b * c) := by grind
      rw [this, hd]; grind
    rw [w1] at k1
    have w2 : (d * r⁻¹ + b / r + (c * r * r⁻¹ + a)) * (d * r⁻¹ + -b / r + (-c * r * r⁻¹ + a)) = (a * r + b + (c * r + d)) * (a * r + -b + (-c * r + d)) * (r⁻¹ * r⁻¹) := by grind
    have w3 : (d * r⁻¹ + b / r + (c * r * r⁻¹ + a)) * (d * r⁻¹ + -b / r + (-c * r * r⁻¹ + a)) - (d * r⁻¹ + b / r - (c * r * r⁻¹ + a)) * (d * r⁻¹ + -b / r - (-c * r * r⁻¹ + a)) = 4 * r⁻¹ := by
      have : (d * r⁻¹ + b / r + (c * r * r⁻¹ + a)) * (d * r⁻¹ + -b / r + (-c * r * r⁻¹ + a)) - (d * r⁻¹ + b / r - (c * r * r⁻¹ + a)) * (d * r⁻¹ + -b / r - (-c * r * r⁻¹ + a)) = 4 * r⁻¹ * (a * d - b * c) := by grind
      rw [this, hd]; grind
    rw [w3, w2] at k2
    generalize (a * r + b + (c * r + d)) * (a * r + -b + (-c * r + d)) = W at *
    have k3 : T2 * W = 4 * r * C2 := by grind
    have : r * (T1 * C2) = r * (T2 * C1) := by grind
    grind
  have := sq_ext key X
  rwa [ev_mul, ev_mul] at this
end Coil

set_option linter.all false
namespace Coil
inductive Kd | R | L | C
deriving DecidableEq
structure RungD where
  s : Bool
  k : Kd
  w : Rat
instance : Inhabited RungD := ⟨⟨true, .R, 1⟩⟩
/-- top and bottom of a rung's impedance -/
def zTop (d : RungD) : List Int := match d.k with
  | .R => [d.w.num]
  | .L => [0, d.w.num]
  | .C => [((d.w.den : Nat) : Int)]
def zBot (d : RungD) : List Int := match d.k with
  | .R => [((d.w.den : Nat) : Int)]
  | .L => [((d.w.den : Nat) : Int)]
  | .C => [0, d.w.num]
/-- the impedance of rungs, not made shorter -/
def ndL : List RungD → PL → PL
  | [], e => e
  | d :: l, e => if d.s then (addP (mulP (zTop d) (ndL l e).2) (mulP (zBot d) (ndL l e).1), mulP (zBot d) (ndL l e).2) else (mulP (zTop d) (ndL l e).1, addP (mulP (zTop d) (ndL l e).2) (mulP (zBot d) (ndL l e).1))
/-- the same at a number -/
def toRg (d : RungD) : Rg := (d.s, fun x => ((ev (zTop d) x : Int) : Rat) / ((ev (zBot d) x : Int) : Rat))
def Pos (d : RungD) : Prop := 0 < d.w.num
def Lc (d : RungD) : Prop := d.k ≠ .R
theorem z_ne0 {d : RungD} (h : Pos d) {x : Int} (hx : x ≠ 0) : ev (zTop d) x ≠ 0 ∧ ev (zBot d) x ≠ 0 := by
  have hd := den_pz d.w
  have hn : d.w.num ≠ 0 := by have : 0 < d.w.num := h; omega
  have e1 : ∀ c : Int, ev [c] x = c := fun c => by show c + x * 0 = c; omega
  have e2 : ∀ c : Int, ev [0, c] x = x * c := fun c => by show 0 + x * (c + x * 0) = x * c; rw [Int.mul_zero, Int.add_zero, Int.zero_add]
  have hd0 : ((d.w.den : Nat) : Int) ≠ 0 := by omega
  unfold zTop zBot
  cases d.k with
  | R => exact ⟨by rw [e1]; exact hn, by rw [e1]; exact hd0⟩
  | L => exact ⟨by rw [e2]; exact Int.mul_ne_zero hx hn, by rw [e1]; exact hd0⟩
  | C => exact ⟨by rw [e1]; exact hd0, by rw [e2]; exact Int.mul_ne_zero hx hn⟩
theorem z_pos {d : RungD} (h : Pos d) {x : Int} (hx : 0 < x) : 0 < ev (zTop d) x ∧ 0 < ev (zBot d) x := by
  have hd := den_pz d.w
  have hn : 0 < d.w.num := h
  have hm := Int.mul_pos hx hn
  have e1 : ∀ c : Int, ev [c] x = c := fun c => by show c + x * 0 = c; omega
  have e2 : ∀ c : Int, ev [0, c] x = x * c := fun c => by show 0 + x * (c + x * 0) = x * c; rw [Int.mul_zero, Int.add_zero, Int.zero_add]
  have hd0 : 0 < ((d.w.den : Nat) : Int) := by omega
  unfold zTop zBot
  cases d.k with
  | R => exact ⟨by rw [e1]; exact hn, by rw [e1]; exact hd0⟩
  | L => exact ⟨by rw [e2]; exact hm, by rw [e1]; exact hd0⟩
  | C => exact ⟨by rw [e1]; exact hd0, by rw [e2]; exact hm⟩
theorem nd_pos {e : PL} {x : Int} (hx : 0 < x) (h1 : 0 < ev e.1 x) (h2 : 0 < ev e.2 x) : ∀ l : List RungD, (∀ d ∈ l, Pos d) → 0 < ev (ndL l e).1 x ∧ 0 < ev (ndL l e).2 x
  | [], _ => ⟨h1, h2⟩
  | d :: l, h => by
    obtain ⟨i1, i2⟩ := nd_pos hx h1 h2 l fun q hq => h q (List.mem_cons_of_mem _ hq)
    obtain ⟨z1, z2⟩ := z_pos (h d List.mem_cons_self) hx
    have a1 := Int.mul_pos z1 i1
    have a2 := Int.mul_pos z1 i2
    have a3 := Int.mul_pos z2 i1
    have a4 := Int.mul_pos z2 i2
    unfold ndL
    split
    · exact ⟨by rw [ev_add, ev_mul, ev_mul]; omega, by rw [ev_mul]; exact a4⟩
    · exact ⟨by rw [ev_mul]; exact a1, by rw [ev_add, ev_mul, ev_mul]; omega⟩
/-- as a matrix: N (c r + d) = (a r + b) D -/
theorem nd_rel {r : Rat} {e : PL} {x : Int} (hx : x ≠ 0) (he : ((ev e.1 x : Int) : Rat) = r * ((ev e.2 x : Int) : Rat)) : ∀ l : List RungD, (∀ d ∈ l, Pos d) → ((ev (ndL l e).1 x : Int) : Rat) * ((mL (l.map toRg)).c x * r + (mL (l.map toRg)).d x) = ((mL (l.map toRg)).a x * r + (mL (l.map toRg)).b x) * ((ev (ndL l e).2 x : Int) : Rat)
  | [], _ => by
    show ((ev e.1 x : Int) : Rat) * (0 * r + 1) = (1 * r + 0) * ((ev e.2 x : Int) : Rat)
    rw [he]; grind
  | d :: l, h => by
    have ih := nd_rel hx he l fun q hq => h q (List.mem_cons_of_mem _ hq)
    obtain ⟨z1, z2⟩ := z_ne0 (h d List.mem_cons_self) hx
    have up : ∀ z : Int, z ≠ 0 → ((z : Int) : Rat) ≠ 0 := fun z hz y => hz (Rat.intCast_inj.mp (show ((z : Int) : Rat) = ((0 : Int) : Rat) from y))
    have u1 := up _ z1
    have u2 := up _ z2
    rw [List.map_cons, show mL (toRg d :: l.map toRg) = mAhead (toRg d) (mL (l.map toRg)) from rfl]
    generalize mL (l.map toRg) = M at ih ⊢
    have hz : (toRg d).2 x = ((ev (zTop d) x : Int) : Rat) / ((ev (zBot d) x : Int) : Rat) := rfl
    unfold ndL mAhead
    have hs : (toRg d).1 = d.s := rfl
    rw [hs]
    generalize (ndL l e).1 = N at *
    generalize (ndL l e).2 = D at *
    cases d.s with
    | true =>
      show ((ev (addP (mulP (zTop d) D) (mulP (zBot d) N)) x : Int) : Rat) * (M.c x * r + M.d x) = ((M.a x + (toRg d).2 x * M.c x) * r + (M.b x + (toRg d).2 x * M.d x)) * ((ev (mulP (zBot d) D) x : Int) : Rat)
      rw [ev_add, ev_mul, ev_mul, ev_mul, Rat.intCast_add, Rat.intCast_mul, Rat.intCast_mul, Rat.intCast_mul, hz]
      generalize ((ev (zTop d) x : Int) : Rat) = zt at *
      generalize ((ev (zBot d) x : Int) : Rat) = zb at *
      generalize ((ev N x : Int) : Rat) = n at *
      generalize ((ev D x : Int) : Rat) = dd at *
      generalize M.a x = a at *
      generalize M.b x = b at *
      generalize M.c x = c at *
      generalize M.d x = f at *
      have e1 : zt / zb * zb = zt := by grind
      grind
    | false =>
      show ((ev (mulP (zTop d) N) x : Int) : Rat) * ((M.c x + M.a x / (toRg d).2 x) * r + (M.d x + M.b x / (toRg d).2 x)) = (M.a x * r + M.b x) * ((ev (addP (mulP (zTop d) D) (mulP (zBot d) N)) x : Int) : Rat)
      rw [ev_add, ev_mul, ev_mul, ev_mul, Rat.intCast_add, Rat.intCast_mul, Rat.intCast_mul, Rat.intCast_mul, hz]
      generalize ((ev (zTop d) x : Int) : Rat) = zt at *
      generalize ((ev (zBot d) x : Int) : Rat) = zb at *
      generalize ((ev N x : Int) : Rat) = n at *
      generalize ((ev D x : Int) : Rat) = dd at *
      generalize M.a x = a at *
      generalize M.b x = b at *
      generalize M.c x = c at *
      generalize M.d x = f at *
      have e1 : ∀ y : Rat, zt * (y / (zt / zb)) = y * zb := fun y => by grind
      have e2 : zt * n * ((c + a / (zt / zb)) * r + (f + b / (zt / zb))) = n * (zt * (c * r + f) + (zt * (a / (zt / zb)) * r + zt * (b / (zt / zb)))) := by grind
      rw [e2, e1, e1]
      grind
theorem toRg_odd {l : List RungD} (hp : ∀ d ∈ l, Pos d) (hl : ∀ d ∈ l, Lc d) : OddL (l.map toRg) := by
  intro r hr x
  obtain ⟨d, hd, rfl⟩ := List.mem_map.mp hr
  have h1 := hl d hd
  show ((ev (zTop d) (-x) : Int) : Rat) / ((ev (zBot d) (-x) : Int) : Rat) = -(((ev (zTop d) x : Int) : Rat) / ((ev (zBot d) x : Int) : Rat))
  unfold zTop zBot
  unfold Lc at h1
  cases hk : d.k with
  | R => exact absurd hk h1
  | L =>
    simp only [ev, Int.mul_zero, Int.add_zero, Int.zero_add]
    rw [Int.neg_mul, Rat.intCast_neg, Rat.div_def, Rat.div_def]; grind
  | C =>
    simp only [ev, Int.mul_zero, Int.add_zero, Int.zero_add]
    rw [Int.neg_mul, Rat.intCast_neg, Rat.div_def, Rat.div_def, rinv_neg]; grind
/-- sizes -/
theorem z_bd {d : RungD} (h : d.w.num.natAbs ≤ 36 ∧ d.w.den ≤ 36) : (∀ i, (co (zTop d) i).natAbs ≤ 36) ∧ (∀ i, (co (zBot d) i).natAbs ≤ 36) ∧ (zTop d).length ≤ 2 ∧ (zBot d).length ≤ 2 ∧ ((zTop d).length ≤ 1 ∨ (zBot d).length ≤ 1) := by
  have hd : (((d.w.den : Nat) : Int)).natAbs ≤ 36 := by rw [Int.natAbs_natCast]; exact h.2
  have one : ∀ {c : Int}, c.natAbs ≤ 36 → ∀ i, (co [c] i).natAbs ≤ 36 := fun {c} hc i => by
    cases i with
    | zero => exact hc
    | succ i => rw [co_over (by simp)]; decide
  have two : ∀ {c : Int}, c.natAbs ≤ 36 → ∀ i, (co [0, c] i).natAbs ≤ 36 := fun {c} hc i => by
    match i with
    | 0 => show (0:Int).natAbs ≤ 36; decide
    | 1 => exact hc
    | i + 2 => rw [co_over (by simp)]; decide
  unfold zTop zBot
  cases d.k with
  | R => exact ⟨one h.1, one hd, by simp, by simp, by simp⟩
  | L => exact ⟨two h.1, one hd, by simp, by simp, by simp⟩
  | C => exact ⟨one hd, two h.1, by simp, by simp, by simp⟩
end Coil

set_option linter.all false
namespace Coil
theorem ev_all {p q : List Int} (h : ∀ x, 0 < x → ev p x = ev q x) (x : Int) : ev p x = ev q x := ev_co (ev_ext p q 0 h) x
/-- sizes of what is not made shorter -/
def Sz36 (d : RungD) : Prop := d.w.num.natAbs ≤ 36 ∧ d.w.den ≤ 36
theorem mp_len {p q : List Int} {n : Nat} (hp : p.length ≤ 2) (hq : q.length ≤ n) (h1 : 1 ≤ n) : (mulP p q).length ≤ n + 1 := by
  rcases mulP_len_le p q with h | h
  · omega
  · subst h
    have : ∀ p : List Int, (mulP p []).length ≤ p.length := fun p => by have := mulP_len2 p []; simpa using this
    have := this p
    omega
theorem mp_bd {p q : List Int} {X : Nat} (hp : p.length ≤ 2) (h1 : ∀ i, (co p i).natAbs ≤ 36) (h2 : ∀ i, (co q i).natAbs ≤ X) (i : Nat) : (co (mulP p q) i).natAbs ≤ 72 * X := by
  refine Nat.le_trans (mulP_bd h1 h2 i) ?_
  have := Nat.mul_le_mul_right (36 * X) hp
  omega
theorem nd_bd {e : PL} {n0 X : Nat} (h1 : ∀ i, (co e.1 i).natAbs ≤ X) (h2 : ∀ i, (co e.2 i).natAbs ≤ X) (l1 : e.1.length ≤ n0) (l2 : e.2.length ≤ n0) (hn : 1 ≤ n0) : ∀ l : List RungD, (∀ d ∈ l, Sz36 d) → ((∀ i, (co (ndL l e).1 i).natAbs ≤ X * 144 ^ l.length) ∧ ∀ i, (co (ndL l e).2 i).natAbs ≤ X * 144 ^ l.length) ∧ (ndL l e).1.length ≤ n0 + l.length ∧ (ndL l e).2.length ≤ n0 + l.length
  | [], _ => ⟨⟨fun i => by rw [List.length_nil, Nat.pow_zero, Nat.mul_one]; exact h1 i, fun i => by rw [List.length_nil, Nat.pow_zero, Nat.mul_one]; exact h2 i⟩, l1, l2⟩
  | d :: l, h => by
    obtain ⟨⟨i1, i2⟩, i3, i4⟩ := nd_bd h1 h2 l1 l2 hn l fun q hq => h q (List.mem_cons_of_mem _ hq)
    obtain ⟨z1, z2, z3, z4, _⟩ := z_bd (h d List.mem_cons_self)
    have a1 := mp_bd z3 z1 i1
    have a2 := mp_bd z3 z1 i2
    have a3 := mp_bd z4 z2 i1
    have a4 := mp_bd z4 z2 i2
    have b1 := mp_len z3 i3 (by omega)
    have b2 := mp_len z3 i4 (by omega)
    have b3 := mp_len z4 i3 (by omega)
    have b4 := mp_len z4 i4 (by omega)
    have hp : X * 144 ^ (d :: l).length = 144 * (X * 144 ^ l.length) := by rw [List.length_cons, Nat.pow_succ, ← Nat.mul_assoc, Nat.mul_comm]
    rw [hp, List.length_cons]
    generalize X * 144 ^ l.length = Y at *
    have add : ∀ {p q : List Int}, (∀ i, (co p i).natAbs ≤ 72 * Y) → (∀ i, (co q i).natAbs ≤ 72 * Y) → ∀ i, (co (addP p q) i).natAbs ≤ 144 * Y := fun {p q} hp hq i => by
      rw [co_add]
      have := Int.natAbs_add_le (co p i) (co q i)
      have := hp i
      have := hq i
      omega
    unfold ndL
    split
    · exact ⟨⟨add a2 a3, fun i => Nat.le_trans (a4 i) (by omega)⟩, by rw [addP_len]; omega, by omega⟩
    · exact ⟨⟨fun i => Nat.le_trans (a1 i) (by omega), add a2 a3⟩, by omega, by rw [addP_len]; omega⟩
/-- the one form of rungs -/
def CR (l : List RungD) (e : PL) (t b : List Int) : Prop := Can t b ∧ ∀ x, ev t x * ev (ndL l e).2 x = ev (ndL l e).1 x * ev b x
def EPos (e : PL) : Prop := ∀ x, 0 < x → 0 < ev e.1 x ∧ 0 < ev e.2 x
theorem can_one {t b : List Int} (h : Can t b) (x : Int) : ¬(ev t x = 0 ∧ ev b x = 0) := fun ⟨y, z⟩ => by
  obtain ⟨u, v, r, hr, hb⟩ := h.bez
  have := hb x
  rw [y, z] at this
  simp at this
  exact hr this.symm
theorem cr_nz {t b : List Int} {N D x : Int} (h : Can t b) (e : ev t x * D = N * ev b x) (hN : 0 < N) (hD : 0 < D) : ev t x ≠ 0 ∧ ev b x ≠ 0 := by
  constructor
  · intro z
    rw [z, Int.zero_mul] at e
    rcases Int.mul_eq_zero.mp e.symm with y | y
    · omega
    · exact can_one h x ⟨z, y⟩
  · intro z
    rw [z, Int.mul_zero] at e
    rcases Int.mul_eq_zero.mp e with y | y
    · exact can_one h x ⟨y, z⟩
    · omega
theorem cr_sz {l : List RungD} {e : PL} {t b : List Int} {n0 X : Nat} (h : CR l e t b) (hp : EPos e) (hl : ∀ d ∈ l, Pos d) (h1 : ∀ i, (co e.1 i).natAbs ≤ X) (h2 : ∀ i, (co e.2 i).natAbs ≤ X) (l1 : e.1.length ≤ n0) (l2 : e.2.length ≤ n0) (hn : 1 ≤ n0) (hX : 1 ≤ X) (hs : ∀ d ∈ l, Sz36 d) :
    t.length ≤ n0 + l.length ∧ b.length ≤ n0 + l.length ∧ (∀ i, (co t i).natAbs ≤ Fb (n0 + l.length - 1) (X * 144 ^ l.length)) ∧ (∀ i, (co b i).natAbs ≤ Fb (n0 + l.length - 1) (X * 144 ^ l.length)) := by
  obtain ⟨⟨i1, i2⟩, i3, i4⟩ := nd_bd h1 h2 l1 l2 hn l hs
  obtain ⟨w, w1, w2⟩ := can_div h.1 h.2
  have hY : 1 ≤ X * 144 ^ l.length := Nat.mul_pos hX (Nat.pow_pos (by decide))
  have e1 : (x : Int) → 0 < x → 0 < ev (ndL l e).1 x ∧ 0 < ev (ndL l e).2 x := fun x hx => nd_pos hx (hp x hx).1 (hp x hx).2 l hl
  have go : ∀ {p q : List Int}, Nm q → (∀ i, (co p i).natAbs ≤ X * 144 ^ l.length) → p.length ≤ n0 + l.length → (∀ x, ev p x = ev q x * ev w x) → (0 < ev p 1) → q.length ≤ n0 + l.length ∧ ∀ i, (co q i).natAbs ≤ Fb (n0 + l.length - 1) (X * 144 ^ l.length) := fun {p q} nq hc hl e hpos => by
    have ez : ∀ x, ev (trimZ p) x = ev p x := ev_co (co_trimZ p)
    refine div_sz (a := trimZ p) (w := w) (nm_trimZ p) nq (by omega) (Nat.le_trans (trimZ_len p) hl) (fun n hn => ?_) hY (fun z => ?_) (fun x => by rw [ez]; exact e x)
    · obtain ⟨i, hi, rfl⟩ := List.mem_iff_getElem.mp hn
      have := hc i
      rw [← co_trimZ] at this
      unfold co at this
      rwa [List.getD_eq_getElem?_getD, List.getElem?_eq_getElem hi] at this
    · have := ez 1
      rw [z] at this
      simp [ev] at this
      omega
  obtain ⟨r1, r2⟩ := go h.1.nt i1 i3 w1 (e1 1 (by decide)).1
  obtain ⟨r3, r4⟩ := go h.1.nb i2 i4 w2 (e1 1 (by decide)).2
  exact ⟨r1, r3, r2, r4⟩
/-- a rung ahead in series -/
theorem cr_S {d : RungD} {l : List RungD} {e : PL} {t b u v : List Int} (h : CR l e t b) (hp : EPos e) (hl : ∀ q ∈ d :: l, Pos q) (hs : d.s = true) (hc : Can u v) (hx : ∀ x, ev u x * (ev (zBot d) x * ev b x) = (ev (zTop d) x * ev b x + ev t x * ev (zBot d) x) * ev v x) : CR (d :: l) e u v := by
  refine ⟨hc, fun x => ?_⟩
  rw [← ev_mul, ← ev_mul]
  refine ev_all (fun x hx0 => ?_) x
  rw [ev_mul, ev_mul]
  have hd := nd_pos hx0 (hp x hx0).1 (hp x hx0).2 l fun q hq => hl q (List.mem_cons_of_mem _ hq)
  have e1 := h.2 x
  have e2 := hx x
  obtain ⟨_, hb⟩ := cr_nz h.1 e1 hd.1 hd.2
  unfold ndL
  rw [hs]
  simp only [if_true]
  rw [ev_add, ev_mul, ev_mul, ev_mul]
  generalize ev (ndL l e).1 x = N at *
  generalize ev (ndL l e).2 x = D at *
  refine Int.eq_of_mul_eq_mul_left hb ?_
  generalize ev u x = u at *
  generalize ev v x = v at *
  generalize ev t x = t at *
  generalize ev b x = b at *
  generalize ev (zTop d) x = zt at *
  generalize ev (zBot d) x = zb at *
  have a1 : b * (u * (zb * D)) = u * (zb * b) * D := by grind
  rw [a1, e2]
  have a2 : (zt * b + t * zb) * v * D = (zt * b * D + (t * D) * zb) * v := by grind
  rw [a2, e1]
  grind
/-- the bare computation -/
theorem cr_ring {N D u v t b zt zb u1 u2 u3 v1 v2 v3 : Int} (e0 : t * D = N * b) (e1 : u1 * zt = zb * v1) (e2 : u2 * t = b * v2) (e3 : u3 * (v1 * v2) = (u1 * v2 + u2 * v1) * v3) (e4 : u * u3 = v3 * v) (hzt : zt ≠ 0) (hzb : zb ≠ 0) (hb : b ≠ 0) (ht : t ≠ 0) (hv1 : v1 ≠ 0) (hv2 : v2 ≠ 0) (hv3 : v3 ≠ 0) : u * (zt * D + zb * N) = zt * N * v := by
  -- u3 * zt * t = (zb * t + b * zt) * v3
  have k1 : u3 * (zt * t) = (zb * t + b * zt) * v3 := by
    refine Int.eq_of_mul_eq_mul_left (Int.mul_ne_zero hv1 hv2) ?_
    have a1 : v1 * v2 * (u3 * (zt * t)) = (u3 * (v1 * v2)) * (zt * t) := by grind
    rw [a1, e3]
    have a2 : (u1 * v2 + u2 * v1) * v3 * (zt * t) = ((u1 * zt) * v2 * t + (u2 * t) * v1 * zt) * v3 := by grind
    rw [a2, e1, e2]
    grind
  -- u * (zb * t + b * zt) = zt * t * v
  have k2 : u * (zb * t + b * zt) = zt * t * v := by
    refine Int.eq_of_mul_eq_mul_left hv3 ?_
    have a1 : v3 * (u * (zb * t + b * zt)) = u * ((zb * t + b * zt) * v3) := by grind
    rw [a1, ← k1]
    have a2 : u * (u3 * (zt * t)) = (u * u3) * (zt * t) := by grind
    rw [a2, e4]
    grind
  refine Int.eq_of_mul_eq_mul_left hb ?_
  have a1 : b * (u * (zt * D + zb * N)) = u * (zb * (N * b) + b * zt * D) := by grind
  rw [a1, ← e0]
  have a2 : u * (zb * (t * D) + b * zt * D) = (u * (zb * t + b * zt)) * D := by grind
  rw [a2, k2]
  have a3 : zt * t * v * D = zt * v * (t * D) := by grind
  rw [a3, e0]
  grind
/-- a rung ahead across -/
theorem cr_P {d : RungD} {l : List RungD} {e : PL} {t b u1 v1 u2 v2 u3 v3 u v : List Int} (h : CR l e t b) (hp : EPos e) (hl : ∀ q ∈ d :: l, Pos q) (hs : d.s = false) (c1 : Can u1 v1) (c2 : Can u2 v2) (c3 : Can u3 v3) (hc : Can u v)
    (h1 : ∀ x, ev u1 x * ev (zTop d) x = ev (zBot d) x * ev v1 x) (h2 : ∀ x, ev u2 x * ev t x = ev b x * ev v2 x) (h3 : ∀ x, ev u3 x * (ev v1 x * ev v2 x) = (ev u1 x * ev v2 x + ev u2 x * ev v1 x) * ev v3 x) (h4 : ∀ x, ev u x * ev u3 x = ev v3 x * ev v x) : CR (d :: l) e u v := by
  refine ⟨hc, fun x => ?_⟩
  rw [← ev_mul, ← ev_mul]
  refine ev_all (fun x hx0 => ?_) x
  rw [ev_mul, ev_mul]
  have hd := nd_pos hx0 (hp x hx0).1 (hp x hx0).2 l fun q hq => hl q (List.mem_cons_of_mem _ hq)
  have hz := z_pos (hl d List.mem_cons_self) hx0
  have e0 := h.2 x
  have e1 := h1 x
  have e2 := h2 x
  have e3 := h3 x
  have e4 := h4 x
  obtain ⟨ht, hb⟩ := cr_nz h.1 e0 hd.1 hd.2
  obtain ⟨_, hv1⟩ := cr_nz c1 e1 hz.2 hz.1
  have hv2 : ev v2 x ≠ 0 := fun z => by
    rw [z, Int.mul_zero] at e2
    rcases Int.mul_eq_zero.mp e2 with y | y
    · exact can_one c2 x ⟨y, z⟩
    · exact ht y
  have hv3 : ev v3 x ≠ 0 := fun z => by
    rw [z, Int.mul_zero] at e3
    rcases Int.mul_eq_zero.mp e3 with y | y
    · exact can_one c3 x ⟨y, z⟩
    · rcases Int.mul_eq_zero.mp y with y | y
      · exact hv1 y
      · exact hv2 y
  unfold ndL
  rw [hs]
  simp only [Bool.false_eq_true, if_false]
  rw [ev_add, ev_mul, ev_mul, ev_mul]
  have a5 : ev t x * ev b x ≠ 0 := Int.mul_ne_zero ht hb
  generalize ev (ndL l e).1 x = N at *
  generalize ev (ndL l e).2 x = D at *
  generalize ev u x = u at *
  generalize ev v x = v at *
  generalize ev t x = t at *
  generalize ev b x = b at *
  generalize ev (zTop d) x = zt at *
  generalize ev (zBot d) x = zb at *
  generalize ev u1 x = u1 at *
  generalize ev u2 x = u2 at *
  generalize ev u3 x = u3 at *
  generalize ev v1 x = v1 at *
  generalize ev v2 x = v2 at *
  generalize ev v3 x = v3 at *
  exact cr_ring e0 e1 e2 e3 e4 (by omega) (by omega) hb ht hv1 hv2 hv3
theorem cr_k1 {t b zt zb u1 u2 u3 v1 v2 v3 : Int} (e1 : u1 * zt = zb * v1) (e2 : u2 * t = b * v2) (e3 : u3 * (v1 * v2) = (u1 * v2 + u2 * v1) * v3) (hv1 : v1 ≠ 0) (hv2 : v2 ≠ 0) : u3 * (zt * t) = (zb * t + b * zt) * v3 := by
  refine Int.eq_of_mul_eq_mul_left (Int.mul_ne_zero hv1 hv2) ?_
  have a1 : v1 * v2 * (u3 * (zt * t)) = (u3 * (v1 * v2)) * (zt * t) := by grind
  rw [a1, e3]
  have a2 : (u1 * v2 + u2 * v1) * v3 * (zt * t) = ((u1 * zt) * v2 * t + (u2 * t) * v1 * zt) * v3 := by grind
  rw [a2, e1, e2]
  grind
/-- what plus hands back is not 0 -/
theorem cr_u3 {d : RungD} {l : List RungD} {e : PL} {t b u1 v1 u2 v2 u3 v3 : List Int} (h : CR l e t b) (hp : EPos e) (hl : ∀ q ∈ d :: l, Pos q) (c1 : Can u1 v1) (c2 : Can u2 v2) (c3 : Can u3 v3)
    (h1 : ∀ x, ev u1 x * ev (zTop d) x = ev (zBot d) x * ev v1 x) (h2 : ∀ x, ev u2 x * ev t x = ev b x * ev v2 x) (h3 : ∀ x, ev u3 x * (ev v1 x * ev v2 x) = (ev u1 x * ev v2 x + ev u2 x * ev v1 x) * ev v3 x) : u3 ≠ [] := fun z3 => by
  have hd := nd_pos (x := 1) (by decide) (hp 1 (by decide)).1 (hp 1 (by decide)).2 l fun q hq => hl q (List.mem_cons_of_mem _ hq)
  have hz := z_pos (hl d List.mem_cons_self) (x := 1) (by decide)
  have e0 := h.2 1
  have e1 := h1 1
  have e2 := h2 1
  have e3 := h3 1
  obtain ⟨ht, hb⟩ := cr_nz h.1 e0 hd.1 hd.2
  obtain ⟨_, hv1⟩ := cr_nz c1 e1 hz.2 hz.1
  have hv2 : ev v2 1 ≠ 0 := fun z => by
    rw [z, Int.mul_zero] at e2
    rcases Int.mul_eq_zero.mp e2 with y | y
    · exact can_one c2 1 ⟨y, z⟩
    · exact ht y
  have hu3 : ev u3 1 = 0 := by rw [z3]; rfl
  have hv3 : ev v3 1 ≠ 0 := fun z => can_one c3 1 ⟨hu3, z⟩
  have k := cr_k1 e1 e2 e3 hv1 hv2
  rw [hu3, Int.zero_mul] at k
  rcases Int.mul_eq_zero.mp k.symm with y | y
  · have a1 : (ev (zBot d) 1 * ev t 1 + ev b 1 * ev (zTop d) 1) * ev (ndL l e).2 1 = ev b 1 * (ev (zBot d) 1 * ev (ndL l e).1 1 + ev (zTop d) 1 * ev (ndL l e).2 1) := by
      have : (ev (zBot d) 1 * ev t 1 + ev b 1 * ev (zTop d) 1) * ev (ndL l e).2 1 = ev (zBot d) 1 * (ev t 1 * ev (ndL l e).2 1) + ev b 1 * (ev (zTop d) 1 * ev (ndL l e).2 1) := by grind
      rw [this, e0]; grind
    rw [y, Int.zero_mul] at a1
    have p1 := Int.mul_pos hz.2 hd.1
    have p2 := Int.mul_pos hz.1 hd.2
    rcases Int.mul_eq_zero.mp a1.symm with y | y
    · exact hb y
    · omega
  · exact hv3 y
theorem gcdL_1 (a : Int) : gcdL [a] = ((a.natAbs : Nat) : Int) := by
  show ((Nat.gcd (0 : Int).natAbs a.natAbs : Nat) : Int) = _
  rw [show (0 : Int).natAbs = 0 from rfl, Nat.gcd_zero_left]
theorem gcdL_01 (a : Int) : gcdL [0, a] = ((a.natAbs : Nat) : Int) := by
  show ((Nat.gcd ((Nat.gcd (0 : Int).natAbs (0 : Int).natAbs : Nat) : Int).natAbs a.natAbs : Nat) : Int) = _
  rw [show (((Nat.gcd (0 : Int).natAbs (0 : Int).natAbs : Nat) : Int)).natAbs = 0 from rfl, Nat.gcd_zero_left]
theorem z_can {d : RungD} (h : Pos d) : Can (zTop d) (zBot d) := by
  have hn : 0 < d.w.num := h
  have hd := den_pz d.w
  have hr : Nat.gcd d.w.num.natAbs d.w.den = 1 := d.w.reduced
  have hr' : Nat.gcd d.w.den d.w.num.natAbs = 1 := by rw [Nat.gcd_comm]; exact hr
  have e1 : ∀ c x : Int, ev [c] x = c := fun c x => by show c + x * 0 = c; omega
  unfold zTop zBot
  cases d.k with
  | R =>
    refine ⟨.inr (by show d.w.num ≠ 0; omega), .inr (by show ((d.w.den : Nat) : Int) ≠ 0; omega), by simp, hd, ?_, [1], [], d.w.num, by omega, fun x => ?_⟩
    · rw [gcdL_1, gcdL_1]; simpa using hr
    · rw [e1, e1]; simp [ev]
  | L =>
    refine ⟨.inr (by show d.w.num ≠ 0; omega), .inr (by show ((d.w.den : Nat) : Int) ≠ 0; omega), by simp, hd, ?_, [], [1], ((d.w.den : Nat) : Int), by omega, fun x => ?_⟩
    · rw [gcdL_01, gcdL_1]; simpa using hr
    · rw [e1, e1]; simp [ev]
  | C =>
    refine ⟨.inr (by show ((d.w.den : Nat) : Int) ≠ 0; omega), .inr (by show d.w.num ≠ 0; omega), by simp, hn, ?_, [1], [], ((d.w.den : Nat) : Int), by omega, fun x => ?_⟩
    · rw [gcdL_1, gcdL_01]; simpa using hr'
    · rw [e1, e1]; simp [ev]
end Coil

set_option linter.all false
namespace Coil
theorem ev_bk' : ∀ (s : Int) (p : List Int) (x : Int), ev (bk s p) x = s * ev p (-x)
  | s, [], x => by simp [bk, ev]
  | s, a :: p, x => by
    show s * a + x * ev (bk (-s) p) x = s * (a + -x * ev p (-x))
    rw [ev_bk' (-s) p x]; grind
theorem ev_rt : ∀ (p : List Int) (x : Int), 2 * ev (rt p) (-(x * x)) = ev p x + ev p (-x)
  | [], x => by simp [rt, ev]
  | [a], x => by
    show 2 * (a + -(x * x) * 0) = a + x * 0 + (a + -x * 0)
    omega
  | a :: b :: p, x => by
    show 2 * (a + -(x * x) * ev (smul (-1) (rt p)) (-(x * x))) = a + x * (b + x * ev p x) + (a + -x * (b + -x * ev p (-x)))
    have := ev_rt p x
    rw [ev_smul]
    grind
theorem sz_rel {b sl : List Int} (h : ∀ i, co sl i = co (rt (mulP b (bk 1 b))) i) (x : Int) : ev sl (-(x * x)) = ev b x * ev b (-x) := by
  rw [ev_co h]
  have h1 := ev_rt (mulP b (bk 1 b)) x
  rw [ev_mul, ev_mul, ev_bk', ev_bk', Int.neg_neg] at h1
  have h2 : ev b (-x) * (1 * ev b x) = ev b x * (1 * ev b (-x)) := by grind
  rw [h2] at h1
  rw [Int.one_mul] at h1
  omega
theorem sz_bd {b sl : List Int} {X : Nat} (h : ∀ i, co sl i = co (rt (mulP b (bk 1 b))) i) (hb : ∀ i, (co b i).natAbs ≤ X) (i : Nat) : (co sl i).natAbs ≤ b.length * (X * X) := by
  rw [h, co_rt, Int.natAbs_mul]
  have h1 : ((-1 : Int) ^ i).natAbs = 1 := by
    induction i with
    | zero => decide
    | succ i ih => rw [Int.pow_succ, Int.natAbs_mul, ih]; decide
  rw [h1, Nat.one_mul]
  exact mulP_bd hb (fun i => by rw [bk_abs]; exact hb i) _
end Coil

set_option linter.all false
namespace Coil
theorem nz_ev {p : List Int} {x : Int} (h : ev p x ≠ 0) : Nz p := Classical.byContradiction fun z => h (by
  have : ∀ i, co p i = co [] i := fun i => by rw [co_nil]; exact Classical.byContradiction fun y => z ⟨i, y⟩
  rw [ev_co this]; rfl)
theorem gain_h1 {l : List RungD} {dl : RungD} {t b e lf : List Int} (h : CR l (zTop dl, zBot dl) t b) (hl : ∀ d ∈ dl :: l, Pos d) (hk : dl.k = .R) (hx : ∀ x, ev e x * (ev t x + ev b x) = (ev t x - ev b x) * ev lf x) :
    Far fun x => ((ev e x : Int) : Rat) * ((mL (l.map toRg)).a x * dl.w + (mL (l.map toRg)).b x + ((mL (l.map toRg)).c x * dl.w + (mL (l.map toRg)).d x)) = ((mL (l.map toRg)).a x * dl.w + (mL (l.map toRg)).b x - ((mL (l.map toRg)).c x * dl.w + (mL (l.map toRg)).d x)) * ((ev lf x : Int) : Rat) := by
  have hp : EPos (zTop dl, zBot dl) := fun x hx => z_pos (hl dl List.mem_cons_self) hx
  have hl' : ∀ d ∈ l, Pos d := fun d hd => hl d (List.mem_cons_of_mem _ hd)
  have h1 := nd_pos (x := 1) (by decide) (hp 1 (by decide)).1 (hp 1 (by decide)).2 l hl'
  obtain ⟨t1, b1⟩ := cr_nz h.1 (h.2 1) h1.1 h1.2
  obtain ⟨B1, f1⟩ := far_ne (nz_ev b1)
  obtain ⟨B2, f2⟩ := far_ne (nz_ev (p := (ndL l (zTop dl, zBot dl)).2) (x := 1) (by omega))
  have go : ∀ x : Int, x ≠ 0 → ((ev b x : Int) : Rat) ≠ 0 → ((ev (ndL l (zTop dl, zBot dl)).2 x : Int) : Rat) ≠ 0 → ((ev e x : Int) : Rat) * ((mL (l.map toRg)).a x * dl.w + (mL (l.map toRg)).b x + ((mL (l.map toRg)).c x * dl.w + (mL (l.map toRg)).d x)) = ((mL (l.map toRg)).a x * dl.w + (mL (l.map toRg)).b x - ((mL (l.map toRg)).c x * dl.w + (mL (l.map toRg)).d x)) * ((ev lf x : Int) : Rat) := fun x x0 nb nD => by
    have he : ((ev (zTop dl, zBot dl).1 x : Int) : Rat) = dl.w * ((ev (zTop dl, zBot dl).2 x : Int) : Rat) := by
      show ((ev (zTop dl) x : Int) : Rat) = dl.w * ((ev (zBot dl) x : Int) : Rat)
      have e1 : ∀ c : Int, ev [c] x = c := fun c => by show c + x * 0 = c; omega
      unfold zTop zBot
      rw [hk]
      show ((ev [dl.w.num] x : Int) : Rat) = dl.w * ((ev [((dl.w.den : Nat) : Int)] x : Int) : Rat)
      rw [e1, e1, rat_split]
    have r1 := nd_rel x0 he l hl'
    have r2 : ((ev t x : Int) : Rat) * ((ev (ndL l (zTop dl, zBot dl)).2 x : Int) : Rat) = ((ev (ndL l (zTop dl, zBot dl)).1 x : Int) : Rat) * ((ev b x : Int) : Rat) := by rw [← Rat.intCast_mul, ← Rat.intCast_mul, h.2 x]
    have r3 : ((ev e x : Int) : Rat) * (((ev t x : Int) : Rat) + ((ev b x : Int) : Rat)) = (((ev t x : Int) : Rat) - ((ev b x : Int) : Rat)) * ((ev lf x : Int) : Rat) := by
      rw [← Rat.intCast_add, ← Rat.intCast_sub, ← Rat.intCast_mul, ← Rat.intCast_mul, hx x]
    generalize (mL (l.map toRg)).a x * dl.w + (mL (l.map toRg)).b x = p at *
    generalize (mL (l.map toRg)).c x * dl.w + (mL (l.map toRg)).d x = q at *
    generalize ((ev (ndL l (zTop dl, zBot dl)).1 x : Int) : Rat) = N at *
    generalize ((ev (ndL l (zTop dl, zBot dl)).2 x : Int) : Rat) = D at *
    generalize ((ev t x : Int) : Rat) = t at *
    generalize ((ev b x : Int) : Rat) = b at *
    generalize ((ev e x : Int) : Rat) = e at *
    generalize ((ev lf x : Int) : Rat) = f at *
    -- t D = N b, N q = p D, e (t + b) = (t - b) f
    have k1 : t * q = p * b := by grind
    have k2 : b * (e * (p + q) - (p - q) * f) = 0 := by
      have : b * (e * (p + q) - (p - q) * f) = q * (e * (t + b) - (t - b) * f) := by grind
      rw [this, r3]; grind
    grind
  refine ⟨max (max B1 B2) 0, fun x hx => ⟨go x (by omega) (f1 x (by omega)).1 (f2 x (by omega)).1, go (-x) (by omega) (f1 x (by omega)).2 (f2 x (by omega)).2⟩⟩
/-- a rung divided -/
def dvD (r : Rat) (d : RungD) : RungD := ⟨d.s, d.k, match d.k with | .L => d.w / r | _ => d.w * r⟩
theorem toRg_dv {r : Rat} (hr : r ≠ 0) {d : RungD} (hc : Lc d) : toRg (dvD r d) = rgDiv r (toRg d) := by
  unfold toRg rgDiv dvD Lc at *
  obtain ⟨s, k, w⟩ := d
  have e1 : ∀ c x : Int, ev [c] x = c := fun c x => by show c + x * 0 = c; omega
  have e2 : ∀ c x : Int, ev [0, c] x = x * c := fun c x => by show 0 + x * (c + x * 0) = x * c; rw [Int.mul_zero, Int.add_zero, Int.zero_add]
  have nd : ∀ q : Rat, ((q.num : Int) : Rat) = q * (((q.den : Nat) : Int) : Rat) := fun q => (rat_split q).symm
  cases k with
  | R => exact absurd rfl hc
  | L =>
    refine congrArg (Prod.mk s) (funext fun x => ?_)
    show ((ev [0, (w / r).num] x : Int) : Rat) / ((ev [(((w / r).den : Nat) : Int)] x : Int) : Rat) = ((ev [0, w.num] x : Int) : Rat) / ((ev [((w.den : Nat) : Int)] x : Int) : Rat) / r
    rw [e1, e1, e2, e2, Rat.intCast_mul, Rat.intCast_mul, nd, nd]
    have := den_ne w
    have := den_ne (w / r)
    generalize (((w / r).den : Nat) : Int) = d1 at *
    generalize ((w.den : Nat) : Int) = d2 at *
    generalize (d1 : Rat) = d1 at *
    generalize (d2 : Rat) = d2 at *
    generalize (x : Rat) = x at *
    grind
  | C =>
    refine congrArg (Prod.mk s) (funext fun x => ?_)
    show ((ev [(((w * r).den : Nat) : Int)] x : Int) : Rat) / ((ev [0, (w * r).num] x : Int) : Rat) = ((ev [((w.den : Nat) : Int)] x : Int) : Rat) / ((ev [0, w.num] x : Int) : Rat) / r
    rw [e1, e1, e2, e2, Rat.intCast_mul, Rat.intCast_mul, nd, nd]
    have h1 := den_ne w
    have h2 := den_ne (w * r)
    generalize (((w * r).den : Nat) : Int) = d1 at *
    generalize ((w.den : Nat) : Int) = d2 at *
    generalize (d1 : Rat) = d1 at *
    generalize (d2 : Rat) = d2 at *
    generalize (x : Rat) = x at *
    by_cases hx : x = 0
    · subst hx; grind
    by_cases hw : w = 0
    · subst hw; grind
    grind
/-- what gain_of hands back -/
def Gn (l : List RungD) (dl : RungD) (t b : List Int) : Prop := Can t b ∧ ∃ e lf se sl : List Int, Nz lf ∧ (Far fun x => ((ev e x : Int) : Rat) * ((mL (l.map toRg)).a x * dl.w + (mL (l.map toRg)).b x + ((mL (l.map toRg)).c x * dl.w + (mL (l.map toRg)).d x)) = ((mL (l.map toRg)).a x * dl.w + (mL (l.map toRg)).b x - ((mL (l.map toRg)).c x * dl.w + (mL (l.map toRg)).d x)) * ((ev lf x : Int) : Rat)) ∧ (∀ x, ev sl (-(x * x)) = ev lf x * ev lf (-x)) ∧ (∀ x, ev se (-(x * x)) = ev e x * ev e (-x)) ∧ ∀ X, ev t X * ev sl X = (ev sl X - ev se X) * ev b X
theorem toRg_nz {d : RungD} (h : Pos d) {x : Int} (hx : x ≠ 0) : (toRg d).2 x ≠ 0 := by
  obtain ⟨a, b⟩ := z_ne0 h hx
  have up : ∀ z : Int, z ≠ 0 → ((z : Int) : Rat) ≠ 0 := fun z hz y => hz (Rat.intCast_inj.mp (show ((z : Int) : Rat) = ((0 : Int) : Rat) from y))
  have := up _ a
  have := up _ b
  show ((ev (zTop d) x : Int) : Rat) / ((ev (zBot d) x : Int) : Rat) ≠ 0
  generalize ((ev (zTop d) x : Int) : Rat) = p at *
  generalize ((ev (zBot d) x : Int) : Rat) = q at *
  intro z
  have : p = 0 := by grind
  contradiction
theorem gn_same {l : List RungD} {dl dl' : RungD} {t1 b1 t2 b2 : List Int} (hp : ∀ d ∈ l, Pos d) (hc : ∀ d ∈ l, Lc d) (hr : dl.w ≠ 0) (hd : dl'.w = dl.w⁻¹) (g1 : Gn l dl t1 b1) (g2 : Gn (l.map (dvD dl.w)).reverse dl' t2 b2) : t1 = t2 ∧ b1 = b2 := by
  obtain ⟨c1, e1, l1, se1, sl1, n1, h1, s1, s2, k1⟩ := g1
  obtain ⟨c2, e2, l2, se2, sl2, n2, h2, s3, s4, k2⟩ := g2
  have em : (l.map (dvD dl.w)).reverse.map toRg = ((l.map toRg).map (rgDiv dl.w)).reverse := by
    rw [List.map_reverse, List.map_map, List.map_map]
    congr 1
    exact List.map_congr_left fun d hd => toRg_dv hr (hc d hd)
  rw [em, hd] at h2
  exact gain_same hr (toRg_odd hp hc) ⟨0, fun x hx q hq => by
    obtain ⟨d, hd, rfl⟩ := List.mem_map.mp hq
    exact toRg_nz (hp d hd) (by omega)⟩ n1 n2 c1 c2 h1 h2 s1 s2 s3 s4 k1 k2
end Coil

set_option linter.all false
namespace Coil
/-! ### the power that gets through -/
theorem z_odd {d : RungD} (h : Lc d) (x : Int) : ev (zTop d) x * ev (zBot d) (-x) + ev (zTop d) (-x) * ev (zBot d) x = 0 := by
  have e1 : ∀ c x : Int, ev [c] x = c := fun c x => by show c + x * 0 = c; omega
  have e2 : ∀ c x : Int, ev [0, c] x = x * c := fun c x => by show 0 + x * (c + x * 0) = x * c; rw [Int.mul_zero, Int.add_zero, Int.zero_add]
  unfold zTop zBot
  unfold Lc at h
  cases hk : d.k with
  | R => exact absurd hk h
  | L => show ev [0, d.w.num] x * ev [((d.w.den : Nat) : Int)] (-x) + ev [0, d.w.num] (-x) * ev [((d.w.den : Nat) : Int)] x = 0; rw [e1, e1, e2, e2]; grind
  | C => show ev [((d.w.den : Nat) : Int)] x * ev [0, d.w.num] (-x) + ev [((d.w.den : Nat) : Int)] (-x) * ev [0, d.w.num] x = 0; rw [e1, e1, e2, e2]; grind
def fz (d : RungD) : List Int := if d.s then zBot d else zTop d
def pj : List RungD → Int → Int
  | [], _ => 1
  | d :: l, x => (ev (fz d) x * ev (fz d) (-x)) * pj l x
theorem nd_refl {e : PL} : ∀ (l : List RungD), (∀ d ∈ l, Lc d) → ∀ x, ev (ndL l e).1 x * ev (ndL l e).2 (-x) + ev (ndL l e).1 (-x) * ev (ndL l e).2 x = (ev e.1 x * ev e.2 (-x) + ev e.1 (-x) * ev e.2 x) * pj l x
  | [], _, x => by simp [ndL, pj]
  | d :: l, h, x => by
    have ih := nd_refl (e := e) l (fun q hq => h q (List.mem_cons_of_mem _ hq)) x
    have ho := z_odd (h d List.mem_cons_self) x
    unfold ndL pj fz
    cases d.s with
    | true =>
      simp only [if_true]
      rw [ev_add, ev_add, ev_mul, ev_mul, ev_mul, ev_mul, ev_mul, ev_mul]
      generalize ev (ndL l e).1 x = N at *
      generalize ev (ndL l e).2 x = D at *
      generalize ev (ndL l e).1 (-x) = N' at *
      generalize ev (ndL l e).2 (-x) = D' at *
      generalize ev (zTop d) x = zt at *
      generalize ev (zBot d) x = zb at *
      generalize ev (zTop d) (-x) = zt' at *
      generalize ev (zBot d) (-x) = zb' at *
      generalize ev e.1 x * ev e.2 (-x) + ev e.1 (-x) * ev e.2 x = E at *
      have a : (zt * D + zb * N) * (zb' * D') + (zt' * D' + zb' * N') * (zb * D) = (zt * zb' + zt' * zb) * (D * D') + zb * zb' * (N * D' + N' * D) := by grind
      rw [a, ho, ih]; grind
    | false =>
      simp only [Bool.false_eq_true, if_false]
      rw [ev_add, ev_add, ev_mul, ev_mul, ev_mul, ev_mul, ev_mul, ev_mul]
      generalize ev (ndL l e).1 x = N at *
      generalize ev (ndL l e).2 x = D at *
      generalize ev (ndL l e).1 (-x) = N' at *
      generalize ev (ndL l e).2 (-x) = D' at *
      generalize ev (zTop d) x = zt at *
      generalize ev (zBot d) x = zb at *
      generalize ev (zTop d) (-x) = zt' at *
      generalize ev (zBot d) (-x) = zb' at *
      generalize ev e.1 x * ev e.2 (-x) + ev e.1 (-x) * ev e.2 x = E at *
      have a : zt * N * (zt' * D' + zb' * N') + zt' * N' * (zt * D + zb * N) = (zt * zb' + zt' * zb) * (N * N') + zt * zt' * (N * D' + N' * D) := by grind
      rw [a, ho, ih]; grind
/-- the same as a polynomial of X = - x x -/
def fX (d : RungD) : List Int := match fz d with
  | [c] => [c * c]
  | [_, c] => [0, c * c]
  | _ => [1]
def pX : List RungD → List Int
  | [] => [1]
  | d :: l => mulP (fX d) (pX l)
theorem fX_ev (d : RungD) (x : Int) : ev (fX d) (-(x * x)) = ev (fz d) x * ev (fz d) (-x) := by
  have e1 : ∀ c x : Int, ev [c] x = c := fun c x => by show c + x * 0 = c; omega
  have e2 : ∀ c x : Int, ev [0, c] x = x * c := fun c x => by show 0 + x * (c + x * 0) = x * c; rw [Int.mul_zero, Int.add_zero, Int.zero_add]
  have h : (∃ c, fz d = [c]) ∨ ∃ c, fz d = [0, c] := by
    unfold fz zTop zBot
    cases d.s <;> cases d.k <;> simp
  unfold fX
  rcases h with ⟨c, h⟩ | ⟨c, h⟩
  · rw [h]
    show ev [c * c] _ = _
    rw [e1, e1, e1]
  · rw [h]
    show ev [0, c * c] _ = _
    rw [e2, e2, e2]; grind
theorem pX_ev : ∀ (l : List RungD) (x : Int), ev (pX l) (-(x * x)) = pj l x
  | [], x => by show 1 + _ * 0 = 1; omega
  | d :: l, x => by
    show ev (mulP (fX d) (pX l)) _ = _ * pj l x
    rw [ev_mul, fX_ev, pX_ev l x]
end Coil

set_option linter.all false
namespace Coil
/-- echo and left as what the rungs tell -/
theorem echo_nd {l : List RungD} {dl : RungD} {t b e lf : List Int} (h : CR l (zTop dl, zBot dl) t b) (hl : ∀ d ∈ dl :: l, Pos d) (hx : ∀ x, ev e x * (ev t x + ev b x) = (ev t x - ev b x) * ev lf x) (x : Int) :
    ev e x * (ev (ndL l (zTop dl, zBot dl)).1 x + ev (ndL l (zTop dl, zBot dl)).2 x) = (ev (ndL l (zTop dl, zBot dl)).1 x - ev (ndL l (zTop dl, zBot dl)).2 x) * ev lf x := by
  have key : ∀ x, 0 < x → ev (mulP e (addP (ndL l (zTop dl, zBot dl)).1 (ndL l (zTop dl, zBot dl)).2)) x = ev (mulP (addP (ndL l (zTop dl, zBot dl)).1 (smul (-1) (ndL l (zTop dl, zBot dl)).2)) lf) x := fun x hx0 => by
    have hp := z_pos (hl dl List.mem_cons_self) hx0
    have hd := nd_pos (e := (zTop dl, zBot dl)) hx0 hp.1 hp.2 l fun q hq => hl q (List.mem_cons_of_mem _ hq)
    have e0 := h.2 x
    obtain ⟨_, hb⟩ := cr_nz h.1 e0 hd.1 hd.2
    have e1 := hx x
    rw [ev_mul, ev_mul, ev_add, ev_add, ev_smul]
    generalize ev (ndL l (zTop dl, zBot dl)).1 x = N at *
    generalize ev (ndL l (zTop dl, zBot dl)).2 x = D at *
    refine Int.eq_of_mul_eq_mul_left hb ?_
    generalize ev e x = e at *
    generalize ev lf x = f at *
    generalize ev t x = t at *
    generalize ev b x = b at *
    have a1 : b * (e * (N + D)) = e * (N * b) + e * (b * D) := by grind
    rw [a1, ← e0]
    have a2 : e * (t * D) + e * (b * D) = e * (t + b) * D := by grind
    rw [a2, e1]
    have a3 : (t - b) * f * D = (t * D) * f - b * D * f := by grind
    rw [a3, e0]
    grind
  have := ev_all key x
  rw [ev_mul, ev_mul, ev_add, ev_add, ev_smul] at this
  rw [this]; grind
/-- what gets through, on the axis -/
theorem gain_through {l : List RungD} {dl : RungD} {t b e lf se sl : List Int} (h : CR l (zTop dl, zBot dl) t b) (hl : ∀ d ∈ dl :: l, Pos d) (hc : ∀ d ∈ l, Lc d) (hk : dl.k = .R) (hC : Can e lf) (hx : ∀ x, ev e x * (ev t x + ev b x) = (ev t x - ev b x) * ev lf x)
    (s1 : ∀ x, ev sl (-(x * x)) = ev lf x * ev lf (-x)) (s2 : ∀ x, ev se (-(x * x)) = ev e x * ev e (-x)) :
    ∃ g : List Int, ∀ X, (ev sl X - ev se X) * ev (rt (mulP g (bk 1 g))) X = 4 * (dl.w.num * ((dl.w.den : Nat) : Int)) * ev (pX l) X := by
  have en := echo_nd h hl hx
  obtain ⟨g, g1, g2⟩ := can_div (t0 := addP (ndL l (zTop dl, zBot dl)).1 (smul (-1) (ndL l (zTop dl, zBot dl)).2)) (b0 := addP (ndL l (zTop dl, zBot dl)).1 (ndL l (zTop dl, zBot dl)).2) hC fun x => by
    rw [ev_add, ev_add, ev_smul]
    have := en x
    rw [this]; grind
  refine ⟨g, fun X => ?_⟩
  have main : ev (mulP (addP sl (smul (-1) se)) (rt (mulP g (bk 1 g)))) X = ev (smul (4 * (dl.w.num * ((dl.w.den : Nat) : Int))) (pX l)) X := by
    refine sq_ext (B := 0) (fun x _ => ?_) X
    rw [ev_mul, ev_add, ev_smul, ev_smul, s1, s2, sz_rel (fun i => rfl), pX_ev]
    have r := nd_refl (e := (zTop dl, zBot dl)) l hc x
    have hE : ev (zTop dl) x * ev (zBot dl) (-x) + ev (zTop dl) (-x) * ev (zBot dl) x = 2 * (dl.w.num * ((dl.w.den : Nat) : Int)) := by
      have e1 : ∀ c x : Int, ev [c] x = c := fun c x => by show c + x * 0 = c; omega
      unfold zTop zBot
      rw [hk]
      show ev [dl.w.num] x * ev [((dl.w.den : Nat) : Int)] (-x) + ev [dl.w.num] (-x) * ev [((dl.w.den : Nat) : Int)] x = _
      rw [e1, e1, e1, e1]; grind
    have p1 := g1 x
    have p2 := g2 x
    have p3 := g1 (-x)
    have p4 := g2 (-x)
    rw [ev_add, ev_smul] at p1 p3
    rw [ev_add] at p2 p4
    have r' : ev (ndL l (zTop dl, zBot dl)).1 x * ev (ndL l (zTop dl, zBot dl)).2 (-x) + ev (ndL l (zTop dl, zBot dl)).1 (-x) * ev (ndL l (zTop dl, zBot dl)).2 x = 2 * (dl.w.num * ((dl.w.den : Nat) : Int)) * pj l x := by rw [r]; show (ev (zTop dl) x * ev (zBot dl) (-x) + ev (zTop dl) (-x) * ev (zBot dl) x) * pj l x = _; rw [hE]
    generalize dl.w.num * ((dl.w.den : Nat) : Int) = k at *
    generalize pj l x = pp at *
    generalize ev (ndL l (zTop dl, zBot dl)).1 x = N at *
    generalize ev (ndL l (zTop dl, zBot dl)).2 x = D at *
    generalize ev (ndL l (zTop dl, zBot dl)).1 (-x) = N' at *
    generalize ev (ndL l (zTop dl, zBot dl)).2 (-x) = D' at *
    generalize ev lf x = f at *
    generalize ev lf (-x) = f' at *
    generalize ev e x = ee at *
    generalize ev e (-x) = ee' at *
    generalize ev g x = gg at *
    generalize ev g (-x) = gg' at *
    have a1 : (f * f' + -1 * (ee * ee')) * (gg * gg') = (f * gg) * (f' * gg') - (ee * gg) * (ee' * gg') := by grind
    rw [a1, ← p1, ← p2, ← p3, ← p4]
    have a2 : (N + D) * (N' + D') - (N + -1 * D) * (N' + -1 * D') = 2 * (N * D' + N' * D) := by grind
    rw [a2, r']; grind
  rw [ev_mul, ev_add, ev_smul, ev_smul] at main
  rw [← main]; grind
end Coil

set_option linter.all false
namespace Coil
theorem hv_sq (g : List Int) {m : Nat} (hg : g.length ≤ m + 1) (y w : Int) : hv m (rt (mulP g (bk 1 g))) (y * y) (w * w) = (cx m g 0 y w).1 * (cx m g 0 y w).1 + (cx m g 0 y w).2 * (cx m g 0 y w).2 := by
  have hb : (bk 1 g).length ≤ m + 1 := by rw [bk_len]; exact hg
  have hl : (mulP g (bk 1 g)).length ≤ 2 * m + 1 := by
    rcases mulP_len_le g (bk 1 g) with h | h
    · omega
    · rw [h]
      have := mulP_len2 g []
      simp at this
      have h0 : g.length = 0 := by have := bk_len 1 g; rw [h] at this; exact this.symm
      omega
  have h1 := cx_axis y w m (mulP g (bk 1 g)) hl
  have h2 := cx_mul (x := 0) (y := y) (w := w) m (bk 1 g) hb m g hg
  have h3 := cx_conj y w m 1 g
  rw [← h1, show 2 * m = m + m by omega, h2, h3]
  simp only
  grind
theorem hv_sq0 (g : List Int) {m : Nat} (hg : g.length ≤ m + 1) (y w : Int) : 0 ≤ hv m (rt (mulP g (bk 1 g))) (y * y) (w * w) := by
  rw [hv_sq g hg]
  have h1 : ∀ a : Int, 0 ≤ a * a := fun a => by
    rcases Int.le_total 0 a with h | h
    · exact Int.mul_nonneg h h
    · have := Int.mul_nonneg (show 0 ≤ -a by omega) (show 0 ≤ -a by omega)
      rwa [Int.neg_mul_neg] at this
  have := h1 (cx m g 0 y w).1
  have := h1 (cx m g 0 y w).2
  omega
theorem fX_len (d : RungD) : (fX d).length ≤ 2 := by
  unfold fX
  split <;> simp
theorem fz_or (d : RungD) (h : Pos d) : ∃ c : Int, c ≠ 0 ∧ (fz d = [c] ∨ fz d = [0, c]) := by
  have hn : d.w.num ≠ 0 := by have : 0 < d.w.num := h; omega
  have hd := den_pz d.w
  have hd' : ((d.w.den : Nat) : Int) ≠ 0 := by omega
  unfold fz zTop zBot
  cases d.s <;> cases d.k
  · exact ⟨_, hn, .inl rfl⟩
  · exact ⟨_, hn, .inr rfl⟩
  · exact ⟨_, hd', .inl rfl⟩
  · exact ⟨_, hd', .inl rfl⟩
  · exact ⟨_, hd', .inl rfl⟩
  · exact ⟨_, hn, .inr rfl⟩
theorem sq_pos' {c : Int} (h : c ≠ 0) : 0 < c * c := by
  rcases Int.lt_or_gt_of_ne h with h | h
  · have := Int.mul_pos (show 0 < -c by omega) (show 0 < -c by omega)
    rwa [Int.neg_mul_neg] at this
  · exact Int.mul_pos h h
theorem fX_hv {d : RungD} (h : Pos d) {X Y : Int} (hX : 0 < X) (hY : 0 < Y) : 0 < hv 1 (fX d) X Y := by
  obtain ⟨c, hc, e | e⟩ := fz_or d h
  · unfold fX
    rw [e]
    have := Int.mul_pos (sq_pos' hc) hY
    simp only [hv]
    grind
  · unfold fX
    rw [e]
    have := Int.mul_pos (sq_pos' hc) hX
    simp only [hv]
    grind
theorem pX_len : ∀ l : List RungD, (pX l).length ≤ l.length + 1
  | [] => by simp [pX]
  | d :: l => by
    have := pX_len l
    have := fX_len d
    have h0 : 1 ≤ (fX d).length := by unfold fX; split <;> simp
    show (mulP (fX d) (pX l)).length ≤ _
    rw [List.length_cons]
    rcases mulP_len_le (fX d) (pX l) with h | h
    · omega
    · rw [h]
      have := mulP_len2 (fX d) []
      simp at this
      omega
theorem pX_hv {X Y : Int} (hX : 0 < X) (hY : 0 < Y) : ∀ l : List RungD, (∀ d ∈ l, Pos d) → 0 < hv l.length (pX l) X Y
  | [], _ => by show 0 < hv 0 [1] X Y; simp only [hv]; simp
  | d :: l, h => by
    show 0 < hv (l.length + 1) (mulP (fX d) (pX l)) X Y
    rw [Nat.add_comm, hv_mul X Y l.length (pX l) (pX_len l) 1 (fX d) (fX_len d)]
    exact Int.mul_pos (fX_hv (h d List.mem_cons_self) hX hY) (pX_hv hX hY l fun q hq => h q (List.mem_cons_of_mem _ hq))
end Coil

set_option linter.all false
namespace Coil
theorem ev_0 (r : List Int) : ev r 0 = co r 0 := by
  cases r with
  | nil => rfl
  | cons a p => show a + 0 * ev p 0 = a; omega
theorem strip : ∀ g : List Int, Nz g → ∃ (i : Nat) (g' : List Int), co g' 0 ≠ 0 ∧ ∀ x, ev g x = x ^ i * ev g' x
  | [], ⟨i, h⟩ => absurd (co_nil i) h
  | c :: p, hz => by
    by_cases hc : c = 0
    · obtain ⟨j, hj⟩ := hz
      have hp : Nz p := by
        cases j with
        | zero => exact absurd hc hj
        | succ j => exact ⟨j, hj⟩
      obtain ⟨i, g', h1, h2⟩ := strip p hp
      refine ⟨i + 1, g', h1, fun x => ?_⟩
      show c + x * ev p x = _
      rw [hc, h2, Int.pow_succ]; grind
    · exact ⟨0, c :: p, hc, fun x => by rw [Int.pow_zero, Int.one_mul]⟩
theorem ev_rep (i : Nat) (q : List Int) (X : Int) : ev (List.replicate i 0 ++ q) X = X ^ i * ev q X := by
  induction i with
  | zero => show ev q X = _; rw [Int.pow_zero, Int.one_mul]
  | succ i ih =>
    rw [List.replicate_succ]
    show 0 + X * ev (List.replicate i 0 ++ q) X = _
    rw [ih, Int.pow_succ]; grind
theorem co_rep (i : Nat) (q : List Int) : co (List.replicate i 0 ++ q) i = co q 0 := by
  induction i with
  | zero => rfl
  | succ i ih => rw [List.replicate_succ]; exact ih
theorem fX_nn (d : RungD) (i : Nat) : 0 ≤ co (fX d) i := by
  have h1 : ∀ a : Int, 0 ≤ a * a := fun a => by
    by_cases h : a = 0
    · subst h; decide
    · exact Int.le_of_lt (sq_pos' h)
  unfold fX
  split
  · rename_i c _
    match i with
    | 0 => exact h1 c
    | i + 1 => rw [co_over (by simp)]; decide
  · rename_i c _
    match i with
    | 0 => exact Int.le_refl 0
    | 1 => exact h1 c
    | i + 2 => rw [co_over (by simp)]; decide
  · match i with
    | 0 => show (0 : Int) ≤ 1; decide
    | i + 1 => rw [co_over (by simp)]; decide
theorem mulP_nn : ∀ {p q : List Int}, (∀ i, 0 ≤ co p i) → (∀ i, 0 ≤ co q i) → ∀ i, 0 ≤ co (mulP p q) i
  | [], q, _, _, i => by show 0 ≤ co [] i; rw [co_nil]; decide
  | a :: p, q, h1, h2, i => by
    have hp : ∀ i, 0 ≤ co p i := fun i => h1 (i + 1)
    have ih := mulP_nn hp h2
    show 0 ≤ co (addP (smul a q) (0 :: mulP p q)) i
    rw [co_add, co_smul]
    have := Int.mul_nonneg (show 0 ≤ a from h1 0) (h2 i)
    cases i with
    | zero => have : co (0 :: mulP p q) 0 = 0 := rfl; omega
    | succ i => have : co (0 :: mulP p q) (i + 1) = co (mulP p q) i := rfl; have := ih i; omega
theorem pX_nn : ∀ (l : List RungD) (i : Nat), 0 ≤ co (pX l) i
  | [], i => by
    cases i with
    | zero => show (0 : Int) ≤ 1; decide
    | succ i => show 0 ≤ co [1] (i + 1); rw [co_over (by simp)]; decide
  | d :: l, i => mulP_nn (fX_nn d) (pX_nn l) i
/-- at 0 -/
theorem gain_at0 {l : List RungD} {K : Int} {G g : List Int} (hK : 0 < K) (hl : ∀ d ∈ l, Pos d) (h : ∀ X, ev G X * ev (rt (mulP g (bk 1 g))) X = K * ev (pX l) X) : 0 ≤ co G 0 := by
  have hg : Nz g := Classical.byContradiction fun z => by
    have h0 : ∀ i, co g i = 0 := fun i => Classical.byContradiction fun y => z ⟨i, y⟩
    have hev : ∀ x, ev g x = 0 := fun x => by rw [ev_co (p := g) (q := []) (fun i => by rw [h0, co_nil])]; rfl
    have h1 : ∀ x : Int, ev (smul K (pX l)) (-(x * x)) = ev [] (-(x * x)) := fun x => by
      rw [ev_smul, ← h, sz_rel (fun i => rfl), hev]
      show ev G (-(x * x)) * (0 * ev g (-x)) = 0
      rw [Int.zero_mul, Int.mul_zero]
    have h2 := hv_ext 1 1 l.length fun X => sq_ext (B := 0) (fun x _ => h1 x) X
    rw [hv_smul] at h2
    have h3 := Int.mul_pos hK (pX_hv (X := 1) (Y := 1) (by decide) (by decide) l hl)
    have h4 : hv l.length [] 1 1 = 0 := by simp [hv]
    omega
  obtain ⟨i, g', h0, hx⟩ := strip g hg
  have key : ∀ X, ev (List.replicate i 0 ++ mulP G (rt (mulP g' (bk 1 g')))) X = ev (smul K (pX l)) X := fun X => by
    refine sq_ext (B := 0) (fun x _ => ?_) X
    rw [ev_rep, ev_mul, ev_smul, ← h, sz_rel (fun i => rfl), sz_rel (fun i => rfl), hx, hx]
    have : (-(x * x)) ^ i = x ^ i * (-x) ^ i := by rw [← Int.mul_pow]; congr 1; grind
    rw [this]; grind
  have hc := ev_ext _ _ 0 (fun X _ => key X) i
  rw [co_rep, co_smul] at hc
  have h1 := Int.mul_nonneg (Int.le_of_lt hK) (pX_nn l i)
  rw [← hc, ← ev_0, ev_mul, ev_0, ev_0, co_rt, Int.pow_zero, Int.one_mul, Nat.mul_zero, ← ev_0 (mulP _ _), ev_mul, ev_0, ev_0, co_bk, Int.pow_zero, Int.mul_one, Int.one_mul] at h1
  have h2 := sq_pos' h0
  refine Int.not_lt.mp fun z => ?_
  have h3 := Int.mul_pos (show 0 < -co G 0 by omega) h2
  rw [Int.neg_mul] at h3
  omega
end Coil

set_option linter.all false
namespace Coil
theorem hv_y0 (p : List Int) (n : Nat) (y : Int) : hv n p 0 y = co p 0 * y ^ n := by
  cases p with
  | nil => show (0 : Int) = 0 * _; omega
  | cons a p => show a * y ^ n + 0 * _ = a * y ^ n; omega
theorem sz_hv {b sl : List Int} {m : Nat} (h : ∀ x, ev sl (-(x * x)) = ev b x * ev b (-x)) (hb : b.length ≤ m + 1) (y w : Int) : hv m sl (y * y) (w * w) = (cx m b 0 y w).1 * (cx m b 0 y w).1 + (cx m b 0 y w).2 * (cx m b 0 y w).2 := by
  rw [← hv_sq b hb]
  exact hv_ext _ _ _ fun z => sq_ext (B := 0) (fun x _ => by rw [h, sz_rel (fun i => rfl)]) z
theorem sqs_nn (a b : Int) : 0 ≤ a * a + b * b := by
  have h1 : ∀ a : Int, 0 ≤ a * a := fun a => by
    by_cases h : a = 0
    · subst h; decide
    · exact Int.le_of_lt (sq_pos' h)
  have := h1 a
  have := h1 b
  omega
/-- echo and left of a ladder -/
def Ec (l : List RungD) (dl : RungD) (e lf : List Int) : Prop := Can e lf ∧ ∀ x, ev e x * (ev (ndL l (zTop dl, zBot dl)).1 x + ev (ndL l (zTop dl, zBot dl)).2 x) = (ev (ndL l (zTop dl, zBot dl)).1 x - ev (ndL l (zTop dl, zBot dl)).2 x) * ev lf x
theorem ec_same {l : List RungD} {dl : RungD} {e lf e' lf' : List Int} (hl : ∀ d ∈ dl :: l, Pos d) (h : Ec l dl e lf) (h' : Ec l dl e' lf') : e = e' ∧ lf = lf' := by
  refine can_same h.1 h'.1 fun x => ?_
  have key : ∀ x, 0 < x → ev (mulP e lf') x = ev (mulP e' lf) x := fun x hx0 => by
    have hp := z_pos (hl dl List.mem_cons_self) hx0
    have hd := nd_pos (e := (zTop dl, zBot dl)) hx0 hp.1 hp.2 l fun q hq => hl q (List.mem_cons_of_mem _ hq)
    have e1 := h.2 x
    have e2 := h'.2 x
    rw [ev_mul, ev_mul]
    generalize ev (ndL l (zTop dl, zBot dl)).1 x = N at *
    generalize ev (ndL l (zTop dl, zBot dl)).2 x = D at *
    have hs : N + D ≠ 0 := by omega
    refine Int.eq_of_mul_eq_mul_left hs ?_
    generalize ev e x = e at *
    generalize ev e' x = e' at *
    generalize ev lf x = f at *
    generalize ev lf' x = f' at *
    have a1 : (N + D) * (e * f') = e * (N + D) * f' := by grind
    have a2 : (N + D) * (e' * f) = e' * (N + D) * f := by grind
    rw [a1, a2, e1, e2]; grind
  have := ev_all key x
  rwa [ev_mul, ev_mul] at this
/-- what gets through, on the axis -/
theorem gain_through2 {l : List RungD} {dl : RungD} {e lf se sl : List Int} (h : Ec l dl e lf) (hc : ∀ d ∈ l, Lc d) (hk : dl.k = .R)
    (s1 : ∀ x, ev sl (-(x * x)) = ev lf x * ev lf (-x)) (s2 : ∀ x, ev se (-(x * x)) = ev e x * ev e (-x)) :
    ∃ g : List Int, ∀ X, (ev sl X - ev se X) * ev (rt (mulP g (bk 1 g))) X = 4 * (dl.w.num * ((dl.w.den : Nat) : Int)) * ev (pX l) X := by
  have en := h.2
  have hC := h.1
  obtain ⟨g, g1, g2⟩ := can_div (t0 := addP (ndL l (zTop dl, zBot dl)).1 (smul (-1) (ndL l (zTop dl, zBot dl)).2)) (b0 := addP (ndL l (zTop dl, zBot dl)).1 (ndL l (zTop dl, zBot dl)).2) hC fun x => by
    rw [ev_add, ev_add, ev_smul]
    have := en x
    rw [this]; grind
  refine ⟨g, fun X => ?_⟩
  have main : ev (mulP (addP sl (smul (-1) se)) (rt (mulP g (bk 1 g)))) X = ev (smul (4 * (dl.w.num * ((dl.w.den : Nat) : Int))) (pX l)) X := by
    refine sq_ext (B := 0) (fun x _ => ?_) X
    rw [ev_mul, ev_add, ev_smul, ev_smul, s1, s2, sz_rel (fun i => rfl), pX_ev]
    have r := nd_refl (e := (zTop dl, zBot dl)) l hc x
    have hE : ev (zTop dl) x * ev (zBot dl) (-x) + ev (zTop dl) (-x) * ev (zBot dl) x = 2 * (dl.w.num * ((dl.w.den : Nat) : Int)) := by
      have e1 : ∀ c x : Int, ev [c] x = c := fun c x => by show c + x * 0 = c; omega
      unfold zTop zBot
      rw [hk]
      show ev [dl.w.num] x * ev [((dl.w.den : Nat) : Int)] (-x) + ev [dl.w.num] (-x) * ev [((dl.w.den : Nat) : Int)] x = _
      rw [e1, e1, e1, e1]; grind
    have p1 := g1 x
    have p2 := g2 x
    have p3 := g1 (-x)
    have p4 := g2 (-x)
    rw [ev_add, ev_smul] at p1 p3
    rw [ev_add] at p2 p4
    have r' : ev (ndL l (zTop dl, zBot dl)).1 x * ev (ndL l (zTop dl, zBot dl)).2 (-x) + ev (ndL l (zTop dl, zBot dl)).1 (-x) * ev (ndL l (zTop dl, zBot dl)).2 x = 2 * (dl.w.num * ((dl.w.den : Nat) : Int)) * pj l x := by rw [r]; show (ev (zTop dl) x * ev (zBot dl) (-x) + ev (zTop dl) (-x) * ev (zBot dl) x) * pj l x = _; rw [hE]
    generalize dl.w.num * ((dl.w.den : Nat) : Int) = k at *
    generalize pj l x = pp at *
    generalize ev (ndL l (zTop dl, zBot dl)).1 x = N at *
    generalize ev (ndL l (zTop dl, zBot dl)).2 x = D at *
    generalize ev (ndL l (zTop dl, zBot dl)).1 (-x) = N' at *
    generalize ev (ndL l (zTop dl, zBot dl)).2 (-x) = D' at *
    generalize ev lf x = f at *
    generalize ev lf (-x) = f' at *
    generalize ev e x = ee at *
    generalize ev e (-x) = ee' at *
    generalize ev g x = gg at *
    generalize ev g (-x) = gg' at *
    have a1 : (f * f' + -1 * (ee * ee')) * (gg * gg') = (f * gg) * (f' * gg') - (ee * gg) * (ee' * gg') := by grind
    rw [a1, ← p1, ← p2, ← p3, ← p4]
    have a2 : (N + D) * (N' + D') - (N + -1 * D) * (N' + -1 * D') = 2 * (N * D' + N' * D) := by grind
    rw [a2, r']; grind
  rw [ev_mul, ev_add, ev_smul, ev_smul] at main
  rw [← main]; grind
/-- on the axis: what comes back and what gets through -/
theorem gain_axis {l : List RungD} {dl : RungD} {e lf se sl : List Int} {m : Nat} (h : Ec l dl e lf) (hl : ∀ d ∈ dl :: l, Pos d) (hc : ∀ d ∈ l, Lc d) (hk : dl.k = .R)
    (s1 : ∀ x, ev sl (-(x * x)) = ev lf x * ev lf (-x)) (s2 : ∀ x, ev se (-(x * x)) = ev e x * ev e (-x)) (l1 : sl.length ≤ m + 1) (l2 : se.length ≤ m + 1) (l3 : lf.length ≤ m + 1) (l4 : e.length ≤ m + 1) {y w : Int} (hw : w ≠ 0) :
    0 < hv m sl (y * y) (w * w) ∧ hv m se (y * y) (w * w) ≤ hv m sl (y * y) (w * w) := by
  obtain ⟨g, hg⟩ := gain_through2 h hc hk s1 s2
  have hK : 0 < 4 * (dl.w.num * ((dl.w.den : Nat) : Int)) := by
    have : 0 < dl.w.num := hl dl List.mem_cons_self
    have := Int.mul_pos this (den_pz dl.w)
    omega
  have hl' : ∀ d ∈ l, Pos d := fun d hd => hl d (List.mem_cons_of_mem _ hd)
  have hG : ∀ X, ev (addP sl (smul (-1) se)) X * ev (rt (mulP g (bk 1 g))) X = 4 * (dl.w.num * ((dl.w.den : Nat) : Int)) * ev (pX l) X := fun X => by
    rw [ev_add, ev_smul, ← hg X]
    have : ev sl X + -1 * ev se X = ev sl X - ev se X := by omega
    rw [this]
  generalize 4 * (dl.w.num * ((dl.w.den : Nat) : Int)) = k at hK hG
  by_cases hy : y = 0
  · subst hy
    have h0 := gain_at0 hK hl' hG
    rw [co_add, co_smul] at h0
    have p0 : ∀ n, 0 < (w * w) ^ n := fun n => Int.pow_pos (sq_pos' hw)
    have e1 := s1 0
    have e2 := s2 0
    rw [show -((0 : Int) * 0) = 0 from rfl, ev_0] at e1 e2
    rw [show -(0 : Int) = 0 from rfl] at e1 e2
    have a1 := sqs_nn (ev lf 0) 0
    have a2 := sqs_nn (ev e 0) 0
    rw [show (0 : Int) * 0 = 0 from rfl, hv_y0, hv_y0]
    have hpos : 0 < co sl 0 := by
      refine Int.not_le.mp fun z => ?_
      have z1 : ev lf 0 = 0 := Classical.byContradiction fun q => by have := sq_pos' q; omega
      have z2 : ev e 0 = 0 := Classical.byContradiction fun q => by have := sq_pos' q; omega
      obtain ⟨u, v, r, hr, hb⟩ := h.1.bez
      have := hb 0
      rw [z1, z2] at this
      omega
    refine ⟨Int.mul_pos hpos (p0 m), Int.mul_le_mul_of_nonneg_right (by omega) (Int.le_of_lt (p0 m))⟩
  · have hy2 := sq_pos' hy
    have hw2 := sq_pos' hw
    have gl : (rt (mulP g (bk 1 g))).length ≤ g.length + l.length + 1 := by
      rw [rt_len]
      have := mulP_len2 g (bk 1 g)
      rw [bk_len] at this
      omega
    have hGl : (addP sl (smul (-1) se)).length ≤ m + 1 := by
      have := addP_len sl (smul (-1) se)
      rw [smul_len] at this
      omega
    have i1 := hv_mul (y * y) (w * w) (g.length + l.length) _ gl m _ hGl
    have i2 := hv_ext (y * y) (w * w) (m + (g.length + l.length)) (p := mulP (addP sl (smul (-1) se)) (rt (mulP g (bk 1 g)))) (q := smul k (pX l)) fun z => by rw [ev_mul, hG, ev_smul]
    rw [hv_smul, show m + (g.length + l.length) = l.length + (m + g.length) by omega, hv_shift _ _ _ _ _ (pX_len l)] at i2
    rw [show m + (g.length + l.length) = l.length + (m + g.length) by omega, i2, hv_add, hv_smul] at i1
    have i3 := pX_hv hy2 hw2 l hl'
    have i4 := Int.mul_pos hK (Int.mul_pos (show 0 < (w * w) ^ (m + g.length) from Int.pow_pos hw2) i3)
    rw [i1] at i4
    have i5 := hv_sq0 g (m := g.length + l.length) (by omega) y w
    have i6 : 0 < hv m sl (y * y) (w * w) + -1 * hv m se (y * y) (w * w) := by
      refine Int.not_le.mp fun z => ?_
      have := Int.mul_nonneg (show 0 ≤ -(hv m sl (y * y) (w * w) + -1 * hv m se (y * y) (w * w)) by omega) i5
      rw [Int.neg_mul] at this
      omega
    have i7 : 0 ≤ hv m se (y * y) (w * w) := by rw [sz_hv s2 l4]; exact sqs_nn _ _
    omega
end Coil

set_option linter.all false
namespace Coil
/-- what gain_of hands back, and its size -/
def Gx (l : List RungD) (dl : RungD) (t b : List Int) : Prop := Can t b ∧ ∃ e lf se sl : List Int, Ec l dl e lf ∧ (∀ x, ev sl (-(x * x)) = ev lf x * ev lf (-x)) ∧ (∀ x, ev se (-(x * x)) = ev e x * ev e (-x)) ∧ (∀ X, ev t X * ev sl X = (ev sl X - ev se X) * ev b X) ∧ sl.length ≤ 7 ∧ se.length ≤ 7 ∧ e.length ≤ 7 ∧ lf.length ≤ 7
theorem fac_sz {p q w : List Int} {n H : Nat} (hn : 1 ≤ n) (nq : Nm q) (hc : ∀ i, (co p i).natAbs ≤ H) (hl : p.length ≤ n) (e : ∀ x, ev p x = ev q x * ev w x) (h1 : 0 < ev p 1) (hH : 1 ≤ H) : q.length ≤ n ∧ ∀ i, (co q i).natAbs ≤ Fb (n - 1) H := by
  have ez : ∀ x, ev (trimZ p) x = ev p x := ev_co (co_trimZ p)
  refine div_sz (a := trimZ p) (w := w) (nm_trimZ p) nq hn (Nat.le_trans (trimZ_len p) hl) (fun n hn => ?_) hH (fun z => ?_) (fun x => by rw [ez]; exact e x)
  · obtain ⟨i, hi, rfl⟩ := List.mem_iff_getElem.mp hn
    have := hc i
    rw [← co_trimZ] at this
    unfold co at this
    rwa [List.getD_eq_getElem?_getD, List.getElem?_eq_getElem hi] at this
  · have := ez 1
    rw [z] at this
    simp [ev] at this
    omega
theorem gx_sz {l : List RungD} {dl : RungD} {t b : List Int} (hb : ∀ d ∈ dl :: l, Pos d ∧ Sz36 d) (hc : ∀ d ∈ l, Lc d) (hk : dl.k = .R) (h5 : l.length ≤ 5) (h : Gx l dl t b) : t.length ≤ 7 ∧ b.length ≤ 7 ∧ (∀ i, (co t i).natAbs ≤ 2 ^ 133) ∧ ∀ i, (co b i).natAbs ≤ 2 ^ 133 := by
  obtain ⟨hC, e, lf, se, sl, hE, s1, s2, hX, _⟩ := h
  have hl : ∀ d ∈ dl :: l, Pos d := fun d hd => (hb d hd).1
  have hl' : ∀ d ∈ l, Pos d := fun d hd => hl d (List.mem_cons_of_mem _ hd)
  obtain ⟨z1, z2, z3, z4, _⟩ := z_bd (hb dl List.mem_cons_self).2
  obtain ⟨⟨i1, i2⟩, i3, i4⟩ := nd_bd (e := (zTop dl, zBot dl)) (n0 := 2) (X := 36) z1 z2 z3 z4 (by decide) l fun d hd => (hb d (List.mem_cons_of_mem _ hd)).2
  have hp : 36 * 144 ^ l.length ≤ 36 * 144 ^ 5 := Nat.mul_le_mul_left 36 (Nat.pow_le_pow_right (by decide) h5)
  have refl := fun x => nd_refl (e := (zTop dl, zBot dl)) l hc x
  obtain ⟨g, g1, g2⟩ := can_div (t0 := addP (ndL l (zTop dl, zBot dl)).1 (smul (-1) (ndL l (zTop dl, zBot dl)).2)) (b0 := addP (ndL l (zTop dl, zBot dl)).1 (ndL l (zTop dl, zBot dl)).2) hE.1 fun x => by
    rw [ev_add, ev_add, ev_smul]
    have := hE.2 x
    rw [this]; grind
  have hE0 : ∀ x, ev (zTop dl) x * ev (zBot dl) (-x) + ev (zTop dl) (-x) * ev (zBot dl) x = 2 * (dl.w.num * ((dl.w.den : Nat) : Int)) := fun x => by
    have e1 : ∀ c x : Int, ev [c] x = c := fun c x => by show c + x * 0 = c; omega
    unfold zTop zBot
    rw [hk]
    show ev [dl.w.num] x * ev [((dl.w.den : Nat) : Int)] (-x) + ev [dl.w.num] (-x) * ev [((dl.w.den : Nat) : Int)] x = _
    rw [e1, e1, e1, e1]; grind
  have hK : 0 < dl.w.num * ((dl.w.den : Nat) : Int) := by
    have : 0 < dl.w.num := hl dl List.mem_cons_self
    exact Int.mul_pos this (den_pz dl.w)
  generalize dl.w.num * ((dl.w.den : Nat) : Int) = k at hK hE0
  have refl' : ∀ x, ev (ndL l (zTop dl, zBot dl)).1 x * ev (ndL l (zTop dl, zBot dl)).2 (-x) + ev (ndL l (zTop dl, zBot dl)).1 (-x) * ev (ndL l (zTop dl, zBot dl)).2 x = 2 * k * pj l x := fun x => by rw [refl x]; show (ev (zTop dl) x * ev (zBot dl) (-x) + ev (zTop dl) (-x) * ev (zBot dl) x) * pj l x = _; rw [hE0]
  generalize (ndL l (zTop dl, zBot dl)).1 = N at *
  generalize (ndL l (zTop dl, zBot dl)).2 = D at *
  have hA : ∀ x, ev (addP N D) x = ev N x + ev D x := fun x => ev_add _ _ _
  have hB : ∀ x, ev (addP N (smul (-1) D)) x = ev N x - ev D x := fun x => by rw [ev_add, ev_smul]; omega
  have lA : (addP N D).length ≤ 2 + l.length := by rw [addP_len]; omega
  have lB : (addP N (smul (-1) D)).length ≤ 2 + l.length := by rw [addP_len, smul_len]; omega
  have bA : ∀ i, (co (addP N D) i).natAbs ≤ 2 * (36 * 144 ^ 5) := fun i => by
    rw [co_add]
    have := i1 i
    have := i2 i
    have := Int.natAbs_add_le (co N i) (co D i)
    omega
  have bB : ∀ i, (co (addP N (smul (-1) D)) i).natAbs ≤ 2 * (36 * 144 ^ 5) := fun i => by
    rw [co_add, co_smul]
    have := i1 i
    have := i2 i
    have := Int.natAbs_add_le (co N i) (-1 * co D i)
    rw [Int.natAbs_mul] at this
    omega
  generalize addP N D = A at *
  generalize addP N (smul (-1) D) = B at *
  have q1 : ∀ x, ev (rt (mulP A (bk 1 A))) (-(x * x)) = ev A x * ev A (-x) := sz_rel fun i => rfl
  have q2 : ∀ x, ev (rt (mulP B (bk 1 B))) (-(x * x)) = ev B x * ev B (-x) := sz_rel fun i => rfl
  have c1 : ∀ i, (co (rt (mulP A (bk 1 A))) i).natAbs ≤ 7 * ((2 * (36 * 144 ^ 5)) * (2 * (36 * 144 ^ 5))) := fun i => by
    have h1 := sz_bd (b := A) (fun i => rfl) bA i
    exact Nat.le_trans h1 (Nat.mul_le_mul_right _ (by omega))
  have c2 : ∀ i, (co (rt (mulP B (bk 1 B))) i).natAbs ≤ 7 * ((2 * (36 * 144 ^ 5)) * (2 * (36 * 144 ^ 5))) := fun i => by
    have h1 := sz_bd (b := B) (fun i => rfl) bB i
    exact Nat.le_trans h1 (Nat.mul_le_mul_right _ (by omega))
  have r1 : (rt (mulP A (bk 1 A))).length ≤ 7 := by
    rw [rt_len]
    have := mulP_len2 A (bk 1 A)
    rw [bk_len] at this
    omega
  have r2 : (rt (mulP B (bk 1 B))).length ≤ 7 := by
    rw [rt_len]
    have := mulP_len2 B (bk 1 B)
    rw [bk_len] at this
    omega
  have p1 := hv_sq0 B (m := B.length) (by omega) 1 1
  rw [show (1 : Int) * 1 = 1 from rfl, hv_one] at p1
  generalize rt (mulP A (bk 1 A)) = S1 at *
  generalize rt (mulP B (bk 1 B)) = S2 at *
  have k1 : ∀ X, ev (mulP t S1) X = ev (mulP (addP S1 (smul (-1) S2)) b) X := sq_ext (B := 0) fun x _ => by
    rw [ev_mul, ev_mul, ev_add, ev_smul, q1, q2, g1, g2, g1, g2]
    have := hX (-(x * x))
    rw [s1, s2] at this
    generalize ev t (-(x * x)) = t at *
    generalize ev b (-(x * x)) = b at *
    generalize ev lf x = f at *
    generalize ev lf (-x) = f' at *
    generalize ev e (-x) = e' at *
    generalize ev e x = e at *
    generalize ev g (-x) = g' at *
    generalize ev g x = g at *
    have a1 : t * (f * g * (f' * g')) = t * (f * f') * (g * g') := by grind
    rw [a1, this]; grind
  have k2 : ∀ X, ev (addP S1 (smul (-1) S2)) X = ev (smul (4 * k) (pX l)) X := sq_ext (B := 0) fun x _ => by
    rw [ev_add, ev_smul, ev_smul, q1, q2, pX_ev, hA, hA, hB, hB]
    have := refl' x
    generalize pj l x = p at *
    generalize ev N (-x) = N' at *
    generalize ev D (-x) = D' at *
    generalize ev N x = N at *
    generalize ev D x = D at *
    have a2 : (N + D) * (N' + D') + -1 * ((N - D) * (N' - D')) = 2 * (N * D' + N' * D) := by grind
    rw [a2, this]; grind
  have k3 := pX_hv (X := 1) (Y := 1) (by decide) (by decide) l hl'
  rw [hv_one] at k3
  have k4 : 0 < ev (addP S1 (smul (-1) S2)) 1 := by
    rw [k2, ev_smul]
    exact Int.mul_pos (by omega) k3
  have k5 : 0 < ev S1 1 := by
    rw [ev_add, ev_smul] at k4
    omega
  obtain ⟨w, w1, w2⟩ := can_div (t0 := addP S1 (smul (-1) S2)) (b0 := S1) hC fun X => by
    have := k1 X
    rwa [ev_mul, ev_mul] at this
  have l7 : (addP S1 (smul (-1) S2)).length ≤ 7 := by rw [addP_len, smul_len]; omega
  have b7 : ∀ i, (co (addP S1 (smul (-1) S2)) i).natAbs ≤ 2 * (7 * ((2 * (36 * 144 ^ 5)) * (2 * (36 * 144 ^ 5)))) := fun i => by
    rw [co_add, co_smul]
    have := c1 i
    have := c2 i
    have := Int.natAbs_add_le (co S1 i) (-1 * co S2 i)
    rw [Int.natAbs_mul] at this
    omega
  have hF : Fb (7 - 1) (2 * (7 * ((2 * (36 * 144 ^ 5)) * (2 * (36 * 144 ^ 5))))) ≤ 2 ^ 133 := by decide +kernel
  obtain ⟨u1, u2⟩ := fac_sz (n := 7) (by decide) hC.nt b7 l7 w1 k4 (by decide)
  obtain ⟨u3, u4⟩ := fac_sz (n := 7) (H := 2 * (7 * ((2 * (36 * 144 ^ 5)) * (2 * (36 * 144 ^ 5))))) (by decide) hC.nb (fun i => by have := c1 i; omega) r1 w2 k5 (by decide)
  exact ⟨u1, u3, fun i => Nat.le_trans (u2 i) hF, fun i => Nat.le_trans (u4 i) hF⟩
end Coil

set_option linter.all false
set_option exponentiation.threshold 10000
namespace Coil
theorem hv_same_at {p : List Int} {n : Nat} {sa se y2 u2 : Int} (h6 : n ≤ 6) (hl : p.length ≤ n + 1) (h : sa * u2 = y2 * se) : u2 ^ 6 * hv n p sa se = se ^ n * hv 6 p y2 u2 := by
  have h1 := hv_scale u2 sa se n p hl
  have h2 := hv_scale se y2 u2 n p hl
  rw [show u2 * sa = se * y2 by grind, show u2 * se = se * u2 from Int.mul_comm _ _, h2] at h1
  have h3 := hv_shift y2 u2 (6 - n) n p hl
  rw [show n + (6 - n) = 6 by omega] at h3
  rw [h3, show (6 : Nat) = (6 - n) + n by omega, Int.pow_add, show 6 - n + n - n = 6 - n by omega]
  have : u2 ^ (6 - n) * u2 ^ n * hv n p sa se = u2 ^ (6 - n) * (u2 ^ n * hv n p sa se) := Int.mul_assoc _ _ _
  rw [this, ← h1]; grind
theorem told_axis {gt gb sl se : List Int} {n : Nat} {sa ss y2 u2 : Int} (hC : Can gt gb) (h6 : n ≤ 6) (l1 : gt.length ≤ n + 1) (l2 : gb.length ≤ n + 1) (l3 : sl.length ≤ 7) (l4 : se.length ≤ 7) (hX : ∀ X, ev gt X * ev sl X = (ev sl X - ev se X) * ev gb X) (hu : 0 < u2) (hs : 0 < ss) (h : sa * u2 = y2 * ss) (hA : 0 < hv 6 sl y2 u2) :
    hv n gb sa ss ≠ 0 ∧ ∀ na ne : Int, na * hv n gb sa ss = hv n gt sa ss * ne → na * hv 6 sl y2 u2 = (hv 6 sl y2 u2 - hv 6 se y2 u2) * ne := by
  have i1 := hv_two (n := 6) y2 u2 (p := gt) (q := sl) (r := addP sl (smul (-1) se)) (s := gb) (by omega) (by omega) (by rw [addP_len, smul_len]; omega) (by omega) fun z => by
    rw [hX, ev_add, ev_smul]
    have : ev sl z + -1 * ev se z = ev sl z - ev se z := by omega
    rw [this]
  rw [hv_add, hv_smul] at i1
  have hU : hv 6 gb y2 u2 ≠ 0 := fun z => by
    rw [z, Int.mul_zero] at i1
    rcases Int.mul_eq_zero.mp i1 with q | q
    · exact can_hv (n := 6) hC (by omega : u2 ≠ 0) (by omega) (by omega) q z
    · omega
  have a1 := hv_same_at (p := gt) h6 l1 h
  have a2 := hv_same_at (p := gb) h6 l2 h
  have p1 : 0 < u2 ^ 6 := Int.pow_pos hu
  have p2 : 0 < ss ^ n := Int.pow_pos hs
  generalize u2 ^ 6 = al at a1 a2 p1
  generalize ss ^ n = be at a1 a2 p2
  generalize hv 6 gt y2 u2 = T at *
  generalize hv 6 gb y2 u2 = U at *
  generalize hv n gt sa ss = T' at *
  generalize hv n gb sa ss = U' at *
  generalize hv 6 sl y2 u2 = A at *
  generalize hv 6 se y2 u2 = B at *
  refine ⟨fun z => ?_, fun na ne e => ?_⟩
  · rw [z, Int.mul_zero] at a2
    rcases Int.mul_eq_zero.mp a2.symm with q | q
    · omega
    · exact hU q
  · have hbU : be * U ≠ 0 := Int.mul_ne_zero (by omega) hU
    refine Int.eq_of_mul_eq_mul_left hbU ?_
    have b1 : be * U * (na * A) = al * (na * U') * A := by rw [← a2]; grind
    rw [b1, e]
    have b2 : al * (T' * ne) * A = al * T' * ne * A := by grind
    rw [b2, a1]
    have b3 : be * T * ne * A = be * ne * (T * A) := by grind
    rw [b3, i1]; grind
theorem cx_norm {p : List Int} {m : Nat} {y u : Int} (hl : p.length ≤ m + 1) (h6 : m ≤ 6) : (cx 6 p 0 y u).1 * (cx 6 p 0 y u).1 + (cx 6 p 0 y u).2 * (cx 6 p 0 y u).2 = u ^ (6 - m) * u ^ (6 - m) * ((cx m p 0 y u).1 * (cx m p 0 y u).1 + (cx m p 0 y u).2 * (cx m p 0 y u).2) := by
  have h := cx_shift (x := 0) (y := y) (w := u) (6 - m) m p hl
  rw [show m + (6 - m) = 6 by omega] at h
  rw [h]
  simp only
  grind
/-- the size of what comes back -/
theorem back_axis {e lf : List Int} {y u : Int} (l1 : e.length ≤ 7) (l2 : lf.length ≤ 7) {R I S : Int}
    (hR : R = (cx (e.length - 1) e 0 y u).1 * (cx (lf.length - 1) lf 0 y u).1 + (cx (e.length - 1) e 0 y u).2 * (cx (lf.length - 1) lf 0 y u).2)
    (hI : I = (cx (e.length - 1) e 0 y u).2 * (cx (lf.length - 1) lf 0 y u).1 - (cx (e.length - 1) e 0 y u).1 * (cx (lf.length - 1) lf 0 y u).2)
    (hS : S = (cx (lf.length - 1) lf 0 y u).1 * (cx (lf.length - 1) lf 0 y u).1 + (cx (lf.length - 1) lf 0 y u).2 * (cx (lf.length - 1) lf 0 y u).2) :
    (R * u ^ (lf.length - 1) * (R * u ^ (lf.length - 1)) + I * u ^ (lf.length - 1) * (I * u ^ (lf.length - 1))) * ((cx 6 lf 0 y u).1 * (cx 6 lf 0 y u).1 + (cx 6 lf 0 y u).2 * (cx 6 lf 0 y u).2) =
    ((cx 6 e 0 y u).1 * (cx 6 e 0 y u).1 + (cx 6 e 0 y u).2 * (cx 6 e 0 y u).2) * (S * u ^ (e.length - 1) * (S * u ^ (e.length - 1))) := by
  rw [cx_norm (p := lf) (m := lf.length - 1) (by omega) (by omega), cx_norm (p := e) (m := e.length - 1) (by omega) (by omega), ← hS]
  have h1 : u ^ (lf.length - 1) * u ^ (6 - (lf.length - 1)) = u ^ 6 := by rw [← Int.pow_add]; congr 1; omega
  have h2 : u ^ (e.length - 1) * u ^ (6 - (e.length - 1)) = u ^ 6 := by rw [← Int.pow_add]; congr 1; omega
  have h3 : R * R + I * I = ((cx (e.length - 1) e 0 y u).1 * (cx (e.length - 1) e 0 y u).1 + (cx (e.length - 1) e 0 y u).2 * (cx (e.length - 1) e 0 y u).2) * S := by rw [hR, hI, hS]; grind
  generalize (cx (e.length - 1) e 0 y u).1 * (cx (e.length - 1) e 0 y u).1 + (cx (e.length - 1) e 0 y u).2 * (cx (e.length - 1) e 0 y u).2 = T at *
  generalize u ^ (lf.length - 1) = a at *
  generalize u ^ (6 - (lf.length - 1)) = b at *
  generalize u ^ (e.length - 1) = c at *
  generalize u ^ (6 - (e.length - 1)) = d at *
  generalize u ^ 6 = f at *
  clear hR hI hS
  have k1 : (R * a * (R * a) + I * a * (I * a)) * (b * b * S) = (R * R + I * I) * S * (a * b) * (a * b) := by grind
  have k2 : d * d * T * (S * c * (S * c)) = T * S * S * (c * d) * (c * d) := by grind
  rw [k1, k2, h1, h2, h3]
theorem rat1_less {a b : Int} (h : Rat1 a b) : Rat1 (b - a) b := by
  refine ⟨h.1, ?_⟩
  have h1 : ∀ d : Nat, d ∣ (b - a).natAbs → d ∣ b.natAbs → d ∣ 1 := fun d h1 h2 => by
    rw [← h.2]
    have e1 := Int.ofNat_dvd_left.mpr h1
    have e2 := Int.ofNat_dvd_left.mpr h2
    have e3 := Int.dvd_sub e2 e1
    rw [show b - (b - a) = a by omega] at e3
    exact Nat.dvd_gcd (Int.ofNat_dvd_left.mp e3) h2
  exact Nat.dvd_one.mp (h1 _ (Nat.gcd_dvd_left _ _) (Nat.gcd_dvd_right _ _))
end Coil

set_option linter.all false
namespace Coil
/-! ### ladders by turns -/
def shp (p : List Int) : Nat → Int
  | 0 => 0
  | i + 1 => co p i
theorem co_m1 (c : Int) (q : List Int) (i : Nat) : co (mulP [c] q) i = c * co q i := by
  show co (addP (smul c q) (0 :: mulP [] q)) i = _
  rw [co_add, co_smul]
  cases i with
  | zero => show c * co q 0 + 0 = _; omega
  | succ i => show c * co q (i + 1) + co [] i = _; rw [co_nil]; omega
theorem co_m2 (c : Int) (q : List Int) (i : Nat) : co (mulP [0, c] q) i = c * shp q i := by
  show co (addP (smul 0 q) (0 :: mulP [c] q)) i = _
  rw [co_add, co_smul]
  cases i with
  | zero => show 0 * co q 0 + 0 = c * 0; omega
  | succ i => show 0 * co q (i + 1) + co (mulP [c] q) i = c * co q i; rw [co_m1]; omega
def Tn (d : RungD) : Prop := (d.s = true ∧ d.k = .L) ∨ (d.s = false ∧ d.k = .C)
def Bt : List RungD → Prop
  | [] => True
  | [d] => Tn d
  | d :: d' :: l => Tn d ∧ d.s ≠ d'.s ∧ Bt (d' :: l)
theorem Bt.hd {d : RungD} {l : List RungD} (h : Bt (d :: l)) : Tn d := by
  cases l with
  | nil => exact h
  | cons d' l => exact h.1
theorem Bt.tl {d : RungD} {l : List RungD} (h : Bt (d :: l)) : Bt l := by
  cases l with
  | nil => exact True.intro
  | cons d' l => exact h.2.2
theorem Tn.lc {d : RungD} (h : Tn d) : Lc d := by
  unfold Lc
  rcases h with ⟨_, h⟩ | ⟨_, h⟩ <;> rw [h] <;> decide
theorem Bt.lc : ∀ {l : List RungD}, Bt l → ∀ d ∈ l, Lc d
  | [], _, d, h => by cases h
  | d :: l, hb, q, h => by
    rcases List.mem_cons.mp h with rfl | h
    · exact hb.hd.lc
    · exact hb.tl.lc q h
theorem nd_S {d : RungD} {l : List RungD} {e : PL} (h : Tn d) (hs : d.s = true) : (∀ i, co (ndL (d :: l) e).1 i = d.w.num * shp (ndL l e).2 i + ((d.w.den : Nat) : Int) * co (ndL l e).1 i) ∧ ∀ i, co (ndL (d :: l) e).2 i = ((d.w.den : Nat) : Int) * co (ndL l e).2 i := by
  have hk : d.k = .L := by rcases h with ⟨_, h⟩ | ⟨h, _⟩; exact h; rw [hs] at h; cases h
  have e1 : zTop d = [0, d.w.num] := by unfold zTop; rw [hk]
  have e2 : zBot d = [((d.w.den : Nat) : Int)] := by unfold zBot; rw [hk]
  simp only [ndL, hs, if_true, e1, e2]
  exact ⟨fun i => by rw [co_add, co_m1, co_m2], fun i => co_m1 _ _ _⟩
theorem nd_P {d : RungD} {l : List RungD} {e : PL} (h : Tn d) (hs : d.s = false) : (∀ i, co (ndL (d :: l) e).2 i = d.w.num * shp (ndL l e).1 i + ((d.w.den : Nat) : Int) * co (ndL l e).2 i) ∧ ∀ i, co (ndL (d :: l) e).1 i = ((d.w.den : Nat) : Int) * co (ndL l e).1 i := by
  have hk : d.k = .C := by rcases h with ⟨h, _⟩ | ⟨_, h⟩; rw [hs] at h; cases h; exact h
  have e1 : zTop d = [((d.w.den : Nat) : Int)] := by unfold zTop; rw [hk]
  have e2 : zBot d = [0, d.w.num] := by unfold zBot; rw [hk]
  simp only [ndL, hs, Bool.false_eq_true, if_false, e1, e2]
  exact ⟨fun i => by rw [co_add, co_m1, co_m2, Int.add_comm], fun i => co_m1 _ _ _⟩
/-- the highest power -/
def Tp (p : List Int) (n : Nat) : Prop := 0 < co p n ∧ ∀ i, n < i → co p i = 0
def HdS (l : List RungD) : Option Bool := l.head?.map (·.s)
def NdT (l : List RungD) (e : PL) : Prop := match l with
  | [] => Tp e.1 0 ∧ Tp e.2 0
  | d :: l' => if d.s then Tp (ndL (d :: l') e).1 (l'.length + 1) ∧ Tp (ndL (d :: l') e).2 l'.length else Tp (ndL (d :: l') e).1 l'.length ∧ Tp (ndL (d :: l') e).2 (l'.length + 1)
theorem tp_sh {p : List Int} {n : Nat} (h : Tp p n) : 0 < shp p (n + 1) ∧ ∀ i, n + 1 < i → shp p i = 0 := ⟨h.1, fun i hi => by
  cases i with
  | zero => omega
  | succ i => exact h.2 i (by omega)⟩
theorem ndT : ∀ {l : List RungD} {e : PL}, Bt l → (∀ d ∈ l, Pos d) → Tp e.1 0 → Tp e.2 0 → NdT l e
  | [], e, _, _, h1, h2 => ⟨h1, h2⟩
  | d :: l, e, hb, hp, h1, h2 => by
    have ih := ndT hb.tl (fun q hq => hp q (List.mem_cons_of_mem _ hq)) h1 h2
    have hn : 0 < d.w.num := hp d List.mem_cons_self
    have hd := den_pz d.w
    -- what the rest has on top
    have key : (d.s = true → Tp (ndL l e).2 l.length ∧ ∀ i, l.length < i → co (ndL l e).1 i = 0) ∧ (d.s = false → Tp (ndL l e).1 l.length ∧ ∀ i, l.length < i → co (ndL l e).2 i = 0) := by
      cases l with
      | nil => exact ⟨fun _ => ⟨h2, h1.2⟩, fun _ => ⟨h1, h2.2⟩⟩
      | cons d' l' =>
        have hne := hb.2.1
        unfold NdT at ih
        constructor
        · intro hs
          have : d'.s = false := by cases h : d'.s; rfl; exact absurd (by rw [hs, h]) hne
          simp only [this, Bool.false_eq_true, if_false] at ih
          exact ⟨ih.2, fun i hi => ih.1.2 i (by simp at hi; omega)⟩
        · intro hs
          have : d'.s = true := by cases h : d'.s; exact absurd (by rw [hs, h]) hne; rfl
          simp only [this, if_true] at ih
          exact ⟨ih.1, fun i hi => ih.2.2 i (by simp at hi; omega)⟩
    show if d.s = true then _ else _
    rcases Bool.eq_false_or_eq_true d.s with hs | hs
    · 
      obtain ⟨c1, c2⟩ := nd_S (l := l) (e := e) hb.hd hs
      obtain ⟨k1, k2⟩ := key.1 hs
      obtain ⟨s1, s2⟩ := tp_sh k1
      rw [if_pos hs]
      refine ⟨⟨?_, fun i hi => ?_⟩, ?_, fun i hi => ?_⟩
      · rw [c1, k2 _ (by omega)]
        have := Int.mul_pos hn s1
        omega
      · rw [c1, s2 i hi, k2 i (by omega)]; omega
      · rw [c2]; exact Int.mul_pos hd k1.1
      · rw [c2, k1.2 i hi]; omega
    · 
      obtain ⟨c1, c2⟩ := nd_P (l := l) (e := e) hb.hd hs
      obtain ⟨k1, k2⟩ := key.2 hs
      obtain ⟨s1, s2⟩ := tp_sh k1
      rw [if_neg (by rw [hs]; decide)]
      refine ⟨⟨?_, fun i hi => ?_⟩, ?_, fun i hi => ?_⟩
      · rw [c2]; exact Int.mul_pos hd k1.1
      · rw [c2, k1.2 i hi]; omega
      · rw [c1, k2 _ (by omega)]
        have := Int.mul_pos hn s1
        omega
      · rw [c1, s2 i hi, k2 i (by omega)]; omega
/-- the same but for a factor -/
def Prp (t b N D : List Int) : Prop := ∃ al be : Int, al ≠ 0 ∧ be ≠ 0 ∧ (∀ i, al * co t i = be * co N i) ∧ ∀ i, al * co b i = be * co D i
theorem prp_len {t N : List Int} {al be : Int} {n : Nat} (ha : al ≠ 0) (hb : be ≠ 0) (h : ∀ i, al * co t i = be * co N i) (hN : Tp N n) (ht : Nm t) : t.length = n + 1 ∧ ldc t ≠ 0 ∧ al * ldc t = be * co N n := by
  have h0 : co t n ≠ 0 := fun z => by
    have := h n
    rw [z, Int.mul_zero] at this
    exact Int.mul_ne_zero hb (by have := hN.1; omega) this.symm
  have hl : n < t.length := Decidable.byContradiction fun z => h0 (co_over (by omega))
  have hne : t ≠ [] := fun z => by rw [z] at hl; simp at hl
  have htop : co t (t.length - 1) ≠ 0 := ht.resolve_left hne
  have : t.length - 1 ≤ n := Decidable.byContradiction fun z => htop (by
    have h1 := h (t.length - 1)
    rw [hN.2 _ (by omega), Int.mul_zero] at h1
    exact (Int.mul_eq_zero.mp h1).resolve_left ha)
  have e : t.length = n + 1 := by omega
  refine ⟨e, htop, ?_⟩
  unfold ldc
  rw [e]
  exact h n
/-- one rung taken off in front -/
theorem far_S {d : RungD} {l : List RungD} {e : PL} {t b : List Int} (hb : Bt (d :: l)) (hp : ∀ q ∈ d :: l, Pos q) (h1 : Tp e.1 0) (h2 : Tp e.2 0) (hs : d.s = true) (nt : Nm t) (nb : Nm b) (h : Prp t b (ndL (d :: l) e).1 (ndL (d :: l) e).2) :
    t.length = l.length + 2 ∧ b.length = l.length + 1 ∧ ldc b ≠ 0 ∧ ldc t * ((d.w.den : Nat) : Int) = d.w.num * ldc b ∧
    ∀ (u v : List Int) (g : Int), g ≠ 0 → (∀ i, g * co u i = ldc b * co t i - ldc t * shp b i) → (∀ i, g * co v i = ldc b * co b i) → Prp u v (ndL l e).1 (ndL l e).2 := by
  obtain ⟨al, be, ha, hbe, p1, p2⟩ := h
  have T := ndT hb hp h1 h2
  unfold NdT at T
  simp only [hs, if_true] at T
  obtain ⟨a1, a2, a3⟩ := prp_len ha hbe p1 T.1 nt
  obtain ⟨b1, b2, b3⟩ := prp_len ha hbe p2 T.2 nb
  obtain ⟨c1, c2⟩ := nd_S (l := l) (e := e) hb.hd hs
  have hd := den_pz d.w
  have top1 : co (ndL l e).1 (l.length + 1) = 0 := by
    have := T.1.2 (l.length + 1 + 0)
    have tl := ndT hb.tl (fun q hq => hp q (List.mem_cons_of_mem _ hq)) h1 h2
    unfold NdT at tl
    cases l with
    | nil => exact tl.1.2 1 (by omega)
    | cons d' l' =>
      have hne := hb.2.1
      have : d'.s = false := by cases h : d'.s; rfl; exact absurd (by rw [hs, h]) hne
      simp only [this, Bool.false_eq_true, if_false] at tl
      exact tl.1.2 _ (by simp; omega)
  have e1 : al * ldc t = be * (d.w.num * co (ndL l e).2 l.length) := by
    rw [a3, c1, top1, Int.mul_zero, Int.add_zero]; rfl
  have e2 : al * ldc b = be * (((d.w.den : Nat) : Int) * co (ndL l e).2 l.length) := by rw [b3, c2]
  have hX : co (ndL l e).2 l.length ≠ 0 := fun z => by
    rw [z, Int.mul_zero, Int.mul_zero] at e2
    exact (Int.mul_ne_zero ha b2) e2
  generalize co (ndL l e).2 l.length = X at *
  generalize ((d.w.den : Nat) : Int) = dn at *
  generalize d.w.num = nm at *
  generalize ldc t = lt at *
  generalize ldc b = lb at *
  refine ⟨a1, b1, b2, ?_, fun u v g hg hu hv => ?_⟩
  · refine Int.eq_of_mul_eq_mul_left ha ?_
    have : al * (lt * dn) = al * lt * dn := by grind
    rw [this, e1]
    have : al * (nm * lb) = nm * (al * lb) := by grind
    rw [this, e2]; grind
  · refine ⟨al * al * g, be * be * X * dn * dn, ?_, ?_, fun i => ?_, fun i => ?_⟩
    · exact Int.mul_ne_zero (Int.mul_ne_zero ha ha) hg
    · exact Int.mul_ne_zero (Int.mul_ne_zero (Int.mul_ne_zero (Int.mul_ne_zero hbe hbe) hX) (by omega)) (by omega)
    · have s2 : al * shp b i = be * (dn * shp (ndL l e).2 i) := by
        cases i with
        | zero => show al * 0 = be * (dn * 0); omega
        | succ i => show al * co b i = be * (dn * co (ndL l e).2 i); rw [p2, c2]
      have q1 : al * al * g * co u i = (al * lb) * (al * co t i) - (al * lt) * (al * shp b i) := by
        have : al * al * g * co u i = al * al * (g * co u i) := by grind
        rw [this, hu]; grind
      rw [q1, e1, e2, p1, c1, s2]; grind
    · have q1 : al * al * g * co v i = (al * lb) * (al * co b i) := by
        have : al * al * g * co v i = al * al * (g * co v i) := by grind
        rw [this, hv]; grind
      rw [q1, e2, p2, c2]; grind
theorem far_P {d : RungD} {l : List RungD} {e : PL} {t b : List Int} (hb : Bt (d :: l)) (hp : ∀ q ∈ d :: l, Pos q) (h1 : Tp e.1 0) (h2 : Tp e.2 0) (hs : d.s = false) (nt : Nm t) (nb : Nm b) (h : Prp t b (ndL (d :: l) e).1 (ndL (d :: l) e).2) :
    b.length = l.length + 2 ∧ t.length = l.length + 1 ∧ ldc t ≠ 0 ∧ ldc b * ((d.w.den : Nat) : Int) = d.w.num * ldc t ∧
    ∀ (u v : List Int) (g : Int), g ≠ 0 → (∀ i, g * co u i = ldc t * co b i - ldc b * shp t i) → (∀ i, g * co v i = ldc t * co t i) → Prp v u (ndL l e).1 (ndL l e).2 := by
  obtain ⟨al, be, ha, hbe, p1, p2⟩ := h
  have T := ndT hb hp h1 h2
  unfold NdT at T
  simp only [hs, Bool.false_eq_true, if_false] at T
  obtain ⟨a1, a2, a3⟩ := prp_len ha hbe p1 T.1 nt
  obtain ⟨b1, b2, b3⟩ := prp_len ha hbe p2 T.2 nb
  obtain ⟨c1, c2⟩ := nd_P (l := l) (e := e) hb.hd hs
  have hd := den_pz d.w
  have top1 : co (ndL l e).2 (l.length + 1) = 0 := by
    have tl := ndT hb.tl (fun q hq => hp q (List.mem_cons_of_mem _ hq)) h1 h2
    unfold NdT at tl
    cases l with
    | nil => exact tl.2.2 1 (by omega)
    | cons d' l' =>
      have hne := hb.2.1
      have : d'.s = true := by cases h : d'.s; exact absurd (by rw [hs, h]) hne; rfl
      simp only [this, if_true] at tl
      exact tl.2.2 _ (by simp; omega)
  have e1 : al * ldc b = be * (d.w.num * co (ndL l e).1 l.length) := by
    rw [b3, c1, top1, Int.mul_zero, Int.add_zero]; rfl
  have e2 : al * ldc t = be * (((d.w.den : Nat) : Int) * co (ndL l e).1 l.length) := by rw [a3, c2]
  have hX : co (ndL l e).1 l.length ≠ 0 := fun z => by
    rw [z, Int.mul_zero, Int.mul_zero] at e2
    exact (Int.mul_ne_zero ha a2) e2
  generalize co (ndL l e).1 l.length = X at *
  generalize ((d.w.den : Nat) : Int) = dn at *
  generalize d.w.num = nm at *
  generalize ldc t = lt at *
  generalize ldc b = lb at *
  refine ⟨b1, a1, a2, ?_, fun u v g hg hu hv => ?_⟩
  · refine Int.eq_of_mul_eq_mul_left ha ?_
    have : al * (lb * dn) = al * lb * dn := by grind
    rw [this, e1]
    have : al * (nm * lt) = nm * (al * lt) := by grind
    rw [this, e2]; grind
  · refine ⟨al * al * g, be * be * X * dn * dn, ?_, ?_, fun i => ?_, fun i => ?_⟩
    · exact Int.mul_ne_zero (Int.mul_ne_zero ha ha) hg
    · exact Int.mul_ne_zero (Int.mul_ne_zero (Int.mul_ne_zero (Int.mul_ne_zero hbe hbe) hX) (by omega)) (by omega)
    · have q1 : al * al * g * co v i = (al * lt) * (al * co t i) := by
        have : al * al * g * co v i = al * al * (g * co v i) := by grind
        rw [this, hv]; grind
      rw [q1, e2, p1, c2]; grind
    · have s2 : al * shp t i = be * (dn * shp (ndL l e).1 i) := by
        cases i with
        | zero => show al * 0 = be * (dn * 0); omega
        | succ i => show al * co t i = be * (dn * co (ndL l e).1 i); rw [p1, c2]
      have q1 : al * al * g * co u i = (al * lt) * (al * co b i) - (al * lb) * (al * shp t i) := by
        have : al * al * g * co u i = al * al * (g * co u i) := by grind
        rw [this, hu]; grind
      rw [q1, e1, e2, p2, c1, s2]; grind
end Coil

set_option linter.all false
namespace Coil
/-- a gain by any sizes of N + D and N - D -/
theorem gx_rel {l : List RungD} {dl : RungD} {t b S1 S2 : List Int} (h : Gx l dl t b) (q1 : ∀ x, ev S1 (-(x * x)) = (ev (ndL l (zTop dl, zBot dl)).1 x + ev (ndL l (zTop dl, zBot dl)).2 x) * (ev (ndL l (zTop dl, zBot dl)).1 (-x) + ev (ndL l (zTop dl, zBot dl)).2 (-x)))
    (q2 : ∀ x, ev S2 (-(x * x)) = (ev (ndL l (zTop dl, zBot dl)).1 x - ev (ndL l (zTop dl, zBot dl)).2 x) * (ev (ndL l (zTop dl, zBot dl)).1 (-x) - ev (ndL l (zTop dl, zBot dl)).2 (-x))) (X : Int) : ev t X * ev S1 X = (ev S1 X - ev S2 X) * ev b X := by
  obtain ⟨hC, e, lf, se, sl, hE, s1, s2, hX, _⟩ := h
  obtain ⟨g, g1, g2⟩ := can_div (t0 := addP (ndL l (zTop dl, zBot dl)).1 (smul (-1) (ndL l (zTop dl, zBot dl)).2)) (b0 := addP (ndL l (zTop dl, zBot dl)).1 (ndL l (zTop dl, zBot dl)).2) hE.1 fun x => by
    rw [ev_add, ev_add, ev_smul]
    have := hE.2 x
    rw [this]; grind
  have g1' : ∀ x, ev (ndL l (zTop dl, zBot dl)).1 x - ev (ndL l (zTop dl, zBot dl)).2 x = ev e x * ev g x := fun x => by rw [← g1, ev_add, ev_smul]; omega
  have g2' : ∀ x, ev (ndL l (zTop dl, zBot dl)).1 x + ev (ndL l (zTop dl, zBot dl)).2 x = ev lf x * ev g x := fun x => by rw [← g2, ev_add]
  have k1 : ev (mulP t S1) X = ev (mulP (addP S1 (smul (-1) S2)) b) X := sq_ext (B := 0) (fun x _ => by
    rw [ev_mul, ev_mul, ev_add, ev_smul, q1, q2, g1', g2', g1', g2']
    have := hX (-(x * x))
    rw [s1, s2] at this
    generalize ev t (-(x * x)) = t at *
    generalize ev b (-(x * x)) = b at *
    generalize ev lf x = f at *
    generalize ev lf (-x) = f' at *
    generalize ev e (-x) = e' at *
    generalize ev e x = e at *
    generalize ev g (-x) = g' at *
    generalize ev g x = g at *
    have a1 : t * (f * g * (f' * g')) = t * (f * f') * (g * g') := by grind
    rw [a1, this]; grind) X
  rw [ev_mul, ev_mul, ev_add, ev_smul] at k1
  rw [k1]
  have : ev S1 X + -1 * ev S2 X = ev S1 X - ev S2 X := by omega
  rw [this]
theorem ev1 (c x : Int) : ev [c] x = c := by show c + x * 0 = c; omega
theorem ev01 (c x : Int) : ev [0, c] x = x * c := by show 0 + x * (c + x * 0) = x * c; rw [Int.mul_zero, Int.add_zero, Int.zero_add]
theorem ev2 (c d x : Int) : ev [c, d] x = c + x * d := by show c + x * (d + x * 0) = _; rw [Int.mul_zero, Int.add_zero]
/-- a coil and a resistor -/
theorem gain_L {w v : Rat} {s : Bool} {t b : List Int} (h : Gx [⟨true, .L, w⟩] ⟨s, .R, v⟩ t b) (X : Int) :
    ev t X * (w.den * (v.num + v.den) * (w.den * (v.num + v.den)) + X * (w.num * w.num * (v.den * v.den))) = 4 * (v.num * v.den * (w.den * w.den)) * ev b X := by
  have e1 : ∀ x, ev (ndL [⟨true, .L, w⟩] (zTop ⟨s, .R, v⟩, zBot ⟨s, .R, v⟩)).1 x = x * w.num * v.den + w.den * v.num := fun x => by
    show ev (addP (mulP [0, w.num] [((v.den : Nat) : Int)]) (mulP [((w.den : Nat) : Int)] [v.num])) x = _
    rw [ev_add, ev_mul, ev_mul, ev01, ev1, ev1, ev1]
  have e2 : ∀ x, ev (ndL [⟨true, .L, w⟩] (zTop ⟨s, .R, v⟩, zBot ⟨s, .R, v⟩)).2 x = w.den * v.den := fun x => by
    show ev (mulP [((w.den : Nat) : Int)] [((v.den : Nat) : Int)]) x = _
    rw [ev_mul, ev1, ev1]
  have := gx_rel (S1 := [w.den * (v.num + v.den) * (w.den * (v.num + v.den)), w.num * w.num * (v.den * v.den)]) (S2 := [w.den * (v.num - v.den) * (w.den * (v.num - v.den)), w.num * w.num * (v.den * v.den)]) h (fun x => by rw [e1, e2, e1, e2, ev2]; grind) (fun x => by rw [e1, e2, e1, e2, ev2]; grind) X
  rw [ev2, ev2] at this
  rw [this]; grind
/-- a capacitor and a resistor of 1 -/
theorem gain_C {w : Rat} {s : Bool} {t b : List Int} (h : Gx [⟨true, .C, w⟩] ⟨s, .R, 1⟩ t b) (X : Int) :
    ev t X * (((w.den : Nat) : Int) * w.den + X * (4 * (w.num * w.num))) = X * (4 * (w.num * w.num)) * ev b X := by
  have e1 : ∀ x, ev (ndL [⟨true, .C, w⟩] (zTop ⟨s, .R, 1⟩, zBot ⟨s, .R, 1⟩)).1 x = w.den + x * w.num := fun x => by
    show ev (addP (mulP [((w.den : Nat) : Int)] [1]) (mulP [0, w.num] [1])) x = _
    rw [ev_add, ev_mul, ev_mul, ev01, ev1, ev1]; omega
  have e2 : ∀ x, ev (ndL [⟨true, .C, w⟩] (zTop ⟨s, .R, 1⟩, zBot ⟨s, .R, 1⟩)).2 x = x * w.num := fun x => by
    show ev (mulP [0, w.num] [1]) x = _
    rw [ev_mul, ev01, ev1]; omega
  have := gx_rel (S1 := [((w.den : Nat) : Int) * w.den, 4 * (w.num * w.num)]) (S2 := [((w.den : Nat) : Int) * w.den, 0]) h (fun x => by rw [e1, e2, e1, e2, ev2]; grind) (fun x => by rw [e1, e2, e1, e2, ev2]; grind) X
  rw [ev2, ev2] at this
  rw [this]; grind
/-- coil, capacitor, coil -/
def c1 : RungD := ⟨true, .L, 1⟩
def c2 : RungD := ⟨false, .C, 2⟩
def cR : RungD := ⟨false, .R, 1⟩
theorem nd3 : ndL [c1, c2, c1] (zTop cR, zBot cR) = ([1, 2, 2, 2], [1, 2, 2]) := by decide +kernel
theorem gain_3 {t b : List Int} (h : Gx [c1, c2, c1] cR t b) (X : Int) : ev t X * (1 + X * X * X) = ev b X := by
  have := gx_rel (S1 := [4, 0, 0, 4]) (S2 := [0, 0, 0, 4]) h (fun x => by rw [nd3]; simp only [ev]; grind) (fun x => by rw [nd3]; simp only [ev]; grind) X
  simp only [ev] at this
  grind
theorem can_3 : Can [0, 0, 0, 1] [1, 2, 2, 1] := by
  refine ⟨.inr (by decide), .inr (by decide), by decide, by decide, by decide, [-1, -2, -2], [1, -2, 2], 1, by decide, fun x => ?_⟩
  simp only [ev]; grind
theorem ec_3 : Ec [c1, c2, c1] cR [0, 0, 0, 1] [1, 2, 2, 1] := ⟨can_3, fun x => by rw [nd3]; simp only [ev]; grind⟩
/-- the low one's form -/
theorem low_form {t b : List Int} {q p : Int} (hq : q ≠ 0) (hp : p ≠ 0) (hC : Can t b) (h : ∀ X, ev t X * (4 * (q * q) + X * (p * p)) = 4 * (q * q) * ev b X) : ∃ t0 b1 : Int, t0 ≠ 0 ∧ b1 ≠ 0 ∧ t = [t0] ∧ b = [t0, b1] ∧ 4 * (q * q) * b1 = t0 * (p * p) := by
  have hqq := sq_pos' hq
  have hpp := sq_pos' hp
  obtain ⟨w, w1, w2⟩ := can_div (t0 := [4 * (q * q)]) (b0 := [4 * (q * q), p * p]) hC fun X => by rw [ev1, ev2]; exact h X
  obtain ⟨l1, _⟩ := fac_sz (p := [4 * (q * q)]) (n := 1) (H := (4 * (q * q)).natAbs) (by decide) hC.nt (fun i => by
    cases i with
    | zero => exact Nat.le_refl _
    | succ i => rw [co_over (by simp)]; exact Nat.zero_le _) (by simp) w1 (by rw [ev1]; omega) (by omega)
  have tne : t ≠ [] := fun z => by
    have := w1 1
    rw [z, ev1] at this
    simp only [ev] at this
    omega
  obtain ⟨t0, rfl⟩ : ∃ t0, t = [t0] := by
    match t, l1, tne with
    | [], _, z => exact absurd rfl z
    | [c], _, _ => exact ⟨c, rfl⟩
    | a :: c :: r, l, _ => simp at l
  have t00 : t0 ≠ 0 := hC.nt.resolve_left (by simp)
  have hb : ∀ i, co (smul (4 * (q * q)) b) i = co (smul t0 [4 * (q * q), p * p]) i := ev_ext _ _ 0 fun X _ => by
    rw [ev_smul, ev_smul, ev2, ← h X, ev1]
  have h0 := hb 0
  have h1 := hb 1
  rw [co_smul, co_smul] at h0 h1
  have hi : ∀ i, 2 ≤ i → co b i = 0 := fun i hi => by
    have := hb i
    rw [co_smul, co_smul, co_over (p := [4 * (q * q), p * p]) (by simpa using hi), Int.mul_zero] at this
    exact (Int.mul_eq_zero.mp this).resolve_left (by omega)
  have e1 : 4 * (q * q) * co b 1 = t0 * (p * p) := h1
  have b1 : co b 1 ≠ 0 := fun z => by
    rw [z, Int.mul_zero] at e1
    exact Int.mul_ne_zero t00 (by omega) e1.symm
  have b0 : co b 0 = t0 := by
    have : 4 * (q * q) * co b 0 = 4 * (q * q) * t0 := by rw [h0]; show t0 * (4 * (q * q)) = _; exact Int.mul_comm _ _
    exact Int.eq_of_mul_eq_mul_left (by omega) this
  have lb : b.length = 2 := by
    have g1 : 1 < b.length := Decidable.byContradiction fun z => b1 (co_over (by omega))
    have hn := hC.nb.resolve_left hC.b0
    have g2 : b.length - 1 < 2 := Decidable.byContradiction fun z => hn (hi _ (by omega))
    omega
  refine ⟨t0, co b 1, t00, b1, rfl, ?_, e1⟩
  match b, lb, b0 with
  | [x, y], _, z => exact congrArg (· :: [y]) z
end Coil

set_option linter.all false
namespace Coil
/-! ### forms and Routh's rows -/
def Sm_ : Nat → (Nat → Int) → Int
  | 0, _ => 0
  | n + 1, f => Sm_ n f + f n
theorem smm_congr {n : Nat} {f g : Nat → Int} (h : ∀ i, i < n → f i = g i) : Sm_ n f = Sm_ n g := by
  induction n with
  | zero => rfl
  | succ n ih => simp only [Sm_]; rw [ih fun i hi => h i (by omega), h n (by omega)]
theorem smm_add (n : Nat) (f g : Nat → Int) : Sm_ n (fun i => f i + g i) = Sm_ n f + Sm_ n g := by
  induction n with
  | zero => rfl
  | succ n ih => simp only [Sm_]; rw [ih]; omega
theorem smm_mul (n : Nat) (c : Int) (f : Nat → Int) : Sm_ n (fun i => c * f i) = c * Sm_ n f := by
  induction n with
  | zero => show (0 : Int) = c * 0; omega
  | succ n ih => simp only [Sm_]; rw [ih]; grind
theorem smm_zero {n : Nat} {f : Nat → Int} (h : ∀ i, i < n → f i = 0) : Sm_ n f = 0 := by
  induction n with
  | zero => rfl
  | succ n ih => simp only [Sm_]; rw [ih fun i hi => h i (by omega), h n (by omega)]; rfl
theorem smm_front (n : Nat) (f : Nat → Int) : Sm_ (n + 1) f = f 0 + Sm_ n (fun i => f (i + 1)) := by
  induction n with
  | zero => show (0 : Int) + f 0 = f 0 + 0; omega
  | succ n ih => rw [Sm_, ih]; simp only [Sm_]; omega
def Qf (n : Nat) (b : Nat → Nat → Int) (m : Nat → Int) : Int := Sm_ n fun i => Sm_ n fun j => m i * m j * b i j
def PD (n : Nat) (b : Nat → Nat → Int) : Prop := ∀ m : Nat → Int, (∃ i, i < n ∧ m i ≠ 0) → 0 < Qf n b m
structure Rel (n : Nat) (u l : Sq) (b : Nat → Nat → Int) : Prop where
  r0 : ∀ r, b 0 r = u 0 * iu l r
  r1 : ∀ q r, b (q + 1) r + b q (r + 1) = iu u (q + 1) * iu l r + iu l q * iu u (r + 1)
  sy : ∀ q r, b q r = b r q
  su : ∀ q r, n ≤ q → b q r = 0
theorem iu_one (u : Sq) : iu u 1 = 0 := by simp [iu]
theorem iu_sup {n : Nat} {l : Sq} (h : SupL n l) (k : Nat) (hk : n ≤ k) : iu l k = 0 := by
  unfold iu
  split
  · exact h _ (by omega)
  · rfl
def nx (u l : Sq) (b : Nat → Nat → Int) : Nat → Nat → Int := fun q r => l 0 * b (q + 1) (r + 1) - u 0 * (iu l (q + 1) * iu l (r + 1))
theorem rel_nx {n : Nat} {u l : Sq} {b : Nat → Nat → Int} (h : Rel (n + 1) u l b) (sl : SupL (n + 1) l) : Rel n l (stp u l) (nx u l b) := by
  refine ⟨fun r => ?_, fun q r => ?_, fun q r => ?_, fun q r hq => ?_⟩
  · have h1 : b 1 (r + 1) + b 0 (r + 2) = iu u 1 * iu l (r + 1) + iu l 0 * iu u (r + 2) := h.r1 0 (r + 1)
    have h0 := h.r0 (r + 2)
    have h2 := iu_stp u l (r + 1)
    rw [il_succ] at h2
    rw [iu_one, iu_zero] at h1
    unfold nx
    rw [iu_one, ← h2]
    have : b 1 (r + 1) = l 0 * iu u (r + 2) - u 0 * iu l (r + 2) := by rw [h0] at h1; omega
    rw [this]; grind
  · have h1 := h.r1 (q + 1) (r + 1)
    have h2 := iu_stp u l (q + 1)
    have h3 := iu_stp u l (r + 1)
    rw [il_succ] at h2 h3
    unfold nx
    rw [← h2, ← h3]
    have : l 0 * b (q + 1 + 1) (r + 1) - u 0 * (iu l (q + 1 + 1) * iu l (r + 1)) + (l 0 * b (q + 1) (r + 1 + 1) - u 0 * (iu l (q + 1) * iu l (r + 1 + 1))) = l 0 * (b (q + 1 + 1) (r + 1) + b (q + 1) (r + 1 + 1)) - u 0 * (iu l (q + 1 + 1) * iu l (r + 1) + iu l (q + 1) * iu l (r + 1 + 1)) := by grind
    rw [this, h1]; grind
  · unfold nx
    rw [h.sy (q + 1)]; grind
  · unfold nx
    rw [h.su _ _ (by omega), iu_sup sl (q + 1) (by omega)]; omega
theorem pd_first {n : Nat} {u l : Sq} {b : Nat → Nat → Int} (h : Rel (n + 1) u l b) (hu : 0 < u 0) (hp : PD (n + 1) b) : 0 < l 0 := by
  have h1 := hp (fun i => if i = 0 then 1 else 0) ⟨0, by omega, by simp⟩
  unfold Qf at h1
  rw [smm_front] at h1
  have z1 : Sm_ n (fun i => Sm_ (n + 1) fun j => (if i + 1 = 0 then 1 else 0) * (if j = 0 then 1 else 0) * b (i + 1) j) = 0 := smm_zero fun i _ => smm_zero fun j _ => by simp
  rw [z1, smm_front] at h1
  have z2 : Sm_ n (fun i => (if 0 = 0 then 1 else 0) * (if i + 1 = 0 then (1 : Int) else 0) * b 0 (i + 1)) = 0 := smm_zero fun i _ => by simp
  rw [z2] at h1
  simp only [if_true, Int.one_mul, Int.add_zero] at h1
  rw [h.r0, iu_zero] at h1
  exact pos_of hu h1
theorem smm_swap (n : Nat) (m : Nat → Int) (X : Int) : Sm_ n (fun j => X * m j) = X * Sm_ n m := smm_mul n X m
theorem pd_nx {n : Nat} {u l : Sq} {b : Nat → Nat → Int} (h : Rel (n + 1) u l b) (hu : 0 < u 0) (hl : 0 < l 0) (hp : PD (n + 1) b) : PD n (nx u l b) := fun m ⟨i0, hi0, hm0⟩ => by
  let g : Nat → Int := fun i => match i with
    | 0 => -(Sm_ n fun i => m i * iu l (i + 1))
    | i + 1 => l 0 * m i
  have h1 := hp g ⟨i0 + 1, by omega, Int.mul_ne_zero (by omega) hm0⟩
  -- the functional is 0 at l
  have hφ : Sm_ (n + 1) (fun i => g i * iu l i) = 0 := by
    rw [smm_front]
    show -(Sm_ n fun i => m i * iu l (i + 1)) * iu l 0 + Sm_ n (fun i => l 0 * m i * iu l (i + 1)) = 0
    have : Sm_ n (fun i => l 0 * m i * iu l (i + 1)) = l 0 * Sm_ n (fun i => m i * iu l (i + 1)) := by rw [← smm_mul]; exact smm_congr fun i _ => by grind
    rw [this, iu_zero]; grind
  -- the form less the square
  have e1 : l 0 * Qf (n + 1) b g = Sm_ (n + 1) (fun i => Sm_ (n + 1) fun j => g i * g j * (l 0 * b i j - u 0 * (iu l i * iu l j))) := by
    have s1 : Sm_ (n + 1) (fun i => Sm_ (n + 1) fun j => g i * g j * (l 0 * b i j - u 0 * (iu l i * iu l j))) = Sm_ (n + 1) (fun i => l 0 * (Sm_ (n + 1) fun j => g i * g j * b i j) + (-(u 0) * (g i * iu l i)) * (Sm_ (n + 1) fun j => g j * iu l j)) := smm_congr fun i _ => by
      rw [← smm_mul, ← smm_mul, ← smm_add]
      exact smm_congr fun j _ => by grind
    rw [s1, smm_add, smm_mul, hφ]
    have : Sm_ (n + 1) (fun i => -(u 0) * (g i * iu l i) * 0) = 0 := smm_zero fun i _ => by omega
    rw [this]
    unfold Qf
    omega
  have z0 : ∀ j, l 0 * b 0 j - u 0 * (iu l 0 * iu l j) = 0 := fun j => by rw [h.r0, iu_zero]; grind
  have e2 : Sm_ (n + 1) (fun i => Sm_ (n + 1) fun j => g i * g j * (l 0 * b i j - u 0 * (iu l i * iu l j))) = l 0 * l 0 * Qf n (nx u l b) m := by
    rw [smm_front]
    have a1 : Sm_ (n + 1) (fun j => g 0 * g j * (l 0 * b 0 j - u 0 * (iu l 0 * iu l j))) = 0 := smm_zero fun j _ => by rw [z0]; omega
    rw [a1, Int.zero_add]
    unfold Qf
    rw [← smm_mul]
    refine smm_congr fun i _ => ?_
    rw [smm_front, ← smm_mul]
    have a2 : g (i + 1) * g 0 * (l 0 * b (i + 1) 0 - u 0 * (iu l (i + 1) * iu l 0)) = 0 := by
      have := z0 (i + 1)
      rw [h.sy (i + 1) 0, Int.mul_comm (iu l (i + 1))]
      rw [this]; omega
    rw [a2, Int.zero_add]
    refine smm_congr fun j _ => ?_
    show l 0 * m i * (l 0 * m j) * (l 0 * b (i + 1) (j + 1) - u 0 * (iu l (i + 1) * iu l (j + 1))) = l 0 * l 0 * (m i * m j * nx u l b i j)
    unfold nx
    grind
  have h2 := Int.mul_pos hl h1
  rw [e1, e2] at h2
  exact pos_of (Int.mul_pos hl hl) h2
theorem PD_RS : ∀ (n : Nat) (u l : Sq) (b : Nat → Nat → Int), 0 < u 0 → SupU n u → SupL n l → Rel n u l b → PD n b → RS n u l = true
  | 0, _, _, _, _, _, _, _, _ => rfl
  | n + 1, u, l, b, hu, su, sl, hr, hp => by
    have hl := pd_first hr hu hp
    exact RS_of hl (PD_RS n l (stp u l) (nx u l b) hl (fun i hi => sl i (by omega)) (sup_stp su sl) (rel_nx hr sl) (pd_nx hr hu hl hp))
end Coil

set_option linter.all false
namespace Coil
/-! ### identities in two variables -/
abbrev BL := List (List Int × List Int)
def bv : BL → Nat → Nat → Int
  | [], _, _ => 0
  | p :: B, i, j => co p.1 i * co p.2 j + bv B i j
def be : BL → Int → Int → Int
  | [], _, _ => 0
  | p :: B, x, y => ev p.1 x * ev p.2 y + be B x y
def bxL (y : Int) : BL → List Int
  | [] => []
  | p :: B => addP (smul (ev p.2 y) p.1) (bxL y B)
def byL (i : Nat) : BL → List Int
  | [] => []
  | p :: B => addP (smul (co p.1 i) p.2) (byL i B)
theorem ev_bx (y x : Int) : ∀ B : BL, ev (bxL y B) x = be B x y
  | [] => rfl
  | p :: B => by simp only [bxL, be]; rw [ev_add, ev_smul, ev_bx y x B, Int.mul_comm]
theorem co_bx (y : Int) (i : Nat) : ∀ B : BL, co (bxL y B) i = ev (byL i B) y
  | [] => by simp only [bxL, byL]; rw [co_nil]; rfl
  | p :: B => by simp only [bxL, byL]; rw [co_add, co_smul, co_bx y i B, ev_add, ev_smul, Int.mul_comm]
theorem co_by (i j : Nat) : ∀ B : BL, co (byL i B) j = bv B i j
  | [] => co_nil j
  | p :: B => by simp only [byL, bv]; rw [co_add, co_smul, co_by i j B]
theorem be_zero {B : BL} (h : ∀ x y, be B x y = 0) (i j : Nat) : bv B i j = 0 := by
  have h1 : ∀ y, ev (byL i B) y = 0 := fun y => by
    rw [← co_bx]
    have := ev_ext (bxL y B) [] 0 (fun x _ => by rw [ev_bx, h]; rfl) i
    rw [this, co_nil]
  rw [← co_by]
  have := ev_ext (byL i B) [] 0 (fun y _ => by rw [h1]; rfl) j
  rw [this, co_nil]
/-! ### sums of squares -/
abbrev WL := List (Int × List Int)
def wv : WL → Nat → Nat → Int
  | [], _, _ => 0
  | p :: W, i, j => p.1 * (co p.2 i * co p.2 j) + wv W i j
def we : WL → Int → Int → Int
  | [], _, _ => 0
  | p :: W, x, y => p.1 * (ev p.2 x * ev p.2 y) + we W x y
theorem wv_sym (i j : Nat) : ∀ W : WL, wv W i j = wv W j i
  | [] => rfl
  | p :: W => by simp only [wv]; rw [wv_sym i j W, Int.mul_comm (co p.2 i)]
theorem wv_app (i j : Nat) : ∀ W V : WL, wv (W ++ V) i j = wv W i j + wv V i j
  | [], V => by show wv V i j = 0 + _; omega
  | p :: W, V => by show p.1 * _ + wv (W ++ V) i j = _; rw [wv_app i j W V]; simp only [wv]; omega
theorem we_app (x y : Int) : ∀ W V : WL, we (W ++ V) x y = we W x y + we V x y
  | [], V => by show we V x y = 0 + _; omega
  | p :: W, V => by show p.1 * _ + we (W ++ V) x y = _; rw [we_app x y W V]; simp only [we]; omega
def wsc (c : Int) (W : WL) : WL := W.map fun p => (c * p.1, p.2)
theorem we_sc (c x y : Int) : ∀ W : WL, we (wsc c W) x y = c * we W x y
  | [] => by show (0 : Int) = c * 0; omega
  | p :: W => by show c * p.1 * _ + we (wsc c W) x y = _; rw [we_sc c x y W]; simp only [we]; grind
def swv (W : WL) (i j : Nat) : Int := (if i = 0 then 0 else wv W (i - 1) j) + (if j = 0 then 0 else wv W i (j - 1))
def wb : WL → BL
  | [] => []
  | p :: W => (smul p.1 (0 :: p.2), p.2) :: (smul p.1 p.2, 0 :: p.2) :: wb W
theorem wb_e (x y : Int) : ∀ W : WL, be (wb W) x y = (x + y) * we W x y
  | [] => by show (0 : Int) = _ * 0; omega
  | p :: W => by
    simp only [wb, be, we]
    rw [wb_e x y W, ev_smul, ev_smul]
    show p.1 * (0 + x * ev p.2 x) * ev p.2 y + (p.1 * ev p.2 x * (0 + y * ev p.2 y) + _) = _
    grind
theorem wb_v (i j : Nat) : ∀ W : WL, bv (wb W) i j = swv W i j
  | [] => by unfold swv; simp [wb, bv, wv]
  | p :: W => by
    have ih := wb_v i j W
    unfold swv at *
    simp only [wb, bv, wv]
    rw [ih, co_smul, co_smul]
    cases i with
    | zero =>
      cases j with
      | zero => show p.1 * 0 * _ + (p.1 * _ * 0 + _) = _; simp
      | succ j => show p.1 * 0 * _ + (p.1 * co p.2 0 * co p.2 j + _) = _; simp; grind
    | succ i =>
      cases j with
      | zero => show p.1 * co p.2 i * co p.2 0 + (p.1 * _ * 0 + _) = _; simp; grind
      | succ j => show p.1 * co p.2 i * co p.2 (j + 1) + (p.1 * co p.2 (i + 1) * co p.2 j + _) = _; simp; grind
theorem odd_rel {W : WL} {A E : List Int} {k K0 : Int} (h : ∀ x y, (x + y) * we W x y = k * (ev A x * ev A y) - (ev E x * ev E y + ev E (-x) * ev E (-y)) - K0) (i j : Nat) (hij : (i + j) % 2 = 1) : swv W i j = k * (co A i * co A j) := by
  have h1 := be_zero (B := (smul (-k) A, A) :: (E, E) :: (bk 1 E, bk 1 E) :: ([K0], [1]) :: wb W) (fun x y => by
    simp only [be]
    rw [wb_e, h, ev_smul, ev_bk', ev_bk', ev1, ev1]
    grind) i j
  simp only [bv] at h1
  rw [wb_v, co_smul, co_bk, co_bk] at h1
  have e1 : (1 : Int) * (-1) ^ i * co E i * (1 * (-1) ^ j * co E j) = -(co E i * co E j) := by
    have : ((-1 : Int) ^ i) * (-1) ^ j = -1 := by
      rw [← Int.pow_add]
      obtain ⟨k, hk⟩ : ∃ k, i + j = 2 * k + 1 := ⟨(i + j) / 2, by omega⟩
      rw [hk, Int.pow_succ, Int.pow_mul]
      have : ((-1 : Int) ^ 2) = 1 := by decide
      rw [this, Int.one_pow]; decide
    grind
  have e2 : co [K0] i * co [1] j = 0 := by
    cases i with
    | zero =>
      have : co [(1 : Int)] j = 0 := co_over (by simp; omega)
      rw [this, Int.mul_zero]
    | succ i =>
      have : co [K0] (i + 1) = 0 := co_over (by simp)
      rw [this, Int.zero_mul]
  rw [e1, e2] at h1
  grind
/-! ### the form is positive -/
theorem last_nz : ∀ (n : Nat) (m : Nat → Int), (∃ i, i < n ∧ m i ≠ 0) → ∃ q, q < n ∧ m q ≠ 0 ∧ ∀ i, q < i → i < n → m i = 0
  | 0, _, ⟨i, h, _⟩ => absurd h (by omega)
  | n + 1, m, ⟨i, hi, h⟩ => by
    by_cases hn : m n = 0
    · obtain ⟨q, h1, h2, h3⟩ := last_nz n m ⟨i, Decidable.byContradiction fun z => h (by rw [show i = n by omega]; exact hn), h⟩
      exact ⟨q, by omega, h2, fun j j1 j2 => by
        by_cases hj : j = n
        · rw [hj]; exact hn
        · exact h3 j j1 (by omega)⟩
    · exact ⟨n, by omega, hn, fun j j1 j2 => by omega⟩
def phi (n : Nat) (P : List Int) (m : Nat → Int) : Int := Sm_ n fun q => m q * co P (n - 1 - q)
def wr (n : Nat) (W : WL) : Nat → Nat → Int := fun q r => wv W (n - 1 - q) (n - 1 - r)
theorem qf_wr (n : Nat) (m : Nat → Int) : ∀ W : WL, Qf n (wr n W) m = (W.map fun p => p.1 * (phi n p.2 m * phi n p.2 m)).sum
  | [] => by
    unfold Qf
    refine smm_zero fun i _ => smm_zero fun j _ => ?_
    show m i * m j * 0 = 0; omega
  | p :: W => by
    have ih := qf_wr n m W
    rw [List.map_cons, List.sum_cons, ← ih]
    unfold Qf
    have : p.1 * (phi n p.2 m * phi n p.2 m) = Sm_ n fun i => Sm_ n fun j => p.1 * (m i * co p.2 (n - 1 - i)) * (m j * co p.2 (n - 1 - j)) := by
      have s1 : (Sm_ n fun i => Sm_ n fun j => p.1 * (m i * co p.2 (n - 1 - i)) * (m j * co p.2 (n - 1 - j))) = Sm_ n fun i => phi n p.2 m * (p.1 * (m i * co p.2 (n - 1 - i))) := smm_congr fun i _ => by
        rw [smm_mul]; exact Int.mul_comm _ _
      rw [s1, smm_mul, smm_mul]
      show _ = phi n p.2 m * (p.1 * phi n p.2 m)
      grind
    rw [this, ← smm_add]
    refine smm_congr fun i _ => ?_
    rw [← smm_add]
    refine smm_congr fun j _ => ?_
    show m i * m j * (p.1 * (co p.2 (n - 1 - i) * co p.2 (n - 1 - j)) + wv W (n - 1 - i) (n - 1 - j)) = _ + m i * m j * wv W (n - 1 - i) (n - 1 - j)
    grind
structure WPos (n : Nat) (W : WL) : Prop where
  nn : ∀ p ∈ W, 0 ≤ p.1
  tri : ∀ k, k < n → ∃ p ∈ W, 0 < p.1 ∧ co p.2 k ≠ 0 ∧ ∀ i, k < i → co p.2 i = 0
  dg : ∀ p ∈ W, ∀ i, n ≤ i → co p.2 i = 0
theorem sum_nn {l : List Int} (h : ∀ x ∈ l, 0 ≤ x) : 0 ≤ l.sum := by
  induction l with
  | nil => exact Int.le_refl 0
  | cons a l ih =>
    rw [List.sum_cons]
    have := h a List.mem_cons_self
    have := ih fun x hx => h x (List.mem_cons_of_mem _ hx)
    omega
theorem sum_pos {l : List Int} (h : ∀ x ∈ l, 0 ≤ x) (h2 : ∃ x ∈ l, 0 < x) : 0 < l.sum := by
  induction l with
  | nil => obtain ⟨x, hx, _⟩ := h2; cases hx
  | cons a l ih =>
    rw [List.sum_cons]
    have h0 := h a List.mem_cons_self
    have h1 := sum_nn fun x hx => h x (List.mem_cons_of_mem a hx)
    obtain ⟨x, hx, hp⟩ := h2
    rcases List.mem_cons.mp hx with rfl | hx
    · omega
    · have := ih (fun x hx => h x (List.mem_cons_of_mem _ hx)) ⟨x, hx, hp⟩
      omega
theorem sqs0 (a : Int) : 0 ≤ a * a := by have := sqs_nn a 0; omega
theorem wr_nn {n : Nat} {W : WL} (h : WPos n W) (m : Nat → Int) : 0 ≤ Qf n (wr n W) m := by
  rw [qf_wr]
  refine sum_nn fun x hx => ?_
  obtain ⟨p, hp, rfl⟩ := List.mem_map.mp hx
  exact Int.mul_nonneg (h.nn p hp) (sqs0 _)
theorem wr_pd {n : Nat} {W : WL} (h : WPos n W) : PD n (wr n W) := fun m hm => by
  obtain ⟨q, h1, h2, h3⟩ := last_nz n m hm
  obtain ⟨p, hp, p0, pk, pi⟩ := h.tri (n - 1 - q) (by omega)
  rw [qf_wr]
  refine sum_pos (fun x hx => ?_) ⟨_, List.mem_map.mpr ⟨p, hp, rfl⟩, ?_⟩
  · obtain ⟨p, hp, rfl⟩ := List.mem_map.mp hx
    exact Int.mul_nonneg (h.nn p hp) (sqs0 _)
  · refine Int.mul_pos p0 (sq_pos' ?_)
    have : phi n p.2 m = m q * co p.2 (n - 1 - q) := by
      unfold phi
      -- only one term is left
      have key : ∀ N, N ≤ n → Sm_ N (fun r => m r * co p.2 (n - 1 - r)) = if q < N then m q * co p.2 (n - 1 - q) else 0 := fun N => by
        induction N with
        | zero => intro _; rfl
        | succ N ih =>
          intro hN
          simp only [Sm_]
          rw [ih (by omega)]
          by_cases e : q = N
          · subst e; simp
          · by_cases l : q < N
            · rw [if_pos l, if_pos (by omega), h3 N l (by omega)]; omega
            · rw [if_neg l, if_neg (by omega), pi (n - 1 - N) (by omega)]; omega
      rw [key n (Nat.le_refl n), if_pos h1]
    rw [this]
    exact Int.mul_ne_zero h2 pk
end Coil

set_option linter.all false
namespace Coil
def bF (n : Nat) (W : WL) : Nat → Nat → Int := fun q r => if (q + r) % 2 = 0 ∧ q < n ∧ r < n then wv W (n - 1 - q) (n - 1 - r) else 0
theorem wv_hi {n : Nat} {W : WL} (h : ∀ p ∈ W, ∀ i, n ≤ i → co p.2 i = 0) (i j : Nat) (hi : n ≤ i) : wv W i j = 0 := by
  induction W with
  | nil => rfl
  | cons p W ih =>
    simp only [wv]
    rw [ih fun q hq => h q (List.mem_cons_of_mem _ hq), h p List.mem_cons_self i hi]
    omega
theorem up_iu (f : Sq) (k : Nat) : iu (up f) k = if k % 2 = 0 then f k else 0 := by
  unfold iu up
  split
  · rw [show 2 * (k / 2) = k by omega]
  · rfl
theorem lo_iu (f : Sq) (k : Nat) : iu (lo f) k = if k % 2 = 0 then f (k + 1) else 0 := by
  unfold iu lo
  split
  · rw [show 2 * (k / 2) + 1 = k + 1 by omega]
  · rfl
theorem iu_sc (c : Int) (u : Sq) (k : Nat) : iu (fun i => c * u i) k = c * iu u k := by
  unfold iu
  split
  · rfl
  · omega
theorem fs_mul {p : List Int} {a b : Nat} (ha : a < p.length) (hb : b < p.length) : fs p a * fs p b = co p (p.length - 1 - a) * co p (p.length - 1 - b) := by
  unfold fs
  rw [if_pos ha, if_pos hb]
  have : sg p * sg p = 1 := by unfold sg; split <;> decide
  grind
theorem fs_hi {p : List Int} {a : Nat} (ha : p.length ≤ a) : fs p a = 0 := by unfold fs; rw [if_neg (by omega)]
theorem left_pd {p : List Int} {W : WL} {k : Int} (hp : 0 < p.length) (h0 : co p (p.length - 1) ≠ 0) (hk : 0 < k) (hW : WPos (p.length - 1) W) (h : ∀ i j, (i + j) % 2 = 1 → swv W i j = k * (co p i * co p j)) : leftB p = true := by
  rw [leftB_RF hp]
  unfold RF
  generalize hn : p.length - 1 = n at *
  have hl : p.length = n + 1 := by omega
  rw [← RS_scale n (up (fs p)) (lo (fs p)) (fun i => k * up (fs p) i) (lo (fs p)) k 1 hk (by decide) (fun i => rfl) (fun i => by omega)]
  have hsup : Sup n (fs p) := fun j hj => fs_hi (by omega)
  have hi := fun i j => wv_hi (n := n) hW.dg i j
  have hj : ∀ i j, n ≤ j → wv W i j = 0 := fun i j h => by rw [wv_sym]; exact hi j i h
  have sw : ∀ q r, q < n → r < n → (q + r) % 2 = 1 → bF n W (q + 1) r + bF n W q (r + 1) = k * (fs p (q + 1) * fs p (r + 1)) := fun q r hq hr ho => by
    have := h (n - 1 - q) (n - 1 - r) (by omega)
    rw [fs_mul (by omega) (by omega), hl, show n + 1 - 1 - (q + 1) = n - 1 - q by omega, show n + 1 - 1 - (r + 1) = n - 1 - r by omega, ← this]
    unfold bF swv
    congr 1
    · by_cases e : q + 1 < n
      · rw [if_pos ⟨by omega, e, hr⟩, if_neg (by omega)]; congr 1
      · rw [if_neg (fun z => e z.2.1), if_pos (by omega)]
    · by_cases e : r + 1 < n
      · rw [if_pos ⟨by omega, hq, e⟩, if_neg (by omega)]; congr 1
      · rw [if_neg (fun z => e z.2.2), if_pos (by omega)]
  have hpos := fs_pos hp (by rw [hn]; exact h0)
  refine PD_RS n _ (lo (fs p)) (bF n W) (Int.mul_pos hk hpos) (fun i hi => by show k * fs p (2 * i) = 0; rw [hsup _ hi]; omega) hsup.l ⟨fun r => ?_, fun q r => ?_, fun q r => ?_, fun q r hq => ?_⟩ ?_
  · -- the first row
    show bF n W 0 r = k * up (fs p) 0 * iu (lo (fs p)) r
    rw [lo_iu]
    unfold bF
    by_cases e : r % 2 = 0
    · rw [if_pos e]
      by_cases hr : r < n
      · rw [if_pos ⟨by omega, by omega, hr⟩]
        have := h n (n - 1 - r) (by omega)
        unfold swv at this
        rw [if_neg (by omega)] at this
        have z : (if n - 1 - r = 0 then 0 else wv W n (n - 1 - r - 1)) = 0 := by
          split
          · rfl
          · exact hi _ _ (Nat.le_refl n)
        rw [z, Int.add_zero] at this
        have e2 : fs p 0 * fs p (r + 1) = co p n * co p (n - 1 - r) := by
          rw [fs_mul (by omega) (by omega), hl, show n + 1 - 1 - 0 = n by omega, show n + 1 - 1 - (r + 1) = n - 1 - r by omega]
        show wv W (n - 1 - 0) (n - 1 - r) = k * fs p 0 * fs p (r + 1)
        rw [Nat.sub_zero, this, ← e2]; grind
      · rw [if_neg fun z => hr z.2.2, fs_hi (by omega)]; omega
    · rw [if_neg e, if_neg (by omega)]; omega
  · show bF n W (q + 1) r + bF n W q (r + 1) = iu (fun i => k * up (fs p) i) (q + 1) * iu (lo (fs p)) r + iu (lo (fs p)) q * iu (fun i => k * up (fs p) i) (r + 1)
    rw [iu_sc, iu_sc, up_iu, up_iu, lo_iu, lo_iu]
    by_cases ho : (q + r) % 2 = 1
    · have eR : k * (if (q + 1) % 2 = 0 then fs p (q + 1) else 0) * (if r % 2 = 0 then fs p (r + 1) else 0) + (if q % 2 = 0 then fs p (q + 1) else 0) * (k * (if (r + 1) % 2 = 0 then fs p (r + 1) else 0)) = k * (fs p (q + 1) * fs p (r + 1)) := by
        by_cases e : q % 2 = 0
        · rw [if_pos e, if_neg (show ¬ (q + 1) % 2 = 0 by omega), if_neg (show ¬ r % 2 = 0 by omega), if_pos (show (r + 1) % 2 = 0 by omega)]; grind
        · rw [if_neg e, if_pos (show (q + 1) % 2 = 0 by omega), if_pos (show r % 2 = 0 by omega), if_neg (show ¬ (r + 1) % 2 = 0 by omega)]; grind
      rw [eR]
      by_cases hq : q < n
      · by_cases hr : r < n
        · exact sw q r hq hr ho
        · rw [fs_hi (a := r + 1) (by omega)]
          unfold bF
          rw [if_neg (fun z => hr z.2.2), if_neg (fun z => by have := z.2.2; omega)]; omega
      · rw [fs_hi (a := q + 1) (by omega)]
        unfold bF
        rw [if_neg (fun z => by have := z.2.1; omega), if_neg (fun z => hq z.2.1)]; omega
    · have l0 : bF n W (q + 1) r + bF n W q (r + 1) = 0 := by
        unfold bF
        rw [if_neg (fun z => by have := z.1; omega), if_neg (fun z => by have := z.1; omega)]; rfl
      rw [l0]
      by_cases e : q % 2 = 0
      · rw [if_neg (show ¬ (q + 1) % 2 = 0 by omega), if_neg (show ¬ (r + 1) % 2 = 0 by omega)]; omega
      · rw [if_neg e, if_neg (show ¬ r % 2 = 0 by omega)]; omega
  · unfold bF
    rw [wv_sym]
    by_cases c : (q + r) % 2 = 0 ∧ q < n ∧ r < n
    · rw [if_pos c, if_pos ⟨by omega, c.2.2, c.2.1⟩]
    · rw [if_neg c, if_neg (fun z => c ⟨by omega, z.2.2, z.2.1⟩)]
  · unfold bF
    rw [if_neg (fun z => by have := z.2.1; omega)]
  · -- positive
    intro m hm
    have e1 : Qf n (bF n W) m = Qf n (wr n W) (fun i => if i % 2 = 0 then m i else 0) + Qf n (wr n W) (fun i => if i % 2 = 0 then 0 else m i) := by
      unfold Qf
      rw [← smm_add]
      refine smm_congr fun i hi => ?_
      rw [← smm_add]
      refine smm_congr fun j hj => ?_
      show m i * m j * bF n W i j = (if i % 2 = 0 then m i else 0) * (if j % 2 = 0 then m j else 0) * wr n W i j + (if i % 2 = 0 then 0 else m i) * (if j % 2 = 0 then 0 else m j) * wr n W i j
      unfold bF wr
      by_cases a : i % 2 = 0 <;> by_cases b : j % 2 = 0
      · rw [if_pos ⟨by omega, hi, hj⟩]; simp [a, b]
      · rw [if_neg (fun z => by have := z.1; omega)]; simp [a, b]
      · rw [if_neg (fun z => by have := z.1; omega)]; simp [a, b]
      · rw [if_pos ⟨by omega, hi, hj⟩]; simp [a, b]
    rw [e1]
    have n1 := wr_nn hW (fun i => if i % 2 = 0 then m i else 0)
    have n2 := wr_nn hW (fun i => if i % 2 = 0 then 0 else m i)
    obtain ⟨i, hi, hmi⟩ := hm
    by_cases a : i % 2 = 0
    · have := wr_pd hW (fun i => if i % 2 = 0 then m i else 0) ⟨i, hi, by simp only [a, if_true]; exact hmi⟩
      omega
    · have := wr_pd hW (fun i => if i % 2 = 0 then 0 else m i) ⟨i, hi, by simp only [a, if_false]; exact hmi⟩
      omega
end Coil

set_option linter.all false
namespace Coil
/-! ### the forms of a ladder -/
def dn (d : RungD) : Int := ((d.w.den : Nat) : Int)
theorem zt_ev {d : RungD} (h : Tn d) : (d.s = true → (∀ x, ev (zTop d) x = x * d.w.num) ∧ ∀ x, ev (zBot d) x = dn d) ∧ (d.s = false → (∀ x, ev (zTop d) x = dn d) ∧ ∀ x, ev (zBot d) x = x * d.w.num) := by
  constructor
  · intro hs
    have hk : d.k = .L := by rcases h with ⟨_, h⟩ | ⟨h, _⟩; exact h; rw [hs] at h; cases h
    unfold zTop zBot
    rw [hk]
    exact ⟨fun x => ev01 _ _, fun x => ev1 _ _⟩
  · intro hs
    have hk : d.k = .C := by rcases h with ⟨h, _⟩ | ⟨_, h⟩; rw [hs] at h; cases h; exact h
    unfold zTop zBot
    rw [hk]
    exact ⟨fun x => ev1 _ _, fun x => ev01 _ _⟩
theorem nd_ev {d : RungD} {l : List RungD} {e : PL} (h : Tn d) (x : Int) : (d.s = true → ev (ndL (d :: l) e).1 x = x * d.w.num * ev (ndL l e).2 x + dn d * ev (ndL l e).1 x ∧ ev (ndL (d :: l) e).2 x = dn d * ev (ndL l e).2 x) ∧
    (d.s = false → ev (ndL (d :: l) e).1 x = dn d * ev (ndL l e).1 x ∧ ev (ndL (d :: l) e).2 x = dn d * ev (ndL l e).2 x + x * d.w.num * ev (ndL l e).1 x) := by
  constructor
  · intro hs
    obtain ⟨z1, z2⟩ := (zt_ev h).1 hs
    simp only [ndL, hs, if_true]
    rw [ev_add, ev_mul, ev_mul, ev_mul, z1, z2]
    exact ⟨rfl, rfl⟩
  · intro hs
    obtain ⟨z1, z2⟩ := (zt_ev h).2 hs
    simp only [ndL, hs, Bool.false_eq_true, if_false]
    rw [ev_add, ev_mul, ev_mul, ev_mul, z1, z2]
    exact ⟨rfl, rfl⟩
def e10 : PL := ([1], [])
def e01 : PL := ([], [1])
theorem nd_lin {l : List RungD} {e : PL} : Bt l → ∀ x, ev (ndL l e).1 x = ev (ndL l e10).1 x * ev e.1 x + ev (ndL l e01).1 x * ev e.2 x ∧ ev (ndL l e).2 x = ev (ndL l e10).2 x * ev e.1 x + ev (ndL l e01).2 x * ev e.2 x := by
  induction l with
  | nil =>
    intro _ x
    simp only [ndL, e10, e01]
    rw [ev1]
    simp only [ev]
    omega
  | cons d l ih =>
    intro hb x
    obtain ⟨i1, i2⟩ := ih hb.tl x
    have t := hb.hd
    rcases Bool.eq_false_or_eq_true d.s with hs | hs
    · rw [((nd_ev (e := e) t x).1 hs).1, ((nd_ev (e := e) t x).1 hs).2, ((nd_ev (e := e10) t x).1 hs).1, ((nd_ev (e := e10) t x).1 hs).2, ((nd_ev (e := e01) t x).1 hs).1, ((nd_ev (e := e01) t x).1 hs).2, i1, i2]
      exact ⟨by grind, by grind⟩
    · rw [((nd_ev (e := e) t x).2 hs).1, ((nd_ev (e := e) t x).2 hs).2, ((nd_ev (e := e10) t x).2 hs).1, ((nd_ev (e := e10) t x).2 hs).2, ((nd_ev (e := e01) t x).2 hs).1, ((nd_ev (e := e01) t x).2 hs).2, i1, i2]
      exact ⟨by grind, by grind⟩
/-- a and d are even, b and c are odd -/
theorem nd_par {l : List RungD} : Bt l → ∀ x, ev (ndL l e10).1 (-x) = ev (ndL l e10).1 x ∧ ev (ndL l e10).2 (-x) = -ev (ndL l e10).2 x ∧ ev (ndL l e01).1 (-x) = -ev (ndL l e01).1 x ∧ ev (ndL l e01).2 (-x) = ev (ndL l e01).2 x := by
  induction l with
  | nil =>
    intro _ x
    simp only [ndL, e10, e01]
    rw [ev1, ev1]
    simp [ev]
  | cons d l ih =>
    intro hb x
    obtain ⟨i1, i2, i3, i4⟩ := ih hb.tl x
    have t := hb.hd
    rcases Bool.eq_false_or_eq_true d.s with hs | hs
    · have p1 := fun y => (nd_ev (l := l) (e := e10) t y).1 hs
      have p2 := fun y => (nd_ev (l := l) (e := e01) t y).1 hs
      rw [(p1 _).1, (p1 _).2, (p2 _).1, (p2 _).2, (p1 _).1, (p1 _).2, (p2 _).1, (p2 _).2, i1, i2, i3, i4]
      exact ⟨by grind, by grind, by grind, by grind⟩
    · have p1 := fun y => (nd_ev (l := l) (e := e10) t y).2 hs
      have p2 := fun y => (nd_ev (l := l) (e := e01) t y).2 hs
      rw [(p1 _).1, (p1 _).2, (p2 _).1, (p2 _).2, (p1 _).1, (p1 _).2, (p2 _).1, (p2 _).2, i1, i2, i3, i4]
      exact ⟨by grind, by grind, by grind, by grind⟩
def Dl2 : List RungD → Int
  | [] => 1
  | d :: l => dn d * dn d * Dl2 l
theorem Dl2_pos : ∀ l, 0 < Dl2 l
  | [] => by decide
  | d :: l => Int.mul_pos (Int.mul_pos (den_pz d.w) (den_pz d.w)) (Dl2_pos l)
/-- the form from the end -/
def gL : List RungD → PL → WL
  | [], _ => []
  | d :: l, e => (dn d * d.w.num, if d.s then (ndL l e).2 else (ndL l e).1) :: wsc (dn d * dn d) (gL l e)
theorem gL_ev {l : List RungD} {nu de : Int} : Bt l → ∀ x y, ev (ndL l ([nu], [de])).1 x * ev (ndL l ([nu], [de])).2 y + ev (ndL l ([nu], [de])).2 x * ev (ndL l ([nu], [de])).1 y = 2 * nu * de * Dl2 l + (x + y) * we (gL l ([nu], [de])) x y := by
  induction l with
  | nil =>
    intro _ x y
    simp only [ndL, gL, we, Dl2]
    rw [ev1, ev1, ev1, ev1]; grind
  | cons d l ih =>
    intro hb x y
    have i := ih hb.tl x y
    have t := hb.hd
    rcases Bool.eq_false_or_eq_true d.s with hs | hs
    · have p1 := fun y => (nd_ev (l := l) (e := ([nu], [de])) t y).1 hs
      rw [(p1 _).1, (p1 _).2, (p1 _).1, (p1 _).2]
      simp only [gL, we, hs, if_true, Dl2]
      rw [we_sc]
      have : (x * d.w.num * ev (ndL l ([nu], [de])).2 x + dn d * ev (ndL l ([nu], [de])).1 x) * (dn d * ev (ndL l ([nu], [de])).2 y) + dn d * ev (ndL l ([nu], [de])).2 x * (y * d.w.num * ev (ndL l ([nu], [de])).2 y + dn d * ev (ndL l ([nu], [de])).1 y) = dn d * dn d * (ev (ndL l ([nu], [de])).1 x * ev (ndL l ([nu], [de])).2 y + ev (ndL l ([nu], [de])).2 x * ev (ndL l ([nu], [de])).1 y) + (x + y) * (dn d * d.w.num * (ev (ndL l ([nu], [de])).2 x * ev (ndL l ([nu], [de])).2 y)) := by grind
      rw [this, i]; grind
    · have p1 := fun y => (nd_ev (l := l) (e := ([nu], [de])) t y).2 hs
      rw [(p1 _).1, (p1 _).2, (p1 _).1, (p1 _).2]
      simp only [gL, we, hs, Bool.false_eq_true, if_false, Dl2]
      rw [we_sc]
      have : dn d * ev (ndL l ([nu], [de])).1 x * (dn d * ev (ndL l ([nu], [de])).2 y + y * d.w.num * ev (ndL l ([nu], [de])).1 y) + (dn d * ev (ndL l ([nu], [de])).2 x + x * d.w.num * ev (ndL l ([nu], [de])).1 x) * (dn d * ev (ndL l ([nu], [de])).1 y) = dn d * dn d * (ev (ndL l ([nu], [de])).1 x * ev (ndL l ([nu], [de])).2 y + ev (ndL l ([nu], [de])).2 x * ev (ndL l ([nu], [de])).1 y) + (x + y) * (dn d * d.w.num * (ev (ndL l ([nu], [de])).1 x * ev (ndL l ([nu], [de])).1 y)) := by grind
      rw [this, i]; grind
/-- the form from the front -/
abbrev KL := List (Int × PL)
def kL : List RungD → KL
  | [] => []
  | d :: l => (dn d * d.w.num * Dl2 l, if d.s then e10 else e01) :: (kL l).map fun p => (p.1, ndL [d] p.2)
def ke (f g : PL → List Int) : KL → Int → Int → Int
  | [], _, _ => 0
  | p :: W, x, y => p.1 * (ev (f p.2) x * ev (g p.2) y) + ke f g W x y
theorem nd1_ev {d : RungD} {e : PL} (h : Tn d) (x : Int) : (d.s = true → ev (ndL [d] e).1 x = x * d.w.num * ev e.2 x + dn d * ev e.1 x ∧ ev (ndL [d] e).2 x = dn d * ev e.2 x) ∧
    (d.s = false → ev (ndL [d] e).1 x = dn d * ev e.1 x ∧ ev (ndL [d] e).2 x = dn d * ev e.2 x + x * d.w.num * ev e.1 x) := nd_ev (l := []) h x
theorem ke_S {d : RungD} (h : Tn d) (hs : d.s = true) (x y : Int) : ∀ W : KL,
    ke (·.1) (·.1) (W.map fun p => (p.1, ndL [d] p.2)) x y = x * d.w.num * (y * d.w.num) * ke (·.2) (·.2) W x y + x * d.w.num * dn d * ke (·.2) (·.1) W x y + dn d * (y * d.w.num) * ke (·.1) (·.2) W x y + dn d * dn d * ke (·.1) (·.1) W x y ∧
    ke (·.1) (·.2) (W.map fun p => (p.1, ndL [d] p.2)) x y = x * d.w.num * dn d * ke (·.2) (·.2) W x y + dn d * dn d * ke (·.1) (·.2) W x y ∧
    ke (·.2) (·.1) (W.map fun p => (p.1, ndL [d] p.2)) x y = y * d.w.num * dn d * ke (·.2) (·.2) W x y + dn d * dn d * ke (·.2) (·.1) W x y ∧
    ke (·.2) (·.2) (W.map fun p => (p.1, ndL [d] p.2)) x y = dn d * dn d * ke (·.2) (·.2) W x y
  | [] => by simp [ke]
  | p :: W => by
    obtain ⟨i1, i2, i3, i4⟩ := ke_S h hs x y W
    have p1 := (nd1_ev (e := p.2) h x).1 hs
    have p2 := (nd1_ev (e := p.2) h y).1 hs
    simp only [List.map_cons, ke]
    rw [i1, i2, i3, i4, p1.1, p1.2, p2.1, p2.2]
    exact ⟨by grind, by grind, by grind, by grind⟩
theorem ke_P {d : RungD} (h : Tn d) (hs : d.s = false) (x y : Int) : ∀ W : KL,
    ke (·.2) (·.2) (W.map fun p => (p.1, ndL [d] p.2)) x y = x * d.w.num * (y * d.w.num) * ke (·.1) (·.1) W x y + x * d.w.num * dn d * ke (·.1) (·.2) W x y + dn d * (y * d.w.num) * ke (·.2) (·.1) W x y + dn d * dn d * ke (·.2) (·.2) W x y ∧
    ke (·.2) (·.1) (W.map fun p => (p.1, ndL [d] p.2)) x y = x * d.w.num * dn d * ke (·.1) (·.1) W x y + dn d * dn d * ke (·.2) (·.1) W x y ∧
    ke (·.1) (·.2) (W.map fun p => (p.1, ndL [d] p.2)) x y = y * d.w.num * dn d * ke (·.1) (·.1) W x y + dn d * dn d * ke (·.1) (·.2) W x y ∧
    ke (·.1) (·.1) (W.map fun p => (p.1, ndL [d] p.2)) x y = dn d * dn d * ke (·.1) (·.1) W x y
  | [] => by simp [ke]
  | p :: W => by
    obtain ⟨i1, i2, i3, i4⟩ := ke_P h hs x y W
    have p1 := (nd1_ev (e := p.2) h x).2 hs
    have p2 := (nd1_ev (e := p.2) h y).2 hs
    simp only [List.map_cons, ke]
    rw [i1, i2, i3, i4, p1.1, p1.2, p2.1, p2.2]
    exact ⟨by grind, by grind, by grind, by grind⟩
theorem kL_ev {l : List RungD} : Bt l → ∀ x y,
    ev (ndL l e10).1 x * ev (ndL l e01).1 y + ev (ndL l e01).1 x * ev (ndL l e10).1 y = (x + y) * ke (·.1) (·.1) (kL l) x y ∧
    ev (ndL l e10).1 x * ev (ndL l e01).2 y + ev (ndL l e01).1 x * ev (ndL l e10).2 y = Dl2 l + (x + y) * ke (·.1) (·.2) (kL l) x y ∧
    ev (ndL l e10).2 x * ev (ndL l e01).1 y + ev (ndL l e01).2 x * ev (ndL l e10).1 y = Dl2 l + (x + y) * ke (·.2) (·.1) (kL l) x y ∧
    ev (ndL l e10).2 x * ev (ndL l e01).2 y + ev (ndL l e01).2 x * ev (ndL l e10).2 y = (x + y) * ke (·.2) (·.2) (kL l) x y := by
  induction l with
  | nil =>
    intro _ x y
    simp only [ndL, e10, e01, kL, ke, Dl2]
    rw [ev1, ev1]
    simp [ev]
  | cons d l ih =>
    intro hb x y
    obtain ⟨i1, i2, i3, i4⟩ := ih hb.tl x y
    have t := hb.hd
    rcases Bool.eq_false_or_eq_true d.s with hs | hs
    · have p1 := fun y => (nd_ev (l := l) (e := e10) t y).1 hs
      have p2 := fun y => (nd_ev (l := l) (e := e01) t y).1 hs
      obtain ⟨k1, k2, k3, k4⟩ := ke_S t hs x y (kL l)
      have a1 : ev e10.1 x * ev e10.1 y = 1 := by show ev [1] x * ev [1] y = 1; rw [ev1, ev1]; rfl
      have a2 : ∀ z, ev e10.2 z = 0 := fun z => rfl
      simp only [kL, ke, hs, if_true, Dl2]
      rw [(p1 _).1, (p1 _).2, (p2 _).1, (p2 _).2, (p1 _).1, (p1 _).2, (p2 _).1, (p2 _).2, k1, k2, k3, k4, a1, a2, a2]
      generalize ev (ndL l e10).1 x = ax at *
      generalize ev (ndL l e10).2 x = cx at *
      generalize ev (ndL l e01).1 x = bx at *
      generalize ev (ndL l e01).2 x = dx at *
      generalize ev (ndL l e10).1 y = ay at *
      generalize ev (ndL l e10).2 y = cy at *
      generalize ev (ndL l e01).1 y = by' at *
      generalize ev (ndL l e01).2 y = dy at *
      generalize dn d = D at *
      generalize d.w.num = N at *
      generalize Dl2 l = L at *
      clear p1 p2 k1 k2 k3 k4 a1 a2 ih hb t
      refine ⟨?_, ?_, ?_, ?_⟩
      · have : (x * N * cx + D * ax) * (y * N * dy + D * by') + (x * N * dx + D * bx) * (y * N * cy + D * ay) = x * N * (y * N) * (cx * dy + dx * cy) + x * N * D * (cx * by' + dx * ay) + D * (y * N) * (ax * dy + bx * cy) + D * D * (ax * by' + bx * ay) := by grind
        rw [this, i1, i2, i3, i4]; grind
      · have : (x * N * cx + D * ax) * (D * dy) + (x * N * dx + D * bx) * (D * cy) = x * N * D * (cx * dy + dx * cy) + D * D * (ax * dy + bx * cy) := by grind
        rw [this, i2, i4]; grind
      · have : D * cx * (y * N * dy + D * by') + D * dx * (y * N * cy + D * ay) = y * N * D * (cx * dy + dx * cy) + D * D * (cx * by' + dx * ay) := by grind
        rw [this, i3, i4]; grind
      · have : D * cx * (D * dy) + D * dx * (D * cy) = D * D * (cx * dy + dx * cy) := by grind
        rw [this, i4]; grind
    · have p1 := fun y => (nd_ev (l := l) (e := e10) t y).2 hs
      have p2 := fun y => (nd_ev (l := l) (e := e01) t y).2 hs
      obtain ⟨k1, k2, k3, k4⟩ := ke_P t hs x y (kL l)
      have a1 : ev e01.2 x * ev e01.2 y = 1 := by show ev [1] x * ev [1] y = 1; rw [ev1, ev1]; rfl
      have a2 : ∀ z, ev e01.1 z = 0 := fun z => rfl
      simp only [kL, ke, hs, Bool.false_eq_true, if_false, Dl2]
      rw [(p1 _).1, (p1 _).2, (p2 _).1, (p2 _).2, (p1 _).1, (p1 _).2, (p2 _).1, (p2 _).2, k1, k2, k3, k4, a1, a2, a2]
      generalize ev (ndL l e10).1 x = ax at *
      generalize ev (ndL l e10).2 x = cx at *
      generalize ev (ndL l e01).1 x = bx at *
      generalize ev (ndL l e01).2 x = dx at *
      generalize ev (ndL l e10).1 y = ay at *
      generalize ev (ndL l e10).2 y = cy at *
      generalize ev (ndL l e01).1 y = by' at *
      generalize ev (ndL l e01).2 y = dy at *
      generalize dn d = D at *
      generalize d.w.num = N at *
      generalize Dl2 l = L at *
      clear p1 p2 k1 k2 k3 k4 a1 a2 ih hb t
      refine ⟨?_, ?_, ?_, ?_⟩
      · have : D * ax * (D * by') + D * bx * (D * ay) = D * D * (ax * by' + bx * ay) := by grind
        rw [this, i1]; grind
      · have : D * ax * (D * dy + y * N * by') + D * bx * (D * cy + y * N * ay) = y * N * D * (ax * by' + bx * ay) + D * D * (ax * dy + bx * cy) := by grind
        rw [this, i1, i2]; grind
      · have : (D * cx + x * N * ax) * (D * by') + (D * dx + x * N * bx) * (D * ay) = x * N * D * (ax * by' + bx * ay) + D * D * (cx * by' + dx * ay) := by grind
        rw [this, i1, i3]; grind
      · have : (D * cx + x * N * ax) * (D * dy + y * N * by') + (D * dx + x * N * bx) * (D * cy + y * N * ay) = x * N * (y * N) * (ax * by' + bx * ay) + x * N * D * (ax * dy + bx * cy) + D * (y * N) * (cx * by' + dx * ay) + D * D * (cx * dy + dx * cy) := by grind
        rw [this, i1, i2, i3, i4]; grind
end Coil

set_option linter.all false
namespace Coil
def kW (W : KL) : WL := W.map fun p => (p.1, addP p.2.1 p.2.2)
theorem kW_ev (x y : Int) : ∀ W : KL, we (kW W) x y = ke (·.1) (·.1) W x y + ke (·.1) (·.2) W x y + ke (·.2) (·.1) W x y + ke (·.2) (·.2) W x y
  | [] => rfl
  | p :: W => by
    show p.1 * (ev (addP p.2.1 p.2.2) x * ev (addP p.2.1 p.2.2) y) + we (kW W) x y = _
    rw [kW_ev x y W, ev_add, ev_add]
    simp only [ke]
    grind
def lW (l : List RungD) (nu de : Int) : WL := wsc 2 (gL l ([nu], [de])) ++ wsc (2 * nu * de) (kW (kL l))
theorem lW_ev {l : List RungD} {nu de : Int} (hb : Bt l) (x y : Int) : (x + y) * we (lW l nu de) x y = 2 * (ev (addP (ndL l ([nu], [de])).1 (ndL l ([nu], [de])).2) x * ev (addP (ndL l ([nu], [de])).1 (ndL l ([nu], [de])).2) y) -
    (ev (addP (ndL l ([nu], [de])).1 (smul (-1) (ndL l ([nu], [de])).2)) x * ev (addP (ndL l ([nu], [de])).1 (smul (-1) (ndL l ([nu], [de])).2)) y + ev (addP (ndL l ([nu], [de])).1 (smul (-1) (ndL l ([nu], [de])).2)) (-x) * ev (addP (ndL l ([nu], [de])).1 (smul (-1) (ndL l ([nu], [de])).2)) (-y)) - 8 * nu * de * Dl2 l := by
  have g := gL_ev (nu := nu) (de := de) hb x y
  obtain ⟨k1, k2, k3, k4⟩ := kL_ev hb x y
  have n1 := fun z => (nd_lin (e := ([nu], [de])) hb z).1
  have n2 := fun z => (nd_lin (e := ([nu], [de])) hb z).2
  have px := nd_par hb x
  have py := nd_par hb y
  unfold lW
  rw [we_app, we_sc, we_sc, kW_ev]
  rw [ev_add, ev_add, ev_add, ev_add, ev_add, ev_add, ev_smul, ev_smul, ev_smul, ev_smul]
  rw [n1, n2, n1, n2] at g
  rw [n1, n2, n1, n2, n1, n2, n1, n2]
  rw [px.1, px.2.1, px.2.2.1, px.2.2.2, py.1, py.2.1, py.2.2.1, py.2.2.2]
  have v1 : ∀ z, ev (([nu], [de]) : PL).1 z = nu := fun z => ev1 _ _
  have v2 : ∀ z, ev (([nu], [de]) : PL).2 z = de := fun z => ev1 _ _
  simp only [v1, v2] at g ⊢
  generalize ev (ndL l e10).1 x = ax at *
  generalize ev (ndL l e10).2 x = cx at *
  generalize ev (ndL l e01).1 x = bx at *
  generalize ev (ndL l e01).2 x = dx at *
  generalize ev (ndL l e10).1 y = ay at *
  generalize ev (ndL l e10).2 y = cy at *
  generalize ev (ndL l e01).1 y = by' at *
  generalize ev (ndL l e01).2 y = dy at *
  generalize we (gL l ([nu], [de])) x y = G at *
  generalize ke (·.1) (·.1) (kL l) x y = K1 at *
  generalize ke (·.1) (·.2) (kL l) x y = K2 at *
  generalize ke (·.2) (·.1) (kL l) x y = K3 at *
  generalize ke (·.2) (·.2) (kL l) x y = K4 at *
  generalize Dl2 l = L at *
  clear n1 n2 px py v1 v2
  have a1 : (x + y) * (2 * G + 2 * nu * de * (K1 + K2 + K3 + K4)) = 2 * ((x + y) * G) + 2 * nu * de * ((x + y) * K1 + (x + y) * K2 + (x + y) * K3 + (x + y) * K4) := by grind
  have g' : (x + y) * G = (ax * nu + bx * de) * (cy * nu + dy * de) + (cx * nu + dx * de) * (ay * nu + by' * de) - 2 * nu * de * L := by omega
  have q1 : (x + y) * K1 = ax * by' + bx * ay := k1.symm
  have q2 : (x + y) * K2 = ax * dy + bx * cy - L := by omega
  have q3 : (x + y) * K3 = cx * by' + dx * ay - L := by omega
  have q4 : (x + y) * K4 = cx * dy + dx * cy := k4.symm
  rw [a1, g', q1, q2, q3, q4]
  grind
theorem hi_nd {d : RungD} {e : PL} {m : Nat} (h : Tn d) (h1 : ∀ i, m ≤ i → co e.1 i = 0) (h2 : ∀ i, m ≤ i → co e.2 i = 0) : (∀ i, m + 1 ≤ i → co (ndL [d] e).1 i = 0) ∧ ∀ i, m + 1 ≤ i → co (ndL [d] e).2 i = 0 := by
  have sp : ∀ {p : List Int}, (∀ i, m ≤ i → co p i = 0) → ∀ i, m + 1 ≤ i → shp p i = 0 := fun hp i hi => by
    cases i with
    | zero => omega
    | succ i => exact hp i (by omega)
  rcases Bool.eq_false_or_eq_true d.s with hs | hs
  · obtain ⟨c1, c2⟩ := nd_S (l := []) (e := e) h hs
    refine ⟨fun i hi => ?_, fun i hi => ?_⟩
    · rw [c1]; show _ * shp e.2 i + _ * co e.1 i = 0; rw [sp h2 i hi, h1 i (by omega)]; omega
    · rw [c2]; show _ * co e.2 i = 0; rw [h2 i (by omega)]; omega
  · obtain ⟨c1, c2⟩ := nd_P (l := []) (e := e) h hs
    refine ⟨fun i hi => ?_, fun i hi => ?_⟩
    · rw [c2]; show _ * co e.1 i = 0; rw [h1 i (by omega)]; omega
    · rw [c1]; show _ * shp e.1 i + _ * co e.2 i = 0; rw [sp h1 i hi, h2 i (by omega)]; omega
theorem kL_ok : ∀ {l : List RungD}, Bt l → (∀ d ∈ l, Pos d) → ∀ p ∈ kL l, 0 ≤ p.1 ∧ (∀ i, l.length ≤ i → co p.2.1 i = 0) ∧ ∀ i, l.length ≤ i → co p.2.2 i = 0
  | [], _, _, p, hp => by cases hp
  | d :: l, hb, hpos, p, hp => by
    rcases List.mem_cons.mp hp with rfl | hp
    · have hn : 0 < d.w.num := hpos d List.mem_cons_self
      refine ⟨Int.le_of_lt (Int.mul_pos (Int.mul_pos (den_pz d.w) hn) (Dl2_pos l)), fun i hi => ?_, fun i hi => ?_⟩
      · rw [List.length_cons] at hi
        dsimp only
        split
        · exact co_over (by show 1 ≤ i; omega)
        · exact co_nil i
      · rw [List.length_cons] at hi
        dsimp only
        split
        · exact co_nil i
        · exact co_over (by show 1 ≤ i; omega)
    · obtain ⟨q, hq, rfl⟩ := List.mem_map.mp hp
      obtain ⟨h0, h1, h2⟩ := kL_ok hb.tl (fun x hx => hpos x (List.mem_cons_of_mem _ hx)) q hq
      obtain ⟨r1, r2⟩ := hi_nd hb.hd h1 h2
      exact ⟨h0, fun i hi => r1 i (by rw [List.length_cons] at hi; exact hi), fun i hi => r2 i (by rw [List.length_cons] at hi; exact hi)⟩
/-- the head of the form from the end -/
theorem gL_head {d : RungD} {l : List RungD} {e : PL} (hb : Bt (d :: l)) (hp : ∀ q ∈ d :: l, Pos q) (h1 : Tp e.1 0) (h2 : Tp e.2 0) : Tp (if d.s then (ndL l e).2 else (ndL l e).1) l.length := by
  have tl := ndT hb.tl (fun q hq => hp q (List.mem_cons_of_mem _ hq)) h1 h2
  unfold NdT at tl
  cases l with
  | nil =>
    rcases Bool.eq_false_or_eq_true d.s with hs | hs
    · rw [if_pos hs]; exact h2
    · rw [if_neg (by rw [hs]; decide)]; exact h1
  | cons d' l' =>
    have hne := hb.2.1
    rcases Bool.eq_false_or_eq_true d.s with hs | hs
    · have : d'.s = false := by cases h : d'.s; rfl; exact absurd (by rw [hs, h]) hne
      simp only [this, Bool.false_eq_true, if_false] at tl
      rw [if_pos hs]; exact tl.2
    · have : d'.s = true := by cases h : d'.s; exact absurd (by rw [hs, h]) hne; rfl
      simp only [this, if_true] at tl
      rw [if_neg (by rw [hs]; decide)]; exact tl.1
theorem gL_ok : ∀ {l : List RungD} {e : PL}, Bt l → (∀ d ∈ l, Pos d) → Tp e.1 0 → Tp e.2 0 → (∀ p ∈ gL l e, 0 ≤ p.1 ∧ ∀ i, l.length ≤ i → co p.2 i = 0) ∧ ∀ k, k < l.length → ∃ p ∈ gL l e, 0 < p.1 ∧ co p.2 k ≠ 0 ∧ ∀ i, k < i → co p.2 i = 0
  | [], _, _, _, _, _ => ⟨fun p hp => (nomatch hp), fun k hk => absurd hk (Nat.not_lt_zero k)⟩
  | d :: l, e, hb, hpos, h1, h2 => by
    obtain ⟨i1, i2⟩ := gL_ok (e := e) hb.tl (fun x hx => hpos x (List.mem_cons_of_mem _ hx)) h1 h2
    have hn : 0 < d.w.num := hpos d List.mem_cons_self
    have hd := den_pz d.w
    have hh := gL_head hb hpos h1 h2
    refine ⟨fun p hp => ?_, fun k hk => ?_⟩
    · rcases List.mem_cons.mp hp with rfl | hp
      · exact ⟨Int.le_of_lt (Int.mul_pos hd hn), fun i hi => hh.2 i (by rw [List.length_cons] at hi; omega)⟩
      · obtain ⟨q, hq, rfl⟩ := List.mem_map.mp hp
        obtain ⟨a, b⟩ := i1 q hq
        exact ⟨Int.mul_nonneg (Int.le_of_lt (Int.mul_pos hd hd)) a, fun i hi => b i (by rw [List.length_cons] at hi; omega)⟩
    · by_cases hk2 : k = l.length
      · subst hk2
        exact ⟨_, List.mem_cons_self, Int.mul_pos hd hn, by have := hh.1; dsimp only; omega, hh.2⟩
      · obtain ⟨q, hq, a, b, c⟩ := i2 k (by rw [List.length_cons] at hk; omega)
        exact ⟨(dn d * dn d * q.1, q.2), List.mem_cons_of_mem _ (List.mem_map.mpr ⟨q, hq, rfl⟩), Int.mul_pos (Int.mul_pos hd hd) a, b, c⟩
theorem lW_pos {l : List RungD} {nu de : Int} (hb : Bt l) (hp : ∀ d ∈ l, Pos d) (h1 : 0 < nu) (h2 : 0 < de) : WPos l.length (lW l nu de) := by
  have one : ∀ {c : Int}, 0 < c → Tp [c] 0 := fun h => ⟨h, fun i hi => co_over (by simp; omega)⟩
  obtain ⟨g1, g2⟩ := gL_ok (e := ([nu], [de])) hb hp (one h1) (one h2)
  have k1 := kL_ok hb hp
  have hnd : 0 < 2 * nu * de := Int.mul_pos (by omega) h2
  refine ⟨fun p hp => ?_, fun k hk => ?_, fun p hp => ?_⟩
  · rcases List.mem_append.mp hp with hp | hp
    · obtain ⟨q, hq, rfl⟩ := List.mem_map.mp hp
      have := (g1 q hq).1
      show 0 ≤ 2 * q.1
      omega
    · obtain ⟨q, hq, rfl⟩ := List.mem_map.mp hp
      obtain ⟨r, hr, rfl⟩ := List.mem_map.mp hq
      exact Int.mul_nonneg (Int.le_of_lt hnd) (k1 r hr).1
  · obtain ⟨q, hq, a, b, c⟩ := g2 k hk
    exact ⟨(2 * q.1, q.2), List.mem_append_left _ (List.mem_map.mpr ⟨q, hq, rfl⟩), by show 0 < 2 * q.1; omega, b, c⟩
  · rcases List.mem_append.mp hp with hp | hp
    · obtain ⟨q, hq, rfl⟩ := List.mem_map.mp hp
      exact (g1 q hq).2
    · obtain ⟨q, hq, rfl⟩ := List.mem_map.mp hp
      obtain ⟨r, hr, rfl⟩ := List.mem_map.mp hq
      obtain ⟨_, a, b⟩ := k1 r hr
      intro i hi
      show co (addP r.2.1 r.2.2) i = 0
      rw [co_add, a i hi, b i hi]; rfl
theorem shp_hd (p : List Int) (i : Nat) (c : Int) : co p i = c → shp p (i + 1) = c := fun h => h
/-- a ladder's polynomial has its roots on the left -/
theorem left_ladder {l : List RungD} {dl : RungD} {left : List Int} {g : Int} (hb : Bt l) (hp : ∀ d ∈ dl :: l, Pos d) (hk : dl.k = .R) (hg : g ≠ 0) (hn : Nm left) (hN : ∀ i, g * co left i = co (ndL l (zTop dl, zBot dl)).1 i + co (ndL l (zTop dl, zBot dl)).2 i) : leftB left = true ∧ left.length = l.length + 1 := by
  have e1 : zTop dl = [dl.w.num] := by unfold zTop; rw [hk]
  have e2 : zBot dl = [((dl.w.den : Nat) : Int)] := by unfold zBot; rw [hk]
  have p0 : 0 < dl.w.num := hp dl List.mem_cons_self
  have d0 := den_pz dl.w
  have hpl : ∀ d ∈ l, Pos d := fun d hd => hp d (List.mem_cons_of_mem _ hd)
  rw [e1, e2] at hN
  have one : ∀ {c : Int}, 0 < c → Tp [c] 0 := fun h => ⟨h, fun i hi => co_over (by simp; omega)⟩
  have T := ndT (e := ([dl.w.num], [((dl.w.den : Nat) : Int)])) hb hpl (one p0) (one d0)
  have top : 0 < co (ndL l ([dl.w.num], [((dl.w.den : Nat) : Int)])).1 l.length + co (ndL l ([dl.w.num], [((dl.w.den : Nat) : Int)])).2 l.length ∧ ∀ i, l.length < i → co (ndL l ([dl.w.num], [((dl.w.den : Nat) : Int)])).1 i + co (ndL l ([dl.w.num], [((dl.w.den : Nat) : Int)])).2 i = 0 := by
    unfold NdT at T
    cases l with
    | nil =>
      have T' : Tp [dl.w.num] 0 ∧ Tp [((dl.w.den : Nat) : Int)] 0 := T
      refine ⟨?_, fun i hi => ?_⟩
      · show 0 < co [dl.w.num] 0 + co [((dl.w.den : Nat) : Int)] 0
        have := T'.1.1
        have := T'.2.1
        omega
      · show co [dl.w.num] i + co [((dl.w.den : Nat) : Int)] i = 0
        rw [T'.1.2 i hi, T'.2.2 i hi]; rfl
    | cons d l' =>
      dsimp only at T
      split at T
      · exact ⟨by have h1 := T.1.1; have h2 := T.2.2 (l'.length + 1) (by omega); rw [List.length_cons, h2]; omega, fun i hi => by rw [List.length_cons] at hi; rw [T.1.2 i hi, T.2.2 i (by omega)]; rfl⟩
      · exact ⟨by have h1 := T.2.1; have h2 := T.1.2 (l'.length + 1) (by omega); rw [List.length_cons, h2]; omega, fun i hi => by rw [List.length_cons] at hi; rw [T.2.2 i hi, T.1.2 i (by omega)]; rfl⟩
  have h0 : co left l.length ≠ 0 := fun z => by
    have := hN l.length
    rw [z] at this
    have := top.1
    omega
  have hlt : l.length < left.length := Decidable.byContradiction fun z => h0 (co_over (by omega))
  have hne : left ≠ [] := fun z => by rw [z] at hlt; simp at hlt
  have hle : left.length - 1 ≤ l.length := Decidable.byContradiction fun z => (hn.resolve_left hne) (by
    have h1 := hN (left.length - 1)
    rw [top.2 _ (by omega)] at h1
    exact (Int.mul_eq_zero.mp h1).resolve_left hg)
  have hl : left.length = l.length + 1 := by omega
  refine ⟨?_, hl⟩
  have hW := lW_pos hb hpl p0 d0
  refine left_pd (k := 2 * (g * g)) (by omega) (hn.resolve_left hne) (by have := sq_pos' hg; omega) (by rw [hl, Nat.add_sub_cancel]; exact hW) fun i j hij => ?_
  rw [odd_rel (fun x y => lW_ev hb x y) i j hij, co_add, co_add, ← hN, ← hN]
  grind
end Coil

set_option linter.all false
namespace Coil
theorem wv_sc (c : Int) (i j : Nat) : ∀ W : WL, wv (wsc c W) i j = c * wv W i j
  | [] => by show (0 : Int) = c * 0; omega
  | p :: W => by show c * p.1 * _ + wv (wsc c W) i j = _; rw [wv_sc c i j W]; simp only [wv]; grind
theorem swv_sc (c : Int) (W : WL) (i j : Nat) : swv (wsc c W) i j = c * swv W i j := by
  unfold swv
  rw [wv_sc, wv_sc]
  split <;> split <;> grind
theorem wpos_sc {n : Nat} {W : WL} {c : Int} (hc : 0 < c) (h : WPos n W) : WPos n (wsc c W) := by
  refine ⟨fun p hp => ?_, fun k hk => ?_, fun p hp => ?_⟩
  · obtain ⟨q, hq, rfl⟩ := List.mem_map.mp hp
    exact Int.mul_nonneg (Int.le_of_lt hc) (h.nn q hq)
  · obtain ⟨q, hq, a, b, d⟩ := h.tri k hk
    exact ⟨(c * q.1, q.2), List.mem_map.mpr ⟨q, hq, rfl⟩, Int.mul_pos hc a, b, d⟩
  · obtain ⟨q, hq, rfl⟩ := List.mem_map.mp hp
    exact h.dg q hq
theorem left_ladder2 {l : List RungD} {dl : RungD} {left : List Int} {g mu : Int} (hb : Bt l) (hp : ∀ d ∈ dl :: l, Pos d) (hk : dl.k = .R) (hg : g ≠ 0) (hm : mu ≠ 0) (hn : Nm left) (hN : ∀ i, g * co left i = mu * (co (ndL l (zTop dl, zBot dl)).1 i + co (ndL l (zTop dl, zBot dl)).2 i)) : leftB left = true ∧ left.length = l.length + 1 := by
  have e1 : zTop dl = [dl.w.num] := by unfold zTop; rw [hk]
  have e2 : zBot dl = [((dl.w.den : Nat) : Int)] := by unfold zBot; rw [hk]
  have p0 : 0 < dl.w.num := hp dl List.mem_cons_self
  have d0 := den_pz dl.w
  have hpl : ∀ d ∈ l, Pos d := fun d hd => hp d (List.mem_cons_of_mem _ hd)
  rw [e1, e2] at hN
  have one : ∀ {c : Int}, 0 < c → Tp [c] 0 := fun h => ⟨h, fun i hi => co_over (by simp; omega)⟩
  have T := ndT (e := ([dl.w.num], [((dl.w.den : Nat) : Int)])) hb hpl (one p0) (one d0)
  have top : 0 < co (ndL l ([dl.w.num], [((dl.w.den : Nat) : Int)])).1 l.length + co (ndL l ([dl.w.num], [((dl.w.den : Nat) : Int)])).2 l.length ∧ ∀ i, l.length < i → co (ndL l ([dl.w.num], [((dl.w.den : Nat) : Int)])).1 i + co (ndL l ([dl.w.num], [((dl.w.den : Nat) : Int)])).2 i = 0 := by
    unfold NdT at T
    cases l with
    | nil =>
      have T' : Tp [dl.w.num] 0 ∧ Tp [((dl.w.den : Nat) : Int)] 0 := T
      refine ⟨?_, fun i hi => ?_⟩
      · show 0 < co [dl.w.num] 0 + co [((dl.w.den : Nat) : Int)] 0
        have := T'.1.1
        have := T'.2.1
        omega
      · show co [dl.w.num] i + co [((dl.w.den : Nat) : Int)] i = 0
        rw [T'.1.2 i hi, T'.2.2 i hi]; rfl
    | cons d l' =>
      dsimp only at T
      split at T
      · exact ⟨by have h1 := T.1.1; have h2 := T.2.2 (l'.length + 1) (by omega); rw [List.length_cons, h2]; omega, fun i hi => by rw [List.length_cons] at hi; rw [T.1.2 i hi, T.2.2 i (by omega)]; rfl⟩
      · exact ⟨by have h1 := T.2.1; have h2 := T.1.2 (l'.length + 1) (by omega); rw [List.length_cons, h2]; omega, fun i hi => by rw [List.length_cons] at hi; rw [T.2.2 i hi, T.1.2 i (by omega)]; rfl⟩
  have h0 : co left l.length ≠ 0 := fun z => by
    have := hN l.length
    rw [z, Int.mul_zero] at this
    have h2 := top.1
    exact Int.mul_ne_zero hm (by omega) this.symm
  have hlt : l.length < left.length := Decidable.byContradiction fun z => h0 (co_over (by omega))
  have hne : left ≠ [] := fun z => by rw [z] at hlt; simp at hlt
  have hle : left.length - 1 ≤ l.length := Decidable.byContradiction fun z => (hn.resolve_left hne) (by
    have h1 := hN (left.length - 1)
    rw [top.2 _ (by omega), Int.mul_zero] at h1
    exact (Int.mul_eq_zero.mp h1).resolve_left hg)
  have hl : left.length = l.length + 1 := by omega
  refine ⟨?_, hl⟩
  have hW := wpos_sc (sq_pos' hm) (lW_pos hb hpl p0 d0)
  refine left_pd (k := 2 * (g * g)) (by omega) (hn.resolve_left hne) (by have := sq_pos' hg; omega) (by rw [hl, Nat.add_sub_cancel]; exact hW) fun i j hij => ?_
  rw [swv_sc, odd_rel (fun x y => lW_ev hb x y) i j hij, co_add, co_add]
  have a := hN i
  have b := hN j
  have : 2 * (g * g) * (co left i * co left j) = 2 * (g * co left i) * (g * co left j) := by grind
  rw [this, a, b]; grind
theorem pj_dl : ∀ {l : List RungD}, Bt l → ∀ x, pj l x = Dl2 l
  | [], _, x => rfl
  | d :: l, hb, x => by
    simp only [pj, Dl2]
    rw [pj_dl hb.tl x]
    have t := hb.hd
    have : ∀ y, ev (fz d) y = dn d := fun y => by
      unfold fz
      rcases Bool.eq_false_or_eq_true d.s with hs | hs
      · rw [if_pos hs]; exact ((zt_ev t).1 hs).2 y
      · rw [if_neg (by rw [hs]; decide)]; exact ((zt_ev t).2 hs).1 y
    rw [this, this]
/-- left and echo of a ladder by turns -/
theorem turn_ec {l : List RungD} {dl : RungD} {echo left : List Int} (hb : Bt l) (hp : ∀ d ∈ dl :: l, Pos d) (hk : dl.k = .R) (hE : Ec l dl echo left) :
    ∃ g K : Int, g ≠ 0 ∧ 0 < K ∧ (∀ i, g * co left i = co (ndL l (zTop dl, zBot dl)).1 i + co (ndL l (zTop dl, zBot dl)).2 i) ∧ (∀ i, g * co echo i = co (ndL l (zTop dl, zBot dl)).1 i - co (ndL l (zTop dl, zBot dl)).2 i) ∧ ∀ x, ev left x * ev left (-x) - ev echo x * ev echo (-x) = K := by
  obtain ⟨w, g1, g2⟩ := can_div (t0 := addP (ndL l (zTop dl, zBot dl)).1 (smul (-1) (ndL l (zTop dl, zBot dl)).2)) (b0 := addP (ndL l (zTop dl, zBot dl)).1 (ndL l (zTop dl, zBot dl)).2) hE.1 fun x => by
    rw [ev_add, ev_add, ev_smul]
    have := hE.2 x
    rw [this]; grind
  have hE0 : ∀ x, ev (zTop dl) x * ev (zBot dl) (-x) + ev (zTop dl) (-x) * ev (zBot dl) x = 2 * (dl.w.num * ((dl.w.den : Nat) : Int)) := fun x => by
    unfold zTop zBot
    rw [hk]
    show ev [dl.w.num] x * ev [((dl.w.den : Nat) : Int)] (-x) + ev [dl.w.num] (-x) * ev [((dl.w.den : Nat) : Int)] x = _
    rw [ev1, ev1, ev1, ev1]; grind
  have hC : 0 < 4 * (dl.w.num * ((dl.w.den : Nat) : Int)) * Dl2 l := by
    have : 0 < dl.w.num := hp dl List.mem_cons_self
    have h1 := Int.mul_pos this (den_pz dl.w)
    exact Int.mul_pos (by omega) (Dl2_pos l)
  have key : ∀ x, 4 * (dl.w.num * ((dl.w.den : Nat) : Int)) * Dl2 l = ev w x * (ev w (-x) * (ev left x * ev left (-x) - ev echo x * ev echo (-x))) := fun x => by
    have r := nd_refl (e := (zTop dl, zBot dl)) l hb.lc x
    rw [pj_dl hb] at r
    have r' : ev (ndL l (zTop dl, zBot dl)).1 x * ev (ndL l (zTop dl, zBot dl)).2 (-x) + ev (ndL l (zTop dl, zBot dl)).1 (-x) * ev (ndL l (zTop dl, zBot dl)).2 x = 2 * (dl.w.num * ((dl.w.den : Nat) : Int)) * Dl2 l := by rw [r]; show (ev (zTop dl) x * ev (zBot dl) (-x) + ev (zTop dl) (-x) * ev (zBot dl) x) * Dl2 l = _; rw [hE0]
    have p1 := g1 x
    have p2 := g2 x
    have p3 := g1 (-x)
    have p4 := g2 (-x)
    rw [ev_add, ev_smul] at p1 p3
    rw [ev_add] at p2 p4
    generalize dl.w.num * ((dl.w.den : Nat) : Int) = k at *
    generalize Dl2 l = L at *
    generalize ev (ndL l (zTop dl, zBot dl)).1 (-x) = N' at *
    generalize ev (ndL l (zTop dl, zBot dl)).2 (-x) = D' at *
    generalize ev (ndL l (zTop dl, zBot dl)).1 x = N at *
    generalize ev (ndL l (zTop dl, zBot dl)).2 x = D at *
    generalize ev left (-x) = f' at *
    generalize ev left x = f at *
    generalize ev echo (-x) = e' at *
    generalize ev echo x = e at *
    generalize ev w (-x) = w' at *
    generalize ev w x = w at *
    have a1 : w * (w' * (f * f' - e * e')) = (f * w) * (f' * w') - (e * w) * (e' * w') := by grind
    rw [a1, ← p1, ← p2, ← p3, ← p4]
    have a2 : (N + D) * (N' + D') - (N + -1 * D) * (N' + -1 * D') = 2 * (N * D' + N' * D) := by grind
    rw [a2, r']; grind
  -- the factor is a number
  generalize 4 * (dl.w.num * ((dl.w.den : Nat) : Int)) * Dl2 l = C at hC key
  obtain ⟨l1, _⟩ := fac_sz (p := [C]) (q := trimZ w) (w := mulP (bk 1 w) (addP (mulP left (bk 1 left)) (smul (-1) (mulP echo (bk 1 echo))))) (n := 1) (H := C.natAbs) (by decide) (nm_trimZ w) (fun i => by
    cases i with
    | zero => exact Nat.le_refl _
    | succ i => rw [co_over (by simp)]; exact Nat.zero_le _) (by simp) (fun x => by
      rw [ev1, ev_trimZ, ev_mul, ev_bk', ev_add, ev_smul, ev_mul, ev_mul, ev_bk', ev_bk', key x]; grind) (by rw [ev1]; exact hC) (by omega)
  obtain ⟨g, hg⟩ : ∃ g, ∀ x, ev w x = g := by
    match h : trimZ w, l1 with
    | [], _ => exact ⟨0, fun x => by rw [← ev_trimZ, h]; rfl⟩
    | [c], _ => exact ⟨c, fun x => by rw [← ev_trimZ, h, ev1]⟩
    | a :: b :: r, l => simp at l
  have hg0 : g ≠ 0 := fun z => by
    have := key 0
    rw [hg, z, Int.zero_mul] at this
    omega
  have k2 : ∀ x, C = g * (g * (ev left x * ev left (-x) - ev echo x * ev echo (-x))) := fun x => by
    have := key x
    rwa [hg, hg] at this
  have hc : ∀ x, ev left x * ev left (-x) - ev echo x * ev echo (-x) = ev left 0 * ev left (-0) - ev echo 0 * ev echo (-0) := fun x => by
    have a := k2 x
    rw [k2 0] at a
    exact (Int.eq_of_mul_eq_mul_left hg0 (Int.eq_of_mul_eq_mul_left hg0 a)).symm
  refine ⟨g, ev left 0 * ev left (-0) - ev echo 0 * ev echo (-0), hg0, ?_, fun i => ?_, fun i => ?_, hc⟩
  · have a := k2 0
    have : g * (g * (ev left 0 * ev left (-0) - ev echo 0 * ev echo (-0))) = g * g * (ev left 0 * ev left (-0) - ev echo 0 * ev echo (-0)) := by grind
    rw [this] at a
    rw [a] at hC
    exact pos_of (sq_pos' hg0) hC
  · rw [← co_add, ← co_smul]
    exact ev_ext _ _ 0 (fun x _ => by rw [ev_smul, g2, hg]; grind) i
  · have : co (ndL l (zTop dl, zBot dl)).1 i - co (ndL l (zTop dl, zBot dl)).2 i = co (addP (ndL l (zTop dl, zBot dl)).1 (smul (-1) (ndL l (zTop dl, zBot dl)).2)) i := by rw [co_add, co_smul]; omega
    rw [this, ← co_smul]
    exact ev_ext _ _ 0 (fun x _ => by rw [ev_smul, g1, hg]; grind) i
end Coil

set_option Elab.async false
set_option linter.all false
set_option maxRecDepth 100000
set_option maxHeartbeats 4000000
namespace Coil
open PySem L2 Evl RT
def top (i : Nat) : Stmt := PySem.Challenge.pw_coilnets_k82_whole_filters_there_and_bac.main.body.getD i (.Pass ⟨0, 0, 0, 0⟩)
abbrev s_trimmed : Stmt := top 2
theorem sc_trimmed : FnScope ["coefficients", "many"] ["coefficients"] (defScope s_trimmed) := ⟨rfl, rfl, rfl, by decide +kernel, rfl, by decide +kernel, by decide +kernel⟩
abbrev s_coefficient_at : Stmt := top 3
theorem sc_coefficient_at : FnScope ["polynomial", "power"] ["polynomial", "power"] (defScope s_coefficient_at) := ⟨rfl, rfl, rfl, by decide +kernel, rfl, by decide +kernel, by decide +kernel⟩
abbrev s_poly_sum : Stmt := top 4
theorem sc_poly_sum : FnScope ["one", "other", "many", "at"] ["one", "other"] (defScope s_poly_sum) := ⟨rfl, rfl, rfl, by decide +kernel, rfl, by decide +kernel, by decide +kernel⟩
abbrev s_poly_times_number : Stmt := top 5
theorem sc_poly_times_number : FnScope ["polynomial", "number", "coefficient"] ["polynomial", "number"] (defScope s_poly_times_number) := ⟨rfl, rfl, rfl, by decide +kernel, rfl, by decide +kernel, by decide +kernel⟩
abbrev s_poly_difference : Stmt := top 6
theorem sc_poly_difference : FnScope ["one", "other"] ["one", "other"] (defScope s_poly_difference) := ⟨rfl, rfl, rfl, by decide +kernel, rfl, by decide +kernel, by decide +kernel⟩
abbrev s_poly_product : Stmt := top 7
theorem sc_poly_product : FnScope ["one", "other", "answer", "at", "left", "by", "right"] ["one", "other"] (defScope s_poly_product) := ⟨rfl, rfl, rfl, by decide +kernel, rfl, by decide +kernel, by decide +kernel⟩
abbrev s_backwards : Stmt := top 8
theorem sc_backwards : FnScope ["polynomial", "at", "coefficient"] ["polynomial"] (defScope s_backwards) := ⟨rfl, rfl, rfl, by decide +kernel, rfl, by decide +kernel, by decide +kernel⟩
abbrev s_times_variable : Stmt := top 9
theorem sc_times_variable : FnScope ["polynomial"] ["polynomial"] (defScope s_times_variable) := ⟨rfl, rfl, rfl, by decide +kernel, rfl, by decide +kernel, by decide +kernel⟩
abbrev s_content : Stmt := top 10
theorem sc_content : FnScope ["polynomial", "shared", "coefficient"] ["polynomial"] (defScope s_content) := ⟨rfl, rfl, rfl, by decide +kernel, rfl, by decide +kernel, by decide +kernel⟩
abbrev s_over_number : Stmt := top 11
theorem sc_over_number : FnScope ["polynomial", "number", "coefficient"] ["polynomial", "number"] (defScope s_over_number) := ⟨rfl, rfl, rfl, by decide +kernel, rfl, by decide +kernel, by decide +kernel⟩
abbrev s_primitive : Stmt := top 12
theorem sc_primitive : FnScope ["polynomial"] ["polynomial"] (defScope s_primitive) := ⟨rfl, rfl, rfl, by decide +kernel, rfl, by decide +kernel, by decide +kernel⟩
abbrev s_integer_value : Stmt := top 13
theorem sc_integer_value : FnScope ["polynomial", "number", "total", "coefficient"] ["polynomial", "number"] (defScope s_integer_value) := ⟨rfl, rfl, rfl, by decide +kernel, rfl, by decide +kernel, by decide +kernel⟩
abbrev s_exact_quotient : Stmt := top 14
theorem sc_exact_quotient : FnScope ["one", "other", "rest", "answer", "at", "by", "coefficient"] ["one", "other"] (defScope s_exact_quotient) := ⟨rfl, rfl, rfl, by decide +kernel, rfl, by decide +kernel, by decide +kernel⟩
abbrev s_common_divisor : Stmt := top 15
theorem sc_common_divisor : FnScope ["one", "other", "place", "shared", "found"] ["one", "other"] (defScope s_common_divisor) := ⟨rfl, rfl, rfl, by decide +kernel, rfl, by decide +kernel, by decide +kernel⟩
abbrev s_u_height : Stmt := top 16
theorem sc_u_height : FnScope ["polynomial", "coefficient"] ["polynomial"] (defScope s_u_height) := ⟨rfl, rfl, rfl, by decide +kernel, rfl, by decide +kernel, by decide +kernel⟩
abbrev s_u_digits : Stmt := top 17
theorem sc_u_digits : FnScope ["number", "base", "answer", "digit"] ["number", "base"] (defScope s_u_digits) := ⟨rfl, rfl, rfl, by decide +kernel, rfl, by decide +kernel, by decide +kernel⟩
abbrev s_ratio_of : Stmt := top 26
theorem sc_ratio_of : FnScope ["number", "under", "shared"] ["number", "under"] (defScope s_ratio_of) := ⟨rfl, rfl, rfl, by decide +kernel, rfl, by decide +kernel, by decide +kernel⟩
abbrev s_quotient : Stmt := top 29
theorem sc_quotient : FnScope ["top", "bottom", "shared", "number"] ["top", "bottom"] (defScope s_quotient) := ⟨rfl, rfl, rfl, by decide +kernel, rfl, by decide +kernel, by decide +kernel⟩
abbrev s_degree_of : Stmt := top 30
theorem sc_degree_of : FnScope ["one"] ["one"] (defScope s_degree_of) := ⟨rfl, rfl, rfl, by decide +kernel, rfl, by decide +kernel, by decide +kernel⟩
abbrev s_limited : Stmt := top 31
theorem sc_limited : FnScope ["one"] ["one"] (defScope s_limited) := ⟨rfl, rfl, rfl, by decide +kernel, rfl, by decide +kernel, by decide +kernel⟩
abbrev s_plus : Stmt := top 32
theorem sc_plus : FnScope ["one", "other", "top"] ["one", "other"] (defScope s_plus) := ⟨rfl, rfl, rfl, by decide +kernel, rfl, by decide +kernel, by decide +kernel⟩
abbrev s_inverse : Stmt := top 33
theorem sc_inverse : FnScope ["one"] ["one"] (defScope s_inverse) := ⟨rfl, rfl, rfl, by decide +kernel, rfl, by decide +kernel, by decide +kernel⟩
abbrev s_echo_function : Stmt := top 34
theorem sc_echo_function : FnScope ["one"] ["one"] (defScope s_echo_function) := ⟨rfl, rfl, rfl, by decide +kernel, rfl, by decide +kernel, by decide +kernel⟩
abbrev s_has_left_roots : Stmt := top 36
theorem sc_has_left_roots : FnScope ["polynomial", "falling", "coefficient"] ["polynomial"] (defScope s_has_left_roots) := ⟨rfl, rfl, rfl, by decide +kernel, rfl, by decide +kernel, by decide +kernel⟩
abbrev s_u_is_routh_positive : Stmt := top 37
theorem sc_u_is_routh_positive : FnScope ["upper", "lower", "padded", "below", "at"] ["upper", "lower"] (defScope s_u_is_routh_positive) := ⟨rfl, rfl, rfl, by decide +kernel, rfl, by decide +kernel, by decide +kernel⟩
abbrev s_u_with_small_numbers : Stmt := top 38
theorem sc_u_with_small_numbers : FnScope ["row", "shared", "number"] ["row"] (defScope s_u_with_small_numbers) := ⟨rfl, rfl, rfl, by decide +kernel, rfl, by decide +kernel, by decide +kernel⟩
abbrev s_size_on_axis : Stmt := top 40
theorem sc_size_on_axis : FnScope ["polynomial"] ["polynomial"] (defScope s_size_on_axis) := ⟨rfl, rfl, rfl, by decide +kernel, rfl, by decide +kernel, by decide +kernel⟩
abbrev s_is_integer : Stmt := top 44
theorem sc_is_integer : FnScope ["value"] ["value"] (defScope s_is_integer) := ⟨rfl, rfl, rfl, by decide +kernel, rfl, by decide +kernel, by decide +kernel⟩
abbrev s_u_is_limited_integer : Stmt := top 45
theorem sc_u_is_limited_integer : FnScope ["value"] ["value"] (defScope s_u_is_limited_integer) := ⟨rfl, rfl, rfl, by decide +kernel, rfl, by decide +kernel, by decide +kernel⟩
abbrev s_is_ratio : Stmt := top 46
theorem sc_is_ratio : FnScope ["value", "number", "under"] ["value"] (defScope s_is_ratio) := ⟨rfl, rfl, rfl, by decide +kernel, rfl, by decide +kernel, by decide +kernel⟩
abbrev s_is_positive_ratio : Stmt := top 47
theorem sc_is_positive_ratio : FnScope ["value"] ["value"] (defScope s_is_positive_ratio) := ⟨rfl, rfl, rfl, by decide +kernel, rfl, by decide +kernel, by decide +kernel⟩
abbrev s_is_polynomial : Stmt := top 48
theorem sc_is_polynomial : FnScope ["value", "coefficient"] ["value"] (defScope s_is_polynomial) := ⟨rfl, rfl, rfl, by decide +kernel, rfl, by decide +kernel, by decide +kernel⟩
abbrev s_check_polynomial : Stmt := top 49
theorem sc_check_polynomial : FnScope ["value"] ["value"] (defScope s_check_polynomial) := ⟨rfl, rfl, rfl, by decide +kernel, rfl, by decide +kernel, by decide +kernel⟩
abbrev s_impedance_of : Stmt := top 51
theorem sc_impedance_of : FnScope ["part", "kind", "worth", "number", "under"] ["part"] (defScope s_impedance_of) := ⟨rfl, rfl, rfl, by decide +kernel, rfl, by decide +kernel, by decide +kernel⟩
abbrev s_is_rung : Stmt := top 54
theorem sc_is_rung : FnScope ["value", "place", "kind", "worth"] ["value"] (defScope s_is_rung) := ⟨rfl, rfl, rfl, by decide +kernel, rfl, by decide +kernel, by decide +kernel⟩
abbrev s_check_ladder : Stmt := top 55
theorem sc_check_ladder : FnScope ["ladder", "index", "rung"] ["ladder"] (defScope s_check_ladder) := ⟨rfl, rfl, rfl, by decide +kernel, rfl, by decide +kernel, by decide +kernel⟩
abbrev s_rung_impedance : Stmt := top 56
theorem sc_rung_impedance : FnScope ["rung", "_", "kind", "worth"] ["rung"] (defScope s_rung_impedance) := ⟨rfl, rfl, rfl, by decide +kernel, rfl, by decide +kernel, by decide +kernel⟩
abbrev s_rungs_impedance : Stmt := top 57
theorem sc_rungs_impedance : FnScope ["ladder", "found", "rung", "ahead"] ["ladder"] (defScope s_rungs_impedance) := ⟨rfl, rfl, rfl, by decide +kernel, rfl, by decide +kernel, by decide +kernel⟩
abbrev s_far_rungs_with_resistor : Stmt := top 58
theorem sc_far_rungs_with_resistor : FnScope ["one", "place", "rungs", "top", "bottom"] ["one"] (defScope s_far_rungs_with_resistor) := ⟨rfl, rfl, rfl, by decide +kernel, rfl, by decide +kernel, by decide +kernel⟩
abbrev s_u_far_rungs_and_rest : Stmt := top 59
theorem sc_u_far_rungs_and_rest : FnScope ["one", "rungs", "top", "bottom"] ["one"] (defScope s_u_far_rungs_and_rest) := ⟨rfl, rfl, rfl, by decide +kernel, rfl, by decide +kernel, by decide +kernel⟩
abbrev s_u_without_far_pole : Stmt := top 60
theorem sc_u_without_far_pole : FnScope ["one", "other", "less", "under", "shared"] ["one", "other"] (defScope s_u_without_far_pole) := ⟨rfl, rfl, rfl, by decide +kernel, rfl, by decide +kernel, by decide +kernel⟩
abbrev s_gain_of : Stmt := top 62
theorem sc_gain_of : FnScope ["ladder", "size", "echo", "left"] ["ladder"] (defScope s_gain_of) := ⟨rfl, rfl, rfl, by decide +kernel, rfl, by decide +kernel, by decide +kernel⟩
abbrev s_echo_polys : Stmt := top 63
theorem sc_echo_polys : FnScope ["ladder", "echo", "left"] ["ladder"] (defScope s_echo_polys) := ⟨rfl, rfl, rfl, by decide +kernel, rfl, by decide +kernel, by decide +kernel⟩
abbrev s_filter_ladder : Stmt := top 64
theorem sc_filter_ladder : FnScope ["left", "echo", "gap"] ["left", "echo"] (defScope s_filter_ladder) := ⟨rfl, rfl, rfl, by decide +kernel, rfl, by decide +kernel, by decide +kernel⟩
abbrev s_u_check_filter : Stmt := top 65
theorem sc_u_check_filter : FnScope ["ladder", "kinds", "_", "kind"] ["ladder"] (defScope s_u_check_filter) := ⟨rfl, rfl, rfl, by decide +kernel, rfl, by decide +kernel, by decide +kernel⟩
abbrev s_function : Stmt := top 67
theorem sc_function : FnScope ["top", "bottom"] ["top", "bottom"] (defScope s_function) := ⟨rfl, rfl, rfl, by decide +kernel, rfl, by decide +kernel, by decide +kernel⟩
abbrev s_is_left : Stmt := top 69
theorem sc_is_left : FnScope ["polynomial"] ["polynomial"] (defScope s_is_left) := ⟨rfl, rfl, rfl, by decide +kernel, rfl, by decide +kernel, by decide +kernel⟩
abbrev s_u_check_not_zero : Stmt := top 70
theorem sc_u_check_not_zero : FnScope ["polynomial"] ["polynomial"] (defScope s_u_check_not_zero) := ⟨rfl, rfl, rfl, by decide +kernel, rfl, by decide +kernel, by decide +kernel⟩
abbrev s_u_law_taken : Stmt := top 72
theorem sc_u_law_taken : FnScope ["row", "many", "cell", "found"] ["row", "many"] (defScope s_u_law_taken) := ⟨rfl, rfl, rfl, by decide +kernel, rfl, by decide +kernel, by decide +kernel⟩
abbrev s_u_law_trim : Stmt := top 73
theorem sc_u_law_trim : FnScope ["some", "many", "turn"] ["some"] (defScope s_u_law_trim) := ⟨rfl, rfl, rfl, by decide +kernel, rfl, by decide +kernel, by decide +kernel⟩
abbrev s_u_law_times : Stmt := top 74
theorem sc_u_law_times : FnScope ["one", "other", "found", "at", "place"] ["one", "other"] (defScope s_u_law_times) := ⟨rfl, rfl, rfl, by decide +kernel, rfl, by decide +kernel, by decide +kernel⟩
abbrev s_u_law_plus : Stmt := top 75
theorem sc_u_law_plus : FnScope ["one", "other", "many", "first", "second", "at"] ["one", "other"] (defScope s_u_law_plus) := ⟨rfl, rfl, rfl, by decide +kernel, rfl, by decide +kernel, by decide +kernel⟩
abbrev s_u_law_shared : Stmt := top 76
theorem sc_u_law_shared : FnScope ["one", "other", "turn"] ["one", "other"] (defScope s_u_law_shared) := ⟨rfl, rfl, rfl, by decide +kernel, rfl, by decide +kernel, by decide +kernel⟩
abbrev s_u_law_ratio : Stmt := top 77
theorem sc_u_law_ratio : FnScope ["top", "bottom", "shared"] ["top", "bottom"] (defScope s_u_law_ratio) := ⟨rfl, rfl, rfl, by decide +kernel, rfl, by decide +kernel, by decide +kernel⟩
abbrev s_u_law_worth : Stmt := top 78
theorem sc_u_law_worth : FnScope ["row"] ["row"] (defScope s_u_law_worth) := ⟨rfl, rfl, rfl, by decide +kernel, rfl, by decide +kernel, by decide +kernel⟩
abbrev s_u_law_ladder : Stmt := top 79
theorem sc_u_law_ladder : FnScope ["row", "most", "series", "across", "at", "found", "turn", "place"] ["row", "most", "series", "across"] (defScope s_u_law_ladder) := ⟨rfl, rfl, rfl, by decide +kernel, rfl, by decide +kernel, by decide +kernel⟩
abbrev s_u_law_flip : Stmt := top 80
theorem sc_u_law_flip : FnScope ["one", "at"] ["one"] (defScope s_u_law_flip) := ⟨rfl, rfl, rfl, by decide +kernel, rfl, by decide +kernel, by decide +kernel⟩
abbrev s_u_law_gap : Stmt := top 81
theorem sc_u_law_gap : FnScope ["left", "echo", "other", "number"] ["left", "echo"] (defScope s_u_law_gap) := ⟨rfl, rfl, rfl, by decide +kernel, rfl, by decide +kernel, by decide +kernel⟩
abbrev s_law : Stmt := top 82
theorem sc_law : FnScope ["script", "row", "core", "place", "ladder", "gap", "told", "many", "whole", "square", "left", "echo", "more", "less", "at", "number"] ["script"] (defScope s_law) := ⟨rfl, rfl, rfl, by decide +kernel, rfl, by decide +kernel, by decide +kernel⟩
structure Txt (mg : Str → Option Value) (tL tM tD : Tok) : Prop where
  g_gcd : mg "gcd" = some (.builtin "math.gcd")
  g_LARGEST : mg "LARGEST" = some (.int 1000000000000000000000000000000000000000000000000000000000000 tL)
  g_MOST_COEFFICIENTS : mg "MOST_COEFFICIENTS" = some (.int 13 tM)
  g_MOST_DEGREE : mg "MOST_DEGREE" = some (.int 12 tD)
  g_MOST_RUNGS : ∃ t : Tok, mg "MOST_RUNGS" = some (.int 13 t)
  b_abs : mg "abs" = none
  b_all : mg "all" = none
  b_any : mg "any" = none
  b_bool : mg "bool" = none
  b_enumerate : mg "enumerate" = none
  b_int : mg "int" = none
  b_isinstance : mg "isinstance" = none
  b_len : mg "len" = none
  b_list : mg "list" = none
  b_max : mg "max" = none
  b_min : mg "min" = none
  b_range : mg "range" = none
  b_reversed : mg "reversed" = none
  b_tuple : mg "tuple" = none
section
variable {P : Program} {w : World} {K : PySem.W.Frag} {mg : Str → Option Value} {base : Heap} {tL tM tD : Tok}
/-! ### content, over_number, primitive -/
def spContent (K : PySem.W.Frag) : Sp := fun vs H Q _ => ∃ (a : Addr) (ns : List Int), vs = [.ref a] ∧ SqT K H a (ns.map V.int) ∧ Q (.int (gcdL ns)) H
theorem ok_content {f : Addr} {fd : FuncData} (F : Fun K "content" "content" s_content f fd) (T : Txt mg tL tM tD) : FnOk P w K mg base CX0 1 f fd ["polynomial"] (spContent K) := by
  refine F.ok sc_content (fun vs H Q E h => ?_) (fun cdv A outer s H vs Q E hr h => ?_)
  · obtain ⟨a, ns, rfl, _⟩ := h
    rfl
  · obtain ⟨a, ns, rfl, hS, k⟩ := h
    refine ⟨_, (pss_cons (ps_set (i := 1) sc_content.nd rfl (Or.inl rfl) pe_int)
  (pss_cons (ps_for PassesOwn.never rfl (pi_tup (pv 0)) (pg_name (i := 2) sc_content.nd rfl (Or.inl rfl)) (pss_one (ps_set (i := 1) sc_content.nd rfl (Or.inl rfl) (pe_callBfun cr_gcd (by rfl) T.g_gcd (pa_cons (pv 1) (pa_cons (pv 2) pa_nil))))))
  (pss_one (ps_ret (pv 1))))), ?_⟩
    refine ⟨_, rfl, a, rfl, ⟨_, hS⟩, for_tup (K := K) (a := a) (xs := ns.map V.int) (fun i σ H' => H' = H ∧ ∃ v : Option V, σ = [some (.ref a), some (.int (gcdL (ns.take i))), v]) ⟨rfl, none, rfl⟩ (fun i σ H' _ p => by rw [p.1]; exact hS) ?_ ?_⟩
    · rintro i x σ H' hi ⟨rfl, v, rfl⟩
      obtain ⟨n, hn, rfl⟩ := map_int_get hi
      refine ⟨_, rfl, _, rfl, _, _, rfl, ?_⟩
      exact ⟨rfl, _, by rw [gcdL_take hn]; rfl⟩
    · rintro σ H' ⟨rfl, v, rfl⟩
      refine ⟨_, rfl, ?_⟩
      rw [List.length_map, List.take_length]
      exact k
def spOver (K : PySem.W.Frag) : Sp := fun vs H Q _ => ∃ (a : Addr) (ns : List Int) (n : Int), vs = [.ref a, .int n] ∧ SqT K H a (ns.map V.int) ∧ ns.length ≤ 900 ∧ (∀ c, ns ≠ [] → CDivN c n) ∧ ∀ p H', H p = none → Ex H H' → H' p = some (.tup ((overL ns n).map V.int)) → Q (.ref p) H'
theorem ok_over {f : Addr} {fd : FuncData} (F : Fun K "over_number" "over_number" s_over_number f fd) (T : Txt mg tL tM tD) : FnOk P w K mg base CX0 1 f fd ["polynomial", "number"] (spOver K) := by
  refine F.ok sc_over_number (fun vs H Q E h => ?_) (fun cdv A outer s H vs Q E hr h => ?_)
  · obtain ⟨a, ns, n, rfl, _⟩ := h
    rfl
  · obtain ⟨a, ns, n, rfl, hS, hlen, hd, k⟩ := h
    refine ⟨_, (pss_one (ps_ret (pe_callTy call_tuple_of (by rfl) T.b_tuple (by decide +kernel) (pa_cons (pe_lc (own := [("coefficient", 2)]) (g := gName 2) (tt := tYes) rfl sc_over_number.nd (pi_tup (pv 0)) (blkOk_by (own := [("coefficient", 2)]) (N := ["polynomial", "number", "coefficient"]) (sc := defScope s_over_number) (by decide +kernel)) (fun _ _ _ _ _ => pg_name (i := 2) sc_over_number.nd rfl (Or.inl rfl)) (fun _ _ _ _ _ => pts_nil) (fun _ _ _ _ _ => (pe_op op_fdivN (pv 2) (pv 1)))) pa_nil)))), ?_⟩
    refine ⟨_, rfl, a, rfl, ⟨_, hS⟩, fun D hD => lc_tup (K := K) (a := a) (xs := ns.map V.int) (fun i H' => Ex H H' ∧ H' D = some (.lst ((overL (ns.take i) n).map V.int))) ⟨Ex.new hD, upd_same⟩ (fun i H' _ p => ex_t p.1 hS) ?_ ?_⟩
    · rintro i x H' hi ⟨e, hl⟩
      obtain ⟨c, hc, rfl⟩ := map_int_get hi
      have hil := (List.getElem?_eq_some_iff.mp hc).1
      refine ⟨rfl, _, rfl, _, rfl, _, _, rfl, rfl, hd c (fun z => by rw [z] at hil; simp at hil), _, hl, ?_, Ex.mut e hD, ?_⟩
      · simp only [overL, List.length_map, List.length_take]
        exact line_of (by omega)
      · rw [upd_same]
        simp only [overL]
        rw [List.take_add_one, hc]
        simp
    · rintro H' ⟨e, hl⟩
      rw [List.length_map, List.take_length] at hl
      refine ⟨D, _, rfl, .inl ⟨SqL.of hl, fun l hl2 => ?_⟩⟩
      exact k l _ (fresh_back e hl2) (e.trans (Ex.new hl2)) upd_same
theorem overL_ppart (ns : List Int) : overL ns (gcdL ns) = ppart ns := by
  unfold overL ppart sdiv
  refine List.map_congr_left fun c _ => ?_
  exact Int.fdiv_eq_ediv_of_nonneg c (gcdL_nonneg ns)
def spPrimitive (K : PySem.W.Frag) : Sp := fun vs H Q _ => ∃ (a : Addr) (ns : List Int), vs = [.ref a] ∧ SqT K H a (ns.map V.int) ∧ ns.length ≤ 900 ∧ (ns = [] ∨ (gcdL ns ≠ 0 ∧ (gcdL ns).natAbs < 2 ^ 9000)) ∧ ∀ p H', H p = none → Ex H H' → H' p = some (.tup ((ppart ns).map V.int)) → Q (.ref p) H'
theorem ok_primitive {f : Addr} {fd : FuncData} (F : Fun K "primitive" "primitive" s_primitive f fd) (T : Txt mg tL tM tD) (d_over_number : Def P w K mg base "over_number" 1 ["polynomial", "number"] (spOver K))
    (d_content : Def P w K mg base "content" 1 ["polynomial"] (spContent K)) : FnOk P w K mg base CX0 2 f fd ["polynomial"] (spPrimitive K) := by
  refine F.ok sc_primitive (fun vs H Q E h => ?_) (fun cdv A outer s H vs Q E hr h => ?_)
  · obtain ⟨a, ns, rfl, _⟩ := h
    rfl
  · obtain ⟨a, ns, rfl, hS, hlen, hg, k⟩ := h
    refine ⟨_, (pss_one (ps_ret (pe_callD d_over_number (hr.mono (by decide)) (pa_cons (pv 0) (pa_cons (pe_callD d_content (hr.mono (by decide)) (pa_cons (pv 0) pa_nil)) pa_nil))))), ?_⟩
    refine ⟨_, rfl, _, rfl, a, ns, rfl, hS, a, ns, _, rfl, hS, hlen, fun c hne => ?_, fun p H' hp e h => ?_⟩
    · rcases hg with z | z
      · exact absurd z hne
      · exact divN z.1 z.2 (by decide) (by decide)
    · exact k p H' hp e (by rw [h, overL_ppart])
end
end Coil

set_option Elab.async false
set_option linter.all false
set_option maxRecDepth 100000
set_option maxHeartbeats 4000000
namespace Coil
open PySem L2 Evl RT
/-- the value of the last i coefficients, by Horner -/
def hor (ns : List Int) (z : Int) (i : Nat) : Int := ev (ns.drop (ns.length - i)) z
theorem hor_succ {ns : List Int} {z : Int} {i : Nat} (h : i < ns.length) {n : Int} (hn : ns[ns.length - 1 - i]? = some n) : hor ns z (i + 1) = hor ns z i * z + n := by
  unfold hor
  have hl : ns.length - 1 - i < ns.length := by omega
  rw [List.getElem?_eq_getElem hl] at hn
  have : ns.drop (ns.length - (i + 1)) = n :: ns.drop (ns.length - i) := by
    rw [show ns.length - (i + 1) = ns.length - 1 - i by omega, List.drop_eq_getElem_cons hl, Option.some.inj hn, show ns.length - 1 - i + 1 = ns.length - i by omega]
  rw [this]
  simp only [ev]
  rw [Int.mul_comm]; omega
theorem ev_size {c d : Nat} {z : Int} (hz : z.natAbs < 2 ^ d) : ∀ p : List Int, BdA (2 ^ c) p → (ev p z).natAbs < 2 ^ (c + 1 + (d + 1) * p.length)
  | [], _ => by simp [ev]; exact Nat.pow_pos (by decide)
  | n :: p, h => by
    have ih := ev_size hz p fun x hx => h x (List.mem_cons_of_mem _ hx)
    have hn := h n List.mem_cons_self
    simp only [ev, List.length_cons]
    have h1 := Int.natAbs_add_le n (z * ev p z)
    rw [Int.natAbs_mul] at h1
    have h2 : z.natAbs * (ev p z).natAbs ≤ 2 ^ d * 2 ^ (c + 1 + (d + 1) * p.length) := Nat.mul_le_mul (Nat.le_of_lt hz) (Nat.le_of_lt ih)
    rw [← Nat.pow_add] at h2
    have h3 : (2 : Nat) ^ c ≤ 2 ^ (d + (c + 1 + (d + 1) * p.length)) := Nat.pow_le_pow_right (by decide) (by omega)
    have h4 : (2 : Nat) ^ (c + 1 + (d + 1) * (p.length + 1)) = 2 * 2 ^ (d + (c + 1 + (d + 1) * p.length)) := by
      rw [← Nat.pow_succ']
      congr 1
      rw [Nat.mul_add, Nat.mul_one]; omega
    have h5 : 0 < (2 : Nat) ^ (d + (c + 1 + (d + 1) * p.length)) := Nat.pow_pos (by decide)
    rw [h4]
    by_cases h6 : n.natAbs + z.natAbs * (ev p z).natAbs < 2 * 2 ^ (d + (c + 1 + (d + 1) * p.length))
    · omega
    · -- only where both are as great as can be
      have h7 : (ev p z).natAbs + 1 ≤ 2 ^ (c + 1 + (d + 1) * p.length) := ih
      have h8 : z.natAbs * (ev p z).natAbs < 2 ^ (d + (c + 1 + (d + 1) * p.length)) := by
        rw [Nat.pow_add]
        exact Nat.mul_lt_mul'' hz ih
      omega
section
variable {P : Program} {w : World} {K : PySem.W.Frag} {mg : Str → Option Value} {base : Heap} {tL tM tD : Tok}
def spIntVal (K : PySem.W.Frag) : Sp := fun vs H Q _ => ∃ (a : Addr) (ns : List Int) (z : Int) (c d : Nat), vs = [.ref a, .int z] ∧ SqT K H a (ns.map V.int) ∧ BdA (2 ^ c) ns ∧ z.natAbs < 2 ^ d ∧ c + (d + 1) * (ns.length + 1) < 990000 ∧ Q (.int (ev ns z)) H
theorem ok_integer_value {f : Addr} {fd : FuncData} (F : Fun K "integer_value" "integer_value" s_integer_value f fd) (T : Txt mg tL tM tD) : FnOk P w K mg base CX0 1 f fd ["polynomial", "number"] (spIntVal K) := by
  refine F.ok sc_integer_value (fun vs H Q E h => ?_) (fun cdv A outer s H vs Q E hr h => ?_)
  · obtain ⟨a, ns, z, c, d, rfl, _⟩ := h
    rfl
  · obtain ⟨a, ns, z, c, d, rfl, hS, hc, hd, hs, k⟩ := h
    refine ⟨_, (pss_cons (ps_set (i := 2) sc_integer_value.nd rfl (Or.inl rfl) pe_int)
  (pss_cons (ps_for PassesOwn.never rfl (pi_revA (by rfl) T.b_reversed (pv 0)) (pg_name (i := 3) sc_integer_value.nd rfl (Or.inl rfl)) (pss_one (ps_set (i := 2) sc_integer_value.nd rfl (Or.inl rfl) (pe_op op_add (pe_op op_mulW (pv 2) (pv 1)) (pv 3)))))
  (pss_one (ps_ret (pv 2))))), ?_⟩
    refine ⟨_, rfl, a, _, rfl, .inr ⟨hS, ?_⟩⟩
    refine for_it (walk_revT (xs := ns.map V.int)) (fun i σ H' => H' = H ∧ ∃ v : Option V, σ = [some (.ref a), some (.int z), some (.int (hor ns z i)), v]) ⟨rfl, none, by rw [show hor ns z 0 = 0 by simp [hor, ev]]; rfl⟩ (fun i σ H' _ p => by rw [p.1]; exact hS) ?_ ?_
    · rintro i x σ H1 H2 hi ⟨rfl, v, rfl⟩ ⟨rfl, hx⟩
      rw [List.length_map] at hi hx
      obtain ⟨n, hn, rfl⟩ := map_int_get hx
      refine ⟨_, rfl, _, rfl, _, _, rfl, rfl, ?_, _, rfl, _, _, rfl, rfl, ?_⟩
      · have h1 := ev_size (z := z) hd (ns.drop (ns.length - i)) (fun x hx => hc x (List.mem_of_mem_drop hx))
        have hle : (ns.drop (ns.length - i)).length = i := by rw [List.length_drop]; omega
        rw [hle] at h1
        have h2 : (d + 1) * i + (d + 1) ≤ (d + 1) * (ns.length + 1) := by
          rw [← Nat.mul_succ]
          exact Nat.mul_le_mul_left _ (by omega)
        exact wide_mul (b := d + 1) h1 (Nat.lt_of_lt_of_le hd (Nat.pow_le_pow_right (by decide) (by omega))) (by omega) (by omega) (by omega)
      · exact ⟨rfl, _, by rw [hor_succ hi hn]; rfl⟩
    · rintro σ H' ⟨rfl, v, rfl⟩
      refine ⟨_, rfl, ?_⟩
      rw [List.length_map]
      have : hor ns z ns.length = ev ns z := by simp [hor]
      rw [this]
      exact k
end
end Coil

set_option Elab.async false
set_option linter.all false
set_option maxRecDepth 100000
set_option maxHeartbeats 4000000
namespace Coil
open PySem L2 Evl RT
theorem nm_eq {p q : List Int} (hp : Nm p) (hq : Nm q) (e : ∀ i, co p i = co q i) : p = q := co_ext (nm_len hp hq e) e
theorem take_trimZ {ns : List Int} {m : Nat} (hm : m ≤ ns.length) (h0 : ∀ i, m ≤ i → co ns i = 0) (h1 : m = 0 ∨ co ns (m - 1) ≠ 0) : ns.take m = trimZ ns := by
  have ct : ∀ i, co (ns.take m) i = co ns i := fun i => by
    by_cases h : i < m
    · exact co_take h
    · rw [co_over (by rw [List.length_take]; omega), h0 i (by omega)]
  refine nm_eq ?_ (nm_trimZ ns) fun i => by rw [ct, co_trimZ]
  rcases h1 with z | z
  · left; rw [z]; rfl
  · by_cases hz : m = 0
    · left; rw [hz]; rfl
    · right
      rw [List.length_take, Nat.min_eq_left hm, ct]; exact z
theorem digs_half {z n : Int} (hz : 4 ≤ z) (hn : 0 ≤ n) : 2 * ((n - bdig z n) / z) ≤ n := by
  have h1 := Int.emod_nonneg n (show z ≠ 0 by omega)
  have h3 := Int.emod_add_mul_ediv n z
  have hq : 0 ≤ n / z := Int.ediv_nonneg (by omega) (by omega)
  have hqz : 4 * (n / z) ≤ z * (n / z) := Int.mul_le_mul_of_nonneg_right hz hq
  by_cases h : 2 * (n % z) > z
  · have e : (n - bdig z n) / z = n / z + 1 := by
      have : n - bdig z n = (n / z + 1) * z := by
        simp only [bdig, if_pos h]
        rw [Int.add_mul, Int.one_mul, Int.mul_comm (n / z) z]; omega
      rw [this, Int.mul_ediv_cancel _ (show z ≠ 0 by omega)]
    rw [e]; omega
  · have e : (n - bdig z n) / z = n / z := by
      have : n - bdig z n = (n / z) * z := by
        simp only [bdig, if_neg h]
        rw [Int.mul_comm (n / z) z]; omega
      rw [this, Int.mul_ediv_cancel _ (show z ≠ 0 by omega)]
    rw [e]; omega
section
variable {P : Program} {w : World} {K : PySem.W.Frag} {mg : Str → Option Value} {base : Heap} {tL tM tD : Tok}
/-! ### trimmed -/
def spTrimmed (K : PySem.W.Frag) : Sp := fun vs H Q _ => ∃ (a : Addr) (ns : List Int), vs = [.ref a] ∧ SqL K H a (ns.map V.int) ∧ ∀ p H', H p = none → Ex H H' → H' p = some (.tup ((trimZ ns).map V.int)) → Q (.ref p) H'
theorem ok_trimmed {f : Addr} {fd : FuncData} (F : Fun K "trimmed" "trimmed" s_trimmed f fd) (T : Txt mg tL tM tD) : FnOk P w K mg base CX0 1 f fd ["coefficients"] (spTrimmed K) := by
  refine F.ok sc_trimmed (fun vs H Q E h => ?_) (fun cdv A outer s H vs Q E hr h => ?_)
  · obtain ⟨a, ns, rfl, _⟩ := h
    rfl
  · obtain ⟨a, ns, rfl, hS, k⟩ := h
    refine ⟨_, (pss_cons (ps_set (i := 1) sc_trimmed.nd rfl (Or.inl rfl) (pe_callB (r := Evl.rLenS K) call_len_seq (by rfl) T.b_len (by decide +kernel) (pa_cons (pv 0) pa_nil)))
  (pss_cons (ps_while PassesOwn.never (PW.pt (pw_and (pt_cmpR op_gt (pv 1) pe_int (nomark _)) (pw_and1 (pt_cmpR op_eq (pe_ix (r := rIxL K) ix_list (pv 0) (pe_op op_sub (pv 1) pe_int) (fun _ _ => rfl)) pe_int (nomark _))))) (pss_one (ps_aug (i := 1) sc_trimmed.nd rfl (Or.inl rfl) pe_int ip_sub)))
  (pss_one (ps_ret (pe_callTy call_tuple_of (by rfl) T.b_tuple (by decide +kernel) (pa_cons (pe_slice (r := rSlL K) sl_list (pv 0) po_none (po_some (pv 1))) pa_nil)))))), ?_⟩
    refine ⟨_, rfl, a, _, rfl, .inl hS, ?_⟩
    rw [List.length_map]
    refine ⟨fun m σ H' => H' = H ∧ σ = [some (.ref a), some (.int (m : Int))] ∧ m ≤ ns.length ∧ ∀ i, m ≤ i → co ns i = 0, ⟨ns.length, rfl, rfl, Nat.le_refl _, fun i hi => co_over hi⟩, ?_⟩
    rintro m σ H1 ⟨rfl, rfl, hm, h0⟩
    refine ⟨_, rfl, _, _, rfl, rfl, _, rfl, ?_⟩
    by_cases hz : 0 < m
    · rw [decide_eq_true (by omega : (0 : Int) < (m : Int))]
      refine iteT ?_
      have ej : (m : Int) - 1 = ((m - 1 : Nat) : Int) := by omega
      refine ⟨_, rfl, _, rfl, _, _, rfl, rfl, a, _, _, _, rfl, rfl, hS, (by rw [ej]; exact at_map (by omega)), rfl, _, rfl, ?_⟩
      refine ite2 (fun q => ?_) (fun q => ?_)
      · have hz0 : co ns (m - 1) = 0 := V.int.inj (of_decide_eq_true q)
        refine ⟨fun σ' H' => H' = H1 ∧ σ' = [some (.ref a), some (.int ((m - 1 : Nat) : Int))], fun σ' H' ⟨h1, h2⟩ => ⟨m - 1, by omega, h1, h2, by omega, fun i hi => ?_⟩, ?_⟩
        · by_cases him : i = m - 1
          · rw [him]; exact hz0
          · exact h0 i (by omega)
        · refine ⟨_, rfl, _, _, rfl, rfl, ?_⟩
          refine ⟨rfl, ?_⟩
          show [some (V.ref a), some (V.int ((m : Int) - 1))] = _
          rw [ej]
      · have h1 : m = 0 ∨ co ns (m - 1) ≠ 0 := (.inr fun z => q (decide_eq_true (by rw [show ns.getD (m - 1) 0 = 0 from z])))
        refine ⟨_, rfl, _, rfl, _, rfl, a, _, rfl, hS, fun p hp => ?_⟩
        have ec : cutV (ns.map V.int) none (some ((m : Nat) : Int)) = (trimZ ns).map V.int := by
          unfold cutV
          rw [HT.sIx_none, HT.sIx_nat, List.length_map, List.drop_zero, Nat.sub_zero, Nat.min_eq_left hm, ← List.map_take, take_trimZ hm h0 h1]
        rw [ec]
        have x1 : Ex H1 (upd H1 p (.lst ((trimZ ns).map V.int))) := Ex.new hp
        refine ⟨p, _, rfl, .inl ⟨SqL.of upd_same, fun l hl => ?_⟩⟩
        exact k l _ (fresh_back x1 hl) (x1.trans (Ex.new hl)) upd_same
    · rw [decide_eq_false (by omega : ¬ (0 : Int) < (m : Int))]
      refine iteF (iteF ?_)
      have h1 : m = 0 ∨ co ns (m - 1) ≠ 0 := (.inl (by omega))
      refine ⟨_, rfl, _, rfl, _, rfl, a, _, rfl, hS, fun p hp => ?_⟩
      have ec : cutV (ns.map V.int) none (some ((m : Nat) : Int)) = (trimZ ns).map V.int := by
        unfold cutV
        rw [HT.sIx_none, HT.sIx_nat, List.length_map, List.drop_zero, Nat.sub_zero, Nat.min_eq_left hm, ← List.map_take, take_trimZ hm h0 h1]
      rw [ec]
      have x1 : Ex H1 (upd H1 p (.lst ((trimZ ns).map V.int))) := Ex.new hp
      refine ⟨p, _, rfl, .inl ⟨SqL.of upd_same, fun l hl => ?_⟩⟩
      exact k l _ (fresh_back x1 hl) (x1.trans (Ex.new hl)) upd_same
/-! ### height -/
def spHeight (K : PySem.W.Frag) : Sp := fun vs H Q _ => ∃ (a : Addr) (ns : List Int), vs = [.ref a] ∧ SqT K H a (ns.map V.int) ∧ ns ≠ [] ∧ ns.length ≤ 900 ∧ ∀ (m : Nat) H', Ex H H' → (∀ i, (co ns i).natAbs ≤ m) → (∃ n ∈ ns, n.natAbs = m) → Q (.int m) H'
theorem ok_height {f : Addr} {fd : FuncData} (F : Fun K "_height" "_height" s_u_height f fd) (T : Txt mg tL tM tD) : FnOk P w K mg base CX0 1 f fd ["polynomial"] (spHeight K) := by
  refine F.ok sc_u_height (fun vs H Q E h => ?_) (fun cdv A outer s H vs Q E hr h => ?_)
  · obtain ⟨a, ns, rfl, _⟩ := h
    rfl
  · obtain ⟨a, ns, rfl, hS, hne, hlen, k⟩ := h
    refine ⟨_, (pss_one (ps_ret (pe_callB (r := rMax K) (cr_max rfl) (by rfl) T.b_max (by decide +kernel) (pa_cons (pe_lc (own := [("coefficient", 1)]) (g := gName 1) (tt := tYes) rfl sc_u_height.nd (pi_tup (pv 0)) (blkOk_by (own := [("coefficient", 1)]) (N := ["polynomial", "coefficient"]) (sc := defScope s_u_height) (by decide +kernel)) (fun _ _ _ _ _ => pg_name (i := 1) sc_u_height.nd rfl (Or.inl rfl)) (fun _ _ _ _ _ => pts_nil) (fun _ _ _ _ _ => (pe_callB call_abs (by rfl) T.b_abs (by decide +kernel) (pa_cons (pv 1) pa_nil)))) pa_nil)))), ?_⟩
    refine ⟨_, rfl, a, rfl, ⟨_, hS⟩, fun D hD => lc_tup (K := K) (a := a) (xs := ns.map V.int) (fun i H' => Ex H H' ∧ H' D = some (.lst (((ns.take i).map fun n => if n < 0 then -n else n).map V.int))) ⟨Ex.new hD, upd_same⟩ (fun i H' _ p => ex_t p.1 hS) ?_ ?_⟩
    · rintro i x H' hi ⟨e, hl⟩
      obtain ⟨n, hn, rfl⟩ := map_int_get hi
      have hil := (List.getElem?_eq_some_iff.mp hn).1
      refine ⟨rfl, _, rfl, n, rfl, _, hl, ?_, Ex.mut e hD, ?_⟩
      · simp only [List.length_map, List.length_take]
        exact line_of (by omega)
      · rw [upd_same, List.take_add_one, hn]
        simp
    · rintro H' ⟨e, hl⟩
      rw [List.length_map, List.take_length] at hl
      refine ⟨D, _, rfl, SqL.of hl, ?_, fun m hm hmx => ?_⟩
      · rw [List.length_map]; exact List.length_pos_iff.mpr hne
      · obtain ⟨n, hn, en⟩ := List.mem_map.mp hm
        have e1 : m = ((n.natAbs : Nat) : Int) := by rw [← en]; split <;> omega
        rw [e1]
        refine k _ _ e (fun i => ?_) ⟨n, hn, rfl⟩
        by_cases hi : i < ns.length
        · have h2 := hmx _ (List.mem_map.mpr ⟨ns[i], List.getElem_mem hi, rfl⟩)
          have e2 : co ns i = ns[i] := by unfold co; rw [List.getD_eq_getElem?_getD, List.getElem?_eq_getElem hi]; rfl
          rw [e2]
          split at h2 <;> omega
        · rw [co_over (by omega)]; simp
/-! ### digits -/
def spDigits : Sp := fun vs H Q _ => ∃ (n z : Int) (c : Nat), vs = [.int n, .int z] ∧ 0 ≤ n ∧ 4 ≤ z ∧ z.natAbs < 2 ^ 9000 ∧ n.natAbs < 2 ^ c ∧ c ≤ 900000 ∧ ∀ p H', H p = none → Ex H H' → H' p = some (.tup ((digs z n).map V.int)) → Q (.ref p) H'
theorem ok_digits {f : Addr} {fd : FuncData} (F : Fun K "_digits" "_digits" s_u_digits f fd) (T : Txt mg tL tM tD) : FnOk P w K mg base CX0 1 f fd ["number", "base"] spDigits := by
  refine F.ok sc_u_digits (fun vs H Q E h => ?_) (fun cdv A outer s H vs Q E hr h => ?_)
  · obtain ⟨n, z, c, rfl, _⟩ := h
    rfl
  · obtain ⟨n0, z, c, rfl, hn0, hz, hz9, hc, hc9, k⟩ := h
    refine ⟨_, (pss_cons (ps_set (i := 2) sc_u_digits.nd rfl (Or.inl rfl) (pe_lst pa_nil))
  (pss_cons (ps_while PassesOwn.never (pt_cmpR op_ne (pv 0) pe_int (nomark _)) (pss_cons (ps_set (i := 3) sc_u_digits.nd rfl (Or.inl rfl) (pe_op op_mod (pv 0) (pv 1)))
  (pss_cons (ps_if (pt_cmpR op_gt (pe_op op_mulW pe_int (pv 3)) (pv 1) (nomark _)) (pss_one (ps_aug (i := 3) sc_u_digits.nd rfl (Or.inl rfl) (pv 1) ip_sub)) pss_nil)
  (pss_cons (ps_expr (pe_bm PySem.F.plainAttrs_list PySem.F.slot_list_append PySem.F.type_list_append mt_append (pv 2) (pa_cons (pv 3) pa_nil)))
  (pss_one (ps_set (i := 0) sc_u_digits.nd rfl (Or.inl rfl) (pe_op op_fdivW (pe_op op_sub (pv 0) (pv 3)) (pv 1))))))))
  (pss_one (ps_ret (pe_callTy call_tuple_of (by rfl) T.b_tuple (by decide +kernel) (pa_cons (pv 2) pa_nil)))))), ?_⟩
    refine ⟨Nat.zero_le _, fun D hD => ?_⟩
    refine ⟨fun m σ H' => ∃ (n : Int) (acc : List Int) (v : Option V), σ = [some (.int n), some (.int z), some (.ref D), v] ∧ Ex H H' ∧ H' D = some (.lst (acc.map V.int)) ∧ 0 ≤ n ∧ n < m ∧ acc ++ digF z m n = digs z n0 ∧ n.natAbs * 2 ^ acc.length ≤ n0.natAbs,
      ⟨n0.toNat + 1, n0, [], none, rfl, Ex.new hD, upd_same, hn0, by omega, rfl, by simp⟩, ?_⟩
    rintro m σ H1 ⟨n, acc, v, rfl, e1, hD1, hn, hm, hd, hb⟩
    refine ⟨_, rfl, rfl, _, rfl, ?_⟩
    cases m with
    | zero => omega
    | succ m =>
    by_cases h0 : n = 0
    · subst h0
      rw [show (!decide (V.int 0 = V.int 0)) = false by decide]
      refine iteF ?_
      have hd' : acc = digs z n0 := by rw [← hd]; simp [digF]
      refine ⟨_, rfl, D, _, rfl, .inl ⟨SqL.of hD1, fun l hl => ?_⟩⟩
      exact k l _ (fresh_back e1 hl) (e1.trans (Ex.new hl)) (by rw [upd_same, hd'])
    · rw [decide_eq_false (fun q => h0 (V.int.inj q))]
      refine iteT ?_
      have hd2 : digF z (m + 1) n = bdig z n :: digF z m ((n - bdig z n) / z) := by simp only [digF]; rw [if_neg h0]
      have hl := bdig_less (z := z) (by omega) (show 0 < n by omega)
      have hh := digs_half hz hn
      have hacc : acc.length < 900000 := by
        have h1 : 2 ^ acc.length ≤ n.natAbs * 2 ^ acc.length := Nat.le_mul_of_pos_left _ (by omega)
        have h2 : 2 ^ acc.length < 2 ^ c := by omega
        have := (Nat.pow_lt_pow_iff_right (by decide : 1 < 2)).mp h2
        omega
      refine ⟨fun σ' H' => ∃ v', σ' = [some (.int ((n - bdig z n) / z)), some (.int z), some (.ref D), v'] ∧ Ex H H' ∧ H' D = some (.lst ((acc ++ [bdig z n]).map V.int)), fun σ' H' ⟨v', h1, h2, h3⟩ => ⟨m, by omega, _, acc ++ [bdig z n], v', h1, h2, h3, hl.1, by omega, ?_, ?_⟩, ?_⟩
      · rw [← hd, hd2, List.append_assoc]; rfl
      · rw [List.length_append, List.length_singleton, Nat.pow_succ, Nat.mul_comm (2 ^ acc.length) 2, ← Nat.mul_assoc]
        exact Nat.le_trans (Nat.mul_le_mul_right _ (by omega)) hb
      · have hem := Int.emod_lt_of_pos n (show 0 < z by omega)
        have hem0 := Int.emod_nonneg n (show z ≠ 0 by omega)
        have zd : CDivW (n - bdig z n) z := wide_div (b := 9000) (by omega) hz9 (by decide) (by decide)
        have zm : CMulW 2 (n % z) := wide_mul (a := 3) (b := 9000) (by decide) (by omega) (by decide) (by decide) (by decide)
        refine ⟨_, rfl, _, rfl, _, _, rfl, rfl, (by show 0 < z; omega), ?_⟩
        refine ⟨_, rfl, _, _, rfl, rfl, zm, _, rfl, _, _, rfl, rfl, _, rfl, ?_⟩
        refine ite2 (fun q => ?_) (fun q => ?_)
        · have e : n % z - z = bdig z n := by simp only [bdig]; rw [if_pos (of_decide_eq_true q)]
          refine ⟨_, rfl, _, rfl, _, _, rfl, rfl, ?_⟩
          refine ⟨_, rfl, (.inl ⟨rfl, _, SqL.of hD1⟩), _, rfl, D, _, _, rfl, rfl, hD1, (by rw [List.length_map]; exact Nat.lt_of_lt_of_le hacc (by decide)), ?_⟩
          refine ⟨_, rfl, _, rfl, _, _, rfl, rfl, _, rfl, _, _, rfl, rfl, (by show CDivW (n - (n % z - z)) z; rw [e]; exact zd), ?_⟩
          exact ⟨some (.int (bdig z n)), by rw [← e]; rfl, Ex.mut e1 hD, by rw [upd_same, List.map_append, ← e]; rfl⟩
        · have e : n % z = bdig z n := by simp only [bdig]; rw [if_neg fun y => q (decide_eq_true y)]
          refine ⟨_, rfl, (.inl ⟨rfl, _, SqL.of hD1⟩), _, rfl, D, _, _, rfl, rfl, hD1, (by rw [List.length_map]; exact Nat.lt_of_lt_of_le hacc (by decide)), ?_⟩
          refine ⟨_, rfl, _, rfl, _, _, rfl, rfl, _, rfl, _, _, rfl, rfl, (by show CDivW (n - n % z) z; rw [e]; exact zd), ?_⟩
          exact ⟨some (.int (bdig z n)), by rw [← e]; rfl, Ex.mut e1 hD, by rw [upd_same, List.map_append, ← e]; rfl⟩
end
end Coil

set_option Elab.async false
set_option linter.all false
set_option maxRecDepth 100000
set_option maxHeartbeats 4000000
namespace Coil
open PySem L2 Evl RT
theorem set_rep (m : Nat) (q : Int) (qs : List Int) : (List.replicate (m + 1) 0 ++ qs).set m q = List.replicate m 0 ++ (q :: qs) := by
  rw [List.replicate_succ', List.append_assoc, List.set_append]
  simp
theorem co_bd_pow {c i : Nat} {x : Nat} (h : x ≤ 2 ^ (c + (c + 1) * i) * (2 ^ c + 1)) : x ≤ 2 ^ (c + (c + 1) * (i + 1)) := by
  refine Nat.le_trans h ?_
  have h1 : 2 ^ c + 1 ≤ 2 ^ (c + 1) := by
    have := Nat.pow_pos (n := c) (show 0 < 2 by decide)
    rw [Nat.pow_succ]; omega
  refine Nat.le_trans (Nat.mul_le_mul_left _ h1) ?_
  rw [← Nat.pow_add]
  exact Nat.pow_le_pow_right (by decide) (by rw [Nat.mul_succ]; omega)
section
variable {P : Program} {w : World} {K : PySem.W.Frag} {mg : Str → Option Value} {base : Heap} {tL tM tD : Tok}
def spExq (K : PySem.W.Frag) : Sp := fun vs H Q _ => ∃ (a b : Addr) (ns ms : List Int) (c : Nat), vs = [.ref a, .ref b] ∧ SqT K H a (ns.map V.int) ∧ SqT K H b (ms.map V.int) ∧ Nm ns ∧ Nm ms ∧ ms ≠ [] ∧ BdA (2 ^ c) ns ∧ BdA (2 ^ c) ms ∧ c + 1 < 9000 ∧ ns.length ≤ 60 ∧ ms.length ≤ 60 ∧
  (∀ p H' u, H p = none → Ex H H' → H' p = some (.tup ((u : List Int).map V.int)) → Nm u → (∀ x, ev ns x = ev u x * ev ms x) → Q (.ref p) H') ∧ (∀ H', Ex H H' → (¬ ∃ u : List Int, ∀ x, ev ns x = ev u x * ev ms x) → Q .non H')
theorem ok_exact_quotient {f : Addr} {fd : FuncData} (F : Fun K "exact_quotient" "exact_quotient" s_exact_quotient f fd) (T : Txt mg tL tM tD) (d_trimmed : Def P w K mg base "trimmed" 1 ["coefficients"] (spTrimmed K)) :
    FnOk P w K mg base CX0 2 f fd ["one", "other"] (spExq K) := by
  refine F.ok sc_exact_quotient (fun vs H Q E h => ?_) (fun cdv A outer s H vs Q E hr h => ?_)
  · obtain ⟨a, b, ns, ms, c, rfl, _⟩ := h
    rfl
  · obtain ⟨a, b, ns, ms, c, rfl, hA, hB, hn, hm, hm0, hcn, hcm, hc, hln, hlm, k1, k2⟩ := h
    have hml : 0 < ms.length := List.length_pos_iff.mpr hm0
    have hldc := ldc_ne hm hm0
    refine ⟨_, (pss_cons (ps_set (i := 2) sc_exact_quotient.nd rfl (Or.inl rfl) (pe_callTy (r := Evl.rListS K) call_list_of (by rfl) T.b_list (by decide +kernel) (pa_cons (pv 0) pa_nil)))
  (pss_cons (ps_set (i := 3) sc_exact_quotient.nd rfl (Or.inl rfl) (pe_op op_rep (pe_lst (pa_cons pe_int pa_nil)) (pe_callB (call_max2 rfl) (by rfl) T.b_max (by decide +kernel) (pa_cons pe_int (pa_cons (pe_op op_add (pe_op op_sub (pe_callB (r := Evl.rLenS K) call_len_seq (by rfl) T.b_len (by decide +kernel) (pa_cons (pv 0) pa_nil)) (pe_callB (r := Evl.rLenS K) call_len_seq (by rfl) T.b_len (by decide +kernel) (pa_cons (pv 1) pa_nil))) pe_int) pa_nil)))))
  (pss_cons (ps_for PassesOwn.never rfl (pi_revR (by rfl) T.b_reversed (prg_1 (by rfl) T.b_range (pe_callB (r := Evl.rLenS K) call_len_seq (by rfl) T.b_len (by decide +kernel) (pa_cons (pv 3) pa_nil)))) (pg_name (i := 4) sc_exact_quotient.nd rfl (Or.inl rfl)) (pss_cons (ps_asg (pe_op op_fdivN (pe_ix (r := rIxL K) ix_list (pv 2) (pe_op op_sub (pe_op op_add (pv 4) (pe_callB (r := Evl.rLenS K) call_len_seq (by rfl) T.b_len (by decide +kernel) (pa_cons (pv 1) pa_nil))) pe_int) (fun _ _ => rfl)) (pe_ix (r := rIxT K) ix_tup (pv 1) (pe_un un_neg pe_int) (fun _ _ => rfl))) (pg_sub (pv 3) (pv 4) set_list))
  (pss_one (ps_for PassesOwn.never rfl (pi_enumT (by rfl) T.b_enumerate (pa_cons (pv 1) pa_nil)) (pg_tup rfl (pgs_cons (pg_name (i := 5) sc_exact_quotient.nd rfl (Or.inl rfl)) (pgs_cons (pg_name (i := 6) sc_exact_quotient.nd rfl (Or.inl rfl)) pgs_nil))) (pss_one (ps_augS (pv 2) (pe_op op_add (pv 4) (pv 5)) (tget := rGetL K) get_listI (pe_op op_mulW (pe_ix (r := rIxL K) ix_list (pv 3) (pv 4) (fun _ _ => rfl)) (pv 6)) ip_sub set_list))))))
  (pss_one (ps_ret (pe_ifExp (pt_not (pt_val (pe_callB (r := rAnyI K) (cr_anyI rfl) (by rfl) T.b_any (by decide +kernel) (pa_cons (pv 2) pa_nil)))) (pe_callD d_trimmed (hr.mono (by decide)) (pa_cons (pv 3) pa_nil)) pe_non)))))), ?_⟩
    refine ⟨_, rfl, a, _, rfl, .inr hA, fun fr hfr => ?_⟩
    have x1 : Ex H (upd H fr (.lst (ns.map V.int))) := Ex.new hfr
    refine ⟨by decide, fun pz hz => ?_⟩
    have x2 := x1.trans (Ex.new hz (o := .lst [.int 0]))
    refine ⟨_, rfl, a, _, rfl, .inr (ex_t x2 hA), _, rfl, b, _, rfl, .inr (ex_t x2 hB), _, _, rfl, rfl, _, _, rfl, rfl, _, _, rfl, ?_⟩
    have eN : (if ((ns.map V.int).length : Int) - ((ms.map V.int).length : Int) + 1 > 0 then ((ns.map V.int).length : Int) - ((ms.map V.int).length : Int) + 1 else 0) = ((ns.length + 1 - ms.length : Nat) : Int) := by
      rw [List.length_map, List.length_map]; split <;> omega
    generalize hL : ns.length + 1 - ms.length = L at eN
    refine ⟨pz, ((L : Nat) : Int), _, rfl, congrArg V.int eN, upd_same, by omega, by omega, ?_, fun fa hfa => ?_⟩
    · show 1 * _ ≤ sizeLine
      exact Nat.le_trans (by omega : _ ≤ 1000) (by decide)
    have hrep : (List.replicate ((L : Nat) : Int).toNat [V.int 0]).flatten = (List.replicate L (0 : Int)).map V.int := by
      rw [show [V.int 0] = [(0 : Int)].map V.int from rfl, rep_int, rep_zero]; rfl
    rw [hrep]
    have hne1 : fr ≠ pz := fun y => by rw [y] at hz; rw [upd_same] at hz; cases hz
    have hza : fa ≠ pz := fun y => by rw [y] at hfa; rw [upd_same] at hfa; cases hfa
    have hra : fa ≠ fr := fun y => by rw [y, upd_ne hne1, upd_same] at hfa; cases hfa
    have hf0 : H fa = none := fresh_back x2 hfa
    have x3 : Ex H (upd (upd (upd H fr (.lst (ns.map V.int))) pz (.lst [.int 0])) fa (.lst ((List.replicate L (0 : Int)).map V.int))) := x2.trans (Ex.new hfa)
    refine ⟨_, rfl, fa, _, rfl, .inl (SqL.of upd_same), _, rfl, by decide, by decide, ?_⟩
    rw [List.length_map, List.length_replicate]
    refine ⟨by omega, by omega, ?_⟩
    have eL : ((L : Int) - 0).toNat = L := by omega
    rw [eL]
    have hlen0 : L + ms.length ≤ ns.length + 1 ∨ L = 0 := by omega
    refine for_it (walk_rangeC (lo := 0 + ((L : Nat) : Int) - 1) (c := -1) (n := L)) (fun i σ H' => ∃ (R qs : List Int) (v4 v5 v6 : Option V), σ = [some (.ref a), some (.ref b), some (.ref fr), some (.ref fa), v4, v5, v6] ∧ Ex H H' ∧ H' fr = some (.lst (R.map V.int)) ∧
      H' fa = some (.lst ((List.replicate (L - i) 0 ++ qs).map V.int)) ∧ R.length = ns.length ∧ (∀ j, (co R j).natAbs ≤ 2 ^ (c + (c + 1) * i)) ∧ (xq ms L ns).1 = (xq ms (L - i) R).1 ∧ (xq ms L ns).2 = (xq ms (L - i) R).2 ++ qs)
      ⟨ns, [], none, none, none, rfl, x3, by rw [upd_ne (Ne.symm hra), upd_ne hne1, upd_same], by rw [upd_same, Nat.sub_zero, List.append_nil], rfl, fun j => hcn.co j, rfl, (List.append_nil _).symm⟩ (fun _ _ _ _ _ => True.intro) ?_ ?_
    · rintro i x σ H0 H1 hi ⟨R, qs, v4, v5, v6, rfl, e1, hR, hA1, hRl, hbd, q1, q2⟩ ⟨rfl, rfl⟩
      obtain ⟨m, hmi⟩ : ∃ m, L - i = m + 1 := ⟨L - i - 1, by omega⟩
      have hLpos : L + ms.length = ns.length + 1 := by omega
      have em : (0 : Int) + (L : Int) - 1 + (i : Int) * (-1) = ((m : Nat) : Int) := by omega
      rw [hmi] at hA1 q1 q2
      have hml2 : m + ms.length ≤ R.length := by omega
      generalize hq : (co R (m + ms.length - 1)).fdiv (ldc ms) = q
      have hxq : xq ms (m + 1) R = ((xq ms m (subX R m q ms)).1, (xq ms m (subX R m q ms)).2 ++ [q]) := by simp only [xq, hq]
      rw [hxq] at q1 q2
      have hldb : (ldc ms).natAbs < 2 ^ 9000 := Nat.lt_of_le_of_lt (hcm.co _) (Nat.pow_lt_pow_right (by decide) (by omega))
      have hqb : q.natAbs ≤ 2 ^ (c + (c + 1) * i) := by rw [← hq]; exact Nat.le_trans (natAbs_fdiv_le _ _) (hbd _)
      have hi60 : i ≤ 60 := by omega
      have hci : (c + 1) * i ≤ 9000 * 60 := Nat.mul_le_mul (by omega) hi60
      have e61 : ((m : Nat) : Int) + (ms.length : Int) - 1 = ((m + ms.length - 1 : Nat) : Int) := by omega
      refine ⟨_, rfl, _, rfl, _, rfl, b, _, rfl, .inr (ex_t e1 hB), _, _, rfl, rfl, _, _, rfl, rfl, ?_⟩
      refine ⟨fr, _, _, _, rfl, rfl, SqL.of hR, (by rw [List.length_map]; show atI _ (((0 : Int) + (L : Int) - 1 + (i : Int) * (-1)) + (ms.length : Int) - 1) = _; rw [em, e61]; exact at_map (by omega)), ?_⟩
      refine ⟨_, rfl, _, rfl, b, _, _, _, rfl, rfl, ex_t e1 hB, at_last hm0, _, _, rfl, rfl, divN hldc hldb (by decide) (by decide), ?_⟩
      have hAl : m < ((List.replicate (m + 1) (0 : Int) ++ qs).map V.int).length := by simp; omega
      refine ⟨_, rfl, _, rfl, fa, _, _, m, rfl, rfl, hA1, (by show ixN _ ((0 : Int) + (L : Int) - 1 + (i : Int) * (-1)) = _; rw [em]; exact ixN_nat hAl), ?_⟩
      have hset : ((List.replicate (m + 1) (0 : Int) ++ qs).map V.int).set m (V.int ((co R (m + ms.length - 1)).fdiv (co ms (ms.length - 1)))) = (List.replicate m (0 : Int) ++ (q :: qs)).map V.int := by
        rw [← List.map_set, ← set_rep, ← hq]; rfl
      have hset' : ((List.replicate (m + 1) (0 : Int) ++ qs).map V.int).set m (V.int ((R.getD (m + ms.length - 1) 0).fdiv (co ms (ms.length - 1)))) = (List.replicate m (0 : Int) ++ (q :: qs)).map V.int := hset
      have x5 : Ex H (upd H1 fa (.lst (((List.replicate (m + 1) (0 : Int) ++ qs).map V.int).set m (V.int ((R.getD (m + ms.length - 1) 0).fdiv (co ms (ms.length - 1))))))) := Ex.mut e1 hf0
      refine ⟨_, rfl, b, _, rfl, ex_t x5 hB, ?_⟩
      refine for_it (walk_enumT (xs := ms.map V.int)) (fun j σ H' => ∃ (v5 v6 : Option V), σ = [some (.ref a), some (.ref b), some (.ref fr), some (.ref fa), some (.int ((m : Nat) : Int)), v5, v6] ∧ Ex H H' ∧ H' fr = some (.lst ((subX R m q (ms.take j)).map V.int)) ∧
        H' fa = some (.lst ((List.replicate m (0 : Int) ++ (q :: qs)).map V.int))) ⟨v5, v6, ?_, x5, ?_, ?_⟩ (fun _ _ _ _ p => ?_) ?_ ?_
      · show [some (V.ref a), some (V.ref b), some (V.ref fr), some (V.ref fa), some (V.int ((0 : Int) + (L : Int) - 1 + (i : Int) * (-1))), v5, v6] = _
        rw [em]
      · rw [upd_ne (Ne.symm hra), hR, subX_zero]
      · rw [upd_same, hset']
      · obtain ⟨_, _, _, p, _⟩ := p
        exact ex_t p hB
      · rintro j y σ H3 H4 hj ⟨v5, v6, rfl, e3, hR3, hA3⟩ ⟨tp, z, rfl, htp, rfl, hz⟩
        obtain ⟨cf, hcf, rfl⟩ := map_int_get hz
        rw [List.length_map] at hj
        have ecf : cf = co ms j := by
          unfold co; rw [List.getD_eq_getElem?_getD, hcf]; rfl
        have e4 : Ex H (upd H3 tp (.tup [.int (j : Nat), .int cf])) := e3.trans (Ex.new htp)
        have hfr4 : (upd H3 tp (.tup [.int (j : Nat), .int cf])) fr = some (.lst ((subX R m q (ms.take j)).map V.int)) := (Ex.new htp) _ _ hR3
        have hfa4 : (upd H3 tp (.tup [.int (j : Nat), .int cf])) fa = some (.lst ((List.replicate m (0 : Int) ++ (q :: qs)).map V.int)) := (Ex.new htp) _ _ hA3
        refine ⟨tp, _, rfl, SqT.of upd_same, rfl, ?_⟩
        have hq0 : (List.replicate m (0 : Int) ++ (q :: qs)).getD m 0 = q := by
          rw [List.getD_eq_getElem?_getD, List.getElem?_append_right (by simp)]
          simp
        have emj : ((m : Nat) : Int) + ((j : Nat) : Int) = ((m + j : Nat) : Int) := by omega
        have hjl : m + j < (subX R m q (ms.take j)).length := by rw [subX_len]; omega
        have hw : CMulW ((List.replicate m (0 : Int) ++ (q :: qs)).getD m 0) cf := by
          rw [hq0, ecf]
          exact wide_mul (a := c + (c + 1) * i + 1) (b := c + 1) (Nat.lt_of_le_of_lt hqb (Nat.pow_lt_pow_right (by decide) (by omega))) (Nat.lt_of_le_of_lt (hcm.co _) (Nat.pow_lt_pow_right (by decide) (by omega))) (by omega) (by omega) (by omega)
        refine ⟨_, _, rfl, _, _, rfl, rfl, ?_⟩
        refine ⟨_, rfl, _, rfl, _, rfl, _, _, rfl, rfl, ?_⟩
        refine ⟨fr, _, _, _, rfl, rfl, SqL.of hfr4, (by show atI _ (((m : Nat) : Int) + ((j : Nat) : Int)) = _; rw [emj]; exact at_map hjl), ?_⟩
        refine ⟨_, rfl, _, rfl, fa, _, _, _, rfl, rfl, SqL.of hfa4, at_map (by simp), _, rfl, _, _, rfl, rfl, hw, ?_⟩
        refine ⟨_, _, rfl, rfl, fr, _, _, m + j, rfl, rfl, hfr4, (by show ixN _ (((m : Nat) : Int) + ((j : Nat) : Int)) = _; rw [emj]; exact ixN_nat (by rw [List.length_map]; exact hjl)), ?_⟩
        refine ⟨some (.int (j : Nat)), some (.int cf), rfl, Ex.mut e4 hfr, ?_, ?_⟩
        · rw [upd_same]
          show some (HO.lst (((subX R m q (ms.take j)).map V.int).set (m + j) (V.int (((subX R m q (ms.take j)).getD (m + j) 0) - ((List.replicate m (0 : Int) ++ (q :: qs)).getD m 0) * cf)))) = _
          rw [hq0, ← List.map_set, ecf]
          have := subX_set (r := R) (m := m) (q := q) (ms := ms) hj hml2
          unfold co at this ⊢
          rw [this]
        · rw [upd_ne hra]; exact hfa4
      · rintro σ H3 ⟨v5, v6, rfl, e3, hR3, hA3⟩
        rw [List.length_map, List.take_length] at hR3
        refine ⟨subX R m q ms, q :: qs, _, _, _, rfl, e3, hR3, ?_, ?_, ?_, ?_, ?_⟩
        · rw [hA3, show L - (i + 1) = m by omega]
        · rw [subX_len, hRl]
        · intro j
          have := subX_bd (R := 2 ^ (c + (c + 1) * i)) (M := 2 ^ c) hbd (fun i => hcm.co i) (m := m) (j := ms.length) (k := m + ms.length - 1) (b := ldc ms) j
          rw [List.take_length, hq] at this
          exact co_bd_pow this
        · rw [q1, show L - (i + 1) = m by omega]
        · rw [q2, show L - (i + 1) = m by omega, List.append_assoc]; rfl
    · rintro σ H1 ⟨R, qs, v4, v5, v6, rfl, e1, hR, hA1, hRl, hbd, q1, q2⟩
      rw [Nat.sub_self] at hA1 q1 q2
      simp only [xq, List.replicate_zero, List.nil_append] at hA1 q1 q2
      refine ⟨_, rfl, fr, R, rfl, SqL.of hR, _, rfl, ?_⟩
      cases hany : R.any (· != 0) with
      | false =>
        have h0 := co_any.mp hany
        refine iteT ?_
        refine ⟨_, rfl, fa, qs, rfl, SqL.of hA1, fun p H' hp e hp' => ?_⟩
        refine k1 p H' (trimZ qs) (fresh_back e1 hp) (e1.trans e) hp' (nm_trimZ _) ?_
        rw [← q2, ← hL]
        exact xq_yes hm0 (by rw [hL, q1]; exact h0)
      | true =>
        refine iteF (k2 _ e1 ?_)
        rintro ⟨u, hu⟩
        have h0 := xq_no hn hm hm0 hu
        rw [hL, q1] at h0
        rw [co_any.mpr h0] at hany
        cases hany
end
end Coil

set_option Elab.async false
set_option linter.all false
set_option maxRecDepth 100000
set_option maxHeartbeats 4000000
set_option exponentiation.threshold 10000
namespace Coil
open PySem L2 Evl RT
/-- two polynomials, one that divides both, and what is left -/
def GcdOf (ns ms g : List Int) : Prop := Nm g ∧ g ≠ [] ∧ Prim g ∧ ∃ (p q u v : List Int) (r : Int), r ≠ 0 ∧ (∀ x, ev ns x = ev g x * ev p x) ∧ (∀ x, ev ms x = ev g x * ev q x) ∧ ∀ x, ev u x * ev p x + ev v x * ev q x = r
/-- how far the places go -/
def Zm (N B : Nat) : Nat := (2 * Hp N B + 2) ^ 2
theorem gcd_one {ns : List Int} (hn : Nm ns) (h0 : ns ≠ []) (ms : List Int) (hm : ms = []) : GcdOf ns ms (ppart ns) ∧ GcdOf ms ns (ppart ns) := by
  have hz := nz_of_nm hn h0
  have hg := gcdL_pos hz
  have h1 : ∀ x, ev ns x = ev (ppart ns) x * ev [gcdL ns] x := fun x => by rw [← ev_ppart ns x]; simp only [ev]; grind
  have h2 : ∀ x, ev ms x = ev (ppart ns) x * ev [] x := fun x => by rw [hm]; simp [ev]
  refine ⟨⟨nm_ppart hn, fun y => h0 (ppart_nil.mp y), prim_ppart hz, [gcdL ns], [], [1], [], gcdL ns, by omega, h1, h2, fun x => by simp [ev]⟩,
    ⟨nm_ppart hn, fun y => h0 (ppart_nil.mp y), prim_ppart hz, [], [gcdL ns], [], [1], gcdL ns, by omega, h2, h1, fun x => by simp [ev]⟩⟩
theorem sz_ne {ns : List Int} (h : ns ≠ []) : (!(ns.map V.int).isEmpty) = true := by
  cases ns
  · exact absurd rfl h
  · rfl
section
variable {P : Program} {w : World} {K : PySem.W.Frag} {mg : Str → Option Value} {base : Heap} {tL tM tD : Tok}
def spCd (K : PySem.W.Frag) : Sp := fun vs H Q _ => ∃ (a b : Addr) (ns ms : List Int) (B : Nat), vs = [.ref a, .ref b] ∧ SqT K H a (ns.map V.int) ∧ SqT K H b (ms.map V.int) ∧ Nm ns ∧ Nm ms ∧ (ns ≠ [] ∨ ms ≠ []) ∧ 1 ≤ B ∧ BdA B ns ∧ BdA B ms ∧ ns.length ≤ 30 ∧ ms.length ≤ 30 ∧
  Zm (ns.length + ms.length) B < 2 ^ 8000 ∧ ∀ p H' g, H p = none → Ex H H' → H' p = some (.tup ((g : List Int).map V.int)) → GcdOf ns ms g → BdA (2 ^ 8000) g → g.length ≤ 61 → Q (.ref p) H'
theorem ok_common_divisor {f : Addr} {fd : FuncData} (F : Fun K "common_divisor" "common_divisor" s_common_divisor f fd) (T : Txt mg tL tM tD)
    (d_primitive : Def P w K mg base "primitive" 2 ["polynomial"] (spPrimitive K)) (d_u_height : Def P w K mg base "_height" 1 ["polynomial"] (spHeight K))
    (d_integer_value : Def P w K mg base "integer_value" 1 ["polynomial", "number"] (spIntVal K)) (d_u_digits : Def P w K mg base "_digits" 1 ["number", "base"] spDigits)
    (d_exact_quotient : Def P w K mg base "exact_quotient" 2 ["one", "other"] (spExq K)) :
    FnOk P w K mg base CX0 3 f fd ["one", "other"] (spCd K) := by
  refine F.ok sc_common_divisor (fun vs H Q E h => ?_) (fun cdv A outer s H vs Q E hr h => ?_)
  · obtain ⟨a, b, ns, ms, B, rfl, _⟩ := h
    rfl
  · obtain ⟨a, b, ns, ms, B, rfl, hA, hB, hn, hm, hne, hB1, hbn, hbm, hln, hlm, hZ, k⟩ := h
    refine ⟨_, (pss_cons (ps_par (i := 0) (j := 1) rfl sc_common_divisor.nd rfl rfl (by decide) rfl rfl (pa_cons (pe_callD d_primitive (hr.mono (by decide)) (pa_cons (pv 0) pa_nil)) (pa_cons (pe_callD d_primitive (hr.mono (by decide)) (pa_cons (pv 1) pa_nil)) pa_nil)) (by rfl))
  (pss_cons (ps_if (PW.pt (pw_or (pt_not (pt_truth (pv 0) (by intro _; rfl))) (pw_or1 (pt_not (pt_truth (pv 1) (by intro _; rfl)))))) (pss_one (ps_ret (pe_orT (pv 0) (pe_one (pv 1))))) pss_nil)
  (pss_cons (ps_set (i := 2) sc_common_divisor.nd rfl (Or.inl rfl) (pe_op op_add (pe_op op_mulW pe_int (pe_callB (call_min2 rfl) (by rfl) T.b_min (by decide +kernel) (pa_cons (pe_callD d_u_height (hr.mono (by decide)) (pa_cons (pv 0) pa_nil)) (pa_cons (pe_callD d_u_height (hr.mono (by decide)) (pa_cons (pv 1) pa_nil)) pa_nil)))) pe_int))
  (pss_one (ps_while PassesOwn.never (pt_val pe_bl) (pss_cons (ps_set (i := 3) sc_common_divisor.nd rfl (Or.inl rfl) (pe_callBfun cr_gcd (by rfl) T.g_gcd (pa_cons (pe_callD d_integer_value (hr.mono (by decide)) (pa_cons (pv 0) (pa_cons (pv 2) pa_nil))) (pa_cons (pe_callD d_integer_value (hr.mono (by decide)) (pa_cons (pv 1) (pa_cons (pv 2) pa_nil))) pa_nil))))
  (pss_cons (ps_set (i := 4) sc_common_divisor.nd rfl (Or.inl rfl) (pe_callD d_primitive (hr.mono (by decide)) (pa_cons (pe_callD d_u_digits (hr.mono (by decide)) (pa_cons (pv 3) (pa_cons (pv 2) pa_nil))) pa_nil)))
  (pss_cons (ps_if (PW.pt (pw_and (pt_cmpR op_notN (pe_callD d_exact_quotient (hr.mono (by decide)) (pa_cons (pv 0) (pa_cons (pv 4) pa_nil))) pe_non (nomark _)) (pw_and1 (pt_cmpR op_notN (pe_callD d_exact_quotient (hr.mono (by decide)) (pa_cons (pv 1) (pa_cons (pv 4) pa_nil))) pe_non (nomark _))))) (pss_one (ps_ret (pv 4))) pss_nil)
  (pss_one (ps_set (i := 2) sc_common_divisor.nd rfl (Or.inl rfl) (pe_op op_mulW (pv 2) (pv 2)))))))))))), ?_⟩
    have hN1 : 1 ≤ ns.length + ms.length := by
      rcases hne with z | z
      · have := List.length_pos_iff.mpr z; omega
      · have := List.length_pos_iff.mpr z; omega
    have hBH := Hp_le hN1 hB1
    have hHZ : 2 * Hp (ns.length + ms.length) B + 2 ≤ Zm (ns.length + ms.length) B := by
      unfold Zm
      rw [Nat.pow_two]
      exact Nat.le_mul_of_pos_left _ (by omega)
    have hB8 : B < 2 ^ 8000 := by omega
    have hpre : ∀ {xs : List Int}, Nm xs → BdA B xs → xs = [] ∨ (gcdL xs ≠ 0 ∧ (gcdL xs).natAbs < 2 ^ 9000) := fun {xs} h1 h2 => by
      by_cases hx : xs = []
      · exact .inl hx
      · have hz := nz_of_nm h1 hx
        have hg := gcdL_pos hz
        exact .inr ⟨by omega, Nat.lt_of_le_of_lt (gcdL_le hz fun i => h2.co i) (Nat.lt_trans hB8 (Nat.pow_lt_pow_right (by decide) (by decide)))⟩
    refine ⟨_, rfl, a, ns, rfl, hA, by omega, hpre hn hbn, fun p1 H1 hp1 e1 ht1 => ?_⟩
    refine ⟨_, rfl, b, ms, rfl, ex_t e1 hB, by omega, hpre hm hbm, fun p2 H2 hp2 e2 ht2 => ?_⟩
    refine ⟨_, _, rfl, ?_⟩
    have e12 : Ex H H2 := e1.trans e2
    have ht1' : H2 p1 = some (.tup ((ppart ns).map V.int)) := e2 _ _ ht1
    have tru : ∀ {H' : L2.Hp} {p : Addr} {xs : List Int}, H' p = some (.tup (xs.map V.int)) → TruV K (.ref p) H' (!(xs.map V.int).isEmpty) := fun {H' p xs} h => .inr (.inl ⟨_, SqT.of h, rfl⟩)
    have bd8 : ∀ {xs : List Int}, BdA B xs → BdA (2 ^ 8000) (ppart xs) := fun {xs} h => .of_co fun i => Nat.le_trans (ppart_bd (fun i => h.co i) i) (Nat.le_of_lt hB8)
    by_cases hns : ns = []
    · have hms : ms ≠ [] := hne.resolve_left fun y => y hns
      have hp0 : ppart ns = [] := ppart_nil.mpr hns
      refine ⟨_, rfl, _, tru ht1', ?_⟩
      rw [hp0]
      refine iteT (iteT ?_)
      refine ⟨_, rfl, _, tru ht1', ?_⟩
      rw [hp0]
      refine iteF ?_
      exact ⟨_, rfl, k p2 H2 (ppart ms) (fresh_back e1 hp2) e12 ht2 (gcd_one hm hms ns hns).2 (bd8 hbm) (by rw [ppart_len]; omega)⟩
    have hns' : ppart ns ≠ [] := fun y => hns (ppart_nil.mp y)
    by_cases hms : ms = []
    · have hp0 : ppart ms = [] := ppart_nil.mpr hms
      refine ⟨_, rfl, _, tru ht1', ?_⟩
      rw [sz_ne hns']
      refine iteF ?_
      refine ⟨_, rfl, _, tru ht2, ?_⟩
      rw [hp0]
      refine iteT ?_
      refine ⟨_, rfl, _, tru ht1', ?_⟩
      rw [sz_ne hns']
      exact iteT (k p1 H2 (ppart ns) hp1 e12 ht1' (gcd_one hn hns ms hms).1 (bd8 hbn) (by rw [ppart_len]; omega))
    have hms' : ppart ms ≠ [] := fun y => hms (ppart_nil.mp y)
    refine ⟨_, rfl, _, tru ht1', ?_⟩
    rw [sz_ne hns']
    refine iteF ?_
    refine ⟨_, rfl, _, tru ht2, ?_⟩
    rw [sz_ne hms']
    refine iteF ?_
    refine ⟨_, rfl, p1, ppart ns, rfl, SqT.of ht1', hns', by rw [ppart_len]; omega, fun h1 H3 e3 hb1 hx1 => ?_⟩
    refine ⟨_, rfl, p2, ppart ms, rfl, SqT.of (e3 _ _ ht2), hms', by rw [ppart_len]; omega, fun h2 H4 e4 hb2 hx2 => ?_⟩
    have bn8 : BdA (2 ^ 8000) (ppart ns) := bd8 hbn
    have bm8 : BdA (2 ^ 8000) (ppart ms) := bd8 hbm
    have hz1 : Nz (ppart ns) := nz_of_nm (nm_ppart hn) hns'
    have hz2 : Nz (ppart ms) := nz_of_nm (nm_ppart hm) hms'
    have hh1 : 1 ≤ h1 := by
      obtain ⟨i, hi⟩ := hz1
      have := hb1 i
      omega
    have hh2 : 1 ≤ h2 := by
      obtain ⟨i, hi⟩ := hz2
      have := hb2 i
      omega
    have hB1' : ∀ i, (co (ppart ns) i).natAbs ≤ B := ppart_bd fun i => hbn.co i
    have hB2' : ∀ i, (co (ppart ms) i).natAbs ≤ B := ppart_bd fun i => hbm.co i
    have hh1B : h1 ≤ B := by
      obtain ⟨n, hn', rfl⟩ := hx1
      exact BdA.of_co hB1' n hn'
    have emin : (if (h2 : Int) < (h1 : Int) then (h2 : Int) else (h1 : Int)) = ((min h1 h2 : Nat) : Int) := by split <;> omega
    have hminB : min h1 h2 ≤ B := by omega
    refine ⟨_, _, rfl, _, _, rfl, rfl, ?_, _, _, rfl, rfl, ?_⟩
    · show CMulW 2 (if (h2 : Int) < (h1 : Int) then (h2 : Int) else (h1 : Int))
      rw [emin]
      exact wide_mul (a := 3) (b := 8000) (by decide) (by omega) (by decide) (by decide) (by decide)
    have e4' : Ex H H4 := (e12.trans e3).trans e4
    refine ⟨fun m σ H' => ∃ (z : Int) (v3 v4 : Option V), σ = [some (.ref p1), some (.ref p2), some (.int z), v3, v4] ∧ Ex H H' ∧ H' p1 = some (.tup ((ppart ns).map V.int)) ∧ H' p2 = some (.tup ((ppart ms).map V.int)) ∧
      2 * ((min h1 h2 : Nat) : Int) + 2 ≤ z ∧ z ≤ ((Zm (ns.length + ms.length) B : Nat) : Int) ∧ m = (((Zm (ns.length + ms.length) B : Nat) : Int) - z).toNat,
      ⟨_, 2 * ((min h1 h2 : Nat) : Int) + 2, none, none, ?_, e4', e4 _ _ (e3 _ _ ht1'), e4 _ _ (e3 _ _ ht2), by omega, by omega, rfl⟩, ?_⟩
    · show [some (V.ref p1), some (V.ref p2), some (V.int (2 * (if (h2 : Int) < (h1 : Int) then (h2 : Int) else (h1 : Int)) + 2)), none, none] = _
      rw [emin]
    rintro m σ H5 ⟨z, v3, v4, rfl, e5, hq1, hq2, hz0, hzm, rfl⟩
    have hz4 : 4 ≤ z := by omega
    have hz8 : z.natAbs < 2 ^ 8000 := by omega
    have hz9 : z.natAbs < 2 ^ 9000 := Nat.lt_trans hz8 (Nat.pow_lt_pow_right (by decide) (by decide))
    obtain ⟨hn0, l, hl, hnl⟩ := heur_val (z := z) (nm_ppart hn) (nm_ppart hm) hns' hms' hb1 hb2 hz0
    have hl30 : l ≤ 30 := by rcases hl with rfl | rfl <;> rw [ppart_len] <;> omega
    have hyes := fun (p q : List Int) => heur_yes (p := p) (q := q) (z := z) (nm_ppart hn) (nm_ppart hm) hns' hms' hb1 hb2 hh1 hh2 hz0
    have hdone : 2 * (Hp (ns.length + ms.length) B : Int) + 2 ≤ z → _ := fun y => heur_done (z := z) (H := B) (nm_ppart hn) (nm_ppart hm) hns' hms' hB1 hB1' hB2' (by rw [ppart_len, ppart_len]; exact y)
    generalize hnn : Nat.gcd (ev (ppart ns) z).natAbs (ev (ppart ms) z).natAbs = n at hn0 hnl hyes hdone
    have hdl := digs_len hz4 hn0 hnl
    obtain ⟨f1, f2, f3, f4, f5, f6, f7⟩ := found_facts (z := z) (n := (n : Int)) (by omega) (by omega)
    have fnm : Nm (found z n) := nm_ppart f1
    have fne : found z n ≠ [] := fun y => f2 (ppart_nil.mp y)
    have fdb : ∀ i, (co (digs z n) i).natAbs ≤ 2 ^ 8000 := fun i => by have := digF_bd (z := z) (by omega) ((n : Int).toNat + 1) n i; exact Nat.le_trans (by show (co (digF z ((n : Int).toNat + 1) n) i).natAbs ≤ z.natAbs; omega) (Nat.le_of_lt hz8)
    have fb8 : BdA (2 ^ 8000) (found z n) := .of_co fun i => ppart_bd fdb i
    have fl : (found z n).length ≤ 31 := by unfold found; rw [ppart_len]; omega
    have hnc : n < 2 ^ (8000 * l) := by
      have h1 : z.natAbs ^ l ≤ (2 ^ 8000) ^ l := Nat.pow_le_pow_left (Nat.le_of_lt hz8) l
      rw [← Nat.pow_mul] at h1
      omega
    have hzz : 4 * z ≤ z * z := Int.mul_le_mul_of_nonneg_right hz4 (by omega)
    have hzc : ¬ 2 * (Hp (ns.length + ms.length) B : Int) + 2 ≤ z → z * z ≤ ((Zm (ns.length + ms.length) B : Nat) : Int) := fun y => by
      have h1 : z * z ≤ (2 * (Hp (ns.length + ms.length) B : Int) + 2) * (2 * (Hp (ns.length + ms.length) B : Int) + 2) := Int.mul_le_mul (by omega) (by omega) (by omega) (by omega)
      have h2 : ((Zm (ns.length + ms.length) B : Nat) : Int) = (2 * (Hp (ns.length + ms.length) B : Int) + 2) * (2 * (Hp (ns.length + ms.length) B : Int) + 2) := by
        unfold Zm
        rw [Nat.pow_two, Int.natCast_mul]
        simp
      rw [h2]; exact h1
    refine ⟨true, rfl, iteT ⟨fun σ' H' => ∃ v3 v4 : Option V, σ' = [some (.ref p1), some (.ref p2), some (.int (z * z)), v3, v4] ∧ Ex H H' ∧ H' p1 = some (.tup ((ppart ns).map V.int)) ∧ H' p2 = some (.tup ((ppart ms).map V.int)) ∧ ¬ 2 * (Hp (ns.length + ms.length) B : Int) + 2 ≤ z,
      fun σ' H' ⟨v3, v4, y1, y2, y3, y4, y5⟩ => ⟨(((Zm (ns.length + ms.length) B : Nat) : Int) - z * z).toNat, ?_, z * z, v3, v4, y1, y2, y3, y4, ?_, ?_, rfl⟩, ?_⟩⟩
    · have := hzc y5
      omega
    · omega
    · exact hzc y5
    refine ⟨_, rfl, _, rfl, p1, ppart ns, z, 8000, 8000, rfl, SqT.of hq1, bn8, hz8, by rw [ppart_len]; omega, ?_⟩
    refine ⟨_, rfl, _, rfl, p2, ppart ms, z, 8000, 8000, rfl, SqT.of hq2, bm8, hz8, by rw [ppart_len]; omega, ?_⟩
    refine ⟨_, _, rfl, ?_⟩
    subst hnn
    refine ⟨_, rfl, _, rfl, _, z, 8000 * l, rfl, by omega, hz4, hz9, hnc, by omega, fun pd H6 hpd e6 htd => ?_⟩
    have hgl : digs z ((Nat.gcd (ev (ppart ns) z).natAbs (ev (ppart ms) z).natAbs : Nat) : Int) = [] ∨ (gcdL (digs z ((Nat.gcd (ev (ppart ns) z).natAbs (ev (ppart ms) z).natAbs : Nat) : Int)) ≠ 0 ∧ (gcdL (digs z ((Nat.gcd (ev (ppart ns) z).natAbs (ev (ppart ms) z).natAbs : Nat) : Int))).natAbs < 2 ^ 9000) :=
      .inr ⟨by omega, Nat.lt_of_le_of_lt (gcdL_le (nz_of_nm f1 f2) fdb) (Nat.pow_lt_pow_right (by decide) (by decide))⟩
    refine ⟨pd, _, rfl, SqT.of htd, by omega, hgl, fun pf H7 hpf e7 htf => ?_⟩
    have x7 : Ex H5 H7 := e6.trans e7
    have y7 : Ex H H7 := e5.trans x7
    have htf' : H7 pf = some (.tup ((found z ((Nat.gcd (ev (ppart ns) z).natAbs (ev (ppart ms) z).natAbs : Nat) : Int)).map V.int)) := htf
    have hpfH : H pf = none := fresh_back e5 (fresh_back e6 hpf)
    have nxt : ∀ H', Ex H7 H' → ¬ 2 * (Hp (ns.length + ms.length) B : Int) + 2 ≤ z → ∃ v3 v4 : Option V, [some (V.ref p1), some (V.ref p2), some (V.int (z * z)), some (V.int ((Nat.gcd (ev (ppart ns) z).natAbs (ev (ppart ms) z).natAbs : Nat) : Int)), some (V.ref pf)] = [some (.ref p1), some (.ref p2), some (.int (z * z)), v3, v4] ∧ Ex H H' ∧
        H' p1 = some (.tup ((ppart ns).map V.int)) ∧ H' p2 = some (.tup ((ppart ms).map V.int)) ∧ ¬ 2 * (Hp (ns.length + ms.length) B : Int) + 2 ≤ z :=
      fun H' e h => ⟨_, _, rfl, y7.trans e, (x7.trans e) _ _ hq1, (x7.trans e) _ _ hq2, h⟩
    have zmul : CMulW z z := wide_mul (a := 8000) (b := 8000) hz8 hz8 (by decide) (by decide) (by decide)
    refine ⟨_, rfl, _, rfl, p1, pf, ppart ns, _, 8000, rfl, SqT.of (x7 _ _ hq1), SqT.of htf', nm_ppart hn, fnm, fne, bn8, fb8, by decide, by rw [ppart_len]; omega, by omega, fun pu H8 u hpu e8 htu hnu hu => ?_, fun H8 e8 hno => ?_⟩
    · refine ⟨rfl, _, rfl, ?_⟩
      rw [show (!decide (V.ref pu = V.non)) = true by rfl]
      refine iteT ?_
      refine ⟨_, rfl, _, rfl, p2, pf, ppart ms, _, 8000, rfl, SqT.of (e8 _ _ (x7 _ _ hq2)), SqT.of (e8 _ _ htf'), nm_ppart hm, fnm, fne, bm8, fb8, by decide, by rw [ppart_len]; omega, by omega, fun pv H9 v hpv e9 htv hnv hv => ?_, fun H9 e9 hno => ?_⟩
      · refine ⟨rfl, _, rfl, ?_⟩
        rw [show (!decide (V.ref pv = V.non)) = true by rfl]
        refine iteT ?_
        have hb := hyes u v (fun x => by rw [hu x, Int.mul_comm]) (fun x => by rw [hv x, Int.mul_comm]) hn0
        refine ⟨_, rfl, k pf H9 _ hpfH (y7.trans (e8.trans e9)) (e9 _ _ (e8 _ _ htf')) ⟨fnm, fne, f5, ?_⟩ fb8 (by omega)⟩
        exact bez_up (nz_of_nm hn hns) (nz_of_nm hm hms) (fun x => by rw [hu x, Int.mul_comm]) (fun x => by rw [hv x, Int.mul_comm]) hb
      · refine ⟨rfl, _, rfl, ?_⟩
        rw [show (!decide (V.non = V.non)) = false by rfl]
        refine iteF ?_
        refine ⟨_, rfl, _, rfl, _, _, rfl, rfl, zmul, nxt H9 (e8.trans e9) fun y => hno ?_⟩
        obtain ⟨p, q, h1, h2⟩ := hdone y
        exact ⟨q, fun x => by rw [h2 x, Int.mul_comm]⟩
    · refine ⟨rfl, _, rfl, ?_⟩
      rw [show (!decide (V.non = V.non)) = false by rfl]
      refine iteF (iteF ?_)
      refine ⟨_, rfl, _, rfl, _, _, rfl, rfl, zmul, nxt H8 e8 fun y => hno ?_⟩
      obtain ⟨p, q, h1, h2⟩ := hdone y
      exact ⟨p, fun x => by rw [h1 x, Int.mul_comm]⟩
end
end Coil

set_option Elab.async false
set_option linter.all false
set_option maxRecDepth 100000
set_option maxHeartbeats 4000000
set_option exponentiation.threshold 10000
namespace Coil
open PySem L2 Evl RT
theorem co_range {f : Nat → Int} {n k : Nat} : co ((List.range n).map f) k = if k < n then f k else 0 := by
  split
  · exact co_pick ‹_›
  · exact co_over (by simp; omega)
theorem conv_mulP {ns ms : List Int} (hn : ns ≠ []) (hm : ms ≠ []) : conv ns ms = mulP ns ms := by
  have hl : 0 < ns.length := List.length_pos_iff.mpr hn
  have hl2 : 0 < ms.length := List.length_pos_iff.mpr hm
  have e := mulP_len ns ms hl2 hn
  refine co_ext (by rw [conv_len, e]) fun k => ?_
  by_cases hk : k < ns.length + ms.length - 1
  · rw [co_conv hk, co_mulP]; rfl
  · rw [co_over (by rw [conv_len]; omega), co_over (by rw [e]; omega)]
section
variable {P : Program} {w : World} {K : PySem.W.Frag} {mg : Str → Option Value} {base : Heap} {tL tM tD : Tok}
def spCoef (K : PySem.W.Frag) : Sp := fun vs H Q _ => ∃ (a : Addr) (ns : List Int) (i : Nat), vs = [.ref a, .int i] ∧ SqT K H a (ns.map V.int) ∧ Q (.int (co ns i)) H
theorem ok_coefficient_at {f : Addr} {fd : FuncData} (F : Fun K "coefficient_at" "coefficient_at" s_coefficient_at f fd) (T : Txt mg tL tM tD) : FnOk P w K mg base CX0 1 f fd ["polynomial", "power"] (spCoef K) := by
  refine F.ok sc_coefficient_at (fun vs H Q E h => ?_) (fun cdv A outer s H vs Q E hr h => ?_)
  · obtain ⟨a, ns, i, rfl, _⟩ := h
    rfl
  · obtain ⟨a, ns, i, rfl, hS, k⟩ := h
    refine ⟨_, (pss_one (ps_ret (pe_ifExp (pt_cmpR op_lt (pv 1) (pe_callB (r := Evl.rLenS K) call_len_seq (by rfl) T.b_len (by decide +kernel) (pa_cons (pv 0) pa_nil)) (nomark _)) (pe_ix (r := rIxT K) ix_tup (pv 0) (pv 1) (fun _ _ => rfl)) pe_int))), ?_⟩
    refine ⟨_, rfl, _, rfl, a, _, rfl, .inr hS, _, _, rfl, rfl, _, rfl, ?_⟩
    rw [List.length_map]
    by_cases h : i < ns.length
    · rw [decide_eq_true (by omega : (i : Int) < (ns.length : Int))]
      exact iteT ⟨_, rfl, _, rfl, a, _, _, _, rfl, rfl, hS, at_map h, k⟩
    · rw [decide_eq_false (by omega : ¬ (i : Int) < (ns.length : Int))]
      rw [co_over (by omega)] at k
      exact iteF k
/-- a new tuple of a polynomial told by its coefficients -/
def NewP (Q : VK) (H : L2.Hp) (f : Nat → Int) (n : Nat) : Prop := ∀ p H' (u : List Int), H p = none → Ex H H' → H' p = some (.tup (u.map V.int)) → Nm u → u.length ≤ n → (∀ i, co u i = f i) → Q (.ref p) H'
def spSum (K : PySem.W.Frag) : Sp := fun vs H Q _ => ∃ (a b : Addr) (ns ms : List Int), vs = [.ref a, .ref b] ∧ SqT K H a (ns.map V.int) ∧ SqT K H b (ms.map V.int) ∧ ns.length ≤ 900 ∧ ms.length ≤ 900 ∧ NewP Q H (fun i => co ns i + co ms i) (max ns.length ms.length)
theorem ok_poly_sum {f : Addr} {fd : FuncData} (F : Fun K "poly_sum" "poly_sum" s_poly_sum f fd) (T : Txt mg tL tM tD) (d_trimmed : Def P w K mg base "trimmed" 1 ["coefficients"] (spTrimmed K)) (d_coefficient_at : Def P w K mg base "coefficient_at" 1 ["polynomial", "power"] (spCoef K)) :
    FnOk P w K mg base CX0 2 f fd ["one", "other"] (spSum K) := by
  refine F.ok sc_poly_sum (fun vs H Q E h => ?_) (fun cdv A outer s H vs Q E hr h => ?_)
  · obtain ⟨a, b, ns, ms, rfl, _⟩ := h
    rfl
  · obtain ⟨a, b, ns, ms, rfl, hA, hB, hn, hm, k⟩ := h
    refine ⟨_, (pss_cons (ps_set (i := 2) sc_poly_sum.nd rfl (Or.inl rfl) (pe_callB (call_max2 rfl) (by rfl) T.b_max (by decide +kernel) (pa_cons (pe_callB (r := Evl.rLenS K) call_len_seq (by rfl) T.b_len (by decide +kernel) (pa_cons (pv 0) pa_nil)) (pa_cons (pe_callB (r := Evl.rLenS K) call_len_seq (by rfl) T.b_len (by decide +kernel) (pa_cons (pv 1) pa_nil)) pa_nil))))
  (pss_one (ps_ret (pe_callD d_trimmed (hr.mono (by decide)) (pa_cons (pe_lc (own := [("at", 3)]) (g := gName 3) (tt := tYes) rfl sc_poly_sum.nd (pi_range1 rfl T.b_range (pa_cons (pv 2) pa_nil)) (blkOk_by (own := [("at", 3)]) (N := ["one", "other", "many", "at"]) (sc := defScope s_poly_sum) (by decide +kernel)) (fun _ _ _ _ _ => pg_name (i := 3) sc_poly_sum.nd rfl (Or.inl rfl)) (fun _ _ _ _ _ => pts_nil) (fun _ _ _ _ _ => (pe_op op_add (pe_callD d_coefficient_at (hr.mono (by decide)) (pa_cons (pv 0) (pa_cons (pv 3) pa_nil))) (pe_callD d_coefficient_at (hr.mono (by decide)) (pa_cons (pv 1) (pa_cons (pv 3) pa_nil)))))) pa_nil))))), ?_⟩
    refine ⟨_, rfl, a, _, rfl, .inr hA, _, rfl, b, _, rfl, .inr hB, _, _, rfl, ?_⟩
    have em : (if ((ms.map V.int).length : Int) > ((ns.map V.int).length : Int) then ((ms.map V.int).length : Int) else ((ns.map V.int).length : Int)) = ((max ns.length ms.length : Nat) : Int) := by
      rw [List.length_map, List.length_map]; split <;> omega
    refine ⟨_, rfl, ((max ns.length ms.length : Nat) : Int), congrArg (fun z => [V.int z]) em, by omega, by omega, fun D hD => lc_range (lo := 0) (n := max ns.length ms.length) (fun i H' => Ex H H' ∧ H' D = some (.lst (((List.range i).map fun i => co ns i + co ms i).map V.int))) ⟨Ex.new hD, upd_same⟩ ?_ ?_⟩
    · rintro i H' hi ⟨e, hl⟩
      refine ⟨rfl, ?_⟩
      have ei : (0 : Int) + (i : Int) = ((i : Nat) : Int) := by omega
      refine ⟨_, rfl, _, rfl, a, ns, i, (by show [V.ref a, V.int ((0 : Int) + (i : Int))] = [V.ref a, V.int (i : Int)]; rw [Int.zero_add]), ex_t e hA, _, rfl, _, rfl, b, ms, i, (by show [V.ref b, V.int ((0 : Int) + (i : Int))] = [V.ref b, V.int (i : Int)]; rw [Int.zero_add]), ex_t e hB, _, _, rfl, rfl, _, hl, ?_, Ex.mut e hD, ?_⟩
      · simp only [List.length_map, List.length_range]
        exact line_of (by omega)
      · rw [upd_same, List.range_succ]
        simp
    · rintro H' ⟨e, hl⟩
      refine ⟨D, _, rfl, SqL.of hl, fun p H2 hp e2 h2 => k p H2 _ (fresh_back e hp) (e.trans e2) h2 (nm_trimZ _) ?_ fun i => ?_⟩
      · refine Nat.le_trans (trimZ_len _) ?_
        simp
      · rw [co_trimZ, co_range]
        split
        · rfl
        · show (0 : Int) = co ns i + co ms i
          rw [co_over (p := ns) (by omega), co_over (p := ms) (by omega)]; rfl
def spTimesN (K : PySem.W.Frag) : Sp := fun vs H Q _ => ∃ (a : Addr) (ns : List Int) (n : Int), vs = [.ref a, .int n] ∧ SqT K H a (ns.map V.int) ∧ ns.length ≤ 900 ∧ (∀ c ∈ ns, CMulW n c) ∧ NewP Q H (fun i => n * co ns i) ns.length
theorem ok_poly_times_number {f : Addr} {fd : FuncData} (F : Fun K "poly_times_number" "poly_times_number" s_poly_times_number f fd) (T : Txt mg tL tM tD) (d_trimmed : Def P w K mg base "trimmed" 1 ["coefficients"] (spTrimmed K)) :
    FnOk P w K mg base CX0 2 f fd ["polynomial", "number"] (spTimesN K) := by
  refine F.ok sc_poly_times_number (fun vs H Q E h => ?_) (fun cdv A outer s H vs Q E hr h => ?_)
  · obtain ⟨a, ns, n, rfl, _⟩ := h
    rfl
  · obtain ⟨a, ns, n, rfl, hS, hlen, hc, k⟩ := h
    refine ⟨_, (pss_one (ps_ret (pe_callD d_trimmed (hr.mono (by decide)) (pa_cons (pe_lc (own := [("coefficient", 2)]) (g := gName 2) (tt := tYes) rfl sc_poly_times_number.nd (pi_tup (pv 0)) (blkOk_by (own := [("coefficient", 2)]) (N := ["polynomial", "number", "coefficient"]) (sc := defScope s_poly_times_number) (by decide +kernel)) (fun _ _ _ _ _ => pg_name (i := 2) sc_poly_times_number.nd rfl (Or.inl rfl)) (fun _ _ _ _ _ => pts_nil) (fun _ _ _ _ _ => (pe_op op_mulW (pv 1) (pv 2)))) pa_nil)))), ?_⟩
    refine ⟨_, rfl, a, rfl, ⟨_, hS⟩, fun D hD => lc_tup (K := K) (a := a) (xs := ns.map V.int) (fun i H' => Ex H H' ∧ H' D = some (.lst ((smul n (ns.take i)).map V.int))) ⟨Ex.new hD, upd_same⟩ (fun i H' _ p => ex_t p.1 hS) ?_ ?_⟩
    · rintro i x H' hi ⟨e, hl⟩
      obtain ⟨c, hcg, rfl⟩ := map_int_get hi
      have hil := (List.getElem?_eq_some_iff.mp hcg).1
      refine ⟨rfl, _, rfl, _, rfl, _, _, rfl, rfl, hc c (List.mem_of_getElem? hcg), _, hl, ?_, Ex.mut e hD, ?_⟩
      · simp only [smul, List.length_map, List.length_take]
        exact line_of (by omega)
      · rw [upd_same]
        simp only [smul]
        rw [List.take_add_one, hcg]
        simp
    · rintro H' ⟨e, hl⟩
      rw [List.length_map, List.take_length] at hl
      refine ⟨D, _, rfl, SqL.of hl, fun p H2 hp e2 h2 => k p H2 _ (fresh_back e hp) (e.trans e2) h2 (nm_trimZ _) ?_ fun i => ?_⟩
      · exact Nat.le_trans (trimZ_len _) (by rw [smul_len]; exact Nat.le_refl _)
      · rw [co_trimZ, co_smul]
def spDiff (K : PySem.W.Frag) : Sp := fun vs H Q _ => ∃ (a b : Addr) (ns ms : List Int) (c : Nat), vs = [.ref a, .ref b] ∧ SqT K H a (ns.map V.int) ∧ SqT K H b (ms.map V.int) ∧ ns.length ≤ 900 ∧ ms.length ≤ 900 ∧ BdA (2 ^ c) ms ∧ c ≤ 900000 ∧ NewP Q H (fun i => co ns i - co ms i) (max ns.length ms.length)
theorem ok_poly_difference {f : Addr} {fd : FuncData} (F : Fun K "poly_difference" "poly_difference" s_poly_difference f fd) (T : Txt mg tL tM tD) (d_poly_sum : Def P w K mg base "poly_sum" 2 ["one", "other"] (spSum K)) (d_poly_times_number : Def P w K mg base "poly_times_number" 2 ["polynomial", "number"] (spTimesN K)) :
    FnOk P w K mg base CX0 3 f fd ["one", "other"] (spDiff K) := by
  refine F.ok sc_poly_difference (fun vs H Q E h => ?_) (fun cdv A outer s H vs Q E hr h => ?_)
  · obtain ⟨a, b, ns, ms, c, rfl, _⟩ := h
    rfl
  · obtain ⟨a, b, ns, ms, c, rfl, hA, hB, hn, hm, hb, hc, k⟩ := h
    refine ⟨_, (pss_one (ps_ret (pe_callD d_poly_sum (hr.mono (by decide)) (pa_cons (pv 0) (pa_cons (pe_callD d_poly_times_number (hr.mono (by decide)) (pa_cons (pv 1) (pa_cons (pe_un un_neg pe_int) pa_nil))) pa_nil))))), ?_⟩
    refine ⟨_, rfl, _, rfl, _, rfl, b, ms, -1, rfl, hB, hm, fun x hx => ?_, fun p1 H1 u hp1 e1 ht1 hu1 hul hu2 => ?_⟩
    · exact wide_mul (a := 1) (b := c + 1) (by decide) (Nat.lt_of_le_of_lt (hb x hx) (Nat.pow_lt_pow_right (by decide) (by omega))) (by decide) (by omega) (by omega)
    · refine ⟨a, p1, ns, u, rfl, ex_t e1 hA, SqT.of ht1, hn, by omega, fun p H2 v hp e2 ht hv hvl hv2 => k p H2 v (fresh_back e1 hp) (e1.trans e2) ht hv (by omega) fun i => ?_⟩
      have h1 : co v i = co ns i + co u i := hv2 i
      have h2 : co u i = -1 * co ms i := hu2 i
      show co v i = co ns i - co ms i
      omega
end
end Coil

set_option Elab.async false
set_option linter.all false
set_option maxRecDepth 100000
set_option maxHeartbeats 4000000
set_option exponentiation.threshold 10000
namespace Coil
open PySem L2 Evl RT
section
variable {P : Program} {w : World} {K : PySem.W.Frag} {mg : Str → Option Value} {base : Heap} {tL tM tD : Tok}
def spProd (K : PySem.W.Frag) : Sp := fun vs H Q _ => ∃ (a b : Addr) (ns ms : List Int) (c : Nat), vs = [.ref a, .ref b] ∧ SqT K H a (ns.map V.int) ∧ SqT K H b (ms.map V.int) ∧ ns.length ≤ 400 ∧ ms.length ≤ 400 ∧ Nm ns ∧ Nm ms ∧ BdA (2 ^ c) ns ∧ BdA (2 ^ c) ms ∧ c ≤ 400000 ∧
  NewP Q H (fun i => co (mulP ns ms) i) (ns.length + ms.length - 1)
theorem ok_poly_product {f : Addr} {fd : FuncData} (F : Fun K "poly_product" "poly_product" s_poly_product f fd) (T : Txt mg tL tM tD) : FnOk P w K mg base CX0 1 f fd ["one", "other"] (spProd K) := by
  refine F.ok sc_poly_product (fun vs H Q E h => ?_) (fun cdv A outer s H vs Q E hr h => ?_)
  · obtain ⟨a, b, ns, ms, c, rfl, _⟩ := h
    rfl
  · obtain ⟨a, b, ns, ms, c, rfl, hA, hB, hln, hlm, hnn, hnm, hbn, hbm, hc, k⟩ := h
    refine ⟨_, (pss_cons (ps_if (PW.pt (pw_or (pt_not (pt_truth (pv 0) (by intro _; rfl))) (pw_or1 (pt_not (pt_truth (pv 1) (by intro _; rfl)))))) (pss_one (ps_ret (pe_tup pa_nil))) pss_nil)
  (pss_cons (ps_set (i := 2) sc_poly_product.nd rfl (Or.inl rfl) (pe_op op_rep (pe_lst (pa_cons pe_int pa_nil)) (pe_op op_sub (pe_op op_add (pe_callB (r := Evl.rLenS K) call_len_seq (by rfl) T.b_len (by decide +kernel) (pa_cons (pv 0) pa_nil)) (pe_callB (r := Evl.rLenS K) call_len_seq (by rfl) T.b_len (by decide +kernel) (pa_cons (pv 1) pa_nil))) pe_int)))
  (pss_cons (ps_for PassesOwn.never rfl (pi_enumT (by rfl) T.b_enumerate (pa_cons (pv 0) pa_nil)) (pg_tup rfl (pgs_cons (pg_name (i := 3) sc_poly_product.nd rfl (Or.inl rfl)) (pgs_cons (pg_name (i := 4) sc_poly_product.nd rfl (Or.inl rfl)) pgs_nil))) (pss_one (ps_for PassesOwn.never rfl (pi_enumT (by rfl) T.b_enumerate (pa_cons (pv 1) pa_nil)) (pg_tup rfl (pgs_cons (pg_name (i := 5) sc_poly_product.nd rfl (Or.inl rfl)) (pgs_cons (pg_name (i := 6) sc_poly_product.nd rfl (Or.inl rfl)) pgs_nil))) (pss_one (ps_augS (pv 2) (pe_op op_add (pv 3) (pv 5)) (tget := rGetL K) get_listI (pe_op op_mulW (pv 4) (pv 6)) ip_add set_list)))))
  (pss_one (ps_ret (pe_callTy call_tuple_of (by rfl) T.b_tuple (by decide +kernel) (pa_cons (pv 2) pa_nil))))))), ?_⟩
    have tru : ∀ {p : Addr} {xs : List Int}, SqT K H p (xs.map V.int) → TruV K (.ref p) H (!(xs.map V.int).isEmpty) := fun {p xs} h => .inr (.inl ⟨_, h, rfl⟩)
    have fin0 : (ns = [] ∨ ms = []) → tRet (tTup tNil) { nx := fun _ H' => Q .non H', rt := Q } [some (.ref a), some (.ref b), none, none, none, none, none] H := by
      intro h0
      refine ⟨Nat.zero_le _, fun p hp => ?_⟩
      refine k p _ [] hp (Ex.new hp) (by rw [upd_same]; rfl) (.inl rfl) (Nat.zero_le _) fun i => ?_
      have : ∀ x, ev (mulP ns ms) x = ev [] x := fun x => by
        rw [ev_mul]
        rcases h0 with y | y <;> rw [y] <;> simp [ev]
      exact (ev_ext (mulP ns ms) [] 0 (fun x _ => this x) i).symm
    by_cases hn0 : ns = []
    · refine ⟨_, rfl, _, tru hA, ?_⟩
      rw [show (!(ns.map V.int).isEmpty) = false by rw [hn0]; rfl]
      exact iteT (iteT (fin0 (.inl hn0)))
    refine ⟨_, rfl, _, tru hA, ?_⟩
    rw [sz_ne hn0]
    refine iteF ?_
    by_cases hm0 : ms = []
    · refine ⟨_, rfl, _, tru hB, ?_⟩
      rw [show (!(ms.map V.int).isEmpty) = false by rw [hm0]; rfl]
      exact iteT (fin0 (.inr hm0))
    refine ⟨_, rfl, _, tru hB, ?_⟩
    rw [sz_ne hm0]
    refine iteF ?_
    have hnl : 0 < ns.length := List.length_pos_iff.mpr hn0
    have hml : 0 < ms.length := List.length_pos_iff.mpr hm0
    refine ⟨by decide, fun pz hz => ?_⟩
    have x3 : Ex H (upd H pz (.lst [.int 0])) := Ex.new hz
    refine ⟨_, rfl, a, _, rfl, .inr (ex_t x3 hA), _, rfl, b, _, rfl, .inr (ex_t x3 hB), _, _, rfl, rfl, _, _, rfl, rfl, ?_⟩
    rw [List.length_map, List.length_map]
    refine ⟨pz, _, _, rfl, rfl, upd_same, by omega, by omega, ?_, fun fa hfa => ?_⟩
    · show 1 * _ ≤ sizeLine
      exact Nat.le_trans (by omega : _ ≤ 1000) (by decide)
    have ek : ((ns.length : Int) + (ms.length : Int) - 1).toNat = ns.length + ms.length - 1 := by omega
    have hrep : (List.replicate ((ns.length : Int) + (ms.length : Int) - 1).toNat [V.int 0]).flatten = (cvL ns ms 0 0).map V.int := by
      rw [ek, cvL_zero, show [V.int 0] = [(0 : Int)].map V.int from rfl, rep_int, rep_zero]
    rw [hrep]
    have f0 : H fa = none := fresh_back x3 hfa
    have x4 : Ex H (upd (upd H pz (.lst [.int 0])) fa (.lst ((cvL ns ms 0 0).map V.int))) := x3.trans (Ex.new hfa)
    refine ⟨_, rfl, a, _, rfl, ex_t x4 hA, ?_⟩
    refine for_it (walk_enumT (xs := ns.map V.int)) (fun i σ H' => ∃ v3 v4 v5 v6 : Option V, σ = [some (.ref a), some (.ref b), some (.ref fa), v3, v4, v5, v6] ∧ Ex H H' ∧ H' fa = some (.lst ((cvL ns ms i 0).map V.int))) ⟨none, none, none, none, rfl, x4, upd_same⟩ (fun _ _ _ _ p => ?_) ?_ ?_
    · obtain ⟨_, _, _, _, _, p, _⟩ := p
      exact ex_t p hA
    · rintro i y σ H1 H2 hi ⟨v3, v4, v5, v6, rfl, e3, hf⟩ ⟨tp, z, rfl, htp, rfl, hz'⟩
      obtain ⟨cl, hcl, rfl⟩ := map_int_get hz'
      rw [List.length_map] at hi
      have ecl : cl = co ns i := by
        unfold co; rw [List.getD_eq_getElem?_getD, hcl]; rfl
      have e4 : Ex H (upd H1 tp (.tup [.int (i : Nat), .int cl])) := e3.trans (Ex.new htp)
      have hf4 : (upd H1 tp (.tup [.int (i : Nat), .int cl])) fa = some (.lst ((cvL ns ms i 0).map V.int)) := (Ex.new htp) _ _ hf
      refine ⟨tp, _, rfl, SqT.of upd_same, rfl, ?_⟩
      refine ⟨_, _, rfl, _, _, rfl, rfl, ?_⟩
      refine ⟨_, rfl, b, _, rfl, ex_t e4 hB, ?_⟩
      refine for_it (walk_enumT (xs := ms.map V.int)) (fun j σ H' => ∃ v5 v6 : Option V, σ = [some (.ref a), some (.ref b), some (.ref fa), some (.int (i : Nat)), some (.int cl), v5, v6] ∧ Ex H H' ∧ H' fa = some (.lst ((cvL ns ms i j).map V.int))) ⟨v5, v6, rfl, e4, hf4⟩ (fun _ _ _ _ p => ?_) ?_ ?_
      · obtain ⟨_, _, _, p, _⟩ := p
        exact ex_t p hB
      · rintro j y σ H3 H4 hj ⟨v5, v6, rfl, e5, hf5⟩ ⟨tq, z, rfl, htq, rfl, hz'⟩
        obtain ⟨cr, hcr, rfl⟩ := map_int_get hz'
        rw [List.length_map] at hj
        have ecr : cr = co ms j := by
          unfold co; rw [List.getD_eq_getElem?_getD, hcr]; rfl
        have e6 : Ex H (upd H3 tq (.tup [.int (j : Nat), .int cr])) := e5.trans (Ex.new htq)
        have hf6 : (upd H3 tq (.tup [.int (j : Nat), .int cr])) fa = some (.lst ((cvL ns ms i j).map V.int)) := (Ex.new htq) _ _ hf5
        refine ⟨tq, _, rfl, SqT.of upd_same, rfl, ?_⟩
        refine ⟨_, _, rfl, _, _, rfl, rfl, ?_⟩
        have ij : ((i : Nat) : Int) + ((j : Nat) : Int) = ((i + j : Nat) : Int) := by omega
        have hlen : i + j < (cvL ns ms i j).length := by rw [cvL_len]; omega
        have hw : CMulW cl cr := by
          rw [ecl, ecr]
          exact wide_mul (a := c + 1) (b := c + 1) (Nat.lt_of_le_of_lt (hbn.co i) (Nat.pow_lt_pow_right (by decide) (by omega))) (Nat.lt_of_le_of_lt (hbm.co j) (Nat.pow_lt_pow_right (by decide) (by omega))) (by omega) (by omega) (by omega)
        refine ⟨_, rfl, _, rfl, _, rfl, _, _, rfl, rfl, ?_⟩
        refine ⟨fa, _, _, _, rfl, rfl, SqL.of hf6, (by show atI _ (((i : Nat) : Int) + ((j : Nat) : Int)) = _; rw [ij]; exact at_map hlen), ?_⟩
        refine ⟨_, rfl, _, rfl, _, _, rfl, rfl, hw, ?_⟩
        refine ⟨_, _, rfl, rfl, fa, _, _, i + j, rfl, rfl, hf6, (by show ixN _ (((i : Nat) : Int) + ((j : Nat) : Int)) = _; rw [ij]; exact ixN_nat (by rw [List.length_map]; exact hlen)), ?_⟩
        refine ⟨some (.int (j : Nat)), some (.int cr), rfl, Ex.mut e6 f0, ?_⟩
        rw [upd_same]
        show some (HO.lst (((cvL ns ms i j).map V.int).set (i + j) (V.int ((cvL ns ms i j).getD (i + j) 0 + cl * cr)))) = _
        rw [← List.map_set, ecl, ecr, cvL_set hi hj]
      · rintro σ H3 ⟨v5, v6, rfl, e5, hf5⟩
        rw [List.length_map, cvL_row] at hf5
        exact ⟨_, _, _, _, rfl, e5, hf5⟩
    · rintro σ H1 ⟨v3, v4, v5, v6, rfl, e3, hf⟩
      rw [List.length_map, cvL_all, conv_mulP hn0 hm0] at hf
      obtain ⟨n1, n2⟩ := nm_mulP hnn hnm hn0 hm0
      refine ⟨_, rfl, fa, _, rfl, .inl ⟨SqL.of hf, fun l hl => ?_⟩⟩
      exact k l _ _ (fresh_back e3 hl) (e3.trans (Ex.new hl)) upd_same n1 (by rw [n2]; exact Nat.le_refl _) fun i => rfl
end
end Coil

set_option Elab.async false
set_option linter.all false
set_option maxRecDepth 100000
set_option maxHeartbeats 4000000
set_option exponentiation.threshold 10000
namespace Coil
open PySem L2 Evl RT
/-- a function at p -/
structure FnO (H : L2.Hp) (p : Addr) (t b : List Int) : Prop where
  ex : ∃ pt pb, H p = some (.tup [.ref pt, .ref pb]) ∧ H pt = some (.tup (t.map V.int)) ∧ H pb = some (.tup (b.map V.int))
theorem FnO.ex' {H H' : L2.Hp} {p : Addr} {t b : List Int} (h : FnO H p t b) (e : Ex H H') : FnO H' p t b := by
  obtain ⟨pt, pb, h1, h2, h3⟩ := h.ex
  exact ⟨pt, pb, e _ _ h1, e _ _ h2, e _ _ h3⟩
/-- what quotient hands back -/
def QuoQ (Q : VK) (H : L2.Hp) (t b : List Int) (B : Nat) : Prop := ∀ p H' (t' b' : List Int), H p = none → Ex H H' → FnO H' p t' b' → Can t' b' → (∀ x, ev t' x * ev b x = ev t x * ev b' x) → t'.length ≤ t.length → b'.length ≤ b.length → BdA (Fb (t.length - 1) B) t' → BdA (Fb (b.length - 1) B) b' → Q (.ref p) H'
def QuoPre (t b : List Int) (B : Nat) : Prop := Nm t ∧ Nm b ∧ b ≠ [] ∧ 1 ≤ B ∧ BdA B t ∧ BdA B b ∧ t.length ≤ 30 ∧ b.length ≤ 30 ∧ Zm (t.length + b.length) B < 2 ^ 8000 ∧ Fb (b.length - 1) B < 2 ^ 8000
section
variable {P : Program} {w : World} {K : PySem.W.Frag} {mg : Str → Option Value} {base : Heap} {tL tM tD : Tok}
def spQuot (K : PySem.W.Frag) : Sp := fun vs H Q _ => ∃ (a b : Addr) (ns ms : List Int) (B : Nat), vs = [.ref a, .ref b] ∧ SqT K H a (ns.map V.int) ∧ SqT K H b (ms.map V.int) ∧ QuoPre ns ms B ∧ QuoQ Q H ns ms B
theorem ok_quotient {f : Addr} {fd : FuncData} (F : Fun K "quotient" "quotient" s_quotient f fd) (T : Txt mg tL tM tD) (d_common_divisor : Def P w K mg base "common_divisor" 3 ["one", "other"] (spCd K))
    (d_exact_quotient : Def P w K mg base "exact_quotient" 2 ["one", "other"] (spExq K)) (d_content : Def P w K mg base "content" 1 ["polynomial"] (spContent K)) (d_over_number : Def P w K mg base "over_number" 1 ["polynomial", "number"] (spOver K)) :
    FnOk P w K mg base CX0 4 f fd ["top", "bottom"] (spQuot K) := by
  refine F.ok sc_quotient (fun vs H Q E h => ?_) (fun cdv A outer s H vs Q E hr h => ?_)
  · obtain ⟨a, b, ns, ms, B, rfl, _⟩ := h
    rfl
  · obtain ⟨a, b, ns, ms, B, rfl, hA, hB, ⟨hn, hm, hm0, hB1, hbn, hbm, hln, hlm, hZ, hF⟩, k⟩ := h
    refine ⟨_, (pss_cons (ps_if (pt_not (pt_truth (pv 1) (by intro _; rfl))) (pss_one ps_never) pss_nil)
  (pss_cons (ps_set (i := 2) sc_quotient.nd rfl (Or.inl rfl) (pe_callD d_common_divisor (hr.mono (by decide)) (pa_cons (pv 0) (pa_cons (pv 1) pa_nil))))
  (pss_cons (ps_par (i := 0) (j := 1) rfl sc_quotient.nd rfl rfl (by decide) rfl rfl (pa_cons (pe_callD d_exact_quotient (hr.mono (by decide)) (pa_cons (pv 0) (pa_cons (pv 2) pa_nil))) (pa_cons (pe_callD d_exact_quotient (hr.mono (by decide)) (pa_cons (pv 1) (pa_cons (pv 2) pa_nil))) pa_nil)) (by rfl))
  (pss_cons (ps_set (i := 3) sc_quotient.nd rfl (Or.inl rfl) (pe_callBfun cr_gcd (by rfl) T.g_gcd (pa_cons (pe_callD d_content (hr.mono (by decide)) (pa_cons (pv 0) pa_nil)) (pa_cons (pe_callD d_content (hr.mono (by decide)) (pa_cons (pv 1) pa_nil)) pa_nil))))
  (pss_cons (ps_if (pt_cmpR op_lt (pe_ix (r := rIxT K) ix_tup (pv 1) (pe_un un_neg pe_int) (fun _ _ => rfl)) pe_int (nomark _)) (pss_one (ps_set (i := 3) sc_quotient.nd rfl (Or.inl rfl) (pe_un un_neg (pv 3)))) pss_nil)
  (pss_one (ps_ret (pe_tup (pa_cons (pe_callD d_over_number (hr.mono (by decide)) (pa_cons (pv 0) (pa_cons (pv 3) pa_nil))) (pa_cons (pe_callD d_over_number (hr.mono (by decide)) (pa_cons (pv 1) (pa_cons (pv 3) pa_nil))) pa_nil)))))))))), ?_⟩
    refine ⟨_, rfl, _, .inr (.inl ⟨_, hB, rfl⟩), ?_⟩
    rw [sz_ne hm0]
    refine iteF ?_
    refine ⟨_, rfl, _, rfl, a, b, ns, ms, B, rfl, hA, hB, hn, hm, .inr hm0, hB1, hbn, hbm, hln, hlm, hZ, fun pg H1 g hpg e1 htg ⟨hg, hg0, hgp, p, q, u, v, r, hr0, ep, eq, hbez⟩ hg8 hgl => ?_⟩
    have hgz := nz_of_nm hg hg0
    have hml : 0 < ms.length := List.length_pos_iff.mpr hm0
    have hB8 : B ≤ 2 ^ 8000 := by
      have h1 := Hp_le (N := ns.length + ms.length) (by omega) hB1
      have h2 : 2 * Hp (ns.length + ms.length) B + 2 ≤ Zm (ns.length + ms.length) B := by
        unfold Zm
        rw [Nat.pow_two]
        exact Nat.le_mul_of_pos_left _ (by omega)
      omega
    have hqz : trimZ q ≠ [] := fun y => by
      obtain ⟨B', hB'⟩ := ev_far ms (nz_of_nm hm hm0)
      have := hB' (B' + 1) (by omega)
      rw [eq, ← ev_trimZ q, y] at this
      simp [ev] at this
    have hgl2 : g.length ≤ 30 := by
      have := len_mul hm hg (nm_trimZ q) hg0 hqz (fun x => by rw [ev_trimZ, eq])
      have := List.length_pos_iff.mpr hqz
      omega
    refine ⟨_, rfl, _, rfl, a, pg, ns, g, 8000, rfl, ex_t e1 hA, SqT.of htg, hn, hg, hg0, hbn.mono hB8, hg8, by decide, by omega, by omega, fun pt H2 t hpt e2 htt hnt et => ?_, fun H2 e2 hno => absurd ⟨p, fun x => by rw [ep, Int.mul_comm]⟩ hno⟩
    refine ⟨_, rfl, _, rfl, b, pg, ms, g, 8000, rfl, ex_t e2 (ex_t e1 hB), SqT.of (e2 _ _ htg), hm, hg, hg0, hbm.mono hB8, hg8, by decide, by omega, by omega, fun pb H3 b' hpb e3 htb hnb eb => ?_, fun H3 e3 hno => absurd ⟨q, fun x => by rw [eq, Int.mul_comm]⟩ hno⟩
    refine ⟨_, _, rfl, ?_⟩
    have x3 : Ex H H3 := (e1.trans e2).trans e3
    have htt3 : H3 pt = some (.tup (t.map V.int)) := e3 _ _ htt
    refine ⟨_, rfl, pt, t, rfl, SqT.of htt3, _, rfl, pb, b', rfl, SqT.of htb, _, _, rfl, ?_⟩
    have cp : ∀ x, ev p x = ev t x := ev_cancel hgz fun x => by rw [← ep x, et x, Int.mul_comm]
    have cq : ∀ x, ev q x = ev b' x := ev_cancel hgz fun x => by rw [← eq x, eb x, Int.mul_comm]
    have hb'0 : b' ≠ [] := fun y => by
      obtain ⟨B', hB'⟩ := ev_far ms (nz_of_nm hm hm0)
      have := hB' (B' + 1) (by omega)
      rw [eb, y] at this
      simp [ev] at this
    refine ⟨_, rfl, _, rfl, pb, _, _, _, rfl, rfl, SqT.of htb, at_last hb'0, _, _, rfl, rfl, _, rfl, ?_⟩
    refine ite2 (fun hneg => ?_) (fun hneg => ?_)
    · obtain ⟨w1, w2, w3, w4, w5, w6, w7, w8, w9⟩ := form_of (u := u) (v := v) (s := -1) (B := B) hm0 hn hm hg hg0 hnt hnb et eb hr0 (fun x => by rw [← cp, ← cq]; exact hbez x) (by show (-1 : Int) = if co b' (b'.length - 1) < 0 then -1 else 1; rw [if_pos (of_decide_eq_true hneg)]) (fun i => hbn.co i) (fun i => hbm.co i)
      rw [Int.neg_one_mul] at w2 w3 w4 w8 w9
      have w5' : ∀ x, ev (overL t (-((Nat.gcd (gcdL t).natAbs (gcdL b').natAbs : Nat) : Int))) x * ev ms x = ev ns x * ev (overL b' (-((Nat.gcd (gcdL t).natAbs (gcdL b').natAbs : Nat) : Int))) x := fun x => by have := w5 x; rwa [Int.neg_one_mul] at this
      have hdv : ∀ c, CDivN c (-((Nat.gcd (gcdL t).natAbs (gcdL b').natAbs : Nat) : Int)) := fun c => divN (b := 8000) w2 (Nat.lt_of_le_of_lt w3 hF) (by decide) (by decide)
      refine ⟨_, rfl, _, rfl, ?_⟩
      refine ⟨_, rfl, _, rfl, pt, t, (-((Nat.gcd (gcdL t).natAbs (gcdL b').natAbs : Nat) : Int)), rfl, SqT.of htt3, by omega, fun c _ => hdv c, fun q1 H4 hq1 e4 h4 => ?_⟩
      refine ⟨_, rfl, _, rfl, pb, b', (-((Nat.gcd (gcdL t).natAbs (gcdL b').natAbs : Nat) : Int)), rfl, SqT.of (e4 _ _ htb), by omega, fun c _ => hdv c, fun q2 H5 hq2 e5 h5 => ?_⟩
      refine ⟨(by show 2 ≤ sizeLine; decide), fun pr hpr => ?_⟩
      have x5 : Ex H (upd H5 pr (.tup [.ref q1, .ref q2])) := ((x3.trans e4).trans e5).trans (Ex.new hpr)
      exact k pr _ _ _ (fresh_back ((x3.trans e4).trans e5) hpr) x5 ⟨q1, q2, upd_same, (Ex.new hpr) _ _ (e5 _ _ h4), (Ex.new hpr) _ _ h5⟩ w4 w5' (by rw [overL_len]; exact w6) (by rw [overL_len]; exact w7) (.of_co w8) (.of_co w9)
    · obtain ⟨w1, w2, w3, w4, w5, w6, w7, w8, w9⟩ := form_of (u := u) (v := v) (s := 1) (B := B) hm0 hn hm hg hg0 hnt hnb et eb hr0 (fun x => by rw [← cp, ← cq]; exact hbez x) (by show (1 : Int) = if co b' (b'.length - 1) < 0 then -1 else 1; rw [if_neg fun y => hneg (decide_eq_true y)]) (fun i => hbn.co i) (fun i => hbm.co i)
      rw [Int.one_mul] at w2 w3 w4 w8 w9
      have w5' : ∀ x, ev (overL t ((Nat.gcd (gcdL t).natAbs (gcdL b').natAbs : Nat) : Int)) x * ev ms x = ev ns x * ev (overL b' ((Nat.gcd (gcdL t).natAbs (gcdL b').natAbs : Nat) : Int)) x := fun x => by have := w5 x; rwa [Int.one_mul] at this
      have hdv : ∀ c, CDivN c ((Nat.gcd (gcdL t).natAbs (gcdL b').natAbs : Nat) : Int) := fun c => divN (b := 8000) w2 (Nat.lt_of_le_of_lt w3 hF) (by decide) (by decide)
      refine ⟨_, rfl, _, rfl, pt, t, ((Nat.gcd (gcdL t).natAbs (gcdL b').natAbs : Nat) : Int), rfl, SqT.of htt3, by omega, fun c _ => hdv c, fun q1 H4 hq1 e4 h4 => ?_⟩
      refine ⟨_, rfl, _, rfl, pb, b', ((Nat.gcd (gcdL t).natAbs (gcdL b').natAbs : Nat) : Int), rfl, SqT.of (e4 _ _ htb), by omega, fun c _ => hdv c, fun q2 H5 hq2 e5 h5 => ?_⟩
      refine ⟨(by show 2 ≤ sizeLine; decide), fun pr hpr => ?_⟩
      have x5 : Ex H (upd H5 pr (.tup [.ref q1, .ref q2])) := ((x3.trans e4).trans e5).trans (Ex.new hpr)
      exact k pr _ _ _ (fresh_back ((x3.trans e4).trans e5) hpr) x5 ⟨q1, q2, upd_same, (Ex.new hpr) _ _ (e5 _ _ h4), (Ex.new hpr) _ _ h5⟩ w4 w5' (by rw [overL_len]; exact w6) (by rw [overL_len]; exact w7) (.of_co w8) (.of_co w9)
end
end Coil

set_option Elab.async false
set_option linter.all false
set_option maxRecDepth 100000
set_option maxHeartbeats 4000000
set_option exponentiation.threshold 10000
namespace Coil
open PySem L2 Evl RT
def pairD (t b : List Int) : PyData := .tuple [.tuple (t.map PyData.int), .tuple (b.map PyData.int)]
theorem dp_fn {K : PySem.W.Frag} {H : L2.Hp} {p : Addr} {t b : List Int} (h : FnO H p t b) : Dp K H (.ref p) (pairD t b) := by
  obtain ⟨pt, pb, h1, h2, h3⟩ := h.ex
  exact .tup (SqT.of h1) (.cons (dp_tup (SqT.of h2)) (.cons (dp_tup (SqT.of h3)) .nil))
theorem eqv_fn (t b t' b' : List Int) : PyData.eqv (pairD t b) (pairD t' b') = (decide (t = t') && decide (b = b')) := by
  unfold pairD
  rw [PyData.eqv, PyData.eqvAll, PyData.eqvAll, PyData.eqvAll, eqv_tups, eqv_tups, Bool.and_true]
theorem shaped_fn (t b : List Int) : SeqAt.shaped (pairD t b) = true := by
  unfold SeqAt.shaped
  rw [Bool.and_eq_true]
  refine ⟨?_, decide_eq_true ?_⟩
  · simp [pairD, PyData.canLay0, PyData.canLayAll0, lay_ints]
  · have h1 := depth_ints t
    have h2 := depth_ints b
    simp only [pairD, PyData.depth, PyData.depthAll]
    omega
section
variable {P : Program} {w : World} {K : PySem.W.Frag} {mg : Str → Option Value} {base : Heap} {tL tM tD : Tok}
def Pol (ns : List Int) : Prop := ns.length ≤ 13 ∧ (∀ n ∈ ns, n.natAbs ≤ (1000000000000000000000000000000000000000000000000000000000000 : Int).natAbs) ∧ ns.getLast? ≠ some 0
/-! ### checks -/
abbrev big60 : Int := 1000000000000000000000000000000000000000000000000000000000000
def spIsInt : Sp := fun vs H Q _ => ∃ n : Int, vs = [.int n] ∧ Q (.bl true) H
theorem ok_is_integer {f : Addr} {fd : FuncData} (F : Fun K "is_integer" "is_integer" s_is_integer f fd) (T : Txt mg tL tM tD) : FnOk P w K mg base CX0 1 f fd ["value"] spIsInt := by
  refine F.ok sc_is_integer (fun vs H Q E h => ?_) (fun cdv A outer s H vs Q E hr h => ?_)
  · obtain ⟨n, rfl, _⟩ := h
    rfl
  · obtain ⟨n, rfl, k⟩ := h
    refine ⟨_, (pss_one (ps_ret (pe_and (pe_callB (r := rIsi K) call_isi (by rfl) T.b_isinstance (by decide +kernel) (pa_cons (pv 0) (pa_cons (pe_bltn (v := .ty "int") (by rfl) T.b_int (by decide +kernel) rfl) pa_nil))) (pe_one (pe_not (pe_callB (r := rIsi K) call_isi (by rfl) T.b_isinstance (by decide +kernel) (pa_cons (pv 0) (pa_cons (pe_bltn (v := .ty "bool") (by rfl) T.b_bool (by decide +kernel) rfl) pa_nil)))))))), ?_⟩
    refine ⟨_, rfl, _, _, _, _, true, rfl, ClsV.ty _, TyX.base (TyOf.int n), kit_ty (by decide +kernel), true, rfl, ?_⟩
    refine iteT ?_
    exact ⟨_, rfl, _, _, _, _, false, rfl, ClsV.ty _, TyX.base (TyOf.int n), kit_ty (by decide +kernel), false, rfl, k⟩
def spLim : Sp := fun vs H Q _ => ∃ n : Int, vs = [.int n] ∧ n.natAbs ≤ big60.natAbs ∧ Q (.bl true) H
theorem ok_lim {f : Addr} {fd : FuncData} (F : Fun K "_is_limited_integer" "_is_limited_integer" s_u_is_limited_integer f fd) (T : Txt mg tL tM tD) (d_is_integer : Def P w K mg base "is_integer" 1 ["value"] spIsInt) :
    FnOk P w K mg base CX0 2 f fd ["value"] spLim := by
  refine F.ok sc_u_is_limited_integer (fun vs H Q E h => ?_) (fun cdv A outer s H vs Q E hr h => ?_)
  · obtain ⟨n, rfl, _⟩ := h
    rfl
  · obtain ⟨n, rfl, hb, k⟩ := h
    refine ⟨_, (pss_one (ps_ret (pe_and (pe_callD d_is_integer (hr.mono (by decide)) (pa_cons (pv 0) pa_nil)) (pe_one (pe_cmpR op_le (pe_callB call_abs (by rfl) T.b_abs (by decide +kernel) (pa_cons (pv 0) pa_nil)) (pe_glob (v := .int 1000000000000000000000000000000000000000000000000000000000000) rfl T.g_LARGEST ⟨_, rfl⟩) (nomark _)))))), ?_⟩
    refine ⟨_, rfl, n, rfl, true, rfl, ?_⟩
    refine iteT ?_
    refine ⟨_, rfl, n, rfl, _, _, rfl, rfl, ?_⟩
    have e : decide ((if n < 0 then -n else n) ≤ big60) = true := by
      rw [decide_eq_true_eq]
      have h1 : big60.natAbs = 1000000000000000000000000000000000000000000000000000000000000 := by decide
      rw [h1] at hb
      show (if n < 0 then -n else n) ≤ (1000000000000000000000000000000000000000000000000000000000000 : Int)
      split <;> omega
    show Q (.bl (decide ((if n < 0 then -n else n) ≤ big60))) H
    rw [e]
    exact k
def spIsPoly (K : PySem.W.Frag) : Sp := fun vs H Q _ => ∃ (a : Addr) (ns : List Int), vs = [.ref a] ∧ SqT K H a (ns.map V.int) ∧ Pol ns ∧ ∀ H', Ex H H' → Q (.bl true) H'
theorem ok_is_polynomial {f : Addr} {fd : FuncData} (F : Fun K "is_polynomial" "is_polynomial" s_is_polynomial f fd) (T : Txt mg tL tM tD) (d_u_is_limited_integer : Def P w K mg base "_is_limited_integer" 2 ["value"] spLim) :
    FnOk P w K mg base CX0 3 f fd ["value"] (spIsPoly K) := by
  refine F.ok sc_is_polynomial (fun vs H Q E h => ?_) (fun cdv A outer s H vs Q E hr h => ?_)
  · obtain ⟨a, ns, rfl, _⟩ := h
    rfl
  · obtain ⟨a, ns, rfl, hS, ⟨h13, hb, h0⟩, k⟩ := h
    refine ⟨_, (pss_cons (ps_if (PW.pt (pw_or (pt_not (pt_val (pe_callB (r := rIsi K) call_isi (by rfl) T.b_isinstance (by decide +kernel) (pa_cons (pv 0) (pa_cons (pe_bltn (v := .ty "tuple") (by rfl) T.b_tuple (by decide +kernel) rfl) pa_nil))))) (pw_or1 (pt_cmpR op_gt (pe_callB (r := Evl.rLenS K) call_len_seq (by rfl) T.b_len (by decide +kernel) (pa_cons (pv 0) pa_nil)) (pe_glob (v := .int 13) rfl T.g_MOST_COEFFICIENTS ⟨_, rfl⟩) (nomark _))))) (pss_one (ps_ret pe_bl)) pss_nil)
  (pss_cons (ps_if (pt_not (pt_val (pe_callB (r := rAll K) (cr_all rfl) (by rfl) T.b_all (by decide +kernel) (pa_cons (pe_lc (own := [("coefficient", 1)]) (g := gName 1) (tt := tYes) rfl sc_is_polynomial.nd (pi_tup (pv 0)) (blkOk_by (own := [("coefficient", 1)]) (N := ["value", "coefficient"]) (sc := defScope s_is_polynomial) (by decide +kernel)) (fun _ _ _ _ _ => pg_name (i := 1) sc_is_polynomial.nd rfl (Or.inl rfl)) (fun _ _ _ _ _ => pts_nil) (fun _ _ _ _ _ => (pe_callD d_u_is_limited_integer (hr.mono (by decide)) (pa_cons (pv 1) pa_nil)))) pa_nil)))) (pss_one (ps_ret pe_bl)) pss_nil)
  (pss_one (ps_ret (pe_or (pe_notT (pv 0)) (pe_one (pe_cmpR op_ne (pe_ix (r := rIxT K) ix_tup (pv 0) (pe_un un_neg pe_int) (fun _ _ => rfl)) pe_int (nomark _)))))))), ?_⟩
    refine ⟨_, rfl, _, _, _, _, true, rfl, ClsV.ty _, ty_tup hS, kit_ty (by decide +kernel), true, rfl, ?_⟩
    refine iteF ?_
    refine ⟨_, rfl, a, _, rfl, .inr hS, _, _, rfl, rfl, _, rfl, ?_⟩
    rw [List.length_map]
    refine ite2 (fun h => absurd (of_decide_eq_true h) (by omega)) (fun _ => ?_)
    refine ⟨_, rfl, a, rfl, ⟨_, hS⟩, fun D hD => lc_tup (K := K) (a := a) (xs := ns.map V.int) (fun i H' => Ex H H' ∧ H' D = some (.lst (List.replicate i (.bl true)))) ⟨Ex.new hD, upd_same⟩ (fun i H' _ p => ex_t p.1 hS) ?_ ?_⟩
    · rintro i x H' hi ⟨e, hl⟩
      obtain ⟨n, hn, rfl⟩ := map_int_get hi
      refine ⟨rfl, ?_⟩
      refine ⟨_, rfl, n, rfl, hb n (List.mem_of_getElem? hn), _, hl, ?_, Ex.mut e hD, ?_⟩
      · rw [List.length_replicate]
        have := (List.getElem?_eq_some_iff.mp hn).1
        exact Nat.lt_of_lt_of_le (by omega : i < 13) (by decide)
      · rw [upd_same, List.replicate_succ']
    · rintro H' ⟨e, hl⟩
      refine ⟨D, List.replicate (ns.map V.int).length true, rfl, SqL.of (by rw [hl, List.map_replicate]), true, ?_, ?_⟩
      · rw [List.all_eq_true.mpr (fun x hx => by rw [List.eq_of_mem_replicate hx]; rfl)]
      · refine iteF ?_
        refine ⟨_, rfl, _, .inr (.inl ⟨_, ex_t e hS, rfl⟩), _, rfl, ?_⟩
        cases ns with
        | nil => exact iteT (k _ e)
        | cons n0 ns0 =>
          refine iteF ?_
          obtain ⟨z, hz⟩ : ∃ z, (n0 :: ns0).getLast? = some z := ⟨_, List.getLast?_eq_some_getLast (by simp)⟩
          have hz0 : z ≠ 0 := fun q => h0 (by rw [hz, q])
          refine ⟨_, rfl, _, rfl, a, _, _, _, rfl, rfl, ex_t e hS, emap_last hz, rfl, ?_⟩
          have ed : (!decide (V.int z = V.int 0)) = true := by
            rw [decide_eq_false (fun q => hz0 (V.int.inj q))]
            rfl
          rw [ed]
          exact k _ e

def spCheck (K : PySem.W.Frag) : Sp := fun vs H Q _ => ∃ (a : Addr) (ns : List Int), vs = [.ref a] ∧ SqT K H a (ns.map V.int) ∧ Pol ns ∧ ∀ H', Ex H H' → Q .non H'
theorem ok_check_polynomial {f : Addr} {fd : FuncData} (F : Fun K "check_polynomial" "check_polynomial" s_check_polynomial f fd) (d_is_polynomial : Def P w K mg base "is_polynomial" 3 ["value"] (spIsPoly K)) :
    FnOk P w K mg base CX0 4 f fd ["value"] (spCheck K) := by
  refine F.ok sc_check_polynomial (fun vs H Q E h => ?_) (fun cdv A outer s H vs Q E hr h => ?_)
  · obtain ⟨a, ns, rfl, _⟩ := h
    rfl
  · obtain ⟨a, ns, rfl, hS, hp, k⟩ := h
    refine ⟨_, (pss_one (ps_if (pt_not (pt_val (pe_callD d_is_polynomial (hr.mono (by decide)) (pa_cons (pv 0) pa_nil)))) (pss_one ps_never) pss_nil)), ?_⟩
    exact ⟨_, rfl, a, ns, rfl, hS, hp, fun H' e => ⟨true, rfl, iteF (k _ e)⟩⟩

/-! ### functions -/
/-- what a function may be, to be asked about -/
def FnPre (t b : List Int) (B : Nat) : Prop := Can t b ∧ Pol t ∧ Pol b ∧ QuoPre t b B
def spIsFun (K : PySem.W.Frag) : Sp := fun vs H Q _ => ∃ (p : Addr) (t b : List Int) (B : Nat), vs = [.ref p] ∧ FnO H p t b ∧ FnPre t b B ∧ ∀ H', Ex H H' → Q (.bl true) H'
end
end Coil

set_option Elab.async false
set_option linter.all false
set_option maxRecDepth 100000
set_option maxHeartbeats 4000000
set_option exponentiation.threshold 10000
namespace Coil
open PySem L2 Evl RT
/-- sizes that quotient may be asked for -/
structure QP (L B : Nat) : Prop where
  b1 : 1 ≤ B
  l0 : 1 ≤ L
  l30 : L ≤ 30
  z : (2 * Hp (2 * L) B + 2) ^ 2 < 2 ^ 8000
  f : Fb (L - 1) B < 2 ^ 8000
theorem QP.pre {L B : Nat} (h : QP L B) {t b : List Int} (ht : Nm t) (hb : Nm b) (b0 : b ≠ []) (bt : BdA B t) (bb : BdA B b) (lt : t.length ≤ L) (lb : b.length ≤ L) : QuoPre t b B := by
  have hbl : 0 < b.length := List.length_pos_iff.mpr b0
  refine ⟨ht, hb, b0, h.b1, bt, bb, by have := h.l30; omega, by have := h.l30; omega, ?_, ?_⟩
  · refine Nat.lt_of_le_of_lt ?_ h.z
    unfold Zm
    refine Nat.pow_le_pow_left ?_ 2
    have := Hp_mono (N := t.length + b.length) (M := 2 * L) (B := B) (by omega) (by omega) h.b1
    omega
  · exact Nat.lt_of_le_of_lt (Fb_mono (by omega)) h.f
section
variable {P : Program} {w : World} {K : PySem.W.Frag} {mg : Str → Option Value} {base : Heap} {tL tM tD : Tok}
def spCheckFn (K : PySem.W.Frag) : Sp := fun vs H Q _ => ∃ (p : Addr) (t b : List Int) (B : Nat), vs = [.ref p] ∧ FnO H p t b ∧ FnPre t b B ∧ ∀ H', Ex H H' → Q .non H'
def spCheck2 (K : PySem.W.Frag) : Sp := fun vs H Q _ => ∃ (p q : Addr) (t b t' b' : List Int) (B B' : Nat), vs = [.ref p, .ref q] ∧ FnO H p t b ∧ FnO H q t' b' ∧ FnPre t b B ∧ FnPre t' b' B' ∧ ∀ H', Ex H H' → Q .non H'
/-! ### degrees -/
def spDegOf (K : PySem.W.Frag) : Sp := fun vs H Q _ => ∃ (p : Addr) (t b : List Int), vs = [.ref p] ∧ FnO H p t b ∧ Q (.int (((max t.length b.length : Nat) : Int) - 1)) H
theorem ok_degree_of {f : Addr} {fd : FuncData} (F : Fun K "degree_of" "degree_of" s_degree_of f fd) (T : Txt mg tL tM tD) : FnOk P w K mg base CX0 1 f fd ["one"] (spDegOf K) := by
  refine F.ok sc_degree_of (fun vs H Q E h => ?_) (fun cdv A outer s H vs Q E hr h => ?_)
  · obtain ⟨p, t, b, rfl, _⟩ := h
    rfl
  · obtain ⟨p, t, b, rfl, hF, k⟩ := h
    obtain ⟨pt, pb, h1, h2, h3⟩ := id hF.ex
    refine ⟨_, (pss_one (ps_ret (pe_op op_sub (pe_callB (call_max2 rfl) (by rfl) T.b_max (by decide +kernel) (pa_cons (pe_callB (r := Evl.rLenS K) call_len_seq (by rfl) T.b_len (by decide +kernel) (pa_cons (pe_ix (r := rIxT K) ix_tup (pv 0) pe_int (fun _ _ => rfl)) pa_nil)) (pa_cons (pe_callB (r := Evl.rLenS K) call_len_seq (by rfl) T.b_len (by decide +kernel) (pa_cons (pe_ix (r := rIxT K) ix_tup (pv 0) pe_int (fun _ _ => rfl)) pa_nil)) pa_nil))) pe_int))), ?_⟩
    refine ⟨_, rfl, p, _, _, _, rfl, rfl, SqT.of h1, rfl, pt, _, rfl, .inr (SqT.of h2), _, rfl, p, _, _, _, rfl, rfl, SqT.of h1, rfl, pb, _, rfl, .inr (SqT.of h3), _, _, rfl, _, _, rfl, rfl, ?_⟩
    have em : (if ((b.map V.int).length : Int) > ((t.map V.int).length : Int) then ((b.map V.int).length : Int) else ((t.map V.int).length : Int)) = ((max t.length b.length : Nat) : Int) := by
      rw [List.length_map, List.length_map]; split <;> omega
    rw [← em] at k
    exact k
def spLimited (K : PySem.W.Frag) : Sp := fun vs H Q _ => ∃ (p : Addr) (t b : List Int), vs = [.ref p] ∧ FnO H p t b ∧ t.length ≤ 13 ∧ b.length ≤ 13 ∧ Q (.ref p) H
theorem ok_limited {f : Addr} {fd : FuncData} (F : Fun K "limited" "limited" s_limited f fd) (T : Txt mg tL tM tD) (d_degree_of : Def P w K mg base "degree_of" 1 ["one"] (spDegOf K)) : FnOk P w K mg base CX0 2 f fd ["one"] (spLimited K) := by
  refine F.ok sc_limited (fun vs H Q E h => ?_) (fun cdv A outer s H vs Q E hr h => ?_)
  · obtain ⟨p, t, b, rfl, _⟩ := h
    rfl
  · obtain ⟨p, t, b, rfl, hF, ht, hb, k⟩ := h
    refine ⟨_, (pss_cons (ps_if (pt_cmpR op_gt (pe_callD d_degree_of (hr.mono (by decide)) (pa_cons (pv 0) pa_nil)) (pe_glob (v := .int 12) rfl T.g_MOST_DEGREE ⟨_, rfl⟩) (nomark _)) (pss_one ps_never) pss_nil)
  (pss_one (ps_ret (pv 0)))), ?_⟩
    refine ⟨_, rfl, p, t, b, rfl, hF, _, _, rfl, rfl, _, rfl, ?_⟩
    refine ite2 (fun h => absurd (of_decide_eq_true h) (by omega)) (fun _ => ⟨_, rfl, k⟩)
/-! ### function, degree, reciprocal, minus, subtract -/
def spFunction (K : PySem.W.Frag) : Sp := fun vs H Q _ => ∃ (a b : Addr) (ns ms : List Int) (B : Nat), vs = [.ref a, .ref b] ∧ SqT K H a (ns.map V.int) ∧ SqT K H b (ms.map V.int) ∧ Pol ns ∧ Pol ms ∧ QuoPre ns ms B ∧ QuoQ Q H ns ms B
theorem QuoQ.ex {Q : VK} {H H' : L2.Hp} {t b : List Int} {B : Nat} (h : QuoQ Q H t b B) (e : Ex H H') : QuoQ Q H' t b B :=
  fun p H2 t' b' hp e2 hf hc hx l1 l2 s1 s2 => h p H2 t' b' (fresh_back e hp) (e.trans e2) hf hc hx l1 l2 s1 s2
theorem ok_function {f : Addr} {fd : FuncData} (F : Fun K "function" "function" s_function f fd) (d_check_polynomial : Def P w K mg base "check_polynomial" 4 ["value"] (spCheck K)) (d_quotient : Def P w K mg base "quotient" 4 ["top", "bottom"] (spQuot K)) :
    FnOk P w K mg base CX0 5 f fd ["top", "bottom"] (spFunction K) := by
  refine F.ok sc_function (fun vs H Q E h => ?_) (fun cdv A outer s H vs Q E hr h => ?_)
  · obtain ⟨a, b, ns, ms, B, rfl, _⟩ := h
    rfl
  · obtain ⟨a, b, ns, ms, B, rfl, hA, hB, p1, p2, hq, k⟩ := h
    refine ⟨_, (pss_cons (ps_expr (pe_callD d_check_polynomial (hr.mono (by decide)) (pa_cons (pv 0) pa_nil)))
  (pss_cons (ps_expr (pe_callD d_check_polynomial (hr.mono (by decide)) (pa_cons (pv 1) pa_nil)))
  (pss_one (ps_ret (pe_callD d_quotient (hr.mono (by decide)) (pa_cons (pv 0) (pa_cons (pv 1) pa_nil))))))), ?_⟩
    refine ⟨_, rfl, a, ns, rfl, hA, p1, fun H1 e1 => ⟨_, rfl, b, ms, rfl, ex_t e1 hB, p2, fun H2 e2 => ?_⟩⟩
    exact ⟨_, rfl, _, rfl, a, b, ns, ms, B, rfl, ex_t (e1.trans e2) hA, ex_t (e1.trans e2) hB, hq, k.ex (e1.trans e2)⟩
def spDegree (K : PySem.W.Frag) : Sp := fun vs H Q _ => ∃ (p : Addr) (t b : List Int) (B : Nat), vs = [.ref p] ∧ FnO H p t b ∧ FnPre t b B ∧ ∀ H', Ex H H' → Q (.int (((max t.length b.length : Nat) : Int) - 1)) H'
def spRecip (K : PySem.W.Frag) : Sp := fun vs H Q _ => ∃ (p : Addr) (t b : List Int) (B B' : Nat), vs = [.ref p] ∧ FnO H p t b ∧ FnPre t b B ∧ QuoPre b t B' ∧ QuoQ Q H b t B'
def spInv (K : PySem.W.Frag) : Sp := fun vs H Q _ => ∃ (p : Addr) (t b : List Int) (B' : Nat), vs = [.ref p] ∧ FnO H p t b ∧ QuoPre b t B' ∧ QuoQ Q H b t B'
theorem ok_inverse {f : Addr} {fd : FuncData} (F : Fun K "inverse" "inverse" s_inverse f fd) (d_quotient : Def P w K mg base "quotient" 4 ["top", "bottom"] (spQuot K)) :
    FnOk P w K mg base CX0 5 f fd ["one"] (spInv K) := by
  refine F.ok sc_inverse (fun vs H Q E h => ?_) (fun cdv A outer s H vs Q E hr h => ?_)
  · obtain ⟨p, t, b, B', rfl, _⟩ := h
    rfl
  · obtain ⟨p, t, b, B', rfl, hF, hq, k⟩ := h
    refine ⟨_, (pss_one (ps_ret (pe_callD d_quotient (hr.mono (by decide)) (pa_cons (pe_ix (r := rIxT K) ix_tup (pv 0) pe_int (fun _ _ => rfl)) (pa_cons (pe_ix (r := rIxT K) ix_tup (pv 0) pe_int (fun _ _ => rfl)) pa_nil))))), ?_⟩
    obtain ⟨pt, pb, h1, h2, h3⟩ := id hF.ex
    exact ⟨_, rfl, p, _, _, _, rfl, rfl, SqT.of h1, rfl, _, rfl, p, _, _, _, rfl, rfl, SqT.of h1, rfl, pb, pt, b, t, B', rfl, SqT.of h3, SqT.of h2, hq, k⟩
end
end Coil

set_option Elab.async false
set_option linter.all false
set_option maxRecDepth 100000
set_option maxHeartbeats 4000000
set_option exponentiation.threshold 10000
namespace Coil
open PySem L2 Evl RT
/-! ### operations with functions -/
structure OpPre (t b t' b' : List Int) (l1 c1 l2 c2 B : Nat) : Prop where
  a1 : Can t b
  a2 : Can t' b'
  lt : t.length ≤ l1
  lb : b.length ≤ l1
  lt' : t'.length ≤ l2
  lb' : b'.length ≤ l2
  bt : BdA (2 ^ c1) t
  bb : BdA (2 ^ c1) b
  bt' : BdA (2 ^ c2) t'
  bb' : BdA (2 ^ c2) b'
  cc : c1 + c2 ≤ 4000
  qp : QP (l1 + l2 - 1) B
  sz : 2 * ((l1 + l2) * (2 ^ c1 * 2 ^ c2)) ≤ B
/-- what an operation hands back -/
def OpQ (Q : VK) (H : L2.Hp) (R : List Int → List Int → Prop) (L B : Nat) : Prop := ∀ p H' (u v : List Int), H p = none → Ex H H' → FnO H' p u v → Can u v → R u v → u.length ≤ L → v.length ≤ L → BdA (Fb (L - 1) B) u → BdA (Fb (L - 1) B) v → Q (.ref p) H'
theorem OpQ.ex {Q : VK} {H H' : L2.Hp} {R : List Int → List Int → Prop} {L B : Nat} (h : OpQ Q H R L B) (e : Ex H H') : OpQ Q H' R L B :=
  fun p H2 u v hp e2 hf hc hx l1 l2 s1 s2 => h p H2 u v (fresh_back e hp) (e.trans e2) hf hc hx l1 l2 s1 s2
def RPlus (t b t' b' u v : List Int) : Prop := ∀ x, ev u x * (ev b x * ev b' x) = (ev t x * ev b' x + ev t' x * ev b x) * ev v x
def RMinus (t b t' b' u v : List Int) : Prop := ∀ x, ev u x * (ev b x * ev b' x) = (ev t x * ev b' x - ev t' x * ev b x) * ev v x
def RTimes (t b t' b' u v : List Int) : Prop := ∀ x, ev u x * (ev b x * ev b' x) = (ev t x * ev t' x) * ev v x
def ROver (t b t' b' u v : List Int) : Prop := ∀ x, ev u x * (ev b x * ev t' x) = (ev t x * ev b' x) * ev v x
def RInv (t b u v : List Int) : Prop := ∀ x, ev u x * ev t x = ev b x * ev v x
def RConst (x y : Int) (u v : List Int) : Prop := ∀ z, ev u z * y = x * ev v z
theorem op_fin {K : PySem.W.Frag} {Q : VK} {H H4 : L2.Hp} {R : List Int → List Int → Prop} {L B : Nat} {a3 a4 : Addr} {u3 u4 : List Int} {z} (k : OpQ Q H R L B) (x4 : Ex H H4) (h3 : H4 a3 = some (.tup (u3.map V.int))) (h4 : H4 a4 = some (.tup (u4.map V.int))) (n3 : Nm u3) (n4 : Nm u4) (u40 : u4 ≠ []) (b3 : BdA B u3) (b4 : BdA B u4) (l3 : u3.length ≤ L) (l4 : u4.length ≤ L) (qp : QP L B)
    (hR : ∀ u v, (∀ x, ev u x * ev u4 x = ev u3 x * ev v x) → R u v) : spQuot K [.ref a3, .ref a4] H4 Q z :=
  ⟨a3, a4, u3, u4, B, rfl, SqT.of h3, SqT.of h4, qp.pre n3 n4 u40 b3 b4 l3 l4, fun pr H5 u v hpr e5 hf hc hx l1 l2 s1 s2 => k pr H5 u v (fresh_back x4 hpr) (x4.trans e5) hf hc (hR u v hx) (by omega) (by omega) (s1.mono (Fb_mono (by omega))) (s2.mono (Fb_mono (by omega)))⟩
theorem op_szp {l1 l2 c1 c2 : Nat} {x y : List Int} (hx : x.length ≤ l1 + l2) (h1 : BdA (2 ^ c1) x) (h2 : BdA (2 ^ c2) y) (i : Nat) : (co (mulP x y) i).natAbs ≤ (l1 + l2) * (2 ^ c1 * 2 ^ c2) := Nat.le_trans (mulP_bd (fun i => h1.co i) (fun i => h2.co i) i) (Nat.mul_le_mul_right _ hx)
theorem bd_up {c d : Nat} {x : List Int} (h : BdA (2 ^ c) x) (hd : c ≤ d) : BdA (2 ^ d) x := h.mono (Nat.pow_le_pow_right (by decide) hd)
theorem mul_ne {x y u : List Int} (hx : Nm x) (hy : Nm y) (x0 : x ≠ []) (y0 : y ≠ []) (hu : Nm u) (e : ∀ i, co u i = co (mulP x y) i) : u ≠ [] := fun z => by
  obtain ⟨n1, n2⟩ := nm_mulP hx hy x0 y0
  have := nm_len hu n1 e
  rw [z, n2] at this
  have := List.length_pos_iff.mpr x0
  have := List.length_pos_iff.mpr y0
  simp only [List.length_nil] at *
  omega
section
variable {P : Program} {w : World} {K : PySem.W.Frag} {mg : Str → Option Value} {base : Heap} {tL tM tD : Tok}
def spBin (K : PySem.W.Frag) (R : List Int → List Int → List Int → List Int → List Int → List Int → Prop) (z : Prop → Prop) : Sp := fun vs H Q _ => ∃ (p q : Addr) (t b t' b' : List Int) (l1 c1 l2 c2 B : Nat), vs = [.ref p, .ref q] ∧ FnO H p t b ∧ FnO H q t' b' ∧ OpPre t b t' b' l1 c1 l2 c2 B ∧ z (t' ≠ []) ∧ OpQ Q H (R t b t' b') (l1 + l2 - 1) B
abbrev zNo : Prop → Prop := fun _ => True
abbrev zYes : Prop → Prop := fun p => p
theorem ok_plus {f : Addr} {fd : FuncData} (F : Fun K "plus" "plus" s_plus f fd) (d_poly_sum : Def P w K mg base "poly_sum" 2 ["one", "other"] (spSum K)) (d_poly_product : Def P w K mg base "poly_product" 1 ["one", "other"] (spProd K))
    (d_quotient : Def P w K mg base "quotient" 4 ["top", "bottom"] (spQuot K)) : FnOk P w K mg base CX0 5 f fd ["one", "other"] (spBin K RPlus zNo) := by
  refine F.ok sc_plus (fun vs H Q E h => ?_) (fun cdv A outer s H vs Q E hr h => ?_)
  · obtain ⟨p, q, t, b, t', b', l1, c1, l2, c2, B, rfl, _⟩ := h
    rfl
  · obtain ⟨p, q, t, b, t', b', l1, c1, l2, c2, B, rfl, hF, hF', M, _, k⟩ := h
    obtain ⟨pt, pb, h1, h2, h3⟩ := id hF.ex
    obtain ⟨qt, qb, g1, g2, g3⟩ := id hF'.ex
    refine ⟨_, (pss_cons (ps_set (i := 2) sc_plus.nd rfl (Or.inl rfl) (pe_callD d_poly_sum (hr.mono (by decide)) (pa_cons (pe_callD d_poly_product (hr.mono (by decide)) (pa_cons (pe_ix (r := rIxT K) ix_tup (pv 0) pe_int (fun _ _ => rfl)) (pa_cons (pe_ix (r := rIxT K) ix_tup (pv 1) pe_int (fun _ _ => rfl)) pa_nil))) (pa_cons (pe_callD d_poly_product (hr.mono (by decide)) (pa_cons (pe_ix (r := rIxT K) ix_tup (pv 1) pe_int (fun _ _ => rfl)) (pa_cons (pe_ix (r := rIxT K) ix_tup (pv 0) pe_int (fun _ _ => rfl)) pa_nil))) pa_nil))))
  (pss_one (ps_ret (pe_callD d_quotient (hr.mono (by decide)) (pa_cons (pv 2) (pa_cons (pe_callD d_poly_product (hr.mono (by decide)) (pa_cons (pe_ix (r := rIxT K) ix_tup (pv 0) pe_int (fun _ _ => rfl)) (pa_cons (pe_ix (r := rIxT K) ix_tup (pv 1) pe_int (fun _ _ => rfl)) pa_nil))) pa_nil)))))), ?_⟩
    obtain ⟨A1, A2, lt, lb, lt', lb', bt, bb, bt', bb', cc, qp, sz⟩ := M
    have hl30 := qp.l30
    have hbl : 0 < b.length := List.length_pos_iff.mpr A1.b0
    have hbl' : 0 < b'.length := List.length_pos_iff.mpr A2.b0
    have up1 : ∀ {x}, BdA (2 ^ c1) x → BdA (2 ^ (c1 + c2)) x := fun h => bd_up h (by omega)
    have up2 : ∀ {x}, BdA (2 ^ c2) x → BdA (2 ^ (c1 + c2)) x := fun h => bd_up h (by omega)
    refine ⟨_, rfl, p, _, _, _, rfl, rfl, SqT.of h1, rfl, _, rfl, q, _, _, _, rfl, rfl, SqT.of g1, rfl, ?_⟩
    refine ⟨pt, qb, t, b', c1 + c2, rfl, SqT.of h2, SqT.of g3, by omega, by omega, A1.nt, A2.nb, up1 bt, up2 bb', by omega, fun a1 H1 u1 ha1 e1 ht1 hu1 hl1 hc1 => ?_⟩
    refine ⟨_, rfl, q, _, _, _, rfl, rfl, SqT.of (e1 _ _ g1), rfl, _, rfl, p, _, _, _, rfl, rfl, SqT.of (e1 _ _ h1), rfl, ?_⟩
    refine ⟨qt, pb, t', b, c1 + c2, rfl, SqT.of (e1 _ _ g2), SqT.of (e1 _ _ h3), by omega, by omega, A2.nt, A1.nb, up2 bt', up1 bb, by omega, fun a2 H2 u2 ha2 e2 ht2 hu2 hl2 hc2 => ?_⟩
    have hc1' : ∀ i, co u1 i = co (mulP t b') i := hc1
    have hc2' : ∀ i, co u2 i = co (mulP t' b) i := hc2
    have x2 := e1.trans e2
    refine ⟨a1, a2, u1, u2, rfl, SqT.of (e2 _ _ ht1), SqT.of ht2, by omega, by omega, fun a3 H3 u3 ha3 e3 ht3 hu3 hl3 hc3 => ?_⟩
    have hc3' : ∀ i, co u3 i = co u1 i + co u2 i := hc3
    have x3 := x2.trans e3
    refine ⟨_, rfl, ?_⟩
    refine ⟨_, rfl, p, _, _, _, rfl, rfl, SqT.of (x3 _ _ h1), rfl, _, rfl, q, _, _, _, rfl, rfl, SqT.of (x3 _ _ g1), rfl, ?_⟩
    refine ⟨pb, qb, b, b', c1 + c2, rfl, SqT.of (x3 _ _ h3), SqT.of (x3 _ _ g3), by omega, by omega, A1.nb, A2.nb, up1 bb, up2 bb', by omega, fun a4 H4 u4 ha4 e4 ht4 hu4 hl4 hc4 => ?_⟩
    have hc4' : ∀ i, co u4 i = co (mulP b b') i := hc4
    refine op_fin (z := E) k (x3.trans e4) (e4 _ _ ht3) ht4 hu3 hu4 (mul_ne A1.nb A2.nb A1.b0 A2.b0 hu4 hc4') (.of_co fun i => ?_) (.of_co fun i => ?_) (by omega) (by omega) qp fun u v hx x => ?_
    · have q1 := op_szp (l1 := l1) (l2 := l2) (c1 := c1) (c2 := c2) (x := t) (y := b') (by omega) bt bb' i
      have q2 := op_szp (l1 := l1) (l2 := l2) (c1 := c2) (c2 := c1) (x := t') (y := b) (by omega) bt' bb i
      rw [Nat.mul_comm (2 ^ c2)] at q2
      rw [hc3', hc1', hc2']
      omega
    · have q1 := op_szp (l1 := l1) (l2 := l2) (c1 := c1) (c2 := c2) (x := b) (y := b') (by omega) bb bb' i
      rw [hc4']
      omega
    · have := hx x
      rw [ev_co hc4' x, ev_mul, ev_co (p := u3) (q := addP u1 u2) (fun i => by rw [hc3', co_add]) x, ev_add, ev_co hc1' x, ev_mul, ev_co hc2' x, ev_mul] at this
      exact this
/-! ### add, subtract, multiply, divide -/
def spBin2 (K : PySem.W.Frag) (R : List Int → List Int → List Int → List Int → List Int → List Int → Prop) (z : Prop → Prop) : Sp := fun vs H Q _ => ∃ (p q : Addr) (t b t' b' : List Int) (l1 c1 l2 c2 B B1 B2 : Nat), vs = [.ref p, .ref q] ∧ FnO H p t b ∧ FnO H q t' b' ∧ FnPre t b B1 ∧ FnPre t' b' B2 ∧ OpPre t b t' b' l1 c1 l2 c2 B ∧ z (t' ≠ []) ∧ l1 + l2 ≤ 14 ∧ OpQ Q H (R t b t' b') (l1 + l2 - 1) B
end
end Coil

set_option Elab.async false
set_option linter.all false
set_option maxRecDepth 100000
set_option maxHeartbeats 4000000
set_option exponentiation.threshold 10000
namespace Coil
open PySem L2 Evl RT
section
variable {P : Program} {w : World} {K : PySem.W.Frag} {mg : Str → Option Value} {base : Heap} {tL tM tD : Tok}
def spValOver (K : PySem.W.Frag) : Sp := fun vs H Q _ => ∃ (a : Addr) (ns : List Int) (x y : Int) (n c d : Nat), vs = [.ref a, .int x, .int y, .int n] ∧ SqT K H a (ns.map V.int) ∧ ns.length ≤ n + 1 ∧ n ≤ 900 ∧ (∀ i, (co ns i).natAbs ≤ 2 ^ c) ∧ x.natAbs < 2 ^ d ∧ y.natAbs < 2 ^ d ∧ c + (d + 1) * (n + 3) ≤ 400000 ∧ Q (.int (hv n ns x y)) H
/-! ### ratios -/
/-- a ratio at q -/
def RtO (H : L2.Hp) (q : Addr) (x y : Int) : Prop := H q = some (.tup [.int x, .int y])
def spRatioOf : Sp := fun vs H Q _ => ∃ x y : Int, vs = [.int x, .int y] ∧ y ≠ 0 ∧ x.natAbs < 2 ^ 8900 ∧ y.natAbs < 2 ^ 8900 ∧ ∀ p H' a e, H p = none → Ex H H' → RtO H' p a e → Rat1 a e → a * y = x * e → a.natAbs ≤ x.natAbs → e.natAbs ≤ y.natAbs → Q (.ref p) H'
theorem rat_of {x y g : Int} (hy : y ≠ 0) (hg : g = if y < 0 then -((Nat.gcd x.natAbs y.natAbs : Nat) : Int) else ((Nat.gcd x.natAbs y.natAbs : Nat) : Int)) : Rat1 (x.fdiv g) (y.fdiv g) ∧ x.fdiv g * y = x * y.fdiv g ∧ (x.fdiv g).natAbs ≤ x.natAbs ∧ (y.fdiv g).natAbs ≤ y.natAbs ∧ g ≠ 0 ∧ g.natAbs ≤ y.natAbs := by
  have hgp : 0 < Nat.gcd x.natAbs y.natAbs := Nat.gcd_pos_of_pos_right _ (by omega)
  have hga : g.natAbs = Nat.gcd x.natAbs y.natAbs := by rw [hg]; split <;> omega
  have hg0 : g ≠ 0 := by omega
  obtain ⟨a, ha⟩ : g ∣ x := Int.natAbs_dvd_natAbs.mp (by rw [hga]; exact Nat.gcd_dvd_left _ _)
  obtain ⟨b, hb⟩ : g ∣ y := Int.natAbs_dvd_natAbs.mp (by rw [hga]; exact Nat.gcd_dvd_right _ _)
  have fa : x.fdiv g = a := by rw [ha, Int.mul_fdiv_cancel_left _ hg0]
  have fb : y.fdiv g = b := by rw [hb, Int.mul_fdiv_cancel_left _ hg0]
  rw [fa, fb]
  have na : x.natAbs = g.natAbs * a.natAbs := by rw [ha, Int.natAbs_mul]
  have nb : y.natAbs = g.natAbs * b.natAbs := by rw [hb, Int.natAbs_mul]
  refine ⟨⟨?_, ?_⟩, by rw [ha, hb]; grind, by rw [na]; exact Nat.le_mul_of_pos_left _ (by omega), by rw [nb]; exact Nat.le_mul_of_pos_left _ (by omega), hg0, by rw [hga]; exact Nat.gcd_le_right _ (by omega)⟩
  · have hb0 : b ≠ 0 := fun z => hy (by rw [hb, z, Int.mul_zero])
    by_cases h : y < 0
    · rw [if_pos h] at hg
      have h1 : g < 0 := by omega
      have h2 : ¬ b < 0 := fun z => by
        have := Int.mul_pos_of_neg_of_neg h1 z
        omega
      omega
    · rw [if_neg h] at hg
      have h1 : 0 < g := by omega
      have h2 : ¬ b < 0 := fun z => by
        have := Int.mul_neg_of_pos_of_neg h1 z
        omega
      omega
  · have := hga
    rw [na, nb, Nat.gcd_mul_left] at this
    have hp : 0 < g.natAbs := by omega
    have h3 : g.natAbs * 1 = g.natAbs * Nat.gcd a.natAbs b.natAbs := by rw [Nat.mul_one]; exact this
    exact (Nat.eq_of_mul_eq_mul_left hp h3).symm
theorem ok_ratio_of {f : Addr} {fd : FuncData} (F : Fun K "ratio_of" "ratio_of" s_ratio_of f fd) (T : Txt mg tL tM tD) : FnOk P w K mg base CX0 1 f fd ["number", "under"] spRatioOf := by
  refine F.ok sc_ratio_of (fun vs H Q E h => ?_) (fun cdv A outer s H vs Q E hr h => ?_)
  · obtain ⟨x, y, rfl, _⟩ := h
    rfl
  · obtain ⟨x, y, rfl, hy, hx9, hy9, k⟩ := h
    refine ⟨_, (pss_cons (ps_set (i := 2) sc_ratio_of.nd rfl (Or.inl rfl) (pe_callBfun cr_gcd (by rfl) T.g_gcd (pa_cons (pv 0) (pa_cons (pv 1) pa_nil))))
  (pss_cons (ps_if (pt_cmpR op_lt (pv 1) pe_int (nomark _)) (pss_one (ps_set (i := 2) sc_ratio_of.nd rfl (Or.inl rfl) (pe_un un_neg (pv 2)))) pss_nil)
  (pss_one (ps_ret (pe_tup (pa_cons (pe_op op_fdivN (pv 0) (pv 2)) (pa_cons (pe_op op_fdivN (pv 1) (pv 2)) pa_nil))))))), ?_⟩
    refine ⟨_, rfl, _, rfl, _, _, rfl, ?_⟩
    refine ⟨_, rfl, _, _, rfl, rfl, _, rfl, ?_⟩
    refine ite2 (fun q => ?_) (fun q => ?_)
    · obtain ⟨h1, h2, h3, h4, h5, h6⟩ := rat_of (x := x) (y := y) hy (if_pos (of_decide_eq_true q)).symm
      have hd : ∀ c, CDivN c (-((Nat.gcd x.natAbs y.natAbs : Nat) : Int)) := fun c => divN (b := 8900) h5 (Nat.lt_of_le_of_lt h6 hy9) (by decide) (by decide)
      refine ⟨_, rfl, _, rfl, ?_⟩
      exact ⟨_, rfl, _, rfl, _, _, rfl, rfl, hd _, _, rfl, _, rfl, _, _, rfl, rfl, hd _, (by show 2 ≤ sizeLine; decide), fun p hp => k p _ _ _ hp (Ex.new hp) upd_same h1 h2 h3 h4⟩
    · obtain ⟨h1, h2, h3, h4, h5, h6⟩ := rat_of (x := x) (y := y) hy (if_neg fun z => q (decide_eq_true z)).symm
      have hd : ∀ c, CDivN c ((Nat.gcd x.natAbs y.natAbs : Nat) : Int) := fun c => divN (b := 8900) h5 (Nat.lt_of_le_of_lt h6 hy9) (by decide) (by decide)
      exact ⟨_, rfl, _, rfl, _, _, rfl, rfl, hd _, _, rfl, _, rfl, _, _, rfl, rfl, hd _, (by show 2 ≤ sizeLine; decide), fun p hp => k p _ _ _ hp (Ex.new hp) upd_same h1 h2 h3 h4⟩
/-! ### values of functions -/
/-- the bottom's and the top's value at x / y, at the function's own power -/
def pw (t b : List Int) : Nat := max t.length b.length - 1
def spValueOf (K : PySem.W.Frag) : Sp := fun vs H Q _ => ∃ (p q : Addr) (t b : List Int) (x y : Int) (c d : Nat), vs = [.ref p, .ref q] ∧ FnO H p t b ∧ RtO H q x y ∧ b ≠ [] ∧ t.length ≤ 30 ∧ b.length ≤ 30 ∧ BdA (2 ^ c) t ∧ BdA (2 ^ c) b ∧ x.natAbs < 2 ^ d ∧ y.natAbs < 2 ^ d ∧ c + 1 + (d + 1) * 30 ≤ 8000 ∧
  (hv (pw t b) b x y = 0 → Q .non H) ∧ (hv (pw t b) b x y ≠ 0 → ∀ p H' a e, H p = none → Ex H H' → RtO H' p a e → Rat1 a e → a * hv (pw t b) b x y = hv (pw t b) t x y * e → a.natAbs ≤ (hv (pw t b) t x y).natAbs → e.natAbs ≤ (hv (pw t b) b x y).natAbs → Q (.ref p) H')
def Big (x : Int) : Prop := x.natAbs ≤ big60.natAbs
def spIsRatio : Sp := fun vs H Q _ => ∃ (q : Addr) (x y : Int), vs = [.ref q] ∧ RtO H q x y ∧ Rat1 x y ∧ Big x ∧ Big y ∧ Q (.bl true) H
theorem ok_is_ratio {f : Addr} {fd : FuncData} (F : Fun K "is_ratio" "is_ratio" s_is_ratio f fd) (T : Txt mg tL tM tD) (d_u_is_limited_integer : Def P w K mg base "_is_limited_integer" 2 ["value"] spLim) :
    FnOk P w K mg base CX0 3 f fd ["value"] spIsRatio := by
  refine F.ok sc_is_ratio (fun vs H Q E h => ?_) (fun cdv A outer s H vs Q E hr h => ?_)
  · obtain ⟨q, x, y, rfl, _⟩ := h
    rfl
  · obtain ⟨q, x, y, rfl, hR, ⟨hy, hg⟩, bx, bY, k⟩ := h
    refine ⟨_, (pss_cons (ps_if (PW.pt (pw_or (pt_not (pt_val (pe_callB (r := rIsi K) call_isi (by rfl) T.b_isinstance (by decide +kernel) (pa_cons (pv 0) (pa_cons (pe_bltn (v := .ty "tuple") (by rfl) T.b_tuple (by decide +kernel) rfl) pa_nil))))) (pw_or1 (pt_cmpR op_ne (pe_callB (r := Evl.rLenS K) call_len_seq (by rfl) T.b_len (by decide +kernel) (pa_cons (pv 0) pa_nil)) pe_int (nomark _))))) (pss_one (ps_ret pe_bl)) pss_nil)
  (pss_cons (ps_asg (pv 0) (pg_tup rfl (pgs_cons (pg_name (i := 1) sc_is_ratio.nd rfl (Or.inl rfl)) (pgs_cons (pg_name (i := 2) sc_is_ratio.nd rfl (Or.inl rfl)) pgs_nil))))
  (pss_cons (ps_if (PW.pt (pw_or (pt_not (pt_val (pe_callD d_u_is_limited_integer (hr.mono (by decide)) (pa_cons (pv 1) pa_nil)))) (pw_or1 (pt_not (pt_val (pe_callD d_u_is_limited_integer (hr.mono (by decide)) (pa_cons (pv 2) pa_nil))))))) (pss_one (ps_ret pe_bl)) pss_nil)
  (pss_one (ps_ret (pe_and (pe_cmpR op_gt (pv 2) pe_int (nomark _)) (pe_one (pe_cmpR op_eq (pe_callBfun cr_gcd (by rfl) T.g_gcd (pa_cons (pv 1) (pa_cons (pv 2) pa_nil))) pe_int (nomark _))))))))), ?_⟩
    refine ⟨_, rfl, _, _, _, _, true, rfl, ClsV.ty _, ty_tup (SqT.of hR), kit_ty (by decide +kernel), true, rfl, ?_⟩
    refine iteF ?_
    refine ⟨_, rfl, q, _, rfl, .inr (SqT.of hR), rfl, _, rfl, ?_⟩
    refine iteF ?_
    refine ⟨_, rfl, q, _, rfl, SqT.of hR, rfl, ?_⟩
    refine ⟨_, _, rfl, _, _, rfl, rfl, ?_⟩
    refine ⟨_, rfl, x, rfl, bx, ?_⟩
    refine ⟨_, rfl, iteF ?_⟩
    refine ⟨_, rfl, y, rfl, bY, ?_⟩
    refine ⟨_, rfl, iteF ?_⟩
    refine ⟨_, rfl, _, _, rfl, rfl, ?_⟩
    refine ⟨true, congrArg V.bl (decide_eq_true (show (0 : Int) < y from hy)), ?_⟩
    refine iteT ?_
    refine ⟨_, rfl, _, rfl, _, _, rfl, rfl, ?_⟩
    rw [hg]
    exact k
def spCheckRt : Sp := fun vs H Q _ => ∃ (q : Addr) (x y : Int), vs = [.ref q] ∧ RtO H q x y ∧ Rat1 x y ∧ Big x ∧ Big y ∧ Q .non H
theorem big_lt {x : Int} (h : Big x) : x.natAbs < 2 ^ 200 := Nat.lt_of_le_of_lt h (by decide +kernel)
def spValueAt (K : PySem.W.Frag) : Sp := fun vs H Q _ => ∃ (p q : Addr) (t b : List Int) (x y : Int) (B c d : Nat), vs = [.ref p, .ref q] ∧ FnO H p t b ∧ FnPre t b B ∧ RtO H q x y ∧ Rat1 x y ∧ Big x ∧ Big y ∧ BdA (2 ^ c) t ∧ BdA (2 ^ c) b ∧ x.natAbs < 2 ^ d ∧ y.natAbs < 2 ^ d ∧ c + 1 + (d + 1) * 30 ≤ 8000 ∧
  (hv (pw t b) b x y = 0 → ∀ H', Ex H H' → Q .non H') ∧ (hv (pw t b) b x y ≠ 0 → ∀ p H' a e, H p = none → Ex H H' → RtO H' p a e → Rat1 a e → a * hv (pw t b) b x y = hv (pw t b) t x y * e → a.natAbs ≤ (hv (pw t b) t x y).natAbs → e.natAbs ≤ (hv (pw t b) b x y).natAbs → Q (.ref p) H')
theorem RtO.ex' {H H' : L2.Hp} {q : Addr} {x y : Int} (h : RtO H q x y) (e : Ex H H') : RtO H' q x y := e _ _ h
/-! ### constants -/
def spConst0 (K : PySem.W.Frag) : Sp := fun vs H Q _ => ∃ (q : Addr) (x y : Int) (B : Nat), vs = [.ref q] ∧ RtO H q x y ∧ Rat1 x y ∧ QP 1 B ∧ x.natAbs ≤ B ∧ y.natAbs ≤ B ∧ OpQ Q H (RConst x y) 1 B
end
end Coil

set_option Elab.async false
set_option linter.all false
set_option maxRecDepth 100000
set_option maxHeartbeats 4000000
namespace Coil
open PySem L2 Evl
section
variable {P : Program} {w : World} {K : PySem.W.Frag} {mg : Str → Option Value} {base : Heap} {tL tM tD : Tok}
/-! ### the law's draws -/
def spTaken (K : PySem.W.Frag) : Sp := fun vs H Q _ => ∃ (r a : Addr) (ns : List Int) (m : Int), vs = [.ref r, .int m] ∧ H r = some (RowO a r) ∧ SqL K H a (ns.map V.int) ∧ 0 < m ∧ m ≤ 1000 ∧ ∀ k : Int, 0 ≤ k → k < m → Q (.int k) H
theorem ok_taken {f : Addr} {fd : FuncData} (F : Fun K "_law_taken" "_law_taken" s_u_law_taken f fd) (T : Txt mg tL tM tD) : FnOk P w K mg base CX0 1 f fd ["row", "many"] (spTaken K) := by
  refine F.ok sc_u_law_taken (fun vs H Q E h => ?_) (fun cdv A outer s H vs Q E hr h => ?_)
  · obtain ⟨r, a, ns, m, rfl, _⟩ := h
    rfl
  · obtain ⟨r, a, ns, m, rfl, hR, hS, hm, hm2, k⟩ := h
    refine ⟨_, pss_view (a := a) (r := r) (pss_cons (ps_if (pt_cmpR op_gt (pe_ix (r := rIxL K) ix_list (pv 0) pe_int (fun _ _ => rfl)) pe_int (nomark _)) (pss_cons (ps_set (i := 3) sc_u_law_taken.nd rfl (Or.inl rfl) (pe_op op_mod (pe_callTy call_int1 (by rfl) T.b_int (by decide +kernel) (pa_cons (pe_ix (r := rIxL K) ix_list (pv 0) pe_int (fun _ _ => rfl)) pa_nil)) (pv 1)))
  (pss_cons (ps_asg (pe_op op_fdivW (pe_ix (r := rIxL K) ix_list (pv 0) pe_int (fun _ _ => rfl)) (pv 1)) (pg_sub (pv 0) pe_int set_list))
  (pss_one (ps_ret (pv 3))))) pss_nil)
  (pss_cons (ps_asg (pe_op op_add (pe_ix (r := rIxL K) ix_list (pv 0) pe_int (fun _ _ => rfl)) pe_int) (pg_sub (pv 0) pe_int set_list))
  (pss_cons (ps_if (pt_cmpR op_gt (pe_ix (r := rIxL K) ix_list (pv 0) pe_int (fun _ _ => rfl)) (pe_callB (r := Evl.rLenS K) call_len_seq (by rfl) T.b_len (by decide +kernel) (pa_cons (pe_ix (r := rIxL K) ix_list (pv 0) pe_int (fun _ _ => rfl)) pa_nil)) (nomark _)) (pss_cons (ps_asg (pe_op op_mod (pe_callTy call_int1 (by rfl) T.b_int (by decide +kernel) (pa_cons (pe_op op_add (pe_op op_mulW (pe_ix (r := rIxL K) ix_list (pv 0) pe_int (fun _ _ => rfl)) pe_int) pe_int) pa_nil)) pe_int) (pg_sub (pv 0) pe_int set_list))
  (pss_one (ps_ret (pe_op op_mod (pe_callTy call_int1 (by rfl) T.b_int (by decide +kernel) (pa_cons (pe_op op_fdivW (pe_ix (r := rIxL K) ix_list (pv 0) pe_int (fun _ _ => rfl)) pe_int) pa_nil)) (pv 1))))) pss_nil)
  (pss_cons (ps_set (i := 2) sc_u_law_taken.nd rfl (Or.inl rfl) (pe_ix (r := rIxL K) ix_list (pe_ix (r := rIxL K) ix_list (pv 0) pe_int (fun _ _ => rfl)) (pe_op op_sub (pe_ix (r := rIxL K) ix_list (pv 0) pe_int (fun _ _ => rfl)) pe_int) (fun _ _ => rfl)))
  (pss_cons (ps_asg (pe_op op_mod (pe_callTy call_int1 (by rfl) T.b_int (by decide +kernel) (pa_cons (pe_op op_add (pe_op op_add (pe_op op_mulW (pe_ix (r := rIxL K) ix_list (pv 0) pe_int (fun _ _ => rfl)) pe_int) (pv 2)) pe_int) pa_nil)) pe_int) (pg_sub (pv 0) pe_int set_list))
  (pss_cons (ps_if (pt_cmpR op_ge (pv 2) (pe_op op_pow pe_int pe_int) (nomark _)) (pss_one (ps_asg (pe_op op_fdivW (pv 2) (pv 1)) (pg_sub (pv 0) pe_int set_list))) pss_nil)
  (pss_one (ps_ret (pe_op op_mod (pe_callTy call_int1 (by rfl) T.b_int (by decide +kernel) (pa_cons (pv 2) pa_nil)) (pv 1)))))))))), ?_⟩
    refine ⟨hR, fun n z b hn hz0 hz1 hb => ?_⟩
    have dm : CDivW b m := wide_div (b := 64) hm (by omega) (by decide) (by decide)
    have hS1 : ∀ u, SqL K (upd H r u) a (ns.map V.int) := fun u => seq_upd (o := u) hR hS
    refine ⟨_, rfl, r, _, _, _, rfl, rfl, SqL.of upd_same, rfl, _, _, rfl, rfl, _, rfl, ?_⟩
    refine ite2 (fun _ => ?_) (fun _ => ?_)
    · refine ⟨_, rfl, r, _, _, _, rfl, rfl, SqL.of upd_same, rfl, .inl ⟨_, rfl, ?_⟩⟩
      refine ⟨_, rfl, _, _, rfl, rfl, hm, ?_⟩
      refine ⟨_, rfl, r, _, _, _, rfl, rfl, SqL.of upd_same, rfl, _, rfl, _, _, rfl, rfl, dm, ?_⟩
      refine ⟨_, rfl, r, _, _, 3, rfl, rfl, upd_same, rfl, ?_⟩
      refine ⟨_, rfl, n, z, b / m, hn, hz0, hz1, Int.ediv_nonneg hb (by omega), upd_same, ?_⟩
      rw [upd_upd, upd_upd, upd_id hR]
      exact k _ (Int.emod_nonneg _ (by omega)) (Int.emod_lt_of_pos _ hm)
    · refine ⟨_, rfl, r, _, _, _, rfl, rfl, SqL.of upd_same, rfl, _, _, rfl, rfl, ?_⟩
      refine ⟨_, rfl, r, _, _, 1, rfl, rfl, upd_same, rfl, ?_⟩
      rw [upd_upd]
      refine ⟨_, rfl, r, _, _, _, rfl, rfl, SqL.of upd_same, rfl, ?_⟩
      refine ⟨_, rfl, r, _, _, _, rfl, rfl, SqL.of upd_same, rfl, a, _, rfl, .inl (hS1 _), _, _, rfl, rfl, _, rfl, ?_⟩
      have hx : ∀ x : Int, 0 ≤ x % 2147483647 ∧ x % 2147483647 < 2147483647 := fun x => ⟨Int.emod_nonneg _ (by decide), Int.emod_lt_of_pos _ (by decide)⟩
      have mz : CMulW z 48271 := wide_mul (a := 64) (b := 64) (by omega) (by decide) (by decide) (by decide) (by decide)
      refine ite2 (fun _ => ?_) (fun hlen => ?_)
      · refine ⟨_, rfl, r, _, _, _, rfl, rfl, SqL.of upd_same, rfl, _, _, rfl, rfl, mz, ?_⟩
        refine ⟨_, _, rfl, rfl, .inl ⟨_, rfl, _, _, rfl, rfl, (by show (0 : Int) < 2147483647; decide), ?_⟩⟩
        refine ⟨_, rfl, r, _, _, 2, rfl, rfl, upd_same, rfl, ?_⟩
        rw [upd_upd]
        refine ⟨_, rfl, r, _, _, _, rfl, rfl, SqL.of upd_same, rfl, _, _, rfl, rfl, wide_div (b := 64) (by decide) (by decide) (by decide) (by decide), .inl ⟨_, rfl, _, rfl, _, _, rfl, rfl, hm, ?_⟩⟩
        refine ⟨n + 1, _, b, by omega, (hx _).1, (hx _).2, hb, upd_same, ?_⟩
        rw [upd_upd, upd_id hR]
        exact k _ (Int.emod_nonneg _ (by omega)) (Int.emod_lt_of_pos _ hm)
      · have hlen' : n + 1 ≤ ((ns.map V.int).length : Int) := by
          have : ¬ (((ns.map V.int).length : Nat) : Int) < n + 1 := fun q => hlen (decide_eq_true q)
          omega
        rw [List.length_map] at hlen'
        have hj : n.toNat < ns.length := by omega
        have ej : n + 1 - 1 = ((n.toNat : Nat) : Int) := by omega
        refine ⟨_, rfl, r, _, _, _, rfl, rfl, SqL.of upd_same, rfl, ?_⟩
        refine ⟨_, rfl, r, _, _, _, rfl, rfl, SqL.of upd_same, rfl, _, _, rfl, rfl, ?_⟩
        refine ⟨a, _, _, _, rfl, rfl, hS1 _, (by rw [ej]; exact at_map hj), ?_⟩
        generalize ns.getD n.toNat 0 = cell
        refine ⟨_, rfl, r, _, _, _, rfl, rfl, SqL.of upd_same, rfl, _, _, rfl, rfl, mz, ?_⟩
        refine ⟨_, rfl, _, _, rfl, rfl, _, _, rfl, rfl, .inl ⟨_, rfl, _, _, rfl, rfl, (by show (0 : Int) < 2147483647; decide), ?_⟩⟩
        refine ⟨_, rfl, r, _, _, 2, rfl, rfl, upd_same, rfl, ?_⟩
        rw [upd_upd]
        refine ⟨_, rfl, _, _, rfl, rfl, ⟨by decide, by decide, by decide⟩, _, _, rfl, rfl, _, rfl, ?_⟩
        refine ite2 (fun hc => ?_) (fun _ => ?_)
        · have hc' : (10 : Int) ^ (18 : Int).toNat ≤ cell := of_decide_eq_true hc
          have h18 : (0 : Int) ≤ 10 ^ (18 : Int).toNat := by decide
          refine ⟨_, rfl, _, rfl, _, _, rfl, rfl, wide_div (b := 64) hm (by omega) (by decide) (by decide), ?_⟩
          refine ⟨_, rfl, r, _, _, 3, rfl, rfl, upd_same, rfl, ?_⟩
          rw [upd_upd]
          refine ⟨_, rfl, .inl ⟨_, rfl, _, rfl, _, _, rfl, rfl, hm, ?_⟩⟩
          refine ⟨n + 1, _, cell / m, by omega, (hx _).1, (hx _).2, Int.ediv_nonneg (by omega) (by omega), upd_same, ?_⟩
          rw [upd_upd, upd_id hR]
          exact k _ (Int.emod_nonneg _ (by omega)) (Int.emod_lt_of_pos _ hm)
        · refine ⟨_, rfl, .inl ⟨_, rfl, _, rfl, _, _, rfl, rfl, hm, ?_⟩⟩
          refine ⟨n + 1, _, b, by omega, (hx _).1, (hx _).2, hb, upd_same, ?_⟩
          rw [upd_upd, upd_id hR]
          exact k _ (Int.emod_nonneg _ (by omega)) (Int.emod_lt_of_pos _ hm)

def spPick (K : PySem.W.Frag) : Sp := fun vs H Q _ => ∃ (r a t : Addr) (ns : List Int) (xs : List V), vs = [.ref r, .ref t] ∧ H r = some (RowO a r) ∧ SqL K H a (ns.map V.int) ∧ SqL K H t xs ∧ 0 < xs.length ∧ xs.length ≤ 1000 ∧ ∀ (i : Nat) (v : V), xs[i]? = some v → Q v H
/-! ### the law's polynomials -/
def spTrim (K : PySem.W.Frag) : Sp := fun vs H Q _ => ∃ (a : Addr) (ns : List Int), vs = [.ref a] ∧ SqL K H a (ns.map V.int) ∧ ns.length ≤ 1000 ∧ ∀ p H', H p = none → Ex H H' → H' p = some (.tup ((trimL ns).map V.int)) → Q (.ref p) H'
theorem ok_trim {f : Addr} {fd : FuncData} (F : Fun K "_law_trim" "_law_trim" s_u_law_trim f fd) (T : Txt mg tL tM tD) : FnOk P w K mg base CX0 1 f fd ["some"] (spTrim K) := by
  refine F.ok sc_u_law_trim (fun vs H Q E h => ?_) (fun cdv A outer s H vs Q E hr h => ?_)
  · obtain ⟨a, ns, rfl, _⟩ := h
    rfl
  · obtain ⟨a, ns, rfl, hS, hlen, k⟩ := h
    refine ⟨_, (pss_cons (ps_set (i := 1) sc_u_law_trim.nd rfl (Or.inl rfl) (pe_callB (r := Evl.rLenS K) call_len_seq (by rfl) T.b_len (by decide +kernel) (pa_cons (pv 0) pa_nil)))
  (pss_cons (ps_for PassesOwn.never rfl (pi_range1 rfl T.b_range (pa_cons (pe_callB (r := Evl.rLenS K) call_len_seq (by rfl) T.b_len (by decide +kernel) (pa_cons (pv 0) pa_nil)) pa_nil)) (pg_name (i := 2) sc_u_law_trim.nd rfl (Or.inl rfl)) (pss_one (ps_if (PW.pt (pw_and (pt_cmpR op_gt (pv 1) pe_int (nomark _)) (pw_and1 (pt_cmpR op_eq (pe_ix (r := rIxL K) ix_list (pv 0) (pe_op op_sub (pv 1) pe_int) (fun _ _ => rfl)) pe_int (nomark _))))) (pss_one (ps_set (i := 1) sc_u_law_trim.nd rfl (Or.inl rfl) (pe_op op_sub (pv 1) pe_int))) pss_nil)))
  (pss_one (ps_ret (pe_callTy call_tuple_of (by rfl) T.b_tuple (by decide +kernel) (pa_cons (pe_slice (r := rSlL K) sl_list (pv 0) po_none (po_some (pv 1))) pa_nil)))))), ?_⟩
    refine ⟨_, rfl, a, _, rfl, .inl hS, _, rfl, a, _, rfl, .inl hS, ?_⟩
    rw [List.length_map]
    refine ⟨_, rfl, by omega, by omega, for_range (lo := 0) (n := ns.length) (fun i σ H' => H' = H ∧ ∃ (v : Option V), σ = [some (.ref a), some (.int ((trimTo ns i : Nat) : Int)), v]) ⟨rfl, none, rfl⟩ ?_ ?_⟩
    · rintro i σ H' hi ⟨rfl, v, rfl⟩
      refine ⟨_, rfl, _, _, rfl, rfl, _, rfl, ?_⟩
      have ht := trimTo_le ns i
      by_cases h0 : 0 < trimTo ns i
      · rw [decide_eq_true (by omega : (0 : Int) < ((trimTo ns i : Nat) : Int))]
        refine iteT ?_
        have ej : ((trimTo ns i : Nat) : Int) - 1 = ((trimTo ns i - 1 : Nat) : Int) := by omega
        refine ⟨_, rfl, _, rfl, _, _, rfl, rfl, a, _, _, _, rfl, rfl, hS, (by rw [ej]; exact at_map (by omega)), rfl, _, rfl, ?_⟩
        refine ite2 (fun q => ?_) (fun q => ?_)
        · have hz : ns.getD (trimTo ns i - 1) 0 = 0 := V.int.inj (of_decide_eq_true q)
          refine ⟨_, rfl, _, _, rfl, rfl, ?_⟩
          refine ⟨rfl, some (.int ((0 : Int) + (i : Int))), ?_⟩
          show [some (V.ref a), some (V.int (((trimTo ns i : Nat) : Int) - 1)), some (V.int ((0 : Int) + (i : Int)))] = _
          rw [ej, trimTo_zero h0 hz]
        · have hz : ¬ ns.getD (trimTo ns i - 1) 0 = 0 := fun z => q (decide_eq_true (by rw [z]))
          refine ⟨rfl, some (.int ((0 : Int) + (i : Int))), ?_⟩
          rw [trimTo_same (.inr hz)]
          rfl
      · rw [decide_eq_false (by omega : ¬ (0 : Int) < ((trimTo ns i : Nat) : Int))]
        refine iteF (iteF ?_)
        refine ⟨rfl, some (.int ((0 : Int) + (i : Int))), ?_⟩
        rw [trimTo_same (.inl (by omega))]
        rfl
    · rintro σ H' ⟨rfl, v, rfl⟩
      have ht := trimTo_le ns ns.length
      refine ⟨_, rfl, _, rfl, _, rfl, a, _, rfl, hS, fun p hp => ?_⟩
      have ec : cutV (ns.map V.int) none (some ((trimTo ns ns.length : Nat) : Int)) = (trimL ns).map V.int := by
        unfold cutV
        rw [HT.sIx_none, HT.sIx_nat, List.length_map, List.drop_zero, Nat.sub_zero, Nat.min_eq_left ht, ← List.map_take]
        rfl
      rw [ec]
      have x1 : Ex H' (upd H' p (.lst ((trimL ns).map V.int))) := Ex.new hp
      refine ⟨p, _, rfl, .inl ⟨SqL.of upd_same, fun l hl => ?_⟩⟩
      exact k l _ (fresh_back x1 hl) (x1.trans (Ex.new hl)) upd_same

def spTimes (K : PySem.W.Frag) : Sp := fun vs H Q _ => ∃ (a b : Addr) (ns ms : List Int), vs = [.ref a, .ref b] ∧ SqT K H a (ns.map V.int) ∧ SqT K H b (ms.map V.int) ∧ ns.length ≤ 100 ∧ ms.length ≤ 100 ∧ BdA (2 ^ 60) ns ∧ BdA (2 ^ 60) ms ∧
  ∀ p H', H p = none → Ex H H' → H' p = some (.tup ((mulL ns ms).map V.int)) → Q (.ref p) H'
theorem ok_times {f : Addr} {fd : FuncData} (F : Fun K "_law_times" "_law_times" s_u_law_times f fd) (T : Txt mg tL tM tD) (d_u_law_trim : Def P w K mg base "_law_trim" 1 ["some"] (spTrim K)) : FnOk P w K mg base CX0 2 f fd ["one", "other"] (spTimes K) := by
  refine F.ok sc_u_law_times (fun vs H Q E h => ?_) (fun cdv A outer s H vs Q E hr h => ?_)
  · obtain ⟨a, b, ns, ms, rfl, _⟩ := h
    rfl
  · obtain ⟨a, b, ns, ms, rfl, hA, hB, hn, hm, hbd, hbd2, k⟩ := h
    refine ⟨_, (pss_cons (ps_if (PW.pt (pw_or (pt_cmpR (r := rEqD K) (op_eqD hr.units) (pv 0) (pe_tup pa_nil) (nomark _)) (pw_or1 (pt_cmpR (r := rEqD K) (op_eqD hr.units) (pv 1) (pe_tup pa_nil) (nomark _))))) (pss_one (ps_ret (pe_tup pa_nil))) pss_nil)
  (pss_cons (ps_set (i := 2) sc_u_law_times.nd rfl (Or.inl rfl) (pe_op op_rep (pe_lst (pa_cons pe_int pa_nil)) (pe_op op_sub (pe_op op_add (pe_callB (r := Evl.rLenS K) call_len_seq (by rfl) T.b_len (by decide +kernel) (pa_cons (pv 0) pa_nil)) (pe_callB (r := Evl.rLenS K) call_len_seq (by rfl) T.b_len (by decide +kernel) (pa_cons (pv 1) pa_nil))) pe_int)))
  (pss_cons (ps_for PassesOwn.never rfl (pi_range1 rfl T.b_range (pa_cons (pe_callB (r := Evl.rLenS K) call_len_seq (by rfl) T.b_len (by decide +kernel) (pa_cons (pv 0) pa_nil)) pa_nil)) (pg_name (i := 3) sc_u_law_times.nd rfl (Or.inl rfl)) (pss_one (ps_for PassesOwn.never rfl (pi_range1 rfl T.b_range (pa_cons (pe_callB (r := Evl.rLenS K) call_len_seq (by rfl) T.b_len (by decide +kernel) (pa_cons (pv 1) pa_nil)) pa_nil)) (pg_name (i := 4) sc_u_law_times.nd rfl (Or.inl rfl)) (pss_one (ps_asg (pe_op op_add (pe_ix (r := rIxL K) ix_list (pv 2) (pe_op op_add (pv 3) (pv 4)) (fun _ _ => rfl)) (pe_op op_mulW (pe_ix (r := rIxT K) ix_tup (pv 0) (pv 3) (fun _ _ => rfl)) (pe_ix (r := rIxT K) ix_tup (pv 1) (pv 4) (fun _ _ => rfl)))) (pg_sub (pv 2) (pe_op op_add (pv 3) (pv 4)) set_list))))))
  (pss_one (ps_ret (pe_callD d_u_law_trim (hr.mono (by decide)) (pa_cons (pv 2) pa_nil))))))), ?_⟩
    have fin0 : (ns = [] ∨ ms = []) → ∀ H1, Ex H H1 → tRet (tTup tNil) { nx := fun _ H' => Q .non H', rt := Q } [some (.ref a), some (.ref b), none, none, none] H1 := by
      intro h0 H1 e1
      refine ⟨Nat.zero_le _, fun p hp => ?_⟩
      refine k p _ (fresh_back e1 hp) (e1.trans (Ex.new hp)) ?_
      rw [upd_same, mulL, if_pos h0]; rfl
    refine ⟨_, rfl, Nat.zero_le _, fun p1 hp1 => ?_⟩
    have x1 : Ex H (upd H p1 (.tup [])) := Ex.new hp1
    refine ⟨_, _, dp_tup (ex_t x1 hA), dp_tup (ns := []) (SqT.of upd_same), shaped_ints _, shaped_ints [], _, rfl, ?_⟩
    rw [eqv_tups]
    by_cases hn0 : ns = []
    · rw [decide_eq_true hn0]
      exact iteT (iteT (fin0 (.inl hn0) _ x1))
    rw [decide_eq_false hn0]
    refine iteF ?_
    refine ⟨_, rfl, Nat.zero_le _, fun p2 hp2 => ?_⟩
    have x2 := x1.trans (Ex.new hp2 (o := .tup []))
    refine ⟨_, _, dp_tup (ex_t x2 hB), dp_tup (ns := []) (SqT.of upd_same), shaped_ints _, shaped_ints [], _, rfl, ?_⟩
    rw [eqv_tups]
    by_cases hm0 : ms = []
    · rw [decide_eq_true hm0]
      exact iteT (fin0 (.inr hm0) _ x2)
    rw [decide_eq_false hm0]
    refine iteF ?_
    have hnl : 0 < ns.length := List.length_pos_iff.mpr hn0
    have hml : 0 < ms.length := List.length_pos_iff.mpr hm0
    generalize upd (upd H p1 (.tup [])) p2 (.tup []) = H2 at x2
    refine ⟨by decide, fun pz hz => ?_⟩
    have x3 := x2.trans (Ex.new hz (o := .lst [.int 0]))
    refine ⟨_, rfl, a, _, rfl, .inr (ex_t x3 hA), _, rfl, b, _, rfl, .inr (ex_t x3 hB), _, _, rfl, rfl, _, _, rfl, rfl, ?_⟩
    rw [List.length_map, List.length_map]
    refine ⟨pz, _, _, rfl, rfl, upd_same, by omega, by omega, ?_, fun fa hfa => ?_⟩
    · show 1 * _ ≤ sizeLine
      exact Nat.le_trans (by omega : _ ≤ 1000) (by decide)
    have ek : ((ns.length : Int) + (ms.length : Int) - 1).toNat = ns.length + ms.length - 1 := by omega
    have hrep : (List.replicate ((ns.length : Int) + (ms.length : Int) - 1).toNat [V.int 0]).flatten = (cvL ns ms 0 0).map V.int := by
      rw [ek, cvL_zero, show [V.int 0] = [(0 : Int)].map V.int from rfl, rep_int, rep_zero]
    rw [hrep]
    have f0 : H fa = none := fresh_back x3 hfa
    have x4 : Ex H (upd (upd H2 pz (.lst [.int 0])) fa (.lst ((cvL ns ms 0 0).map V.int))) := x3.trans (Ex.new hfa)
    refine ⟨_, rfl, a, _, rfl, .inr (ex_t x4 hA), ?_⟩
    rw [List.length_map]
    refine ⟨_, rfl, by omega, by omega, for_range (lo := 0) (n := ns.length) (fun i σ H' => ∃ v3 v4 : Option V, σ = [some (.ref a), some (.ref b), some (.ref fa), v3, v4] ∧ Ex H H' ∧ H' fa = some (.lst ((cvL ns ms i 0).map V.int))) ⟨none, none, rfl, x4, upd_same⟩ ?_ ?_⟩
    · rintro i σ H3 hi ⟨v3, v4, rfl, e3, hf⟩
      refine ⟨_, rfl, b, _, rfl, .inr (ex_t e3 hB), ?_⟩
      rw [List.length_map]
      refine ⟨_, rfl, by omega, by omega, for_range (lo := 0) (n := ms.length) (fun j σ H' => ∃ v4 : Option V, σ = [some (.ref a), some (.ref b), some (.ref fa), some (.int (i : Int)), v4] ∧ Ex H H' ∧ H' fa = some (.lst ((cvL ns ms i j).map V.int))) ⟨v4, by simp [List.set], e3, hf⟩ ?_ ?_⟩
      · rintro j σ H4 hj ⟨v4', rfl, e4, hf4⟩
        have ij : (i : Int) + ((0 : Int) + (j : Int)) = ((i + j : Nat) : Int) := by omega
        have ej : (0 : Int) + (j : Int) = ((j : Nat) : Int) := by omega
        have hlen : i + j < (cvL ns ms i j).length := by rw [cvL_len]; omega
        refine ⟨_, rfl, _, rfl, _, rfl, _, _, rfl, rfl, fa, _, _, _, rfl, rfl, SqL.of hf4, (by rw [ij]; exact at_map hlen), ?_⟩
        refine ⟨_, rfl, _, rfl, a, _, _, _, rfl, rfl, ex_t e4 hA, at_map (by omega), ?_⟩
        refine ⟨_, rfl, _, rfl, b, _, _, _, rfl, rfl, ex_t e4 hB, (by rw [ej]; exact at_map (by omega)), ?_⟩
        refine ⟨_, _, rfl, rfl, ?_, _, _, rfl, rfl, ?_⟩
        · exact wide_mul (a := 61) (b := 61) (Nat.lt_of_le_of_lt (hbd.co i) (by decide)) (Nat.lt_of_le_of_lt (hbd2.co j) (by decide)) (by decide) (by decide) (by decide)
        refine ⟨_, rfl, _, rfl, _, rfl, _, _, rfl, rfl, ?_⟩
        refine ⟨fa, _, _, i + j, rfl, rfl, hf4, (by rw [ij]; exact ixN_nat (by rw [List.length_map]; exact hlen)), ?_⟩
        refine ⟨some (.int (j : Int)), by simp [List.set], Ex.mut e4 f0, ?_⟩
        rw [upd_same]
        show some (HO.lst (((cvL ns ms i j).map V.int).set (i + j) (V.int ((cvL ns ms i j).getD (i + j) 0 + ns.getD i 0 * ms.getD j 0)))) = _
        rw [← List.map_set]
        have := cvL_set hi hj
        unfold co at this
        rw [this]
      · rintro σ H4 ⟨v4', rfl, e4, hf4⟩
        refine ⟨_, v4', rfl, e4, ?_⟩
        rw [hf4, cvL_row]
    · rintro σ H3 ⟨v3, v4, rfl, e3, hf⟩
      rw [cvL_all] at hf
      refine ⟨_, rfl, fa, _, rfl, SqL.of hf, ?_, fun p H' hp e hp' => ?_⟩
      · rw [conv_len]; omega
      · refine k p H' (fresh_back e3 hp) (e3.trans e) ?_
        rw [hp', mulL, if_neg (by rintro (z | z) <;> contradiction)]
def spPoly (K : PySem.W.Frag) : Sp := fun vs H Q _ => ∃ (r a : Addr) (ns : List Int) (m z : Int), vs = [.ref r, .int m, .int z] ∧ H r = some (RowO a r) ∧ SqL K H a (ns.map V.int) ∧ 0 ≤ m ∧ m ≤ 20 ∧ 0 ≤ z ∧ z ≤ 100 ∧
  ∀ p H' qs, H p = none → Ex H H' → H' p = some (.tup ((trimL qs).map V.int)) → (qs.length : Int) ≤ m + 1 → BdA z.toNat qs → Q (.ref p) H'
def spSome (K : PySem.W.Frag) : Sp := fun vs H Q _ => ∃ (r a : Addr) (ns : List Int) (m z : Int), vs = [.ref r, .int m, .int z] ∧ H r = some (RowO a r) ∧ SqL K H a (ns.map V.int) ∧ 0 ≤ m ∧ m ≤ 20 ∧ 1 ≤ z ∧ z ≤ 100 ∧
  ∀ p H' qs, Ex H H' → H' p = some (.tup (qs.map V.int)) → 0 < qs.length → (qs.length : Int) ≤ m + 1 → BdA z.toNat qs → co qs (qs.length - 1) ≠ 0 → Q (.ref p) H'
end
end Coil

set_option Elab.async false
set_option linter.all false
set_option maxRecDepth 100000
set_option maxHeartbeats 4000000
namespace Coil
open PySem L2 Evl
theorem euclid_half {x y : Nat} (h : y ≤ x) (hy : 0 < y) : 2 * (y * (x % y)) ≤ x * y := by
  have h1 := Nat.mod_lt x hy
  have h2 := Nat.div_add_mod x y
  have h3 : 1 ≤ x / y := (Nat.one_le_div_iff hy).mpr h
  have h4 : y * 1 ≤ y * (x / y) := Nat.mul_le_mul_left y h3
  have h5 : 2 * (x % y) ≤ x := by omega
  rw [Nat.mul_comm x y, Nat.mul_left_comm]
  exact Nat.mul_le_mul_left y h5
section
variable {P : Program} {w : World} {K : PySem.W.Frag} {mg : Str → Option Value} {base : Heap} {tL tM tD : Tok}
def spShared : Sp := fun vs H Q _ => ∃ x y : Int, vs = [.int x, .int y] ∧ x.natAbs < 2 ^ 900 ∧ y.natAbs < 2 ^ 900 ∧ Q (.int ((Nat.gcd x.natAbs y.natAbs : Nat) : Int)) H
theorem ok_shared {f : Addr} {fd : FuncData} (F : Fun K "_law_shared" "_law_shared" s_u_law_shared f fd) (T : Txt mg tL tM tD) : FnOk P w K mg base CX0 1 f fd ["one", "other"] spShared := by
  refine F.ok sc_u_law_shared (fun vs H Q E h => ?_) (fun cdv A outer s H vs Q E hr h => ?_)
  · obtain ⟨x, y, rfl, _⟩ := h
    rfl
  · obtain ⟨x0, y0, rfl, hx0, hy0, k⟩ := h
    refine ⟨_, (pss_cons (ps_par (i := 0) (j := 1) rfl sc_u_law_shared.nd rfl rfl (by decide) rfl rfl (pa_cons (pe_callB call_abs (by rfl) T.b_abs (by decide +kernel) (pa_cons (pv 0) pa_nil)) (pa_cons (pe_callB call_abs (by rfl) T.b_abs (by decide +kernel) (pa_cons (pv 1) pa_nil)) pa_nil)) (by rfl))
  (pss_cons (ps_for PassesOwn.never rfl (pi_range1 rfl T.b_range (pa_cons pe_int pa_nil)) (pg_name (i := 2) sc_u_law_shared.nd rfl (Or.inl rfl)) (pss_cons (ps_if (pt_cmpR op_eq (pv 1) pe_int (nomark _)) (pss_one ps_break) pss_nil)
  (pss_one (ps_par (i := 0) (j := 1) rfl sc_u_law_shared.nd rfl rfl (by decide) rfl rfl (pa_cons (pv 1) (pa_cons (pe_op op_mod (pe_callTy call_int1 (by rfl) T.b_int (by decide +kernel) (pa_cons (pv 0) pa_nil)) (pv 1)) pa_nil)) (by rfl)))))
  (pss_one (ps_ret (pv 0))))), ?_⟩
    refine ⟨_, rfl, x0, rfl, _, rfl, y0, rfl, _, _, rfl, ?_⟩
    refine ⟨_, rfl, by decide, by decide, for_range (lo := 0) (n := 2000) (fun i σ H' => H' = H ∧ ∃ (x y : Nat) (v : Option V), σ = [some (.int x), some (.int y), v] ∧ Nat.gcd x y = Nat.gcd x0.natAbs y0.natAbs ∧ (i = 0 ∧ x * y = x0.natAbs * y0.natAbs ∨ y ≤ x ∧ x * y * 2 ^ (i - 1) ≤ x0.natAbs * y0.natAbs)) ⟨rfl, x0.natAbs, y0.natAbs, none, ?_, rfl, .inl ⟨rfl, rfl⟩⟩ ?_ ?_⟩
    · have e : ∀ z : Int, (if z < 0 then -z else z) = ((z.natAbs : Nat) : Int) := fun z => by split <;> omega
      show [some (V.int (if x0 < 0 then -x0 else x0)), some (V.int (if y0 < 0 then -y0 else y0)), none] = _
      rw [e, e]
    · rintro i σ H' hi ⟨rfl, x, y, v, rfl, hg, hb⟩
      refine ⟨_, rfl, rfl, _, rfl, ?_⟩
      by_cases h0 : y = 0
      · subst h0
        rw [show (decide (V.int ((0 : Nat) : Int) = V.int 0)) = true by decide]
        refine iteT ?_
        refine ⟨_, rfl, ?_⟩
        rw [← hg, Nat.gcd_zero_right] at k
        exact k
      · rw [decide_eq_false (fun q => h0 (by have := V.int.inj q; omega))]
        refine iteF ?_
        have hy : 0 < y := by omega
        refine ⟨_, rfl, _, rfl, .inl ⟨_, rfl, _, rfl, _, _, rfl, rfl, (by show (0 : Int) < (y : Int); omega), _, _, rfl, ?_⟩⟩
        refine ⟨rfl, y, x % y, some (.int ((0 : Int) + (i : Int))), ?_, ?_, .inr ⟨Nat.le_of_lt (Nat.mod_lt x hy), ?_⟩⟩
        · show [some (V.int (y : Int)), some (V.int ((x : Int) % (y : Int))), some (V.int ((0 : Int) + (i : Int)))] = _
          rw [← Int.natCast_emod]
        · rw [← hg, Nat.gcd_comm, ← Nat.gcd_rec, Nat.gcd_comm]
        · rw [Nat.add_sub_cancel]
          have hle : x % y ≤ x := Nat.mod_le x y
          rcases hb with ⟨h1, h2⟩ | ⟨h1, h2⟩
          · rw [h1, Nat.pow_zero, Nat.mul_one, ← h2, Nat.mul_comm x y]
            exact Nat.mul_le_mul_left y hle
          · cases i with
            | zero =>
              simp only [Nat.zero_sub, Nat.pow_zero, Nat.mul_one] at h2 ⊢
              refine Nat.le_trans ?_ h2
              rw [Nat.mul_comm x y]
              exact Nat.mul_le_mul_left y hle
            | succ i =>
              rw [Nat.add_sub_cancel] at h2
              refine Nat.le_trans ?_ h2
              have h3 := Nat.mul_le_mul_right (2 ^ i) (euclid_half h1 hy)
              refine Nat.le_trans (Nat.le_of_eq ?_) h3
              rw [Nat.pow_succ, Nat.mul_comm (2 ^ i) 2, ← Nat.mul_assoc, Nat.mul_comm _ 2]
    · rintro σ H' ⟨rfl, x, y, v, rfl, hg, hb⟩
      have hP : x0.natAbs * y0.natAbs < 2 ^ 1800 := by
        rw [show 1800 = 900 + 900 from rfl, Nat.pow_add]
        exact Nat.mul_lt_mul'' hx0 hy0
      have hy : y = 0 := by
        rcases hb with ⟨h1, _⟩ | ⟨h1, h2⟩
        · omega
        · refine Decidable.byContradiction fun q => ?_
          have h3 : 1 ≤ x * y := Nat.mul_pos (by omega) (by omega)
          have h4 : 1 * 2 ^ (2000 - 1) ≤ x * y * 2 ^ (2000 - 1) := Nat.mul_le_mul_right _ h3
          have h5 : (2 : Nat) ^ 1800 ≤ 2 ^ (2000 - 1) := Nat.pow_le_pow_right (by decide) (by decide)
          omega
      subst hy
      refine ⟨_, rfl, ?_⟩
      rw [← hg, Nat.gcd_zero_right] at k
      exact k
def spRatio : Sp := fun vs H Q _ => ∃ x y : Int, vs = [.int x, .int y] ∧ y ≠ 0 ∧ x.natAbs < 2 ^ 900 ∧ y.natAbs < 2 ^ 900 ∧ ∀ p H' a e, H p = none → Ex H H' → RtO H' p a e → Rat1 a e → a * y = x * e → a.natAbs ≤ x.natAbs → e.natAbs ≤ y.natAbs → Q (.ref p) H'
theorem ok_ratio {f : Addr} {fd : FuncData} (F : Fun K "_law_ratio" "_law_ratio" s_u_law_ratio f fd) (T : Txt mg tL tM tD) (d_u_law_shared : Def P w K mg base "_law_shared" 1 ["one", "other"] spShared) : FnOk P w K mg base CX0 2 f fd ["top", "bottom"] spRatio := by
  refine F.ok sc_u_law_ratio (fun vs H Q E h => ?_) (fun cdv A outer s H vs Q E hr h => ?_)
  · obtain ⟨x, y, rfl, _⟩ := h
    rfl
  · obtain ⟨x, y, rfl, hy, hx9, hy9, k⟩ := h
    refine ⟨_, (pss_cons (ps_set (i := 2) sc_u_law_ratio.nd rfl (Or.inl rfl) (pe_callD d_u_law_shared (hr.mono (by decide)) (pa_cons (pv 0) (pa_cons (pv 1) pa_nil))))
  (pss_cons (ps_if (pt_cmpR op_lt (pv 1) pe_int (nomark _)) (pss_one (ps_set (i := 2) sc_u_law_ratio.nd rfl (Or.inl rfl) (pe_un un_neg (pv 2)))) pss_nil)
  (pss_one (ps_ret (pe_tup (pa_cons (pe_op op_fdivN (pv 0) (pv 2)) (pa_cons (pe_op op_fdivN (pv 1) (pv 2)) pa_nil))))))), ?_⟩
    refine ⟨_, rfl, _, rfl, x, y, rfl, hx9, hy9, ?_⟩
    refine ⟨_, rfl, _, _, rfl, rfl, _, rfl, ?_⟩
    refine ite2 (fun q => ?_) (fun q => ?_)
    · obtain ⟨h1, h2, h3, h4, h5, h6⟩ := rat_of (x := x) (y := y) hy (if_pos (of_decide_eq_true q)).symm
      have hd : ∀ c, CDivN c (-((Nat.gcd x.natAbs y.natAbs : Nat) : Int)) := fun c => divN (b := 900) h5 (Nat.lt_of_le_of_lt h6 hy9) (by decide) (by decide)
      refine ⟨_, rfl, _, rfl, ?_⟩
      exact ⟨_, rfl, _, rfl, _, _, rfl, rfl, hd _, _, rfl, _, rfl, _, _, rfl, rfl, hd _, (by show 2 ≤ sizeLine; decide), fun p hp => k p _ _ _ hp (Ex.new hp) upd_same h1 h2 h3 h4⟩
    · obtain ⟨h1, h2, h3, h4, h5, h6⟩ := rat_of (x := x) (y := y) hy (if_neg fun z => q (decide_eq_true z)).symm
      have hd : ∀ c, CDivN c ((Nat.gcd x.natAbs y.natAbs : Nat) : Int) := fun c => divN (b := 900) h5 (Nat.lt_of_le_of_lt h6 hy9) (by decide) (by decide)
      exact ⟨_, rfl, _, rfl, _, _, rfl, rfl, hd _, _, rfl, _, rfl, _, _, rfl, rfl, hd _, (by show 2 ≤ sizeLine; decide), fun p hp => k p _ _ _ hp (Ex.new hp) upd_same h1 h2 h3 h4⟩
def spLContent (K : PySem.W.Frag) : Sp := fun vs H Q _ => ∃ (a : Addr) (ns : List Int), vs = [.ref a] ∧ SqT K H a (ns.map V.int) ∧ BdA (2 ^ 800) ns ∧ Q (.int (gcdL ns)) H
end
end Coil

set_option Elab.async false
set_option linter.all false
set_option maxRecDepth 100000
set_option maxHeartbeats 4000000
set_option exponentiation.threshold 10000
namespace Coil
open PySem L2 Evl RT
/-- a ratio at p, told by the number that it is -/
def RO (H : L2.Hp) (p : Addr) (q : Rat) : Prop := RtO H p q.num ((q.den : Nat) : Int)
theorem RO.ex' {H H' : L2.Hp} {p : Addr} {q : Rat} (h : RO H p q) (e : Ex H H') : RO H' p q := e _ _ h
theorem rat_eq {x y a e : Int} (hy : y ≠ 0) (h1 : Rat1 a e) (h : a * y = x * e) : a = ((x : Rat) / (y : Rat)).num ∧ e = ((((x : Rat) / (y : Rat)).den : Nat) : Int) := by
  obtain ⟨he, hg⟩ := h1
  obtain ⟨n, rfl⟩ : ∃ n : Nat, e = (n : Int) := ⟨e.toNat, by omega⟩
  have hn : n ≠ 0 := by omega
  let r : Rat := ⟨a, n, hn, by rw [Int.natAbs_natCast] at hg; exact hg⟩
  have hr : r = (x : Rat) / (y : Rat) := by
    have h2 : r * (((n : Nat) : Int) : Rat) = (a : Rat) := rat_split r
    have h3 : (a : Rat) * (y : Rat) = (x : Rat) * (((n : Nat) : Int) : Rat) := by rw [← Rat.intCast_mul, ← Rat.intCast_mul, h]
    have h4 : (((n : Nat) : Int) : Rat) ≠ 0 := fun z => by
      have := Rat.intCast_inj.mp (show (((n : Nat) : Int) : Rat) = ((0 : Int) : Rat) from z)
      omega
    have h5 : (y : Rat) ≠ 0 := fun z => by
      have := Rat.intCast_inj.mp (show (y : Rat) = ((0 : Int) : Rat) from z)
      omega
    grind
  rw [← hr]
  exact ⟨rfl, rfl⟩
theorem ro_of {H : L2.Hp} {p : Addr} {x y a e : Int} {q : Rat} (hy : y ≠ 0) (h1 : Rat1 a e) (h : a * y = x * e) (hq : (x : Rat) / (y : Rat) = q) (hp : RtO H p a e) : RO H p q := by
  obtain ⟨e1, e2⟩ := rat_eq hy h1 h
  unfold RO
  rw [← hq, ← e1, ← e2]
  exact hp
theorem den_pos' (q : Rat) : 0 < q.den := Nat.pos_of_ne_zero q.den_nz
theorem den0 (q : Rat) : ((q.den : Nat) : Int) ≠ 0 := by have := q.den_nz; omega
theorem frac_mul (a b : Rat) : ((a.num * b.num : Int) : Rat) / (((a.den : Nat) : Int) * ((b.den : Nat) : Int) : Int) = a * b := by
  have h1 := rat_split a
  have h2 := rat_split b
  have h3 := den_ne a
  have h4 := den_ne b
  rw [Rat.intCast_mul, Rat.intCast_mul, ← h1, ← h2]
  generalize (((a.den : Nat) : Int) : Rat) = x at *
  generalize (((b.den : Nat) : Int) : Rat) = y at *
  grind
theorem frac_sub (a b : Rat) : ((a.num * ((b.den : Nat) : Int) - b.num * ((a.den : Nat) : Int) : Int) : Rat) / (((a.den : Nat) : Int) * ((b.den : Nat) : Int) : Int) = a - b := by
  have h1 := rat_split a
  have h2 := rat_split b
  have h3 := den_ne a
  have h4 := den_ne b
  rw [Rat.intCast_sub, Rat.intCast_mul, Rat.intCast_mul, Rat.intCast_mul, ← h1, ← h2]
  generalize (((a.den : Nat) : Int) : Rat) = x at *
  generalize (((b.den : Nat) : Int) : Rat) = y at *
  grind
theorem frac_add (a b : Rat) : ((a.num * ((b.den : Nat) : Int) + b.num * ((a.den : Nat) : Int) : Int) : Rat) / (((a.den : Nat) : Int) * ((b.den : Nat) : Int) : Int) = a + b := by
  have h1 := rat_split a
  have h2 := rat_split b
  have h3 := den_ne a
  have h4 := den_ne b
  rw [Rat.intCast_add, Rat.intCast_mul, Rat.intCast_mul, Rat.intCast_mul, ← h1, ← h2]
  generalize (((a.den : Nat) : Int) : Rat) = x at *
  generalize (((b.den : Nat) : Int) : Rat) = y at *
  grind
theorem num0 {q : Rat} (h : q ≠ 0) : q.num ≠ 0 := fun z => h (Rat.num_eq_zero.mp z)
theorem frac_div (a b : Rat) (hb : b ≠ 0) : ((a.num * ((b.den : Nat) : Int) : Int) : Rat) / (((a.den : Nat) : Int) * b.num : Int) = a / b := by
  have h1 := rat_split a
  have h2 := rat_split b
  have h3 := den_ne a
  have h4 := den_ne b
  rw [Rat.intCast_mul, Rat.intCast_mul, ← h1, ← h2]
  generalize (((a.den : Nat) : Int) : Rat) = x at *
  generalize (((b.den : Nat) : Int) : Rat) = y at *
  grind
theorem lt4 {c : Nat} {x y : Int} (hx : x.natAbs < 2 ^ c) (hy : y.natAbs < 2 ^ c) : (x * y).natAbs < 2 ^ (c + c) := by
  rw [Int.natAbs_mul, Nat.pow_add]
  exact Nat.mul_lt_mul'' hx hy
theorem lt5 {c : Nat} {x y : Int} (hx : x.natAbs < 2 ^ c) (hy : y.natAbs < 2 ^ c) : (x - y).natAbs < 2 ^ (c + 1) ∧ (x + y).natAbs < 2 ^ (c + 1) := by
  rw [Nat.pow_succ]
  omega
theorem up_lt {c d : Nat} {x : Int} (h : x.natAbs < 2 ^ c) (hd : c ≤ d) : x.natAbs < 2 ^ d := Nat.lt_of_lt_of_le h (Nat.pow_le_pow_right (by decide) hd)
theorem Sm.den' {c : Nat} {q : Rat} (h : Sm c q) : (((q.den : Nat) : Int)).natAbs < 2 ^ c := by rw [Int.natAbs_natCast]; exact h.2
section
variable {P : Program} {w : World} {K : PySem.W.Frag} {mg : Str → Option Value} {base : Heap} {tL tM tD : Tok}
/-- two ratios become one -/
def spR2 (c : Nat) (pre : Rat → Rat → Prop) (op : Rat → Rat → Rat) : Sp := fun vs H Q _ => ∃ (p q : Addr) (a b : Rat), vs = [.ref p, .ref q] ∧ RO H p a ∧ RO H q b ∧ Sm c a ∧ Sm c b ∧ pre a b ∧ ∀ r H', H r = none → Ex H H' → RO H' r (op a b) → Q (.ref r) H'
def yes2 (_ _ : Rat) : Prop := True
def nz2 (_ b : Rat) : Prop := b ≠ 0
def spLess : Sp := fun vs H Q _ => ∃ (p q : Addr) (a b : Rat), vs = [.ref p, .ref q] ∧ RO H p a ∧ RO H q b ∧ Sm 4000 a ∧ Sm 4000 b ∧ Q (.bl (decide (a < b))) H
theorem small_iff (q : Rat) : (if q.num < 0 then -q.num else q.num) < ((q.den : Nat) : Int) ↔ q * q < 1 := by
  have h1 := rat_split q
  have h2 := den_pos q
  have h3 : ((q.num : Int) : Rat) < (((q.den : Nat) : Int) : Rat) ↔ q.num < ((q.den : Nat) : Int) := Rat.intCast_lt_intCast
  have h4 : ((-q.num : Int) : Rat) < (((q.den : Nat) : Int) : Rat) ↔ -q.num < ((q.den : Nat) : Int) := Rat.intCast_lt_intCast
  rw [Rat.intCast_neg] at h4
  have h5 : ((if q.num < 0 then -q.num else q.num) < ((q.den : Nat) : Int)) ↔ (q.num < ((q.den : Nat) : Int) ∧ -q.num < ((q.den : Nat) : Int)) := by split <;> omega
  rw [h5, ← h3, ← h4, ← h1]
  generalize (((q.den : Nat) : Int) : Rat) = d at *
  constructor
  · rintro ⟨a1, a2⟩
    have b1 : q < 1 := by
      refine Rat.not_le.mp fun z => ?_
      have := Rat.mul_nonneg (show 0 ≤ q - 1 by grind) (show 0 ≤ d by grind)
      grind
    have b2 : -1 < q := by
      refine Rat.not_le.mp fun z => ?_
      have := Rat.mul_nonneg (show 0 ≤ -1 - q by grind) (show 0 ≤ d by grind)
      grind
    have := Rat.mul_pos (show 0 < 1 - q by grind) (show 0 < 1 + q by grind)
    grind
  · intro h
    obtain ⟨l1, l2⟩ := lim_one (q := q) (by grind)
    have e : (((2 ^ 0 : Nat) : Int) : Rat) = 1 := rfl
    rw [e] at l1 l2
    have n1 : q ≠ 1 := fun z => by rw [z] at h; grind
    have n2 : q ≠ -1 := fun z => by rw [z] at h; grind
    have b1 : 0 < 1 - q := by grind
    have b2 : 0 < 1 + q := by grind
    have c1 := Rat.mul_pos b1 h2
    have c2 := Rat.mul_pos b2 h2
    constructor <;> grind
def spSmall : Sp := fun vs H Q _ => ∃ (p : Addr) (a : Rat), vs = [.ref p] ∧ RO H p a ∧ Q (.bl (decide (a * a < 1))) H
end
end Coil

set_option Elab.async false
set_option linter.all false
set_option maxRecDepth 100000
set_option maxHeartbeats 4000000
set_option exponentiation.threshold 10000
namespace Coil
open PySem L2 Evl RT
/-- values that are ratios -/
def RsO (H : L2.Hp) (xs : List V) (qs : List Rat) : Prop := xs.length = qs.length ∧ ∀ i v, xs[i]? = some v → ∃ p, v = .ref p ∧ RO H p (atL qs i)
theorem RsO.nil {H : L2.Hp} : RsO H [] [] := ⟨rfl, fun i v h => by simp at h⟩
theorem RsO.ex' {H H' : L2.Hp} {xs : List V} {qs : List Rat} (h : RsO H xs qs) (e : Ex H H') : RsO H' xs qs := ⟨h.1, fun i v hv => by
  obtain ⟨p, h1, h2⟩ := h.2 i v hv
  exact ⟨p, h1, h2.ex' e⟩⟩
theorem RsO.snoc {H : L2.Hp} {xs : List V} {qs : List Rat} {p : Addr} {q : Rat} (h : RsO H xs qs) (hp : RO H p q) : RsO H (xs ++ [.ref p]) (qs ++ [q]) := by
  refine ⟨by rw [List.length_append, List.length_append, h.1]; rfl, fun i v hv => ?_⟩
  by_cases hi : i < xs.length
  · rw [List.getElem?_append_left hi] at hv
    rw [atL_app (by rw [← h.1]; exact hi)]
    exact h.2 i v hv
  · rw [List.getElem?_append_right (by omega)] at hv
    have hz : i - xs.length = 0 := by
      have := (List.getElem?_eq_some_iff.mp hv).1
      simp at this
      omega
    rw [hz] at hv
    refine ⟨p, (Option.some.inj hv).symm, ?_⟩
    have e : i = qs.length := by rw [← h.1]; omega
    rw [e, atL_last]
    exact hp
theorem atL_drop (qs : List Rat) (k i : Nat) : atL (qs.drop k) i = atL qs (k + i) := by
  unfold atL
  rw [List.getD_eq_getElem?_getD, List.getElem?_drop, List.getD_eq_getElem?_getD]
theorem atL_take {qs : List Rat} {k i : Nat} (h : i < k) : atL (qs.take k) i = atL qs i := by
  unfold atL
  rw [List.getD_eq_getElem?_getD, List.getElem?_take, if_pos h, List.getD_eq_getElem?_getD]
theorem RsO.drop {H : L2.Hp} {xs : List V} {qs : List Rat} (h : RsO H xs qs) (k : Nat) : RsO H (xs.drop k) (qs.drop k) := by
  refine ⟨by rw [List.length_drop, List.length_drop, h.1], fun i v hv => ?_⟩
  rw [List.getElem?_drop] at hv
  rw [atL_drop]
  exact h.2 _ v hv
theorem RsO.take {H : L2.Hp} {xs : List V} {qs : List Rat} (h : RsO H xs qs) (k : Nat) : RsO H (xs.take k) (qs.take k) := by
  refine ⟨by rw [List.length_take, List.length_take, h.1], fun i v hv => ?_⟩
  have hk : i < k := by
    have := (List.getElem?_eq_some_iff.mp hv).1
    rw [List.length_take] at this
    omega
  rw [List.getElem?_take, if_pos hk] at hv
  rw [atL_take hk]
  exact h.2 _ v hv
theorem RsO.at {H : L2.Hp} {xs : List V} {qs : List Rat} (h : RsO H xs qs) {i : Nat} (hi : i < qs.length) : ∃ p, xs[i]? = some (.ref p) ∧ atI xs (i : Int) = some (.ref p) ∧ RO H p (atL qs i) := by
  have hx : xs[i]? = some (xs[i]'(by rw [h.1]; exact hi)) := List.getElem?_eq_getElem _
  obtain ⟨p, h1, h2⟩ := h.2 i _ hx
  rw [h1] at hx
  exact ⟨p, hx, atI_nat hx, h2⟩
theorem RsO.ext {H : L2.Hp} {xs : List V} {qs rs : List Rat} (h : RsO H xs qs) (hl : qs.length = rs.length) (he : ∀ i, i < qs.length → atL qs i = atL rs i) : qs = rs := by
  apply List.ext_getElem? 
  intro i
  by_cases hi : i < qs.length
  · have := he i hi
    unfold atL at this
    rw [List.getD_eq_getElem?_getD, List.getD_eq_getElem?_getD, List.getElem?_eq_getElem hi, List.getElem?_eq_getElem (by omega)] at this
    rw [List.getElem?_eq_getElem hi, List.getElem?_eq_getElem (by omega)]
    exact congrArg some this
  · rw [List.getElem?_eq_none (by omega), List.getElem?_eq_none (by omega)]
theorem RsO.mut {H : L2.Hp} {xs ys : List V} {qs : List Rat} {D : Addr} {o : HO} (h : RsO H xs qs) (hD : H D = some (.lst ys)) : RsO (upd H D o) xs qs := ⟨h.1, fun i v hv => by
  obtain ⟨p, h1, h2⟩ := h.2 i v hv
  refine ⟨p, h1, ?_⟩
  have ne : p ≠ D := fun z => by
    have h3 : H p = some (.tup [.int (atL qs i).num, .int (((atL qs i).den : Nat) : Int)]) := h2
    rw [z, hD] at h3
    cases h3
  show upd H D o p = _
  rw [upd_ne ne]
  exact h2⟩
def SqX (K : PySem.W.Frag) (H : L2.Hp) (a : Addr) (xs : List V) : Prop := SqL K H a xs ∨ SqT K H a xs
theorem SqX.ex' {K : PySem.W.Frag} {H H' : L2.Hp} {a : Addr} {xs : List V} (h : SqX K H a xs) (e : Ex H H') : SqX K H' a xs := h.elim (fun h => .inl (ex_l e h)) (fun h => .inr (ex_t e h))
theorem ix_x {K : PySem.W.Frag} {H : L2.Hp} {a : Addr} {xs : List V} {i : Int} {v : V} {Q : VK} (h : SqX K H a xs) (e : atI xs i = some v) (q : Q v H) : rIx K (.ref a) (.int i) H Q :=
  h.elim (fun h => .inl ⟨a, _, _, _, rfl, rfl, h, e, q⟩) (fun h => .inr (.inl ⟨a, _, _, _, rfl, rfl, h, e, q⟩))
theorem ro_zero {H : L2.Hp} {p : Addr} (h : H p = some (.tup [.int 0, .int 1])) : RO H p 0 := h
theorem ro_one {H : L2.Hp} {p : Addr} (h : H p = some (.tup [.int 1, .int 1])) : RO H p 1 := h
theorem ro_int {H : L2.Hp} {p : Addr} {z : Int} (h : H p = some (.tup [.int z, .int 1])) : RO H p (z : Rat) := by
  unfold RO RtO
  rw [Rat.num_intCast, Rat.den_intCast]
  exact h
section
variable {P : Program} {w : World} {K : PySem.W.Frag} {mg : Str → Option Value} {base : Heap} {tL tM tD : Tok}
theorem sm_mul {p q : Rat} (h : Sm 2000 p) (h' : Sm 2000 q) : Sm 4000 (p * q) := by
  have h1 := rat_split p
  have h2 := rat_split q
  have y0 : (((p.den : Nat) : Int) * ((q.den : Nat) : Int)) ≠ 0 := Int.mul_ne_zero (den0 p) (den0 q)
  obtain ⟨r1, r2, r3, r4, r5, r6⟩ := rat_of (x := p.num * q.num) (y := ((p.den : Nat) : Int) * ((q.den : Nat) : Int)) y0 rfl
  obtain ⟨s1, s2⟩ := rat_eq y0 r1 r2
  rw [frac_mul] at s1 s2
  refine ⟨?_, ?_⟩
  · rw [← s1]
    exact Nat.lt_of_le_of_lt r3 (lt4 h.1 h'.1)
  · have h3 : ((((p * q).den : Nat) : Int)).natAbs < 2 ^ 4000 := by
      rw [← s2]
      exact Nat.lt_of_le_of_lt r4 (lt4 h.den' h'.den')
    rwa [Int.natAbs_natCast] at h3
theorem rsum_cut {f g : Nat → Rat} {n : Nat} : ∀ {j k}, k ≤ j → (∀ m, k ≤ m → f m = 0) → rsum f g n j = rsum f g n k
  | 0, k, h, _ => by rw [show k = 0 by omega]
  | j + 1, k, h, z => by
    by_cases e : k = j + 1
    · rw [e]
    · rw [rsum, rsum_cut (j := j) (k := k) (by omega) z, z j (by omega)]; grind
def QsSz (t b : Nat → Rat) (n : Nat) : Prop := b 0 ≠ 0 ∧ (∀ i, Sm 2000 (b i)) ∧ (∀ i, i < n → Sm 2000 (rdv t b i)) ∧ ∀ i j, i < n → j ≤ i + 1 → Sm 4000 (t i - rsum b (atL (rdl t b i)) i j)
def NewR (Q : VK) (H : L2.Hp) (qs : List Rat) : Prop := ∀ p H' xs, H p = none → Ex H H' → H' p = some (.tup xs) → RsO H' xs qs → Q (.ref p) H'
def spQS (K : PySem.W.Frag) : Sp := fun vs H Q _ => ∃ (a b : Addr) (n : Nat) (tv bv : List V) (tq bq : List Rat), vs = [.ref a, .ref b, .int n] ∧ SqX K H a tv ∧ RsO H tv tq ∧ SqX K H b bv ∧ RsO H bv bq ∧ n ≤ 100 ∧ 0 < bq.length ∧ bq.length ≤ 100 ∧ QsSz (atL tq) (atL bq) n ∧ NewR Q H (rdl (atL tq) (atL bq) n)
def spPS (K : PySem.W.Frag) : Sp := fun vs H Q _ => ∃ (a b : Addr) (n : Nat) (t u : List Int), vs = [.ref a, .ref b, .int n] ∧ SqT K H a (t.map V.int) ∧ SqT K H b (u.map V.int) ∧ t.length ≤ 100 ∧ n ≤ 100 ∧ 0 < u.length ∧ u.length ≤ 100 ∧ QsSz (fun i => ((co t i : Int) : Rat)) (fun i => ((co u i : Int) : Rat)) n ∧ NewR Q H (rdl (fun i => ((co t i : Int) : Rat)) (fun i => ((co u i : Int) : Rat)) n)
theorem atL_ints (t : List Int) : atL (t.map fun z : Int => (z : Rat)) = fun i => ((co t i : Int) : Rat) := by
  funext i
  unfold atL co
  rw [List.getD_eq_getElem?_getD, List.getD_eq_getElem?_getD, List.getElem?_map]
  cases t[i]? with
  | none => rfl
  | some z => rfl
end
end Coil

set_option Elab.async false
set_option linter.all false
set_option maxRecDepth 100000
set_option maxHeartbeats 4000000
namespace Coil
open PySem L2 Evl
theorem nm_trimL (ns : List Int) : Nm (trimL ns) := by
  by_cases h : trimL ns = []
  · exact .inl h
  · exact .inr (trimL_last ns (List.length_pos_iff.mpr h))
theorem mulL_nm {ns ms : List Int} (hn : Nm ns) (hm : Nm ms) : mulL ns ms = if ns = [] ∨ ms = [] then [] else mulP ns ms := by
  unfold mulL
  by_cases h : ns = [] ∨ ms = []
  · rw [if_pos h, if_pos h]
  · rw [if_neg h, if_neg h]
    have h1 : ns ≠ [] := fun y => h (.inl y)
    have h2 : ms ≠ [] := fun y => h (.inr y)
    rw [conv_mulP h1 h2]
    refine trimL_id ?_
    obtain ⟨k1, k2⟩ := nm_mulP hn hm h1 h2
    rcases k1 with z | z
    · rw [z] at k2
      have := List.length_pos_iff.mpr h1
      have := List.length_pos_iff.mpr h2
      simp only [List.length_nil] at k2
      omega
    · exact z
theorem mulL_facts {ns ms : List Int} (hn : Nm ns) (hm : Nm ms) {X Y : Nat} (hX : BdA X ns) (hY : BdA Y ms) : Nm (mulL ns ms) ∧ (∀ x, ev (mulL ns ms) x = ev ns x * ev ms x) ∧ (mulL ns ms).length ≤ ns.length + ms.length - 1 ∧ BdA (ns.length * (X * Y)) (mulL ns ms) ∧ (ns ≠ [] → ms ≠ [] → mulL ns ms ≠ []) := by
  rw [mulL_nm hn hm]
  by_cases h : ns = [] ∨ ms = []
  · rw [if_pos h]
    refine ⟨.inl rfl, fun x => ?_, Nat.zero_le _, fun _ y => (nomatch y), fun h1 h2 => absurd h (by rintro (y | y) <;> contradiction)⟩
    rcases h with y | y <;> rw [y] <;> simp [ev]
  · rw [if_neg h]
    have h1 : ns ≠ [] := fun y => h (.inl y)
    have h2 : ms ≠ [] := fun y => h (.inr y)
    obtain ⟨k1, k2⟩ := nm_mulP hn hm h1 h2
    refine ⟨k1, ev_mul ns ms, by rw [k2]; exact Nat.le_refl _, .of_co fun i => mulP_bd (fun i => hX.co i) (fun i => hY.co i) i, fun _ _ y => ?_⟩
    rw [y] at k2
    have := List.length_pos_iff.mpr h1
    have := List.length_pos_iff.mpr h2
    simp only [List.length_nil] at k2
    omega
section
variable {P : Program} {w : World} {K : PySem.W.Frag} {mg : Str → Option Value} {base : Heap} {tL tM tD : Tok}
def spLinear (K : PySem.W.Frag) : Sp := fun vs H Q _ => ∃ (r a : Addr) (ns : List Int), vs = [.ref r] ∧ H r = some (RowO a r) ∧ SqL K H a (ns.map V.int) ∧
  ∀ p H' (q z : Addr) (t d : Int), Ex H H' → H' p = some (.tup [.ref q, .ref z]) → H' q = some (.tup ([-t, d].map V.int)) → -6 ≤ t → t ≤ 6 → 1 ≤ d → d ≤ 3 → Q (.ref p) H'
/-- a draw: what it is a form of has no needless factor -/
structure Drawn (m : Nat) (t b t0 b0 : List Int) : Prop where
  nt : Nm t
  nb : Nm b
  ne : b ≠ []
  lt : t.length ≤ m + 2
  lb : b.length ≤ m + 2
  bt : BdA (24 * (m + 1)) t
  bb : BdA (24 * (m + 1)) b
  nt0 : Nm t0
  nb0 : Nm b0
  ne0 : b0 ≠ []
  lt0 : t0.length ≤ m + 1
  lb0 : b0.length ≤ m + 1
  bt0 : BdA 4 t0
  bb0 : BdA 4 b0
  cr : ∀ x, ev t x * ev b0 x = ev t0 x * ev b x
def spDraw (K : PySem.W.Frag) : Sp := fun vs H Q _ => ∃ (r a : Addr) (ns : List Int) (m : Nat), vs = [.ref r, .int m] ∧ m ≤ 12 ∧ H r = some (RowO a r) ∧ SqL K H a (ns.map V.int) ∧
  ∀ p H' (t b t0 b0 : List Int), Ex H H' → FnO H' p t b → Drawn m t b t0 b0 → Q (.ref p) H'
end
end Coil

set_option Elab.async false
set_option linter.all false
set_option maxRecDepth 100000
set_option maxHeartbeats 4000000
namespace Coil
open PySem L2 Evl
theorem dp_lst {K : PySem.W.Frag} {H : L2.Hp} {a : Addr} {ns : List Int} (h : SqL K H a (ns.map V.int)) : Dp K H (.ref a) (.list (ns.map PyData.int)) := .lst h (dpall_ints K H ns)
theorem eqv_lsts (ns ms : List Int) : PyData.eqv (.list (ns.map PyData.int)) (.list (ms.map PyData.int)) = decide (ns = ms) := by
  rw [PyData.eqv]; exact eqv_ints ns ms
theorem shaped_lst (ns : List Int) : SeqAt.shaped (.list (ns.map PyData.int)) = true := by
  unfold SeqAt.shaped
  rw [Bool.and_eq_true]
  refine ⟨by rw [PyData.canLay0]; exact lay_ints ns, decide_eq_true ?_⟩
  have := depth_ints ns
  rw [PyData.depth]
  omega
section
variable {P : Program} {w : World} {K : PySem.W.Frag} {mg : Str → Option Value} {base : Heap} {tL tM tD : Tok}
def spDivides (K : PySem.W.Frag) : Sp := fun vs H Q _ => ∃ (a b : Addr) (l0 l1 : Int) (os : List Int), vs = [.ref a, .ref b] ∧ SqT K H a ([l0, l1].map V.int) ∧ SqT K H b (os.map V.int) ∧ l0.natAbs ≤ 6 ∧ l1 ≠ 0 ∧ l1.natAbs ≤ 6 ∧ os.length ≤ 13 ∧ BdA (2 ^ 300) os ∧
  ∀ (β : Bool) H', Ex H H' → (β = true → ∃ (c : Int) (u : List Int), c ≠ 0 ∧ ∀ x, c * ev os x = ev [l0, l1] x * ev u x) → Q (.bl β) H'
end
end Coil

set_option Elab.async false
set_option linter.all false
set_option maxRecDepth 100000
set_option maxHeartbeats 4000000
set_option exponentiation.threshold 10000
namespace Coil
open PySem L2 Evl
section
variable {P : Program} {w : World} {K : PySem.W.Frag} {mg : Str → Option Value} {base : Heap} {tL tM tD : Tok}
def spTrimT (K : PySem.W.Frag) : Sp := fun vs H Q _ => ∃ (a : Addr) (ns : List Int), vs = [.ref a] ∧ SqT K H a (ns.map V.int) ∧ ns.length ≤ 1000 ∧ ∀ p H', Ex H H' → SqT K H' p ((trimL ns).map V.int) → Q (.ref p) H'
theorem ok_trimT {f : Addr} {fd : FuncData} (F : Fun K "_law_trim" "_law_trim" s_u_law_trim f fd) (T : Txt mg tL tM tD) : FnOk P w K mg base CX0 1 f fd ["some"] (spTrimT K) := by
  refine F.ok sc_u_law_trim (fun vs H Q E h => ?_) (fun cdv A outer s H vs Q E hr h => ?_)
  · obtain ⟨a, ns, rfl, _⟩ := h
    rfl
  · obtain ⟨a, ns, rfl, hS, hlen, k⟩ := h
    refine ⟨_, (pss_cons (ps_set (i := 1) sc_u_law_trim.nd rfl (Or.inl rfl) (pe_callB (r := Evl.rLenS K) call_len_seq (by rfl) T.b_len (by decide +kernel) (pa_cons (pv 0) pa_nil)))
  (pss_cons (ps_for PassesOwn.never rfl (pi_range1 rfl T.b_range (pa_cons (pe_callB (r := Evl.rLenS K) call_len_seq (by rfl) T.b_len (by decide +kernel) (pa_cons (pv 0) pa_nil)) pa_nil)) (pg_name (i := 2) sc_u_law_trim.nd rfl (Or.inl rfl)) (pss_one (ps_if (PW.pt (pw_and (pt_cmpR op_gt (pv 1) pe_int (nomark _)) (pw_and1 (pt_cmpR op_eq (pe_ix (r := rIxT K) ix_tup (pv 0) (pe_op op_sub (pv 1) pe_int) (fun _ _ => rfl)) pe_int (nomark _))))) (pss_one (ps_set (i := 1) sc_u_law_trim.nd rfl (Or.inl rfl) (pe_op op_sub (pv 1) pe_int))) pss_nil)))
  (pss_one (ps_ret (pe_callTy call_tuple_of (by rfl) T.b_tuple (by decide +kernel) (pa_cons (pe_slice (r := rSlA K) sl_tupA (pv 0) po_none (po_some (pv 1))) pa_nil)))))), ?_⟩
    refine ⟨_, rfl, a, _, rfl, .inr hS, _, rfl, a, _, rfl, .inr hS, ?_⟩
    rw [List.length_map]
    refine ⟨_, rfl, by omega, by omega, for_range (lo := 0) (n := ns.length) (fun i σ H' => H' = H ∧ ∃ (v : Option V), σ = [some (.ref a), some (.int ((trimTo ns i : Nat) : Int)), v]) ⟨rfl, none, rfl⟩ ?_ ?_⟩
    · rintro i σ H' hi ⟨rfl, v, rfl⟩
      refine ⟨_, rfl, _, _, rfl, rfl, _, rfl, ?_⟩
      have ht := trimTo_le ns i
      by_cases h0 : 0 < trimTo ns i
      · rw [decide_eq_true (by omega : (0 : Int) < ((trimTo ns i : Nat) : Int))]
        refine iteT ?_
        have ej : ((trimTo ns i : Nat) : Int) - 1 = ((trimTo ns i - 1 : Nat) : Int) := by omega
        refine ⟨_, rfl, _, rfl, _, _, rfl, rfl, a, _, _, _, rfl, rfl, hS, (by rw [ej]; exact at_map (by omega)), rfl, _, rfl, ?_⟩
        refine ite2 (fun q => ?_) (fun q => ?_)
        · have hz : ns.getD (trimTo ns i - 1) 0 = 0 := V.int.inj (of_decide_eq_true q)
          refine ⟨_, rfl, _, _, rfl, rfl, ?_⟩
          refine ⟨rfl, some (.int ((0 : Int) + (i : Int))), ?_⟩
          show [some (V.ref a), some (V.int (((trimTo ns i : Nat) : Int) - 1)), some (V.int ((0 : Int) + (i : Int)))] = _
          rw [ej, trimTo_zero h0 hz]
        · have hz : ¬ ns.getD (trimTo ns i - 1) 0 = 0 := fun z => q (decide_eq_true (by rw [z]))
          refine ⟨rfl, some (.int ((0 : Int) + (i : Int))), ?_⟩
          rw [trimTo_same (.inr hz)]
          rfl
      · rw [decide_eq_false (by omega : ¬ (0 : Int) < ((trimTo ns i : Nat) : Int))]
        refine iteF (iteF ?_)
        refine ⟨rfl, some (.int ((0 : Int) + (i : Int))), ?_⟩
        rw [trimTo_same (.inl (by omega))]
        rfl
    · rintro σ H' ⟨rfl, v, rfl⟩
      have ht := trimTo_le ns ns.length
      refine ⟨_, rfl, _, rfl, _, rfl, a, _, rfl, hS, fun hw => ?_, fun hw p hp => ?_⟩
      · rw [HT.sIx_none, HT.sIx_nat, List.length_map] at hw
        have e : trimL ns = ns := by
          unfold trimL
          rw [show trimTo ns ns.length = ns.length by omega, List.take_length]
        exact ⟨a, _, rfl, .inr ⟨hS, k a _ (Ex.refl _) (by rw [e]; exact hS)⟩⟩
      · have ec : cutV (ns.map V.int) none (some ((trimTo ns ns.length : Nat) : Int)) = (trimL ns).map V.int := by
          unfold cutV
          rw [HT.sIx_none, HT.sIx_nat, List.length_map, List.drop_zero, Nat.sub_zero, Nat.min_eq_left ht, ← List.map_take]
          rfl
        rw [ec]
        exact ⟨p, _, rfl, .inr ⟨SqT.of upd_same, k p _ (Ex.new hp) (SqT.of upd_same)⟩⟩
end
theorem qp_a : QP 5 100 := ⟨by decide, by decide, by decide, by decide +kernel, by decide +kernel⟩
theorem qp_b : QP 5 (2 ^ 33) := ⟨by decide, by decide, by decide, by decide +kernel, by decide +kernel⟩
theorem qp_c : QP 8 2000 := ⟨by decide, by decide, by decide, by decide +kernel, by decide +kernel⟩
theorem qp_d : QP 9 (2 ^ 70) := ⟨by decide, by decide, by decide, by decide +kernel, by decide +kernel⟩
theorem qp_e : QP 5 (2 ^ 59) := ⟨by decide, by decide, by decide, by decide +kernel, by decide +kernel⟩
theorem fb_a : Fb 4 100 ≤ 2 ^ 33 := by decide +kernel
theorem fb_b : Fb 4 (2 ^ 33) ≤ 2 ^ 59 := by decide +kernel
theorem pol_of {ns : List Int} {B : Nat} (h : Nm ns) (hl : ns.length ≤ 13) (hb : BdA B ns) (hB : B ≤ 10 ^ 60) : Pol ns := by
  refine ⟨hl, fun n hn => Nat.le_trans (hb n hn) (Nat.le_trans hB (by decide +kernel)), fun q => ?_⟩
  rcases h with z | z
  · rw [z] at q; cases q
  · rw [List.getLast?_eq_getElem?] at q
    unfold co at z
    rw [List.getD_eq_getElem?_getD, q] at z
    exact z rfl
theorem gcdL_one {t b : List Int} (h : Can t b) : gcdL (t ++ b) = 1 := by
  have hD := gcdL_nonneg (t ++ b)
  have c1 : ∀ i, i < t.length → co (t ++ b) i = co t i := fun i hi => by
    unfold co; rw [List.getD_eq_getElem?_getD, List.getElem?_append_left hi, List.getD_eq_getElem?_getD]
  have c2 : ∀ i, co (t ++ b) (t.length + i) = co b i := fun i => by
    unfold co; rw [List.getD_eq_getElem?_getD, List.getElem?_append_right (by omega), List.getD_eq_getElem?_getD, show t.length + i - t.length = i by omega]
  have d1 : gcdL (t ++ b) ∣ gcdL t := dvd_gcdL fun i => by
    by_cases hi : i < t.length
    · rw [← c1 i hi]; exact gcdL_dvd i
    · rw [co_over (by omega)]; exact Int.dvd_zero _
  have d2 : gcdL (t ++ b) ∣ gcdL b := dvd_gcdL fun i => by rw [← c2 i]; exact gcdL_dvd _
  have d3 := Nat.dvd_gcd (Int.natAbs_dvd_natAbs.mpr d1) (Int.natAbs_dvd_natAbs.mpr d2)
  rw [h.one] at d3
  have := Nat.le_of_dvd (by decide) d3
  have h0 : (gcdL (t ++ b)).natAbs ≠ 0 := fun z => by rw [z] at d3; simp at d3
  omega
theorem trimL_nm {ns : List Int} (h : Nm ns) : trimL ns = ns := by
  rcases h with z | z
  · rw [z]; rfl
  · exact trimL_id z
theorem catA_of {K : PySem.W.Frag} {H : L2.Hp} {a b : Addr} {xs ys : List V} {Q : VK} (hA : SqT K H a xs) (hB : SqT K H b ys) (hl : xs.length + ys.length ≤ sizeLine) (k : ∀ p H', Ex H H' → SqT K H' p (xs ++ ys) → Q (.ref p) H') : rCatA K (.ref a) (.ref b) H Q :=
  ⟨a, b, xs, ys, rfl, rfl, hA, hB, hl, fun z => k b H (Ex.refl _) (by rw [z]; exact hB), fun _ z => k a H (Ex.refl _) (by rw [z, List.append_nil]; exact hA), fun _ _ p hp => k p _ (Ex.new hp) (SqT.of upd_same)⟩
theorem mulL_eq {t b t' b' : List Int} (ht : Nm t) (hb : Nm b) (ht' : Nm t') (hb' : Nm b') (e : ∀ x, ev t x * ev b' x = ev t' x * ev b x) : mulL t b' = mulL t' b := by
  have top : ∀ ns : List Int, BdA ((ns.map Int.natAbs).foldl max 0) ns := fun ns n hn => by
    have h1 : ∀ (l : List Nat) (m : Nat), m ≤ l.foldl max m := fun l => by
      induction l with
      | nil => intro m; exact Nat.le_refl _
      | cons y l ih => intro m; exact Nat.le_trans (Nat.le_max_left m y) (ih _)
    have h2 : ∀ (l : List Nat) (m x : Nat), x ∈ l → x ≤ l.foldl max m := fun l => by
      induction l with
      | nil => intro m x h; cases h
      | cons y l ih =>
        intro m x h
        rcases List.mem_cons.mp h with rfl | h
        · exact Nat.le_trans (Nat.le_max_right m x) (h1 _ _)
        · exact ih _ _ h
    exact h2 _ _ _ (List.mem_map.mpr ⟨n, hn, rfl⟩)
  obtain ⟨a1, a2, _⟩ := mulL_facts ht hb' (top t) (top b')
  obtain ⟨c1, c2, _⟩ := mulL_facts ht' hb (top t') (top b)
  exact nm_ext (B := 0) a1 c1 fun x _ => by rw [a2, c2, e]
theorem cross3 {g t2 b1 t1 b2 : List Int} (hg : Nz g) (e : ∀ x, ev g x * (ev t2 x * ev b1 x) = ev g x * (ev t1 x * ev b2 x)) (x : Int) : ev t2 x * ev b1 x = ev t1 x * ev b2 x := by
  have := ev_cancel hg (p := mulP t2 b1) (q := mulP t1 b2) (fun x => by rw [ev_mul, ev_mul]; exact e x) x
  rwa [ev_mul, ev_mul] at this
theorem can_nil {b : List Int} (h : Can [] b) : b = [1] := by
  obtain ⟨u, v, r, hr, hb⟩ := h.bez
  have e : ∀ x, ev [r] x = ev v x * ev b x := fun x => by
    have := hb x
    simp only [ev, Int.mul_zero, Int.zero_add, Int.add_zero] at this ⊢
    exact this.symm
  have hv : trimZ v ≠ [] := fun y => by
    have := e 0
    rw [← ev_trimZ v, y] at this
    simp [ev] at this
    exact hr this
  have hl := len_mul (a := [r]) (.inr hr) (nm_trimZ v) h.nb hv h.b0 (fun x => by rw [ev_trimZ, e])
  have := List.length_pos_iff.mpr hv
  have := List.length_pos_iff.mpr h.b0
  simp only [List.length_cons, List.length_nil] at hl
  obtain ⟨c, rfl⟩ : ∃ c, b = [c] := List.length_eq_one_iff.mp (by omega)
  have h1 := h.one
  have h2 := h.pos
  unfold ldc co at h2
  simp [gcdL] at h1 h2
  congr 1
  omega
/-- a linear factor divides no two polynomials of a form -/
theorem lin_not {t b u1 u2 : List Int} {l0 l1 c1 c2 : Int} (h : Can t b) (h1 : l1 ≠ 0) (hc1 : c1 ≠ 0) (hc2 : c2 ≠ 0) (e1 : ∀ x, c1 * ev t x = ev [l0, l1] x * ev u1 x) (e2 : ∀ x, c2 * ev b x = ev [l0, l1] x * ev u2 x) : False := by
  obtain ⟨u, v, r, hr, hb⟩ := h.bez
  have e : ∀ x, ev [c1 * c2 * r] x = ev [l0, l1] x * ev (addP (smul c2 (mulP u u1)) (smul c1 (mulP v u2))) x := fun x => by
    have q1 := e1 x
    have q2 := e2 x
    rw [ev_add, ev_smul, ev_smul, ev_mul, ev_mul]
    have q3 : ev [c1 * c2 * r] x = c1 * c2 * r := by simp [ev]
    rw [q3, ← hb x]
    grind
  have n1 : Nm [c1 * c2 * r] := .inr (Int.mul_ne_zero (Int.mul_ne_zero hc1 hc2) hr)
  have n2 : Nm [l0, l1] := .inr h1
  have hw : trimZ (addP (smul c2 (mulP u u1)) (smul c1 (mulP v u2))) ≠ [] := fun y => by
    have := e 0
    rw [← ev_trimZ (addP _ _), y] at this
    simp [ev] at this
    exact (Int.mul_ne_zero (Int.mul_ne_zero hc1 hc2) hr) (by simpa [Int.mul_eq_zero, or_assoc] using this)
  have := len_mul n1 n2 (nm_trimZ _) (by simp) hw (fun x => by rw [ev_trimZ, e])
  have := List.length_pos_iff.mpr hw
  simp only [List.length_cons, List.length_nil] at *
  omega
end Coil

set_option Elab.async false
set_option linter.all false
set_option maxRecDepth 100000
set_option maxHeartbeats 4000000
set_option exponentiation.threshold 10000
namespace Coil
open PySem L2 Evl
/-- a function of a known size -/
structure Fs (l c : Nat) (t b : List Int) : Prop where
  can : Can t b
  lt : t.length ≤ l
  lb : b.length ≤ l
  bt : BdA (2 ^ c) t
  bb : BdA (2 ^ c) b
theorem Fs.pre {l c : Nat} {t b : List Int} (h : Fs l c t b) (hl : l ≤ 13) (hc : c ≤ 199) (qp : QP l (2 ^ c)) : FnPre t b (2 ^ c) :=
  have h60 : (2 : Nat) ^ c ≤ 10 ^ 60 := Nat.le_trans (Nat.pow_le_pow_right (by decide) hc) (by decide +kernel)
  have h1 := h.lt
  have h2 := h.lb
  ⟨h.can, pol_of h.can.nt (by omega) h.bt h60, pol_of h.can.nb (by omega) h.bb h60, qp.pre h.can.nt h.can.nb h.can.b0 h.bt h.bb h.lt h.lb⟩
theorem Fs.op {l1 c1 l2 c2 B : Nat} {t b t' b' : List Int} (h : Fs l1 c1 t b) (h' : Fs l2 c2 t' b') (cc : c1 + c2 ≤ 4000) (qp : QP (l1 + l2 - 1) B) (sz : 2 * ((l1 + l2) * (2 ^ c1 * 2 ^ c2)) ≤ B) : OpPre t b t' b' l1 c1 l2 c2 B :=
  ⟨h.can, h'.can, h.lt, h.lb, h'.lt, h'.lb, h.bt, h.bb, h'.bt, h'.bb, cc, qp, sz⟩
theorem Fs.of {L B c : Nat} {u v : List Int} (hc : Can u v) (l1 : u.length ≤ L) (l2 : v.length ≤ L) (s1 : BdA (Fb (L - 1) B) u) (s2 : BdA (Fb (L - 1) B) v) (h : Fb (L - 1) B ≤ 2 ^ c) : Fs L c u v := ⟨hc, l1, l2, s1.mono h, s2.mono h⟩
theorem hM_zero {p : List Int} {n : Nat} {x y : Int} (h : p.length ≤ n + 1) (hn : n ≤ 60) (hz : hM p x y ≠ 0) : hv n p x y ≠ 0 := fun z => hz (by rw [hM_of h hn, z, Int.mul_zero])
theorem hM_val {u v : List Int} {n : Nat} {x y a e : Int} (hu : u.length ≤ n + 1) (hv' : v.length ≤ n + 1) (hn : n ≤ 60) (h : a * hv n v x y = hv n u x y * e) : a * hM v x y = hM u x y * e := by
  rw [hM_of hu hn, hM_of hv' hn]
  have := congrArg (fun z => y ^ (60 - n) * z) h
  grind
section
variable {P : Program} {w : World} {K : PySem.W.Frag} {mg : Str → Option Value} {base : Heap} {tL tM tD : Tok}
theorem Fs.pw {l c : Nat} {t b : List Int} (h : Fs l c t b) (hl : l ≤ 13) : pw t b ≤ 12 ∧ t.length ≤ pw t b + 1 ∧ b.length ≤ pw t b + 1 := by
  have hlt := h.lt
  have hlb := h.lb
  have hbl : 0 < b.length := List.length_pos_iff.mpr h.can.b0
  unfold Coil.pw
  omega
theorem va_nz {l c : Nat} {t b : List Int} {x y : Int} (h : Fs l c t b) (hl : l ≤ 13) (nz : hM b x y ≠ 0) : hv (pw t b) b x y ≠ 0 := by
  obtain ⟨h1, h2, h3⟩ := h.pw hl
  exact hM_zero h3 (by omega) nz
theorem va_up {l c : Nat} {t b : List Int} {x y a e : Int} (h : Fs l c t b) (hl : l ≤ 13) (he : a * hv (pw t b) b x y = hv (pw t b) t x y * e) : a * hM b x y = hM t x y * e := by
  obtain ⟨h1, h2, h3⟩ := h.pw hl
  exact hM_val h2 h3 (by omega) he
theorem va_0 {l c : Nat} {t b : List Int} {x y : Int} (h : Fs l c t b) (hl : l ≤ 13) (hy : y ≠ 0) (hz : hM b x y = 0) : hv (pw t b) b x y = 0 := by
  obtain ⟨h1, h2, h3⟩ := h.pw hl
  rw [hM_of h3 (by omega)] at hz
  rcases Int.mul_eq_zero.mp hz with z | z
  · exact absurd z (Int.pow_ne_zero hy)
  · exact z
theorem va_lt {l c d : Nat} {t b r : List Int} {x y : Int} (h : Fs l c t b) (hl : l ≤ 13) (hd : c + 1 + (d + 1) * 12 ≤ 8000) (hx : x.natAbs < 2 ^ d) (hy : y.natAbs < 2 ^ d) (hr : r = t ∨ r = b) : (hv (pw t b) r x y).natAbs < 2 ^ 8000 := by
  obtain ⟨h1, h2, h3⟩ := h.pw hl
  have hm : (d + 1) * pw t b ≤ (d + 1) * 12 := Nat.mul_le_mul_left _ h1
  rcases hr with rfl | rfl
  · exact Nat.lt_of_lt_of_le (hv_size hx hy _ _ h2 h.bt.co) (Nat.pow_le_pow_right (by decide) (by omega))
  · exact Nat.lt_of_lt_of_le (hv_size hx hy _ _ h3 h.bb.co) (Nat.pow_le_pow_right (by decide) (by omega))
theorem va_lt1 {l c d : Nat} {t b : List Int} {x y a : Int} (h : Fs l c t b) (hl : l ≤ 13) (hd : c + 1 + (d + 1) * 12 ≤ 8000) (hx : x.natAbs < 2 ^ d) (hy : y.natAbs < 2 ^ d) (ha : a.natAbs ≤ (hv (pw t b) t x y).natAbs) : a.natAbs < 2 ^ 9000 :=
  Nat.lt_trans (Nat.lt_of_le_of_lt ha (va_lt h hl hd hx hy (.inl rfl))) (Nat.pow_lt_pow_right (by decide) (by decide))
theorem va_lt2 {l c d : Nat} {t b : List Int} {x y a : Int} (h : Fs l c t b) (hl : l ≤ 13) (hd : c + 1 + (d + 1) * 12 ≤ 8000) (hx : x.natAbs < 2 ^ d) (hy : y.natAbs < 2 ^ d) (ha : a.natAbs ≤ (hv (pw t b) b x y).natAbs) : a.natAbs < 2 ^ 9000 :=
  Nat.lt_trans (Nat.lt_of_le_of_lt ha (va_lt h hl hd hx hy (.inr rfl))) (Nat.pow_lt_pow_right (by decide) (by decide))
theorem big_of {n : Int} {d : Nat} (hd : d ≤ 199) (h : n.natAbs < 2 ^ d) : Big n := Nat.le_trans (Nat.le_of_lt (Nat.lt_of_lt_of_le h (Nat.pow_le_pow_right (by decide) hd))) (by decide +kernel)
theorem can_hM {t b : List Int} {x y : Int} (h : Can t b) (hy : y ≠ 0) (ht : t.length ≤ 61) (hb : b.length ≤ 61) (h2 : hM b x y = 0) : hM t x y ≠ 0 := fun h1 => can_hv (n := 60) h hy (by omega) (by omega) h1 h2
end
end Coil

set_option Elab.async false
set_option linter.all false
set_option maxRecDepth 100000
set_option maxHeartbeats 4000000
set_option exponentiation.threshold 10000
namespace Coil
open PySem L2 Evl RT
theorem rat1_q (q : Rat) : Rat1 q.num ((q.den : Nat) : Int) := ⟨by have := q.den_nz; omega, by rw [Int.natAbs_natCast]; exact q.reduced⟩
theorem sm_int {z : Int} {c : Nat} (h : z.natAbs < 2 ^ c) (hc : 1 ≤ c) : Sm c (z : Rat) := by
  refine ⟨by rw [Rat.num_intCast]; exact h, ?_⟩
  rw [Rat.den_intCast]
  exact Nat.lt_of_lt_of_le (by decide : 1 < 2 ^ 1) (Nat.pow_le_pow_right (by decide) hc)
def ratD (q : Rat) : PyData := .tuple ([q.num, ((q.den : Nat) : Int)].map PyData.int)
def ratsD (qs : List Rat) : PyData := .tuple (qs.map ratD)
theorem dp_ro {K : PySem.W.Frag} {H : L2.Hp} {p : Addr} {q : Rat} (h : RO H p q) : Dp K H (.ref p) (ratD q) := dp_tup (ns := [q.num, ((q.den : Nat) : Int)]) (SqT.of h)
theorem dpall_rs {K : PySem.W.Frag} {H : L2.Hp} : ∀ {xs : List V} {qs : List Rat}, RsO H xs qs → DpAll K H xs (qs.map ratD)
  | [], [], _ => .nil
  | [], _ :: _, h => absurd h.1 (by simp)
  | _ :: _, [], h => absurd h.1 (by simp)
  | v :: xs, q :: qs, h => by
    obtain ⟨p, e, hp⟩ := h.2 0 v rfl
    subst e
    exact .cons (dp_ro hp) (dpall_rs ⟨Nat.succ.inj h.1, fun i v hv => h.2 (i + 1) v hv⟩)
theorem dp_rs {K : PySem.W.Frag} {H : L2.Hp} {a : Addr} {xs : List V} {qs : List Rat} (hA : SqT K H a xs) (h : RsO H xs qs) : Dp K H (.ref a) (ratsD qs) := .tup hA (dpall_rs h)
theorem eqv_rat (q r : Rat) : PyData.eqv (ratD q) (ratD r) = decide (q = r) := by
  unfold ratD
  rw [eqv_tups, decide_eq_decide]
  constructor
  · intro h
    have h1 := (List.cons.inj h).1
    have h2 := (List.cons.inj (List.cons.inj h).2).1
    exact Rat.ext h1 (by omega)
  · rintro rfl; rfl
theorem eqv_rats : ∀ qs rs : List Rat, PyData.eqvAll (qs.map ratD) (rs.map ratD) = decide (qs = rs)
  | [], [] => by simp [PyData.eqvAll]
  | [], _ :: _ => by simp [PyData.eqvAll]
  | _ :: _, [] => by simp [PyData.eqvAll]
  | q :: qs, r :: rs => by
    simp only [List.map_cons, PyData.eqvAll, eqv_rat, eqv_rats qs rs]
    by_cases h : q = r <;> by_cases h2 : qs = rs <;> simp [h, h2]
theorem eqv_ratsD (qs rs : List Rat) : PyData.eqv (ratsD qs) (ratsD rs) = decide (qs = rs) := by
  unfold ratsD
  rw [PyData.eqv]; exact eqv_rats qs rs
theorem shaped_rat (q : Rat) : SeqAt.shaped (ratD q) = true := shaped_ints _
theorem lay_rats : ∀ qs : List Rat, PyData.canLayAll0 (qs.map ratD) = true
  | [] => by simp [PyData.canLayAll0]
  | q :: qs => by simp [PyData.canLayAll0, PyData.canLay0, ratD, lay_rats qs]
theorem depth_rats : ∀ qs : List Rat, PyData.depthAll (qs.map ratD) ≤ 3
  | [] => by simp [PyData.depthAll]
  | q :: qs => by
    have := depth_rats qs
    have h1 := depth_ints [q.num, ((q.den : Nat) : Int)]
    have h2 : PyData.depth (ratD q) ≤ 2 := by
      unfold ratD
      rw [PyData.depth]
      omega
    rw [List.map_cons, PyData.depthAll]
    omega
theorem shaped_rats (qs : List Rat) : SeqAt.shaped (ratsD qs) = true := by
  unfold SeqAt.shaped ratsD
  rw [Bool.and_eq_true]
  refine ⟨by rw [PyData.canLay0]; exact lay_rats qs, decide_eq_true ?_⟩
  have := depth_rats qs
  rw [PyData.depth]
  omega
theorem RsO.cast {H : L2.Hp} {xs : List V} {qs rs : List Rat} (h : RsO H xs qs) (hl : qs.length = rs.length) (he : ∀ i, i < qs.length → atL qs i = atL rs i) : RsO H xs rs := by
  rw [← h.ext hl he]; exact h
section
variable {P : Program} {w : World} {K : PySem.W.Frag} {mg : Str → Option Value} {base : Heap} {tL tM tD : Tok}
def bigQ (q : Rat) : Prop := Big q.num ∧ Big ((q.den : Nat) : Int)
instance (q : Rat) : Decidable (bigQ q) := by unfold bigQ Big; infer_instance
theorem shaped_lrats (qs : List Rat) : SeqAt.shaped (.list (qs.map ratD)) = true := by
  unfold SeqAt.shaped
  rw [Bool.and_eq_true]
  refine ⟨by rw [PyData.canLay0]; exact lay_rats qs, decide_eq_true ?_⟩
  have := depth_rats qs
  rw [PyData.depth]
  omega
def spShort (K : PySem.W.Frag) : Sp := fun vs H Q _ => ∃ (a : Addr) (xs : List V) (qs : List Rat), vs = [.ref a] ∧ SqT K H a xs ∧ RsO H xs qs ∧ qs.length ≤ 900 ∧ ∀ β H', Ex H H' → (β = true → ∀ q ∈ qs, bigQ q) → Q (.bl β) H'
end
end Coil

set_option Elab.async false
set_option linter.all false
set_option maxRecDepth 100000
set_option maxHeartbeats 4000000
set_option exponentiation.threshold 10000
namespace Coil
open PySem L2 Evl RT
section
variable {P : Program} {w : World} {K : PySem.W.Frag} {mg : Str → Option Value} {base : Heap} {tL tM tD : Tok}
def timesS (ns : List Int) : List Int := if ns = [] then [] else 0 :: ns
theorem co_timesS0 (ns : List Int) : co (timesS ns) 0 = 0 := by
  unfold timesS
  split
  · rfl
  · rfl
theorem co_timesS (ns : List Int) (i : Nat) : co (timesS ns) (i + 1) = co ns i := by
  unfold timesS
  split
  · rename_i h; rw [h]; rfl
  · rfl
theorem timesS_len (ns : List Int) : (timesS ns).length ≤ ns.length + 1 := by
  unfold timesS; split <;> simp
def spTimesV (K : PySem.W.Frag) : Sp := fun vs H Q _ => ∃ (a : Addr) (ns : List Int), vs = [.ref a] ∧ SqT K H a (ns.map V.int) ∧ ns.length ≤ 900 ∧ ∀ p H', Ex H H' → SqT K H' p ((timesS ns).map V.int) → Q (.ref p) H'
theorem ok_times_variable {f : Addr} {fd : FuncData} (F : Fun K "times_variable" "times_variable" s_times_variable f fd) (T : Txt mg tL tM tD) : FnOk P w K mg base CX0 1 f fd ["polynomial"] (spTimesV K) := by
  refine F.ok sc_times_variable (fun vs H Q E h => ?_) (fun cdv A outer s H vs Q E hr h => ?_)
  · obtain ⟨a, ns, rfl, _⟩ := h
    rfl
  · obtain ⟨a, ns, rfl, hS, hl, k⟩ := h
    refine ⟨_, (pss_one (ps_ret (pe_ifExp (pt_truth (pv 0) (by intro _; rfl)) (pe_op op_catA (pe_tup (pa_cons pe_int pa_nil)) (pv 0)) (pe_tup pa_nil)))), ?_⟩
    refine ⟨_, rfl, _, .inr (.inl ⟨_, hS, rfl⟩), ?_⟩
    by_cases h0 : ns = []
    · rw [show (!(ns.map V.int).isEmpty) = false by rw [h0]; rfl]
      refine iteF ?_
      refine ⟨Nat.zero_le _, fun p hp => ?_⟩
      refine k p _ (Ex.new hp) (.of ?_)
      rw [upd_same, h0]; rfl
    · rw [sz_ne h0]
      refine iteT ?_
      refine ⟨(by show 1 ≤ sizeLine; decide), fun p hp => ?_⟩
      have e1 : Ex H (upd H p (.tup [.int 0])) := Ex.new hp
      refine ⟨_, rfl, p, a, [.int 0], _, rfl, rfl, SqT.of upd_same, ex_t e1 hS, ?_, fun y => (nomatch y), fun _ y => absurd (List.map_eq_nil_iff.mp y) h0, fun _ _ r hr => ?_⟩
      · rw [List.length_map]
        show 1 + ns.length ≤ sizeLine
        exact Nat.le_of_lt (line_of (by omega))
      · refine k r _ (e1.trans (Ex.new hr)) (.of ?_)
        rw [upd_same, timesS, if_neg h0]; rfl
def spWeighed (K : PySem.W.Frag) : Sp := fun vs H Q _ => ∃ (a b : Addr) (ns ms : List Int) (x y : Int), vs = [.ref a, .int x, .ref b, .int y] ∧ SqT K H a (ns.map V.int) ∧ SqT K H b (ms.map V.int) ∧ ns.length ≤ 900 ∧ ms.length ≤ 900 ∧ (∀ c ∈ ns, CMulW x c) ∧ (∀ c ∈ ms, CMulW y c) ∧ NewP Q H (fun i => x * co ns i + y * co ms i) (max ns.length ms.length)
/-- the echo of steps, by whole numbers -/
structure EchoI (ks : List Rat) (t b : List Int) : Prop where
  ex : ∃ c : Rat, c ≠ 0 ∧ (∀ i, ((co t i : Int) : Rat) = c * (rTB ks).1 i) ∧ (∀ i, ((co b i : Int) : Rat) = c * (rTB ks).2 i)
  lt : t.length ≤ ks.length
  lb : b.length ≤ max 1 ks.length
  nt : Nm t
  nb : Nm b
  b0 : b ≠ []
  bt : BdA (12 ^ ks.length) t
  bb : BdA (12 ^ ks.length) b
theorem echo_nil : EchoI [] [] [1] :=
  ⟨⟨1, by grind, fun i => by show ((0 : Int) : Rat) = 1 * 0; grind, fun i => by
    cases i with
    | zero => show ((1 : Int) : Rat) = 1 * 1; grind
    | succ i => show ((0 : Int) : Rat) = 1 * 0; grind⟩, Nat.le_refl _, by decide, .inl rfl, .inr (by decide), by simp, fun x hx => (nomatch hx), fun x hx => by rw [List.mem_singleton.mp hx]; decide⟩
theorem echo_step {k : Rat} {ks : List Rat} {t b t' b' : List Int} (h : EchoI ks t b) (hk : k.num.natAbs ≤ 6) (hd : k.den ≤ 6) (ct : ∀ i, co t' i = k.num * co b i + ((k.den : Nat) : Int) * co (timesS t) i) (cb : ∀ i, co b' i = ((k.den : Nat) : Int) * co b i + k.num * co (timesS t) i)
    (nt : Nm t') (nb : Nm b') (lt : t'.length ≤ ks.length + 1) (lb : b'.length ≤ ks.length + 1) : EchoI (k :: ks) t' b' := by
  obtain ⟨c, hc, e1, e2⟩ := h.ex
  have hz : ∀ i, ((co (timesS t) i : Int) : Rat) = c * rzs (rTB ks).1 i := fun i => by
    cases i with
    | zero => rw [co_timesS0]; simp only [rzs]; show ((0 : Int) : Rat) = _; grind
    | succ i => rw [co_timesS, e1]; rfl
  have hs := rat_split k
  have hdn := den_ne k
  have f1 : ∀ i, ((co t' i : Int) : Rat) = (((k.den : Nat) : Int) : Rat) * c * (rTB (k :: ks)).1 i := fun i => by
    rw [ct, Rat.intCast_add, Rat.intCast_mul, Rat.intCast_mul, e2, hz, ← hs]
    show _ = _ * (k * (rTB ks).2 i + rzs (rTB ks).1 i)
    grind
  have f2 : ∀ i, ((co b' i : Int) : Rat) = (((k.den : Nat) : Int) : Rat) * c * (rTB (k :: ks)).2 i := fun i => by
    rw [cb, Rat.intCast_add, Rat.intCast_mul, Rat.intCast_mul, e2, hz, ← hs]
    show _ = _ * ((rTB ks).2 i + k * rzs (rTB ks).1 i)
    grind
  have ht : ∀ i, (co (timesS t) i).natAbs ≤ 12 ^ ks.length := fun i => by
    cases i with
    | zero => rw [co_timesS0]; exact Nat.zero_le _
    | succ i => rw [co_timesS]; exact h.bt.co i
  have bd : ∀ (x y u v : Int), x.natAbs ≤ 6 → y.natAbs ≤ 6 → u.natAbs ≤ 12 ^ ks.length → v.natAbs ≤ 12 ^ ks.length → (x * u + y * v).natAbs ≤ 12 ^ (ks.length + 1) := fun x y u v h1 h2 h3 h4 => by
    have a1 := Int.natAbs_add_le (x * u) (y * v)
    rw [Int.natAbs_mul, Int.natAbs_mul] at a1
    have a2 := Nat.mul_le_mul h1 h3
    have a3 := Nat.mul_le_mul h2 h4
    rw [Nat.pow_succ]
    omega
  have hdd : (((k.den : Nat) : Int)).natAbs ≤ 6 := by rw [Int.natAbs_natCast]; exact hd
  refine ⟨⟨(((k.den : Nat) : Int) : Rat) * c, ?_, f1, f2⟩, lt, by show _ ≤ max 1 (ks.length + 1); omega, nt, nb, fun z => ?_, .of_co fun i => ?_, .of_co fun i => ?_⟩
  · intro z
    rcases Rat.mul_eq_zero.mp z with z | z
    · exact hdn z
    · exact hc z
  · have := f2 0
    rw [z, rB0] at this
    have h0 : (((k.den : Nat) : Int) : Rat) * c * 1 ≠ 0 := by
      intro y
      have : (((k.den : Nat) : Int) : Rat) * c = 0 := by grind
      rcases Rat.mul_eq_zero.mp this with z | z
      · exact hdn z
      · exact hc z
    exact h0 this.symm
  · rw [ct]; exact bd _ _ _ _ hk hdd (h.bb.co i) (ht i)
  · rw [cb]; exact bd _ _ _ _ hdd hk (h.bb.co i) (ht i)
/-- what stands behind the first i steps from the end -/
def stepOk (k : Rat) : Prop := k.num.natAbs ≤ 6 ∧ k.den ≤ 6
def spEcho (K : PySem.W.Frag) : Sp := fun vs H Q _ => ∃ (a : Addr) (xs : List V) (ks : List Rat), vs = [.ref a] ∧ SqT K H a xs ∧ RsO H xs ks ∧ ks.length ≤ 12 ∧ (∀ k ∈ ks, stepOk k) ∧ ∀ p H' t b, H p = none → Ex H H' → (∃ pt pb, H' p = some (.tup [.ref pt, .ref pb]) ∧ SqT K H' pt (t.map V.int) ∧ SqT K H' pb (b.map V.int)) → EchoI ks t b → Q (.ref p) H'
end
end Coil

set_option Elab.async false
set_option linter.all false
set_option maxRecDepth 100000
set_option maxHeartbeats 4000000
set_option exponentiation.threshold 10000
namespace Coil
open PySem L2 Evl RT
/-- a pair of polynomials at p -/
structure PrO (K : PySem.W.Frag) (H : L2.Hp) (p : Addr) (t b : List Int) : Prop where
  ex : ∃ pt pb, SqT K H p [.ref pt, .ref pb] ∧ SqT K H pt (t.map V.int) ∧ SqT K H pb (b.map V.int)
theorem PrO.ex' {K : PySem.W.Frag} {H H' : L2.Hp} {p : Addr} {t b : List Int} (h : PrO K H p t b) (e : Ex H H') : PrO K H' p t b := by
  obtain ⟨pt, pb, h1, h2, h3⟩ := h.ex
  exact ⟨pt, pb, ex_t e h1, ex_t e h2, ex_t e h3⟩
theorem FnO.pr {K : PySem.W.Frag} {H : L2.Hp} {p : Addr} {t b : List Int} (h : FnO H p t b) : PrO K H p t b := by
  obtain ⟨pt, pb, h1, h2, h3⟩ := h.ex
  exact ⟨pt, pb, SqT.of h1, SqT.of h2, SqT.of h3⟩
theorem ev_timesS (p : List Int) (x : Int) : ev (timesS p) x = x * ev p x := by
  unfold timesS
  split
  · rename_i h; rw [h]; simp [ev]
  · simp [ev]
theorem bd_timesS {X : Nat} {p : List Int} (h : BdA X p) : BdA X (timesS p) := by
  unfold timesS
  split
  · exact fun c hc => (nomatch hc)
  · intro c hc
    rcases List.mem_cons.mp hc with rfl | hc
    · exact Nat.zero_le _
    · exact h c hc
section
variable {P : Program} {w : World} {K : PySem.W.Frag} {mg : Str → Option Value} {base : Heap} {tL tM tD : Tok}
def spIsPos : Sp := fun vs H Q _ => ∃ (p : Addr) (q : Rat), vs = [.ref p] ∧ RO H p q ∧ bigQ q ∧ 0 < q.num ∧ Q (.bl true) H
theorem ok_is_positive_ratio {f : Addr} {fd : FuncData} (F : Fun K "is_positive_ratio" "is_positive_ratio" s_is_positive_ratio f fd) (d_is_ratio : Def P w K mg base "is_ratio" 3 ["value"] spIsRatio) : FnOk P w K mg base CX0 4 f fd ["value"] spIsPos := by
  refine F.ok sc_is_positive_ratio (fun vs H Q E h => ?_) (fun cdv A outer s H vs Q E hr h => ?_)
  · obtain ⟨p, q, rfl, _⟩ := h
    rfl
  · obtain ⟨p, q, rfl, hp, hb, h0, k⟩ := h
    refine ⟨_, (pss_one (ps_ret (pe_and (pe_callD d_is_ratio (hr.mono (by decide)) (pa_cons (pv 0) pa_nil)) (pe_one (pe_cmpR op_gt (pe_ix (r := rIxT K) ix_tup (pv 0) pe_int (fun _ _ => rfl)) pe_int (nomark _)))))), ?_⟩
    refine ⟨_, rfl, p, _, _, rfl, hp, rat1_q q, hb.1, hb.2, true, rfl, ?_⟩
    refine iteT ?_
    refine ⟨_, rfl, p, _, _, _, rfl, rfl, SqT.of hp, rfl, _, _, rfl, rfl, ?_⟩
    show Q (.bl (decide ((0 : Int) < q.num))) H
    rw [decide_eq_true h0]
    exact k
def spCheckPc (K : PySem.W.Frag) : Sp := fun vs H Q _ => ∃ (a : Addr) (xs : List V) (ws : List Rat), vs = [.ref a] ∧ SqT K H a xs ∧ RsO H xs ws ∧ ws.length ≤ 12 ∧ (∀ i, i < ws.length → bigQ (atL ws i) ∧ 0 < (atL ws i).num) ∧ ∀ H', Ex H H' → Q .non H'
/-- a pair made of a pair and a piece -/
def PcQ (K : PySem.W.Frag) (Q : VK) (H : L2.Hp) (n u s : Int) (t b : List Int) : Prop := ∀ p H' t' b', H p = none → Ex H H' → PrO K H' p t' b' → Nm t' → Nm b' → (∀ x, ev t' x = n * u * ev t x + s * (n * n) * (x * ev b x)) → (∀ x, ev b' x = n * u * ev b x + s * (u * u) * (x * ev t x)) → t'.length ≤ max t.length (b.length + 1) → b'.length ≤ max b.length (t.length + 1) → (∀ i, (co t' i).natAbs ≤ 36 * (co t i).natAbs + 36 * (co (timesS b) i).natAbs) → (∀ i, (co b' i).natAbs ≤ 36 * (co b i).natAbs + 36 * (co (timesS t) i).natAbs) → Q (.ref p) H'
def spSigned (K : PySem.W.Frag) : Sp := fun vs H Q _ => ∃ (p q : Addr) (wq : Rat) (t b : List Int) (s : Int), vs = [.ref p, .ref q, .int s] ∧ RO H p wq ∧ wq.num.natAbs ≤ 6 ∧ wq.den ≤ 6 ∧ PrO K H q t b ∧ s.natAbs ≤ 1 ∧ t.length ≤ 100 ∧ b.length ≤ 100 ∧ BdA (2 ^ 60) t ∧ BdA (2 ^ 60) b ∧ PcQ K Q H wq.num ((wq.den : Nat) : Int) s t b
def spPiece (K : PySem.W.Frag) (s : Int) : Sp := fun vs H Q _ => ∃ (p q : Addr) (wq : Rat) (t b : List Int), vs = [.ref p, .ref q] ∧ RO H p wq ∧ wq.num.natAbs ≤ 6 ∧ wq.den ≤ 6 ∧ PrO K H q t b ∧ t.length ≤ 100 ∧ b.length ≤ 100 ∧ BdA (2 ^ 60) t ∧ BdA (2 ^ 60) b ∧ PcQ K Q H wq.num ((wq.den : Nat) : Int) s t b
/-! ### the end of pieces as a function, None for an open one -/
def spEndOf (K : PySem.W.Frag) : Sp := fun vs H Q _ => ∃ (p : Addr) (t b : List Int) (B : Nat), vs = [.ref p] ∧ PrO K H p t b ∧ (b = [] → ∀ H', Ex H H' → Q .non H') ∧ (b ≠ [] → QuoPre t b B ∧ QuoQ Q H t b B)
def spIsEnd : Sp := fun vs H Q _ => (vs = [.non] ∧ Q (.bl true) H) ∨ ∃ (p : Addr) (t b : List Int), vs = [.ref p] ∧ FnO H p t b ∧ (t = [] ∨ 0 < co t 0) ∧ ∀ H', Ex H H' → Q (.bl true) H'
end
end Coil

set_option Elab.async false
set_option linter.all false
set_option maxRecDepth 100000
set_option maxHeartbeats 4000000
set_option exponentiation.threshold 10000
namespace Coil
open PySem L2 Evl RT
def kS : Kd → Str
  | .R => "R"
  | .L => "L"
  | .C => "C"
def sS : Bool → Str
  | true => "S"
  | false => "P"
/-- a rung at p -/
def RgO (H : L2.Hp) (p : Addr) (d : RungD) : Prop := ∃ pw, H p = some (.tup [.str (sS d.s), .str (kS d.k), .ref pw]) ∧ RO H pw d.w
theorem RgO.ex' {H H' : L2.Hp} {p : Addr} {d : RungD} (h : RgO H p d) (e : Ex H H') : RgO H' p d := by
  obtain ⟨pw, h1, h2⟩ := h
  exact ⟨pw, e _ _ h1, h2.ex' e⟩
theorem ifN {x y : V} {A B : Prop} (h : x ≠ y) (k : B) : if decide (x = y) = true then A else B := by
  rw [decide_eq_false h]
  exact k
theorem ifE {x : V} {A B : Prop} (k : A) : if decide (x = x) = true then A else B := by
  rw [decide_eq_true rfl]
  exact k
section
variable {P : Program} {w : World} {K : PySem.W.Frag} {mg : Str → Option Value} {base : Heap} {tL tM tD : Tok}
def spImp (K : PySem.W.Frag) : Sp := fun vs H Q _ => ∃ (a pw : Addr) (d : RungD), vs = [.ref a] ∧ SqT K H a [.str (kS d.k), .int 1, .int 0, .ref pw] ∧ RO H pw d.w ∧ ∀ p H', H p = none → Ex H H' → FnO H' p (zTop d) (zBot d) → Q (.ref p) H'
theorem ok_impedance_of {f : Addr} {fd : FuncData} (F : Fun K "impedance_of" "impedance_of" s_impedance_of f fd) : FnOk P w K mg base CX0 1 f fd ["part"] (spImp K) := by
  refine F.ok sc_impedance_of (fun vs H Q E h => ?_) (fun cdv A outer s H vs Q E hr h => ?_)
  · obtain ⟨a, pw, d, rfl, _⟩ := h
    rfl
  · obtain ⟨a, pw, d, rfl, hA, hw, k⟩ := h
    refine ⟨_, (pss_cons (ps_par (i := 1) (j := 2) rfl sc_impedance_of.nd rfl rfl (by decide) rfl rfl (pa_cons (pe_ix (r := rIxT K) ix_tup (pv 0) pe_int (fun _ _ => rfl)) (pa_cons (pe_ix (r := rIxT K) ix_tup (pv 0) pe_int (fun _ _ => rfl)) pa_nil)) (by rfl))
  (pss_cons (ps_if (pt_cmpR op_eq (pv 1) pe_str (nomark _)) (pss_one (ps_ret (pv 2))) pss_nil)
  (pss_cons (ps_asg (pv 2) (pg_tup rfl (pgs_cons (pg_name (i := 3) sc_impedance_of.nd rfl (Or.inl rfl)) (pgs_cons (pg_name (i := 4) sc_impedance_of.nd rfl (Or.inl rfl)) pgs_nil))))
  (pss_cons (ps_if (pt_cmpR op_eq (pv 1) pe_str (nomark _)) (pss_one (ps_ret (pe_tup (pa_cons (pe_tup (pa_cons (pv 3) pa_nil)) (pa_cons (pe_tup (pa_cons (pv 4) pa_nil)) pa_nil))))) pss_nil)
  (pss_cons (ps_if (pt_cmpR op_eq (pv 1) pe_str (nomark _)) (pss_one (ps_ret (pe_tup (pa_cons (pe_tup (pa_cons pe_int (pa_cons (pv 3) pa_nil))) (pa_cons (pe_tup (pa_cons (pv 4) pa_nil)) pa_nil))))) pss_nil)
  (pss_one (ps_ret (pe_tup (pa_cons (pe_tup (pa_cons (pv 4) pa_nil)) (pa_cons (pe_tup (pa_cons pe_int (pa_cons (pv 3) pa_nil))) pa_nil)))))))))), ?_⟩
    refine ⟨_, rfl, a, _, _, _, rfl, rfl, hA, rfl, _, rfl, a, _, _, _, rfl, rfl, hA, rfl, ?_⟩
    obtain ⟨sd, kd, q⟩ := d
    cases kd with
    | R =>
      refine ⟨_, _, rfl, ?_⟩
      refine ⟨_, rfl, rfl, _, rfl, ifN (show V.str (kS .R) ≠ V.str "Z" by decide +kernel) ?_⟩
      refine ⟨_, rfl, pw, _, rfl, SqT.of hw, rfl, ?_⟩
      refine ⟨_, _, rfl, _, _, rfl, rfl, ?_⟩
      refine ⟨_, rfl, rfl, _, rfl, ifE ?_⟩
      refine ⟨_, rfl, (by show 1 ≤ sizeLine; decide), fun p1 hp1 => ?_⟩
      have e1 := Ex.new hp1 (o := .tup [.int q.num])
      refine ⟨_, rfl, (by show 1 ≤ sizeLine; decide), fun p2 hp2 => ?_⟩
      have e2 := Ex.new hp2 (o := .tup [.int ((q.den : Nat) : Int)])
      refine ⟨(by show 2 ≤ sizeLine; decide), fun p3 hp3 => ?_⟩
      have e3 := Ex.new hp3 (o := .tup [.ref p1, .ref p2])
      exact k p3 _ (fresh_back (e1.trans e2) hp3) ((e1.trans e2).trans e3) ⟨p1, p2, upd_same, e3 _ _ (e2 _ _ upd_same), e3 _ _ upd_same⟩
    | L =>
      refine ⟨_, _, rfl, ?_⟩
      refine ⟨_, rfl, rfl, _, rfl, ifN (show V.str (kS .L) ≠ V.str "Z" by decide +kernel) ?_⟩
      refine ⟨_, rfl, pw, _, rfl, SqT.of hw, rfl, ?_⟩
      refine ⟨_, _, rfl, _, _, rfl, rfl, ?_⟩
      refine ⟨_, rfl, rfl, _, rfl, ifN (show V.str (kS .L) ≠ V.str "R" by decide +kernel) ?_⟩
      refine ⟨_, rfl, rfl, _, rfl, ifE ?_⟩
      refine ⟨_, rfl, (by show 2 ≤ sizeLine; decide), fun p1 hp1 => ?_⟩
      have e1 := Ex.new hp1 (o := .tup [.int 0, .int q.num])
      refine ⟨_, rfl, (by show 1 ≤ sizeLine; decide), fun p2 hp2 => ?_⟩
      have e2 := Ex.new hp2 (o := .tup [.int ((q.den : Nat) : Int)])
      refine ⟨(by show 2 ≤ sizeLine; decide), fun p3 hp3 => ?_⟩
      have e3 := Ex.new hp3 (o := .tup [.ref p1, .ref p2])
      exact k p3 _ (fresh_back (e1.trans e2) hp3) ((e1.trans e2).trans e3) ⟨p1, p2, upd_same, e3 _ _ (e2 _ _ upd_same), e3 _ _ upd_same⟩
    | C =>
      refine ⟨_, _, rfl, ?_⟩
      refine ⟨_, rfl, rfl, _, rfl, ifN (show V.str (kS .C) ≠ V.str "Z" by decide +kernel) ?_⟩
      refine ⟨_, rfl, pw, _, rfl, SqT.of hw, rfl, ?_⟩
      refine ⟨_, _, rfl, _, _, rfl, rfl, ?_⟩
      refine ⟨_, rfl, rfl, _, rfl, ifN (show V.str (kS .C) ≠ V.str "R" by decide +kernel) ?_⟩
      refine ⟨_, rfl, rfl, _, rfl, ifN (show V.str (kS .C) ≠ V.str "L" by decide +kernel) ?_⟩
      refine ⟨_, rfl, (by show 1 ≤ sizeLine; decide), fun p1 hp1 => ?_⟩
      have e1 := Ex.new hp1 (o := .tup [.int ((q.den : Nat) : Int)])
      refine ⟨_, rfl, (by show 2 ≤ sizeLine; decide), fun p2 hp2 => ?_⟩
      have e2 := Ex.new hp2 (o := .tup [.int 0, .int q.num])
      refine ⟨(by show 2 ≤ sizeLine; decide), fun p3 hp3 => ?_⟩
      have e3 := Ex.new hp3 (o := .tup [.ref p1, .ref p2])
      exact k p3 _ (fresh_back (e1.trans e2) hp3) ((e1.trans e2).trans e3) ⟨p1, p2, upd_same, e3 _ _ (e2 _ _ upd_same), e3 _ _ upd_same⟩
def spRungImp (K : PySem.W.Frag) : Sp := fun vs H Q _ => ∃ (a : Addr) (d : RungD), vs = [.ref a] ∧ RgO H a d ∧ ∀ p H', H p = none → Ex H H' → FnO H' p (zTop d) (zBot d) → Q (.ref p) H'
theorem ok_rung_impedance {f : Addr} {fd : FuncData} (F : Fun K "rung_impedance" "rung_impedance" s_rung_impedance f fd) (d_impedance_of : Def P w K mg base "impedance_of" 1 ["part"] (spImp K)) : FnOk P w K mg base CX0 2 f fd ["rung"] (spRungImp K) := by
  refine F.ok sc_rung_impedance (fun vs H Q E h => ?_) (fun cdv A outer s H vs Q E hr h => ?_)
  · obtain ⟨a, d, rfl, _⟩ := h
    rfl
  · obtain ⟨a, d, rfl, ⟨pw, hA, hw⟩, k⟩ := h
    refine ⟨_, (pss_cons (ps_asg (pv 0) (pg_tup rfl (pgs_cons (pg_name (i := 1) sc_rung_impedance.nd rfl (Or.inl rfl)) (pgs_cons (pg_name (i := 2) sc_rung_impedance.nd rfl (Or.inl rfl)) (pgs_cons (pg_name (i := 3) sc_rung_impedance.nd rfl (Or.inl rfl)) pgs_nil)))))
  (pss_one (ps_ret (pe_callD d_impedance_of (hr.mono (by decide)) (pa_cons (pe_tup (pa_cons (pv 2) (pa_cons pe_int (pa_cons pe_int (pa_cons (pv 3) pa_nil))))) pa_nil))))), ?_⟩
    refine ⟨_, rfl, a, _, rfl, SqT.of hA, rfl, ?_⟩
    refine ⟨_, _, rfl, _, _, rfl, _, _, rfl, rfl, ?_⟩
    refine ⟨_, rfl, _, rfl, (by show 4 ≤ sizeLine; decide), fun p1 hp1 => ?_⟩
    have e1 := Ex.new hp1 (o := .tup [.str (kS d.k), .int 1, .int 0, .ref pw])
    exact ⟨p1, pw, d, rfl, SqT.of upd_same, hw.ex' e1, fun p H' hp e hf => k p H' (fresh_back e1 hp) (e1.trans e) hf⟩
end
end Coil

set_option Elab.async false
set_option linter.all false
set_option maxRecDepth 100000
set_option maxHeartbeats 4000000
set_option exponentiation.threshold 10000
namespace Coil
open PySem L2 Evl RT
/-- rungs at the places of a tuple -/
def RgsO (H : L2.Hp) (xs : List V) (ds : List RungD) : Prop := xs.length = ds.length ∧ ∀ i v, xs[i]? = some v → ∃ p, v = .ref p ∧ RgO H p (ds.getD i default)
theorem RgsO.ex' {H H' : L2.Hp} {xs : List V} {ds : List RungD} (h : RgsO H xs ds) (e : Ex H H') : RgsO H' xs ds := ⟨h.1, fun i v hv => by
  obtain ⟨p, h1, h2⟩ := h.2 i v hv
  exact ⟨p, h1, h2.ex' e⟩⟩
theorem at_lastV {xs : List V} {v : V} (h : xs[xs.length - 1]? = some v) : atI xs (-1) = some v := by
  have h0 : 0 < xs.length := Nat.pos_of_ne_zero fun z => by rw [List.length_eq_zero_iff.mp z] at h; simp at h
  have hne : xs ≠ [] := fun z => by rw [z] at h0; simp at h0
  have e : xs = xs.dropLast ++ [v] := by
    rw [List.getElem?_eq_getElem (by omega)] at h
    rw [← Option.some.inj h, ← List.getLast_eq_getElem hne]
    exact (List.dropLast_concat_getLast hne).symm
  rw [e]
  exact atI_last _ _
theorem qp2_36 : QP 2 36 := ⟨by decide, by decide, by decide, by decide +kernel, by decide +kernel⟩
theorem qp7_90 : QP 7 (2 ^ 90) := ⟨by decide, by decide, by decide, by decide +kernel, by decide +kernel⟩
theorem cut_lastV {xs : List V} : cutV xs none (some (-1)) = xs.take (xs.length - 1) := by
  unfold cutV
  have e : HT.sIx xs.length xs.length (some (-1)) = xs.length - 1 := by
    show ((-1 : Int) + (xs.length : Int)).toNat = _
    omega
  rw [e, show HT.sIx xs.length 0 none = 0 from rfl]
  simp
theorem cut_lastN {xs : List V} (h : xs ≠ []) : ¬(HT.sIx xs.length 0 none = 0 ∧ HT.sIx xs.length xs.length (some (-1)) = xs.length) := by
  have h0 : 0 < xs.length := List.length_pos_iff.mpr h
  have e : HT.sIx xs.length xs.length (some (-1)) = xs.length - 1 := by
    show ((-1 : Int) + (xs.length : Int)).toNat = _
    omega
  rw [e]
  omega
theorem at_of {ds : List RungD} {i : Nat} (hi : i < ds.length) : ds.getD i default ∈ ds := by
  rw [List.getD_eq_getElem?_getD, List.getElem?_eq_getElem hi]
  exact List.getElem_mem hi
theorem drop_one {ds : List RungD} {i : Nat} (hi : i < ds.length) : ds.drop (ds.length - (i + 1)) = ds.getD (ds.length - 1 - i) default :: ds.drop (ds.length - i) := by
  have hlt : ds.length - 1 - i < ds.length := by omega
  rw [show ds.length - (i + 1) = ds.length - 1 - i by omega, List.drop_eq_getElem_cons hlt, show ds.length - 1 - i + 1 = ds.length - i by omega]
  rw [List.getD_eq_getElem?_getD, List.getElem?_eq_getElem hlt]; rfl
theorem qp8_101 : QP 8 (2 ^ 101) := ⟨by decide, by decide, by decide, by decide +kernel, by decide +kernel⟩
theorem qp8_149 : QP 8 (2 ^ 149) := ⟨by decide, by decide, by decide, by decide +kernel, by decide +kernel⟩
theorem qp8_202 : QP 8 (2 ^ 202) := ⟨by decide, by decide, by decide, by decide +kernel, by decide +kernel⟩
/-- the sizes of the one form -/
structure CS (t b : List Int) : Prop where
  lt : t.length ≤ 7
  lb : b.length ≤ 7
  bt : BdA (2 ^ 90) t
  bb : BdA (2 ^ 90) b
/-- how long a ladder may be here -/
def L56 (l : List RungD) (dl : RungD) : Prop := l.length ≤ 5 ∨ (l.length ≤ 6 ∧ dl.k = .R ∧ dl.w.num.natAbs ≤ 6 ∧ dl.w.den ≤ 6)
theorem L56.le {l : List RungD} {dl : RungD} (h : L56 l dl) : l.length ≤ 6 := by
  rcases h with h | ⟨h, _⟩ <;> omega
theorem L56.drop {l : List RungD} {dl : RungD} (h : L56 l dl) (i : Nat) : L56 (l.drop i) dl := by
  have e : (l.drop i).length ≤ l.length := by rw [List.length_drop]; omega
  rcases h with h | ⟨h, h2⟩
  · exact .inl (by omega)
  · exact .inr ⟨by omega, h2⟩
theorem cr_cs {l : List RungD} {dl : RungD} {t b : List Int} (h : CR l (zTop dl, zBot dl) t b) (hl : ∀ d ∈ dl :: l, Pos d ∧ Sz36 d) (h5 : L56 l dl) : CS t b := by
  rcases h5 with h5 | ⟨h6, hk, w1, w2⟩
  · obtain ⟨z1, z2, z3, z4, _⟩ := z_bd (hl dl List.mem_cons_self).2
    obtain ⟨r1, r2, r3, r4⟩ := cr_sz (n0 := 2) (X := 36) h (fun x hx => z_pos (hl dl List.mem_cons_self).1 hx) (fun d hd => (hl d (List.mem_cons_of_mem _ hd)).1) z1 z2 z3 z4 (by decide) (by decide) fun d hd => (hl d (List.mem_cons_of_mem _ hd)).2
    have hb : Fb (2 + l.length - 1) (36 * 144 ^ l.length) ≤ 2 ^ 90 := by
      refine Nat.le_trans (Fb_mono (m := 6) (by omega)) ?_
      have hp : 36 * 144 ^ l.length ≤ 36 * 144 ^ 5 := Nat.mul_le_mul_left 36 (Nat.pow_le_pow_right (by decide) h5)
      unfold Fb
      refine Nat.le_trans (Nat.mul_le_mul_right _ (Nat.mul_le_mul_right _ hp)) (by decide +kernel)
    exact ⟨by omega, by omega, .of_co fun i => Nat.le_trans (r3 i) hb, .of_co fun i => Nat.le_trans (r4 i) hb⟩
  · have one : ∀ {c : Int}, c.natAbs ≤ 6 → ∀ i, (co [c] i).natAbs ≤ 6 := fun {c} hc i => by
      cases i with
      | zero => exact hc
      | succ i => rw [co_over (by simp)]; decide
    have e1 : zTop dl = [dl.w.num] := by unfold zTop; rw [hk]
    have e2 : zBot dl = [((dl.w.den : Nat) : Int)] := by unfold zBot; rw [hk]
    obtain ⟨r1, r2, r3, r4⟩ := cr_sz (n0 := 1) (X := 6) h (fun x hx => z_pos (hl dl List.mem_cons_self).1 hx) (fun d hd => (hl d (List.mem_cons_of_mem _ hd)).1) (by show ∀ i, (co (zTop dl) i).natAbs ≤ 6; rw [e1]; exact one w1) (by show ∀ i, (co (zBot dl) i).natAbs ≤ 6; rw [e2]; exact one (by rw [Int.natAbs_natCast]; exact w2)) (by show (zTop dl).length ≤ 1; rw [e1]; simp) (by show (zBot dl).length ≤ 1; rw [e2]; simp) (by decide) (by decide) fun d hd => (hl d (List.mem_cons_of_mem _ hd)).2
    have hb : Fb (1 + l.length - 1) (6 * 144 ^ l.length) ≤ 2 ^ 90 := by
      refine Nat.le_trans (Fb_mono (m := 6) (by omega)) ?_
      have hp : 6 * 144 ^ l.length ≤ 6 * 144 ^ 6 := Nat.mul_le_mul_left 6 (Nat.pow_le_pow_right (by decide) h6)
      unfold Fb
      refine Nat.le_trans (Nat.mul_le_mul_right _ (Nat.mul_le_mul_right _ hp)) (by decide +kernel)
    exact ⟨by omega, by omega, .of_co fun i => Nat.le_trans (r3 i) hb, .of_co fun i => Nat.le_trans (r4 i) hb⟩
theorem z_bda {d : RungD} (h : Sz36 d) : BdA 36 (zTop d) ∧ BdA 36 (zBot d) := ⟨.of_co (z_bd h).1, .of_co (z_bd h).2.1⟩
section
variable {P : Program} {w : World} {K : PySem.W.Frag} {mg : Str → Option Value} {base : Heap} {tL tM tD : Tok}
def spRungs (K : PySem.W.Frag) : Sp := fun vs H Q _ => ∃ (a : Addr) (xs : List V) (l : List RungD) (dl : RungD), vs = [.ref a] ∧ SqT K H a xs ∧ RgsO H xs (l ++ [dl]) ∧ (∀ d ∈ dl :: l, Pos d ∧ Sz36 d) ∧ L56 l dl ∧ ∀ p H' t b, H p = none → Ex H H' → FnO H' p t b → CR l (zTop dl, zBot dl) t b → Q (.ref p) H'
theorem ok_rungs_impedance {f : Addr} {fd : FuncData} (F : Fun K "rungs_impedance" "rungs_impedance" s_rungs_impedance f fd) (T : Txt mg tL tM tD) (d_rung_impedance : Def P w K mg base "rung_impedance" 2 ["rung"] (spRungImp K)) (d_plus : Def P w K mg base "plus" 5 ["one", "other"] (spBin K RPlus zNo)) (d_inverse : Def P w K mg base "inverse" 5 ["one"] (spInv K)) :
    FnOk P w K mg base CX0 6 f fd ["ladder"] (spRungs K) := by
  refine F.ok sc_rungs_impedance (fun vs H Q E h => ?_) (fun cdv A outer s H vs Q E hr h => ?_)
  · obtain ⟨a, xs, l, dl, rfl, _⟩ := h
    rfl
  · obtain ⟨a, xs, l, dl, rfl, hA, hx, hl, h5, k⟩ := h
    refine ⟨_, (pss_cons (ps_set (i := 1) sc_rungs_impedance.nd rfl (Or.inl rfl) (pe_callD d_rung_impedance (hr.mono (by decide)) (pa_cons (pe_ix (r := rIxT K) ix_tup (pv 0) (pe_un un_neg pe_int) (fun _ _ => rfl)) pa_nil)))
  (pss_cons (ps_for PassesOwn.never rfl (pi_revA (by rfl) T.b_reversed (pe_slice (r := rSlA K) sl_tupA (pv 0) po_none (po_some (pe_un un_neg pe_int)))) (pg_name (i := 2) sc_rungs_impedance.nd rfl (Or.inl rfl)) (pss_cons (ps_set (i := 3) sc_rungs_impedance.nd rfl (Or.inl rfl) (pe_callD d_rung_impedance (hr.mono (by decide)) (pa_cons (pv 2) pa_nil)))
  (pss_one (ps_if (pt_cmpR op_eq (pe_ix (r := rIxT K) ix_tup (pv 2) pe_int (fun _ _ => rfl)) pe_str (nomark _)) (pss_one (ps_set (i := 1) sc_rungs_impedance.nd rfl (Or.inl rfl) (pe_callD d_plus (hr.mono (by decide)) (pa_cons (pv 3) (pa_cons (pv 1) pa_nil))))) (pss_one (ps_set (i := 1) sc_rungs_impedance.nd rfl (Or.inl rfl) (pe_callD d_inverse (hr.mono (by decide)) (pa_cons (pe_callD d_plus (hr.mono (by decide)) (pa_cons (pe_callD d_inverse (hr.mono (by decide)) (pa_cons (pv 3) pa_nil)) (pa_cons (pe_callD d_inverse (hr.mono (by decide)) (pa_cons (pv 1) pa_nil)) pa_nil))) pa_nil))))))))
  (pss_one (ps_ret (pv 1))))), ?_⟩
    have hn : xs.length = l.length + 1 := by rw [hx.1]; simp
    have hxl : xs.length - 1 < xs.length := by omega
    obtain ⟨pl, hpl, hdl⟩ := hx.2 (xs.length - 1) _ (List.getElem?_eq_getElem hxl)
    have hd0 : (l ++ [dl]).getD (xs.length - 1) default = dl := by
      rw [List.getD_eq_getElem?_getD, hn, Nat.add_sub_cancel, List.getElem?_concat_length]; rfl
    rw [hd0] at hdl
    have hat : atI xs (-1) = some (.ref pl) := at_lastV (by rw [List.getElem?_eq_getElem hxl, hpl])
    refine ⟨_, rfl, _, rfl, a, _, _, _, rfl, rfl, hA, hat, pl, dl, rfl, hdl, fun p1 H1 hp1 e1 hf1 => ?_⟩
    refine ⟨_, rfl, _, rfl, _, rfl, a, xs, rfl, ex_t e1 hA, fun z => absurd z (cut_lastN fun y => by rw [y] at hn; simp at hn), fun _ ps hps => ?_⟩
    have ep := Ex.new hps (o := .tup (cutV xs none (some (-1))))
    rw [cut_lastV] at ep ⊢
    have e2 := e1.trans ep
    have hS : SqT K (upd H1 ps (.tup (xs.take (xs.length - 1)))) ps (xs.take (xs.length - 1)) := SqT.of upd_same
    have hys : (xs.take (xs.length - 1)).length = l.length := by rw [List.length_take]; omega
    have hel : ∀ i v, i < l.length → (xs.take (xs.length - 1))[i]? = some v → ∃ p, v = .ref p ∧ RgO H p (l.getD i default) := fun i v hi hv => by
      rw [List.getElem?_take] at hv
      split at hv
      · obtain ⟨p, h1, h2⟩ := hx.2 i v hv
        refine ⟨p, h1, ?_⟩
        rwa [List.getD_eq_getElem?_getD, List.getElem?_append_left hi, ← List.getD_eq_getElem?_getD] at h2
      · cases hv
    generalize hyy : xs.take (xs.length - 1) = ys at hS hys hel ⊢
    rw [hyy] at ep e2
    have hEP : EPos (zTop dl, zBot dl) := fun x hx => z_pos (hl dl List.mem_cons_self).1 hx
    have hmem : ∀ {i}, ∀ d ∈ l.drop i, d ∈ l := fun {i} d hd => List.mem_of_mem_drop hd
    refine ⟨ps, _, rfl, .inr ⟨hS, ?_⟩⟩
    refine for_it (walk_revT (xs := ys)) (fun i σ H' => ∃ (pf : Addr) (t b : List Int) (v2 v3 : Option V), σ = [some (.ref a), some (.ref pf), v2, v3] ∧ H pf = none ∧ Ex (upd H1 ps (.tup ys)) H' ∧ FnO H' pf t b ∧ CR (l.drop (l.length - i)) (zTop dl, zBot dl) t b) ⟨p1, _, _, none, none, rfl, hp1, Ex.refl _, hf1.ex' ep, ?_⟩ (fun i σ H' _ p => by obtain ⟨_, _, _, _, _, _, _, e, _⟩ := p; exact ex_t e hS) ?_ ?_
    · rw [Nat.sub_zero, List.drop_length]
      exact ⟨z_can (hl dl List.mem_cons_self).1, fun x => rfl⟩
    · rintro i x σ H4 H5 hi ⟨pf, t, b, v2, v3, rfl, hpf, e4, hf, hC⟩ ⟨rfl, hx2⟩
      rw [hys] at hi hx2
      obtain ⟨pw, rfl, hpw⟩ := hel _ _ (by omega) hx2
      have hpw4 := hpw.ex' (e2.trans e4)
      have hcs := cr_cs hC (fun d hd => hl d (by rcases List.mem_cons.mp hd with rfl | h; exact List.mem_cons_self; exact List.mem_cons_of_mem _ (hmem d h))) (h5.drop _)
      have hdr := drop_one hi
      have hdm : l.getD (l.length - 1 - i) default ∈ l := at_of (by omega)
      generalize l.getD (l.length - 1 - i) default = d at hpw hpw4 hdr hdm
      obtain ⟨hdp, hds⟩ := hl d (List.mem_cons_of_mem _ hdm)
      obtain ⟨zl1, zl2⟩ : (zTop d).length ≤ 2 ∧ (zBot d).length ≤ 2 := ⟨(z_bd hds).2.2.1, (z_bd hds).2.2.2.1⟩
      obtain ⟨zb1, zb2⟩ := z_bda hds
      have hzc := z_can hdp
      refine ⟨_, rfl, pw, d, rfl, hpw4, fun p2 H2 hp2 e5 hf2 => ?_⟩
      obtain ⟨pk, hpk, _⟩ := hpw4.ex' e5
      have hlc : ∀ q ∈ d :: l.drop (l.length - i), Pos q := fun q hq => by
        rcases List.mem_cons.mp hq with rfl | h
        · exact hdp
        · exact (hl q (List.mem_cons_of_mem _ (hmem q h))).1
      have e25 := e2.trans (e4.trans e5)
      have ht0 : t ≠ [] := fun z => by
        have hd := nd_pos (x := 1) (by decide) (hEP 1 (by decide)).1 (hEP 1 (by decide)).2 (l.drop (l.length - i)) fun q hq => hlc q (List.mem_cons_of_mem _ hq)
        exact (cr_nz hC.1 (hC.2 1) hd.1 hd.2).1 (by rw [z]; rfl)
      have hz0 : zTop d ≠ [] := fun z => by
        have := (z_pos hdp (x := 1) (by decide)).1
        rw [z] at this
        simp [ev] at this
      cases hsd : d.s with
      | true =>
        rw [hsd] at hpk
        refine ⟨_, rfl, pw, _, _, _, rfl, rfl, SqT.of hpk, rfl, rfl, _, rfl, ifE ?_⟩
        refine ⟨_, rfl, _, rfl, p2, pf, zTop d, zBot d, t, b, 2, 6, 7, 90, 2 ^ 101, rfl, hf2, hf.ex' e5, ⟨hzc, hC.1, zl1, zl2, hcs.lt, hcs.lb, zb1.mono (by decide), zb2.mono (by decide), hcs.bt, hcs.bb, by decide, qp8_101, by decide⟩, trivial, fun q H6 u v hq e6 hf6 hc6 hR _ _ _ _ => ?_⟩
        refine ⟨q, u, v, _, _, rfl, fresh_back e25 hq, (e4.trans e5).trans e6, hf6, ?_⟩
        rw [hdr]
        exact cr_S hC hEP hlc hsd hc6 hR
      | false =>
        rw [hsd] at hpk
        refine ⟨_, rfl, pw, _, _, _, rfl, rfl, SqT.of hpk, rfl, rfl, _, rfl, ifN (show V.str (sS false) ≠ V.str "S" by decide +kernel) ?_⟩
        refine ⟨_, rfl, p2, zTop d, zBot d, 36, rfl, hf2, qp2_36.pre hzc.nb hzc.nt hz0 zb2 zb1 zl2 zl1, fun q1 H6 u1 v1 hq1 e6 hf6 c1 x1 l1 l1' s1 s1' => ?_⟩
        refine ⟨_, rfl, pf, t, b, 2 ^ 90, rfl, (hf.ex' e5).ex' e6, qp7_90.pre hC.1.nb hC.1.nt ht0 hcs.bb hcs.bt hcs.lb hcs.lt, fun q2 H7 u2 v2 hq2 e7 hf7 c2 x2 l2 l2' s2 s2' => ?_⟩
        have b10 : ∀ {r : List Int} {n : Nat}, n ≤ 2 → BdA (Fb (n - 1) 36) r → BdA (2 ^ 10) r := fun hn h => h.mono (Nat.le_trans (Fb_mono (m := 1) (by omega)) (by decide +kernel))
        have b134 : ∀ {r : List Int} {n : Nat}, n ≤ 7 → BdA (Fb (n - 1) (2 ^ 90)) r → BdA (2 ^ 134) r := fun hn h => h.mono (Nat.le_trans (Fb_mono (m := 6) (by omega)) (by decide +kernel))
        have hcl := hcs.lt
        have hcb := hcs.lb
        refine ⟨q1, q2, u1, v1, u2, v2, 2, 10, 7, 134, 2 ^ 149, rfl, hf6.ex' e7, hf7, ⟨c1, c2, by omega, by omega, by omega, by omega, b10 zl2 s1, b10 zl1 s1', b134 hcb s2, b134 hcl s2', by decide, qp8_149, by decide⟩, trivial, fun q3 H8 u3 v3 hq3 e8 hf8 c3 hR3 l3 l3' s3 s3' => ?_⟩
        have b202 : ∀ {r : List Int}, BdA (Fb (2 + 7 - 1 - 1) (2 ^ 149)) r → BdA (2 ^ 202) r := fun h => h.mono (by decide +kernel)
        refine ⟨q3, u3, v3, 2 ^ 202, rfl, hf8, qp8_202.pre c3.nb c3.nt (cr_u3 hC hEP hlc c1 c2 c3 x1 x2 hR3) (b202 s3') (b202 s3) l3' l3, fun q4 H9 u4 v4 hq4 e9 hf9 c4 x4 _ _ _ _ => ?_⟩
        refine ⟨q4, u4, v4, _, _, rfl, fresh_back (e25.trans (e6.trans (e7.trans e8))) hq4, (e4.trans e5).trans (e6.trans (e7.trans (e8.trans e9))), hf9, ?_⟩
        rw [hdr]
        exact cr_P hC hEP hlc hsd c1 c2 c3 c4 x1 x2 hR3 x4
    · rintro σ H4 ⟨pf, t, b, v2, v3, rfl, hpf, e4, hf, hC⟩
      rw [hys, Nat.sub_self, List.drop_zero] at hC
      exact ⟨_, rfl, k pf H4 t b hpf (e2.trans e4) hf hC⟩
end
end Coil

set_option Elab.async false
set_option linter.all false
set_option maxRecDepth 100000
set_option maxHeartbeats 4000000
set_option exponentiation.threshold 10000
namespace Coil
open PySem L2 Evl
theorem Hp_up {N B C : Nat} (h : B ≤ C) : Hp N B ≤ Hp N C := by
  unfold Hp
  exact Nat.pow_le_pow_left (Nat.mul_le_mul_left _ h) _
theorem Fb_up {n B C : Nat} (h : B ≤ C) : Fb n B ≤ Fb n C := by
  unfold Fb
  exact Nat.mul_le_mul_right _ (Nat.mul_le_mul_right _ h)
theorem QP.mono {L B M C : Nat} (h : QP M C) (hL : L ≤ M) (h1 : 1 ≤ L) (hB : B ≤ C) (hB1 : 1 ≤ B) : QP L B := by
  have l30 := h.l30
  refine ⟨hB1, h1, by omega, Nat.lt_of_le_of_lt (Nat.pow_le_pow_left ?_ 2) h.z, Nat.lt_of_le_of_lt (Nat.le_trans (Fb_mono (by omega)) (Fb_up hB)) h.f⟩
  have a1 := Hp_mono (N := 2 * L) (M := 2 * M) (B := B) (by omega) (by omega) hB1
  have a2 := Hp_up (N := 2 * M) hB
  omega
/-- the form of a draw is as small as what has no needless factor -/
theorem draw_fs {m c : Nat} {t b t0 b0 u v : List Int} (D : Drawn m t b t0 b0) (hC : Can u v) (hx : ∀ x, ev u x * ev b x = ev t x * ev v x) (hc : Fb m 4 ≤ 2 ^ c) : Fs (m + 1) c u v := by
  have e : ∀ x, ev u x * ev b0 x = ev t0 x * ev v x := cross3 (g := b) (nz_of_nm D.nb D.ne) fun x => by
    have h1 := hx x
    have h2 := D.cr x
    grind
  obtain ⟨w, w1, w2⟩ := can_div hC e
  have nzv := nz_of_nm hC.nb hC.b0
  have a1 := div_sz (l := m + 1) (H := 4) D.nt0 hC.nt (by omega) D.lt0 D.bt0 (by decide) (fun z => by
    have e2 : ∀ x, ev u x = ev [] x := ev_cancel (nz_of_nm D.nb0 D.ne0) fun x => by
      have := e x
      rw [z] at this
      simp only [ev] at this ⊢
      grind
    exact nm_ext (B := 0) hC.nt (.inl rfl) fun x _ => e2 x) w1
  have a2 := div_sz (l := m + 1) (H := 4) D.nb0 hC.nb (by omega) D.lb0 D.bb0 (by decide) (fun z => absurd z D.ne0) w2
  rw [Nat.add_sub_cancel] at a1 a2
  exact ⟨hC, a1.1, a2.1, .of_co fun i => Nat.le_trans (a1.2 i) hc, .of_co fun i => Nat.le_trans (a2.2 i) hc⟩
section
variable {P : Program} {w : World} {K : PySem.W.Frag} {mg : Str → Option Value} {base : Heap} {tL tM tD : Tok}
def spPoint (K : PySem.W.Frag) : Sp := fun vs H Q _ => ∃ (r a : Addr) (ns : List Int), vs = [.ref r] ∧ H r = some (RowO a r) ∧ SqL K H a (ns.map V.int) ∧ ∀ p H' x y, H p = none → Ex H H' → RtO H' p x y → Rat1 x y → x.natAbs ≤ 12 → y.natAbs ≤ 5 → Q (.ref p) H'
end
end Coil

set_option Elab.async false
set_option linter.all false
set_option maxRecDepth 100000
set_option maxHeartbeats 4000000
set_option exponentiation.threshold 10000
namespace Coil
open PySem L2 Evl RT
section
variable {P : Program} {w : World} {K : PySem.W.Frag} {mg : Str → Option Value} {base : Heap} {tL tM tD : Tok}
def spBackwards (K : PySem.W.Frag) : Sp := fun vs H Q _ => ∃ (a : Addr) (ns : List Int), vs = [.ref a] ∧ SqT K H a (ns.map V.int) ∧ ns.length ≤ 900 ∧ ∀ p H', H p = none → Ex H H' → H' p = some (.tup ((bk 1 ns).map V.int)) → Q (.ref p) H'
theorem ok_backwards {f : Addr} {fd : FuncData} (F : Fun K "backwards" "backwards" s_backwards f fd) (T : Txt mg tL tM tD) : FnOk P w K mg base CX0 1 f fd ["polynomial"] (spBackwards K) := by
  refine F.ok sc_backwards (fun vs H Q E h => ?_) (fun cdv A outer s H vs Q E hr h => ?_)
  · obtain ⟨a, ns, rfl, _⟩ := h
    rfl
  · obtain ⟨a, ns, rfl, hS, hlen, k⟩ := h
    refine ⟨_, (pss_one (ps_ret (pe_callTy call_tuple_of (by rfl) T.b_tuple (by decide +kernel) (pa_cons (pe_lc (own := [("at", 1), ("coefficient", 2)]) (g := gTup K 2 (gCons (gName 1) (gCons (gName 2) gNil))) (tt := tYes) rfl sc_backwards.nd (pi_enumT (by rfl) T.b_enumerate (pa_cons (pv 0) pa_nil)) (blkOk_by (own := [("at", 1), ("coefficient", 2)]) (N := ["polynomial", "at", "coefficient"]) (sc := defScope s_backwards) (by decide +kernel)) (fun _ _ _ _ _ => by exact (pg_tup rfl (pgs_cons (pg_name (i := 1) sc_backwards.nd rfl (Or.inl rfl)) (pgs_cons (pg_name (i := 2) sc_backwards.nd rfl (Or.inl rfl)) pgs_nil)))) (fun _ _ _ _ _ => pts_nil) (fun _ _ _ _ _ => (pe_ifExp (pt_cmpR op_eq (pe_op op_mod (pv 1) pe_int) pe_int (nomark _)) (pe_un un_neg (pv 2)) (pv 2)))) pa_nil)))), ?_⟩
    refine ⟨_, rfl, a, _, rfl, hS, fun D hD => lc_it (walk_enumT (xs := ns.map V.int)) (fun i H' => Ex H H' ∧ H' D = some (.lst ((bk 1 (ns.take i)).map V.int))) ⟨Ex.new hD, upd_same⟩ (fun i H' _ p => ex_t p.1 hS) ?_ ?_⟩
    · rintro i y H1 H2 hi ⟨e, hl⟩ ⟨tp, z, rfl, htp, rfl, hz⟩
      obtain ⟨c, hc, rfl⟩ := map_int_get hz
      rw [List.length_map] at hi
      have hne : D ≠ tp := fun y => by rw [y, htp] at hl; cases hl
      have e4 : Ex H (upd H1 tp (.tup [.int (i : Nat), .int c])) := e.trans (Ex.new htp)
      have hl4 : (upd H1 tp (.tup [.int (i : Nat), .int c])) D = some (.lst ((bk 1 (ns.take i)).map V.int)) := (Ex.new htp) _ _ hl
      refine ⟨tp, _, rfl, SqT.of upd_same, rfl, ?_⟩
      refine ⟨_, _, rfl, _, _, rfl, rfl, ?_⟩
      refine ⟨rfl, ?_⟩
      have fin : ∀ z : Int, z = 1 * (-1) ^ i * c → ∃ acc, (upd H1 tp (.tup [.int (i : Nat), .int c])) D = some (HO.lst acc) ∧ acc.length < sizeLine ∧ Ex H (upd (upd H1 tp (.tup [.int (i : Nat), .int c])) D (HO.lst (acc ++ [.int z]))) ∧ upd (upd H1 tp (.tup [.int (i : Nat), .int c])) D (HO.lst (acc ++ [.int z])) D = some (HO.lst (List.map V.int (bk 1 (List.take (i + 1) ns)))) := fun z hz => by
        refine ⟨_, hl4, ?_, Ex.mut e4 hD, ?_⟩
        · rw [List.length_map, bk_len, List.length_take]
          exact line_of (by omega)
        · rw [upd_same, List.take_add_one, hc, hz]
          simp only [Option.toList_some, bk_snoc, List.map_append, List.length_take, List.map_cons, List.map_nil]
          rw [show min i ns.length = i by omega]
      refine ⟨_, rfl, _, _, rfl, rfl, (by decide : (0 : Int) < 2), ?_⟩
      refine ⟨rfl, _, rfl, ?_⟩
      refine ite2 (fun q => ?_) (fun q => ?_)
      · have hq : (i : Int) % 2 = 1 := V.int.inj (of_decide_eq_true q)
        refine ⟨_, rfl, _, rfl, fin (-c) ?_⟩
        rw [neg_one_pow, if_pos (by omega)]; omega
      · have hq : ¬ (i : Int) % 2 = 1 := fun z => q (decide_eq_true (congrArg V.int z))
        refine ⟨_, rfl, fin c ?_⟩
        rw [neg_one_pow, if_neg (by omega)]; omega
    · rintro H' ⟨e, hl⟩
      rw [List.length_map, List.take_length] at hl
      refine ⟨D, _, rfl, .inl ⟨SqL.of hl, fun l hl2 => ?_⟩⟩
      exact k l _ (fresh_back e hl2) (e.trans (Ex.new hl2)) upd_same
def spTrimmedT (K : PySem.W.Frag) : Sp := fun vs H Q _ => ∃ (a : Addr) (ns : List Int), vs = [.ref a] ∧ SqT K H a (ns.map V.int) ∧ ∀ p H', Ex H H' → SqT K H' p ((trimZ ns).map V.int) → Q (.ref p) H'
end
end Coil

set_option Elab.async false
set_option linter.all false
set_option maxRecDepth 100000
set_option maxHeartbeats 4000000
set_option exponentiation.threshold 10000
namespace Coil
open PySem L2 Evl RT
section
variable {P : Program} {w : World} {K : PySem.W.Frag} {mg : Str → Option Value} {base : Heap} {tL tM tD : Tok}
theorem ok_trimmedT {f : Addr} {fd : FuncData} (F : Fun K "trimmed" "trimmed" s_trimmed f fd) (T : Txt mg tL tM tD) : FnOk P w K mg base CX0 1 f fd ["coefficients"] (spTrimmedT K) := by
  refine F.ok sc_trimmed (fun vs H Q E h => ?_) (fun cdv A outer s H vs Q E hr h => ?_)
  · obtain ⟨a, ns, rfl, _⟩ := h
    rfl
  · obtain ⟨a, ns, rfl, hS, k⟩ := h
    refine ⟨_, (pss_cons (ps_set (i := 1) sc_trimmed.nd rfl (Or.inl rfl) (pe_callB (r := Evl.rLenS K) call_len_seq (by rfl) T.b_len (by decide +kernel) (pa_cons (pv 0) pa_nil)))
  (pss_cons (ps_while PassesOwn.never (PW.pt (pw_and (pt_cmpR op_gt (pv 1) pe_int (nomark _)) (pw_and1 (pt_cmpR op_eq (pe_ix (r := rIxT K) ix_tup (pv 0) (pe_op op_sub (pv 1) pe_int) (fun _ _ => rfl)) pe_int (nomark _))))) (pss_one (ps_aug (i := 1) sc_trimmed.nd rfl (Or.inl rfl) pe_int ip_sub)))
  (pss_one (ps_ret (pe_callTy call_tuple_of (by rfl) T.b_tuple (by decide +kernel) (pa_cons (pe_slice (r := rSlA K) sl_tupA (pv 0) po_none (po_some (pv 1))) pa_nil)))))), ?_⟩
    refine ⟨_, rfl, a, _, rfl, .inr hS, ?_⟩
    rw [List.length_map]
    refine ⟨fun m σ H' => H' = H ∧ σ = [some (.ref a), some (.int (m : Int))] ∧ m ≤ ns.length ∧ ∀ i, m ≤ i → co ns i = 0, ⟨ns.length, rfl, rfl, Nat.le_refl _, fun i hi => co_over hi⟩, ?_⟩
    rintro m σ H1 ⟨rfl, rfl, hm, h0⟩
    refine ⟨_, rfl, _, _, rfl, rfl, _, rfl, ?_⟩
    by_cases hz : 0 < m
    · rw [decide_eq_true (by omega : (0 : Int) < (m : Int))]
      refine iteT ?_
      have ej : (m : Int) - 1 = ((m - 1 : Nat) : Int) := by omega
      refine ⟨_, rfl, _, rfl, _, _, rfl, rfl, a, _, _, _, rfl, rfl, hS, (by rw [ej]; exact at_map (by omega)), rfl, _, rfl, ?_⟩
      refine ite2 (fun q => ?_) (fun q => ?_)
      · have hz0 : co ns (m - 1) = 0 := V.int.inj (of_decide_eq_true q)
        refine ⟨fun σ' H' => H' = H1 ∧ σ' = [some (.ref a), some (.int ((m - 1 : Nat) : Int))], fun σ' H' ⟨h1, h2⟩ => ⟨m - 1, by omega, h1, h2, by omega, fun i hi => ?_⟩, ?_⟩
        · by_cases him : i = m - 1
          · rw [him]; exact hz0
          · exact h0 i (by omega)
        · refine ⟨_, rfl, _, _, rfl, rfl, ?_⟩
          refine ⟨rfl, ?_⟩
          show [some (V.ref a), some (V.int ((m : Int) - 1))] = _
          rw [ej]
      · have h1 : m = 0 ∨ co ns (m - 1) ≠ 0 := (.inr fun z => q (decide_eq_true (by rw [show ns.getD (m - 1) 0 = 0 from z])))
        refine ⟨_, rfl, _, rfl, _, rfl, a, _, rfl, hS, fun hw => ?_, fun hw p hp => ?_⟩
        · rw [HT.sIx_none, HT.sIx_nat, List.length_map] at hw
          have e : trimZ ns = ns := by rw [← take_trimZ hm h0 h1, show m = ns.length by omega, List.take_length]
          exact ⟨a, _, rfl, .inr ⟨hS, k a _ (Ex.refl _) (by rw [e]; exact hS)⟩⟩
        · have ec : cutV (ns.map V.int) none (some ((m : Nat) : Int)) = (trimZ ns).map V.int := by
            unfold cutV
            rw [HT.sIx_none, HT.sIx_nat, List.length_map, List.drop_zero, Nat.sub_zero, Nat.min_eq_left hm, ← List.map_take, take_trimZ hm h0 h1]
          rw [ec]
          exact ⟨p, _, rfl, .inr ⟨SqT.of upd_same, k p _ (Ex.new hp) (SqT.of upd_same)⟩⟩
    · rw [decide_eq_false (by omega : ¬ (0 : Int) < (m : Int))]
      refine iteF (iteF ?_)
      have h1 : m = 0 ∨ co ns (m - 1) ≠ 0 := (.inl (by omega))
      refine ⟨_, rfl, _, rfl, _, rfl, a, _, rfl, hS, fun hw => ?_, fun hw p hp => ?_⟩
      · rw [HT.sIx_none, HT.sIx_nat, List.length_map] at hw
        have e : trimZ ns = ns := by rw [← take_trimZ hm h0 h1, show m = ns.length by omega, List.take_length]
        exact ⟨a, _, rfl, .inr ⟨hS, k a _ (Ex.refl _) (by rw [e]; exact hS)⟩⟩
      · have ec : cutV (ns.map V.int) none (some ((m : Nat) : Int)) = (trimZ ns).map V.int := by
          unfold cutV
          rw [HT.sIx_none, HT.sIx_nat, List.length_map, List.drop_zero, Nat.sub_zero, Nat.min_eq_left hm, ← List.map_take, take_trimZ hm h0 h1]
        rw [ec]
        exact ⟨p, _, rfl, .inr ⟨SqT.of upd_same, k p _ (Ex.new hp) (SqT.of upd_same)⟩⟩
/-! ### real parts on the axis -/
theorem mul_bk_bd {t b : List Int} {c : Nat} (ht : BdA (2 ^ c) t) (hb : BdA (2 ^ c) b) (i : Nat) : (co (mulP t (bk 1 b)) i).natAbs ≤ t.length * (2 ^ c * 2 ^ c) := mulP_bd (fun i => ht.co i) (fun i => by rw [bk_abs]; exact hb.co i) i
theorem bk_bd {b : List Int} {c : Nat} (hb : BdA (2 ^ c) b) : BdA (2 ^ c) (bk 1 b) := .of_co fun i => by rw [bk_abs]; exact hb.co i
def spRealTop (K : PySem.W.Frag) : Sp := fun vs H Q _ => ∃ (p : Addr) (t b : List Int) (c : Nat), vs = [.ref p] ∧ FnO H p t b ∧ Nm t ∧ Nm b ∧ t.length ≤ 30 ∧ b.length ≤ 30 ∧ BdA (2 ^ c) t ∧ BdA (2 ^ c) b ∧ c ≤ 4000 ∧
  NewP Q H (fun i => co (rt (mulP t (bk 1 b))) i) ((t.length + b.length) / 2)
def spSizeAx (K : PySem.W.Frag) : Sp := fun vs H Q _ => ∃ (a : Addr) (b : List Int) (c : Nat), vs = [.ref a] ∧ SqT K H a (b.map V.int) ∧ Nm b ∧ b ≠ [] ∧ b.length ≤ 30 ∧ BdA (2 ^ c) b ∧ c ≤ 4000 ∧
  ∀ p H' (u : List Int), H p = none → Ex H H' → H' p = some (.tup (u.map V.int)) → Nm u → u ≠ [] → u.length ≤ b.length → (∀ i, co u i = co (rt (mulP b (bk 1 b))) i) → Q (.ref p) H'
theorem ok_size_on_axis {f : Addr} {fd : FuncData} (F : Fun K "size_on_axis" "size_on_axis" s_size_on_axis f fd) (d_poly_product : Def P w K mg base "poly_product" 1 ["one", "other"] (spProd K)) (d_backwards : Def P w K mg base "backwards" 1 ["polynomial"] (spBackwards K)) :
    FnOk P w K mg base CX0 2 f fd ["polynomial"] (spSizeAx K) := by
  refine F.ok sc_size_on_axis (fun vs H Q E h => ?_) (fun cdv A outer s H vs Q E hr h => ?_)
  · obtain ⟨a, b, c, rfl, _⟩ := h
    rfl
  · obtain ⟨a, b, c, rfl, hS, nb, nb0, lb, bb, hc, k⟩ := h
    refine ⟨_, (pss_one (ps_ret (pe_callD d_backwards (hr.mono (by decide)) (pa_cons (pe_twoT (pe_callD d_poly_product (hr.mono (by decide)) (pa_cons (pv 0) (pa_cons (pe_callD d_backwards (hr.mono (by decide)) (pa_cons (pv 0) pa_nil)) pa_nil)))) pa_nil)))), ?_⟩
    refine ⟨_, rfl, _, rfl, a, b, rfl, hS, by omega, fun p1 H1 hp1 e1 hu1 => ?_⟩
    have lbk := bk_len 1 b
    refine ⟨a, p1, b, bk 1 b, c, rfl, ex_t e1 hS, SqT.of hu1, by omega, by omega, nb, bk_nm nb, bb, bk_bd bb, by omega, fun p2 H2 u2 hp2 e2 hu2 n2 l2 c2 => ?_⟩
    have c2' : ∀ i, co u2 i = co (mulP b (bk 1 b)) i := c2
    have hb0 : bk 1 b ≠ [] := fun z => nb0 (List.length_eq_zero_iff.mp (by rw [← lbk, z]; rfl))
    obtain ⟨m1, m2⟩ := nm_mulP nb (bk_nm nb) nb0 hb0
    have hbl : 0 < b.length := List.length_pos_iff.mpr nb0
    have hu2l : u2.length = 2 * b.length - 1 := by
      rw [nm_len n2 m1 c2', m2, lbk]; omega
    refine ⟨p2, _, rfl, SqT.of hu2, fun p3 hp3 => ?_⟩
    have e3 := Ex.new hp3 (o := .tup (evens (u2.map V.int)))
    have hel := evens_len u2
    have hne : Nm (evens u2) := by
      right
      rw [co_evens]
      rcases n2 with z | z
      · rw [z] at hu2l; simp at hu2l; omega
      · rwa [show 2 * ((evens u2).length - 1) = u2.length - 1 by omega]
    refine ⟨p3, evens u2, rfl, SqT.of (by rw [upd_same, evens_map]), by omega, fun p5 H5 hp5 e5 h5 => ?_⟩
    refine k p5 H5 (bk 1 (evens u2)) (fresh_back ((e1.trans e2).trans e3) hp5) (((e1.trans e2).trans e3).trans e5) h5 (bk_nm hne) (fun z => ?_) ?_ fun i => ?_
    · have := bk_len 1 (evens u2)
      rw [z] at this
      simp at this
      omega
    · rw [bk_len]; omega
    · rw [co_bk, co_evens, c2', co_rt, Int.one_mul]
/-! ### axis_part -/
def RAxis (t b u v : List Int) : Prop := ∀ x, ev u x * ev (rt (mulP b (bk 1 b))) x = ev (rt (mulP t (bk 1 b))) x * ev v x
def spAxisPart (K : PySem.W.Frag) : Sp := fun vs H Q _ => ∃ (p : Addr) (t b : List Int) (B0 l c B : Nat), vs = [.ref p] ∧ FnO H p t b ∧ FnPre t b B0 ∧ t.length ≤ l ∧ b.length ≤ l ∧ l ≤ 13 ∧ BdA (2 ^ c) t ∧ BdA (2 ^ c) b ∧ c ≤ 4000 ∧ QP l B ∧ l * (2 ^ c * 2 ^ c) ≤ B ∧ OpQ Q H (RAxis t b) l B
end
end Coil

set_option Elab.async false
set_option linter.all false
set_option maxRecDepth 100000
set_option maxHeartbeats 4000000
set_option exponentiation.threshold 10000
namespace Coil
open PySem L2 Evl RT
section
variable {P : Program} {w : World} {K : PySem.W.Frag} {mg : Str → Option Value} {base : Heap} {tL tM tD : Tok}
def spSize2 (K : PySem.W.Frag) : Sp := fun vs H Q _ => ∃ (a : Addr) (b : List Int) (c : Nat), vs = [.ref a] ∧ SqT K H a (b.map V.int) ∧ Nm b ∧ b.length ≤ 30 ∧ BdA (2 ^ c) b ∧ c ≤ 4000 ∧
  ∀ p H' (u : List Int), H p = none → Ex H H' → H' p = some (.tup (u.map V.int)) → Nm u → (b ≠ [] → u ≠ []) → u.length ≤ b.length → (∀ i, co u i = co (rt (mulP b (bk 1 b))) i) → Q (.ref p) H'
theorem ok_size2 {f : Addr} {fd : FuncData} (F : Fun K "size_on_axis" "size_on_axis" s_size_on_axis f fd) (d_poly_product : Def P w K mg base "poly_product" 1 ["one", "other"] (spProd K)) (d_backwards : Def P w K mg base "backwards" 1 ["polynomial"] (spBackwards K)) :
    FnOk P w K mg base CX0 2 f fd ["polynomial"] (spSize2 K) := by
  refine F.ok sc_size_on_axis (fun vs H Q E h => ?_) (fun cdv A outer s H vs Q E hr h => ?_)
  · obtain ⟨a, b, c, rfl, _⟩ := h
    rfl
  · obtain ⟨a, b, c, rfl, hS, nb, lb, bb, hc, k⟩ := h
    refine ⟨_, (pss_one (ps_ret (pe_callD d_backwards (hr.mono (by decide)) (pa_cons (pe_twoT (pe_callD d_poly_product (hr.mono (by decide)) (pa_cons (pv 0) (pa_cons (pe_callD d_backwards (hr.mono (by decide)) (pa_cons (pv 0) pa_nil)) pa_nil)))) pa_nil)))), ?_⟩
    refine ⟨_, rfl, _, rfl, a, b, rfl, hS, by omega, fun p1 H1 hp1 e1 hu1 => ?_⟩
    have lbk := bk_len 1 b
    refine ⟨a, p1, b, bk 1 b, c, rfl, ex_t e1 hS, SqT.of hu1, by omega, by omega, nb, bk_nm nb, bb, bk_bd bb, by omega, fun p2 H2 u2 hp2 e2 hu2 n2 l2 c2 => ?_⟩
    have c2' : ∀ i, co u2 i = co (mulP b (bk 1 b)) i := c2
    have hu2l : b ≠ [] → u2.length = 2 * b.length - 1 := fun nb0 => by
      have hb0 : bk 1 b ≠ [] := fun z => nb0 (List.length_eq_zero_iff.mp (by rw [← lbk, z]; rfl))
      obtain ⟨m1, m2⟩ := nm_mulP nb (bk_nm nb) nb0 hb0
      rw [nm_len n2 m1 c2', m2, lbk]; omega
    refine ⟨p2, _, rfl, SqT.of hu2, fun p3 hp3 => ?_⟩
    have e3 := Ex.new hp3 (o := .tup (evens (u2.map V.int)))
    have hel := evens_len u2
    have hne : Nm (evens u2) := by
      by_cases nb0 : b = []
      · left
        rw [nb0] at l2
        have : u2.length = 0 := by have : u2.length ≤ 0 + (bk 1 ([] : List Int)).length - 1 := l2; rw [bk_len] at this; simpa using this
        rw [List.length_eq_zero_iff.mp this]; rfl
      · right
        have hl := hu2l nb0
        have hbl : 0 < b.length := List.length_pos_iff.mpr nb0
        rw [co_evens]
        rcases n2 with z | z
        · rw [z] at hl; simp at hl; omega
        · rwa [show 2 * ((evens u2).length - 1) = u2.length - 1 by omega]
    have hu2le : u2.length ≤ 2 * b.length - 1 := by rw [lbk] at l2; omega
    refine ⟨p3, evens u2, rfl, SqT.of (by rw [upd_same, evens_map]), by omega, fun p5 H5 hp5 e5 h5 => ?_⟩
    refine k p5 H5 (bk 1 (evens u2)) (fresh_back ((e1.trans e2).trans e3) hp5) (((e1.trans e2).trans e3).trans e5) h5 (bk_nm hne) (fun nb0 z => ?_) ?_ fun i => ?_
    · have := bk_len 1 (evens u2)
      rw [z] at this
      have hl := hu2l nb0
      have hbl : 0 < b.length := List.length_pos_iff.mpr nb0
      simp at this
      omega
    · rw [bk_len]; omega
    · rw [co_bk, co_evens, c2', co_rt, Int.one_mul]
/-! ### echo_function -/
theorem qp7_91 : QP 7 (2 ^ 91) := ⟨by decide, by decide, by decide, by decide +kernel, by decide +kernel⟩
def spEchoF (K : PySem.W.Frag) : Sp := fun vs H Q _ => ∃ (p : Addr) (t b : List Int), vs = [.ref p] ∧ FnO H p t b ∧ CS t b ∧ ev t 1 + ev b 1 ≠ 0 ∧
  ∀ p' H' e l, H p' = none → Ex H H' → FnO H' p' e l → Can e l → (∀ x, ev e x * (ev t x + ev b x) = (ev t x - ev b x) * ev l x) → e.length ≤ 7 → l.length ≤ 7 → BdA (2 ^ 135) e → BdA (2 ^ 135) l → Q (.ref p') H'
theorem ok_echo_function {f : Addr} {fd : FuncData} (F : Fun K "echo_function" "echo_function" s_echo_function f fd) (d_poly_difference : Def P w K mg base "poly_difference" 3 ["one", "other"] (spDiff K)) (d_poly_sum : Def P w K mg base "poly_sum" 2 ["one", "other"] (spSum K)) (d_quotient : Def P w K mg base "quotient" 4 ["top", "bottom"] (spQuot K)) :
    FnOk P w K mg base CX0 5 f fd ["one"] (spEchoF K) := by
  refine F.ok sc_echo_function (fun vs H Q E h => ?_) (fun cdv A outer s H vs Q E hr h => ?_)
  · obtain ⟨p, t, b, rfl, _⟩ := h
    rfl
  · obtain ⟨p, t, b, rfl, hF, hS, h1, k⟩ := h
    refine ⟨_, (pss_one (ps_ret (pe_callD d_quotient (hr.mono (by decide)) (pa_cons (pe_callD d_poly_difference (hr.mono (by decide)) (pa_cons (pe_ix (r := rIxT K) ix_tup (pv 0) pe_int (fun _ _ => rfl)) (pa_cons (pe_ix (r := rIxT K) ix_tup (pv 0) pe_int (fun _ _ => rfl)) pa_nil))) (pa_cons (pe_callD d_poly_sum (hr.mono (by decide)) (pa_cons (pe_ix (r := rIxT K) ix_tup (pv 0) pe_int (fun _ _ => rfl)) (pa_cons (pe_ix (r := rIxT K) ix_tup (pv 0) pe_int (fun _ _ => rfl)) pa_nil))) pa_nil))))), ?_⟩
    obtain ⟨pt, pb, g1, g2, g3⟩ := id hF.ex
    have lt := hS.lt
    have lb := hS.lb
    refine ⟨_, rfl, p, _, _, _, rfl, rfl, SqT.of g1, rfl, _, rfl, p, _, _, _, rfl, rfl, SqT.of g1, rfl, ?_⟩
    refine ⟨pt, pb, t, b, 90, rfl, SqT.of g2, SqT.of g3, by omega, by omega, hS.bb, by decide, fun a1 H1 u1 ha1 e1 f1 n1 l1 c1 => ?_⟩
    refine ⟨_, rfl, p, _, _, _, rfl, rfl, SqT.of (e1 _ _ g1), rfl, _, rfl, p, _, _, _, rfl, rfl, SqT.of (e1 _ _ g1), rfl, ?_⟩
    refine ⟨pt, pb, t, b, rfl, SqT.of (e1 _ _ g2), SqT.of (e1 _ _ g3), by omega, by omega, fun a2 H2 u2 ha2 e2 f2 n2 l2 c2 => ?_⟩
    have c1' : ∀ i, co u1 i = co t i - co b i := c1
    have c2' : ∀ i, co u2 i = co t i + co b i := c2
    have ev1 : ∀ x, ev u1 x = ev t x - ev b x := fun x => by
      rw [ev_co (q := addP t (smul (-1) b)) (fun i => by rw [co_add, co_smul, c1']; omega), ev_add, ev_smul]; omega
    have ev2 : ∀ x, ev u2 x = ev t x + ev b x := fun x => by
      rw [ev_co (q := addP t b) (fun i => by rw [co_add, c2']), ev_add]
    have bd1 : BdA (2 ^ 91) u1 := .of_co fun i => by
      rw [c1']
      have := hS.bt.co i
      have := hS.bb.co i
      have := Int.natAbs_sub_le (co t i) (co b i)
      omega
    have bd2 : BdA (2 ^ 91) u2 := .of_co fun i => by
      rw [c2']
      have := hS.bt.co i
      have := hS.bb.co i
      have := Int.natAbs_add_le (co t i) (co b i)
      omega
    have u20 : u2 ≠ [] := fun z => h1 (by rw [← ev2, z]; rfl)
    have e12 := e1.trans e2
    refine ⟨a1, a2, u1, u2, 2 ^ 91, rfl, SqT.of (e2 _ _ f1), SqT.of f2, qp7_91.pre n1 n2 u20 bd1 bd2 (by omega) (by omega), fun pr H3 e l hpr e3 hf hc hx m1 m2 s1 s2 => ?_⟩
    have b135 : ∀ {r : List Int} {n : Nat}, n ≤ 7 → BdA (Fb (n - 1) (2 ^ 91)) r → BdA (2 ^ 135) r := fun hn h => h.mono (Nat.le_trans (Fb_mono (m := 6) (by omega)) (by decide +kernel))
    exact k pr H3 e l (fresh_back e12 hpr) (e12.trans e3) hf hc (fun x => by have := hx x; rwa [ev1, ev2] at this) (by omega) (by omega) (b135 (by omega) s1) (b135 (by omega) s2)
end
end Coil

set_option Elab.async false
set_option linter.all false
set_option maxRecDepth 100000
set_option maxHeartbeats 4000000
set_option exponentiation.threshold 10000
namespace Coil
open PySem L2 Evl RT
theorem in_s (s : Bool) : inV (V.str (sS s)) [V.str "S", V.str "P"] = true := by cases s <;> decide +kernel
theorem in_k (k : Kd) : inV (V.str (kS k)) [V.str "R", V.str "L", V.str "C"] = true := by cases k <;> decide +kernel
theorem in_R {l : List RungD} (hl : ∀ d ∈ l, Lc d) : inV (V.str "R") (l.map fun d => V.str (kS d.k)) = false := by
  unfold inV
  rw [List.any_eq_false]
  intro y hy
  obtain ⟨d, hd, rfl⟩ := List.mem_map.mp hy
  have := hl d hd
  unfold Lc at this
  cases hk : d.k with
  | R => exact absurd hk this
  | L => decide +kernel
  | C => decide +kernel
theorem map_take_one {m : List RungD} {i : Nat} (f : RungD → V) (hi : i < m.length) : (m.take i).map f ++ [f (m.getD i default)] = (m.take (i + 1)).map f := by
  rw [List.take_add_one, List.getElem?_eq_getElem hi, List.map_append, List.getD_eq_getElem?_getD, List.getElem?_eq_getElem hi]
  rfl
theorem ifNF {x y : V} {A B : Prop} (h : x = y) (k : B) : if (!decide (x = y)) = true then A else B := by
  rw [decide_eq_true h]
  exact k
theorem ifNT {x y : V} {A B : Prop} (h : x ≠ y) (k : A) : if (!decide (x = y)) = true then A else B := by
  rw [decide_eq_false h]
  exact k
theorem sz_big {d : RungD} (h : Sz36 d) : bigQ d.w := ⟨Nat.le_trans h.1 (by decide +kernel), by show (((d.w.den : Nat) : Int)).natAbs ≤ _; rw [Int.natAbs_natCast]; exact Nat.le_trans h.2 (by decide +kernel)⟩
section
variable {P : Program} {w : World} {K : PySem.W.Frag} {mg : Str → Option Value} {base : Heap} {tL tM tD : Tok}
def spIsRung : Sp := fun vs H Q _ => ∃ (p : Addr) (d : RungD), vs = [.ref p] ∧ RgO H p d ∧ Pos d ∧ Sz36 d ∧ ∀ H', Ex H H' → Q (.bl true) H'
theorem ok_is_rung {f : Addr} {fd : FuncData} (F : Fun K "is_rung" "is_rung" s_is_rung f fd) (T : Txt mg tL tM tD) (d_is_positive_ratio : Def P w K mg base "is_positive_ratio" 4 ["value"] spIsPos) : FnOk P w K mg base CX0 5 f fd ["value"] spIsRung := by
  refine F.ok sc_is_rung (fun vs H Q E h => ?_) (fun cdv A outer s H vs Q E hr h => ?_)
  · obtain ⟨p, d, rfl, _⟩ := h
    rfl
  · obtain ⟨p, d, rfl, ⟨pw, hp, hw⟩, h0, hs, k⟩ := h
    refine ⟨_, (pss_cons (ps_if (PW.pt (pw_or (pt_not (pt_val (pe_callB (r := rIsi K) call_isi (by rfl) T.b_isinstance (by decide +kernel) (pa_cons (pv 0) (pa_cons (pe_bltn (v := .ty "tuple") (by rfl) T.b_tuple (by decide +kernel) rfl) pa_nil))))) (pw_or1 (pt_cmpR op_ne (pe_callB (r := Evl.rLenS K) call_len_seq (by rfl) T.b_len (by decide +kernel) (pa_cons (pv 0) pa_nil)) pe_int (nomark _))))) (pss_one (ps_ret pe_bl)) pss_nil)
  (pss_cons (ps_asg (pv 0) (pg_tup rfl (pgs_cons (pg_name (i := 1) sc_is_rung.nd rfl (Or.inl rfl)) (pgs_cons (pg_name (i := 2) sc_is_rung.nd rfl (Or.inl rfl)) (pgs_cons (pg_name (i := 3) sc_is_rung.nd rfl (Or.inl rfl)) pgs_nil)))))
  (pss_one (ps_ret (pe_and (pe_cmpR (r := rIn K false) op_in_seq (pv 1) (pe_tup (pa_cons pe_str (pa_cons pe_str pa_nil))) (by rfl)) (pe_and (pe_cmpR (r := rIn K false) op_in_seq (pv 2) (pe_tup (pa_cons pe_str (pa_cons pe_str (pa_cons pe_str pa_nil)))) (by rfl)) (pe_one (pe_callD d_is_positive_ratio (hr.mono (by decide)) (pa_cons (pv 3) pa_nil))))))))), ?_⟩
    have hA : SqT K H p [.str (sS d.s), .str (kS d.k), .ref pw] := SqT.of hp
    refine ⟨_, rfl, _, _, _, _, true, rfl, ClsV.ty _, ty_tup hA, kit_ty (by decide +kernel), true, rfl, ?_⟩
    refine iteF ?_
    refine ⟨_, rfl, p, _, rfl, .inr hA, rfl, _, rfl, ?_⟩
    refine iteF ?_
    refine ⟨_, rfl, p, _, rfl, hA, rfl, ?_⟩
    refine ⟨_, _, rfl, _, _, rfl, _, _, rfl, rfl, ?_⟩
    refine ⟨_, rfl, (by show 2 ≤ sizeLine; decide), fun p1 hp1 => ?_⟩
    have e1 := Ex.new hp1 (o := .tup [.str "S", .str "P"])
    refine ⟨p1, _, rfl, .inr (SqT.of upd_same), rfl, rfl, ?_⟩
    refine ⟨true, congrArg V.bl (in_s d.s), iteT ?_⟩
    refine ⟨_, rfl, (by show 3 ≤ sizeLine; decide), fun p2 hp2 => ?_⟩
    have e2 := Ex.new hp2 (o := .tup [.str "R", .str "L", .str "C"])
    refine ⟨p2, _, rfl, .inr (SqT.of upd_same), rfl, rfl, ?_⟩
    refine ⟨true, congrArg V.bl (in_k d.k), iteT ?_⟩
    exact ⟨_, rfl, pw, d.w, rfl, (hw.ex' e1).ex' e2, sz_big hs, h0, k _ (e1.trans e2)⟩
def spCheckLa (K : PySem.W.Frag) : Sp := fun vs H Q _ => ∃ (a : Addr) (xs : List V) (ds : List RungD), vs = [.ref a] ∧ SqT K H a xs ∧ RgsO H xs ds ∧ 1 ≤ ds.length ∧ ds.length ≤ 13 ∧ (∀ d ∈ ds, Pos d ∧ Sz36 d) ∧ ∀ H', Ex H H' → Q .non H'
theorem ok_check_ladder {f : Addr} {fd : FuncData} (F : Fun K "check_ladder" "check_ladder" s_check_ladder f fd) (T : Txt mg tL tM tD) (d_is_rung : Def P w K mg base "is_rung" 5 ["value"] spIsRung) : FnOk P w K mg base CX0 6 f fd ["ladder"] (spCheckLa K) := by
  refine F.ok sc_check_ladder (fun vs H Q E h => ?_) (fun cdv A outer s H vs Q E hr h => ?_)
  · obtain ⟨a, xs, ds, rfl, _⟩ := h
    rfl
  · obtain ⟨a, xs, ds, rfl, hA, hx, h1, h13, hb, k⟩ := h
    refine ⟨_, (pss_cons (ps_if (PW.pt (pw_or (pt_not (pt_val (pe_callB (r := rIsi K) call_isi (by rfl) T.b_isinstance (by decide +kernel) (pa_cons (pv 0) (pa_cons (pe_bltn (v := .ty "tuple") (by rfl) T.b_tuple (by decide +kernel) rfl) pa_nil))))) (pw_or1 (pt_not (pt_chain op_le op_le pe_int (pe_callB (r := Evl.rLenS K) call_len_seq (by rfl) T.b_len (by decide +kernel) (pa_cons (pv 0) pa_nil)) (pe_glob (v := .int 13) rfl (Classical.choose_spec T.g_MOST_RUNGS) ⟨_, rfl⟩)))))) (pss_one ps_never) pss_nil)
  (pss_one (ps_for PassesOwn.never rfl (pi_enumT (by rfl) T.b_enumerate (pa_cons (pv 0) pa_nil)) (pg_tup rfl (pgs_cons (pg_name (i := 1) sc_check_ladder.nd rfl (Or.inl rfl)) (pgs_cons (pg_name (i := 2) sc_check_ladder.nd rfl (Or.inl rfl)) pgs_nil))) (pss_one (ps_if (pt_not (pt_val (pe_callD d_is_rung (hr.mono (by decide)) (pa_cons (pv 2) pa_nil)))) (pss_one ps_never) pss_nil))))), ?_⟩
    refine ⟨_, rfl, _, _, _, _, true, rfl, ClsV.ty _, ty_tup hA, kit_ty (by decide +kernel), true, rfl, ?_⟩
    refine iteF ?_
    refine ⟨_, rfl, a, _, rfl, .inr hA, _, _, rfl, rfl, _, rfl, ?_⟩
    refine ite2 (fun _ => ?_) (fun z => absurd (decide_eq_true (by rw [hx.1]; omega)) z)
    refine ⟨_, _, rfl, rfl, _, rfl, ?_⟩
    refine ite2 (fun z => absurd z (by rw [decide_eq_true (show (xs.length : Int) ≤ 13 by rw [hx.1]; omega)]; decide)) (fun _ => ?_)
    refine ⟨_, rfl, a, _, rfl, hA, ?_⟩
    refine for_it (walk_enumT (xs := xs)) (fun i σ H' => ∃ v1 v2 : Option V, σ = [some (.ref a), v1, v2] ∧ Ex H H') ⟨none, none, rfl, Ex.refl _⟩ (fun i σ H' _ p => by obtain ⟨_, _, _, e⟩ := p; exact ex_t e hA) ?_ ?_
    · rintro i y σ H1 H2 hi ⟨v1, v2, rfl, e1⟩ ⟨tp, z, rfl, htp, rfl, hz⟩
      obtain ⟨p, rfl, hp⟩ := (hx.ex' e1).2 _ _ hz
      rw [hx.1] at hi
      have e2 : Ex H (upd H1 tp (.tup [.int (i : Nat), .ref p])) := e1.trans (Ex.new htp)
      have hp2 := hp.ex' (Ex.new htp (o := .tup [.int (i : Nat), .ref p]))
      obtain ⟨b1, b2⟩ := hb _ (at_of hi)
      refine ⟨tp, _, rfl, SqT.of upd_same, rfl, ?_⟩
      refine ⟨_, _, rfl, _, _, rfl, rfl, ?_⟩
      refine ⟨_, rfl, p, _, rfl, hp2, b1, b2, fun H3 e3 => ⟨true, rfl, iteF ?_⟩⟩
      exact ⟨some (.int (i : Nat)), some (.ref p), rfl, e2.trans e3⟩
    · rintro σ H1 ⟨v1, v2, rfl, e1⟩
      exact k _ e1
/-! ### _check_filter -/
def spCheckFi (K : PySem.W.Frag) : Sp := fun vs H Q _ => ∃ (a : Addr) (xs : List V) (l : List RungD) (dl : RungD), vs = [.ref a] ∧ SqT K H a xs ∧ RgsO H xs (l ++ [dl]) ∧ 1 ≤ l.length ∧ l.length ≤ 12 ∧ (∀ d ∈ l ++ [dl], Pos d ∧ Sz36 d) ∧ (∀ d ∈ l, Lc d) ∧ dl.k = .R ∧ ∀ H', Ex H H' → Q .non H'
theorem ok_check_filter {f : Addr} {fd : FuncData} (F : Fun K "_check_filter" "_check_filter" s_u_check_filter f fd) (T : Txt mg tL tM tD) (d_check_ladder : Def P w K mg base "check_ladder" 6 ["ladder"] (spCheckLa K)) : FnOk P w K mg base CX0 7 f fd ["ladder"] (spCheckFi K) := by
  refine F.ok sc_u_check_filter (fun vs H Q E h => ?_) (fun cdv A outer s H vs Q E hr h => ?_)
  · obtain ⟨a, xs, l, dl, rfl, _⟩ := h
    rfl
  · obtain ⟨a, xs, l, dl, rfl, hA, hx, h1, h12, hb, hl0, hd, k⟩ := h
    refine ⟨_, (pss_cons (ps_expr (pe_callD d_check_ladder (hr.mono (by decide)) (pa_cons (pv 0) pa_nil)))
  (pss_cons (ps_setLc (i := 1) (own := [("_", 2), ("kind", 3), ("_", 2)]) (g := gTup K 3 (gCons (gName 2) (gCons (gName 3) (gCons (gName 2) gNil)))) (tt := tYes) rfl sc_u_check_filter.nd rfl rfl (sw_true rfl rfl rfl (by decide +kernel)) (pi_tup (pv 0)) (blkOk_by (own := [("_", 2), ("kind", 3), ("_", 2)]) (N := ["ladder", "kinds", "_", "kind"]) (sc := defScope s_u_check_filter) (by decide +kernel)) (fun _ _ _ _ _ => by exact (pg_tup rfl (pgs_cons (pg_name (i := 2) sc_u_check_filter.nd rfl (Or.inl rfl)) (pgs_cons (pg_name (i := 3) sc_u_check_filter.nd rfl (Or.inl rfl)) (pgs_cons (pg_name (i := 2) sc_u_check_filter.nd rfl (Or.inl rfl)) pgs_nil))))) (fun _ _ _ _ _ => pts_nil) (fun _ _ _ _ _ => (pv 3)))
  (pss_one (ps_if (PW.pt (pw_or (pt_cmpR op_lt (pe_callB (r := Evl.rLenS K) call_len_seq (by rfl) T.b_len (by decide +kernel) (pa_cons (pv 1) pa_nil)) pe_int (nomark _)) (pw_or (pt_cmpR op_ne (pe_ix (r := rIxL K) ix_list (pv 1) (pe_un un_neg pe_int) (fun _ _ => rfl)) pe_str (nomark _)) (pw_or1 (pt_cmpR (r := rIn K false) op_in_seq pe_str (pe_slice (r := rSlL K) sl_list (pv 1) po_none (po_some (pe_un un_neg pe_int))) (by rfl)))))) (pss_one ps_never) pss_nil)))), ?_⟩
    refine ⟨_, rfl, a, xs, l ++ [dl], rfl, hA, hx, by simp, by simp; omega, hb, fun H1 e1 => ?_⟩
    have hn : xs.length = l.length + 1 := by rw [hx.1]; simp
    have hA1 := ex_t e1 hA
    have hx1 := hx.ex' e1
    refine ⟨_, rfl, a, rfl, ⟨_, hA1⟩, fun D hD => lc_tup (K := K) (a := a) (xs := xs) (fun i H' => Ex H1 H' ∧ H' D = some (.lst (((l ++ [dl]).take i).map fun d => .str (kS d.k)))) ⟨Ex.new hD, upd_same⟩ (fun i H' _ p => ex_t p.1 hA1) ?_ ?_⟩
    · rintro i x H' hi ⟨e, hl⟩
      obtain ⟨p, rfl, ⟨pw, hp, hw⟩⟩ := (hx1.ex' e).2 _ _ hi
      have hil := (List.getElem?_eq_some_iff.mp hi).1
      rw [hx.1] at hil
      refine ⟨p, _, rfl, SqT.of hp, rfl, ?_⟩
      refine ⟨_, _, rfl, _, _, rfl, _, _, rfl, rfl, ?_⟩
      refine ⟨rfl, _, rfl, _, hl, ?_, Ex.mut e hD, ?_⟩
      · rw [List.length_map, List.length_take]
        have := hx.1
        exact line_of (by omega)
      · rw [upd_same, map_take_one _ hil]
    · rintro H' ⟨e, hl⟩
      rw [hx.1, List.take_length] at hl
      have hD2 := SqL.of (K := K) hl
      refine ⟨_, rfl, D, _, rfl, .inl hD2, _, _, rfl, rfl, _, rfl, ?_⟩
      refine ite2 (fun z => absurd (of_decide_eq_true z) (by rw [List.length_map, List.length_append]; simp; omega)) (fun _ => ?_)
      have hat : atI ((l ++ [dl]).map fun d => V.str (kS d.k)) (-1) = some (.str (kS .R)) := by
        rw [List.map_append, ← hd]
        exact atI_last _ _
      refine ⟨_, rfl, _, rfl, D, _, _, _, rfl, rfl, hD2, hat, rfl, _, rfl, ifNF rfl ?_⟩
      refine ⟨_, rfl, _, rfl, _, rfl, D, _, rfl, hD2, fun p3 hp3 => ?_⟩
      have e3 := Ex.new hp3 (o := .lst (cutV ((l ++ [dl]).map fun d => V.str (kS d.k)) none (some (-1))))
      refine ⟨p3, _, rfl, .inl (SqL.of upd_same), rfl, ?_, ?_⟩
      · rw [cut_lastV]
        exact List.all_eq_true.mpr fun y hy => by
          obtain ⟨d, _, rfl⟩ := List.mem_map.mp (List.mem_of_mem_take hy)
          rfl
      refine ⟨false, congrArg V.bl ?_, iteF ?_⟩
      · rw [cut_lastV, List.map_append, List.length_append]
        show inV _ _ = false
        rw [show (l.map fun d => V.str (kS d.k)).length + ([dl].map fun d => V.str (kS d.k)).length - 1 = (l.map fun d => V.str (kS d.k)).length from rfl, List.take_left]
        exact in_R hl0
      · exact k _ (e1.trans (e.trans e3))
end
end Coil

set_option Elab.async false
set_option linter.all false
set_option maxRecDepth 100000
set_option maxHeartbeats 4000000
set_option exponentiation.threshold 10000
namespace Coil
open PySem L2 Evl RT
theorem qp7_274 : QP 7 (2 ^ 274) := ⟨by decide, by decide, by decide, by decide +kernel, by decide +kernel⟩
theorem cr_sum {l : List RungD} {e : PL} {t b : List Int} (h : CR l e t b) (hp : EPos e) (hl : ∀ d ∈ l, Pos d) : ev t 1 + ev b 1 ≠ 0 := fun z => by
  have hd := nd_pos (x := 1) (by decide) (hp 1 (by decide)).1 (hp 1 (by decide)).2 l hl
  have e0 := h.2 1
  obtain ⟨_, hb⟩ := cr_nz h.1 e0 hd.1 hd.2
  rw [show ev t 1 = -ev b 1 by omega] at e0
  have : ev b 1 * ((ndL l e).1 |> (ev · 1) |> (· + ev (ndL l e).2 1)) = 0 := by
    show ev b 1 * (ev (ndL l e).1 1 + ev (ndL l e).2 1) = 0
    rw [Int.mul_add, Int.mul_comm (ev b 1) (ev (ndL l e).1 1), ← e0]
    grind
  rcases Int.mul_eq_zero.mp this with y | y
  · exact hb y
  · have : ev (ndL l e).1 1 + ev (ndL l e).2 1 = 0 := y
    omega
section
variable {P : Program} {w : World} {K : PySem.W.Frag} {mg : Str → Option Value} {base : Heap} {tL tM tD : Tok}
def spGain (K : PySem.W.Frag) : Sp := fun vs H Q _ => ∃ (a : Addr) (xs : List V) (l : List RungD) (dl : RungD), vs = [.ref a] ∧ SqT K H a xs ∧ RgsO H xs (l ++ [dl]) ∧ 1 ≤ l.length ∧ L56 l dl ∧ (∀ d ∈ dl :: l, Pos d ∧ Sz36 d) ∧ (∀ d ∈ l, Lc d) ∧ dl.k = .R ∧ ∀ p H' t b, H p = none → Ex H H' → FnO H' p t b → Gn l dl t b → Q (.ref p) H'
theorem ok_gain_of {f : Addr} {fd : FuncData} (F : Fun K "gain_of" "gain_of" s_gain_of f fd) (d_u_check_filter : Def P w K mg base "_check_filter" 7 ["ladder"] (spCheckFi K)) (d_echo_function : Def P w K mg base "echo_function" 5 ["one"] (spEchoF K)) (d_rungs_impedance : Def P w K mg base "rungs_impedance" 6 ["ladder"] (spRungs K))
    (d_size_on_axis : Def P w K mg base "size_on_axis" 2 ["polynomial"] (spSize2 K)) (d_limited : Def P w K mg base "limited" 2 ["one"] (spLimited K)) (d_quotient : Def P w K mg base "quotient" 4 ["top", "bottom"] (spQuot K)) (d_poly_difference : Def P w K mg base "poly_difference" 3 ["one", "other"] (spDiff K)) :
    FnOk P w K mg base CX0 8 f fd ["ladder"] (spGain K) := by
  refine F.ok sc_gain_of (fun vs H Q E h => ?_) (fun cdv A outer s H vs Q E hr h => ?_)
  · obtain ⟨a, xs, l, dl, rfl, _⟩ := h
    rfl
  · obtain ⟨a, xs, l, dl, rfl, hA, hx, h1, h5, hb, hl, hk, k⟩ := h
    refine ⟨_, (pss_cons (ps_expr (pe_callD d_u_check_filter (hr.mono (by decide)) (pa_cons (pv 0) pa_nil)))
  (pss_cons (ps_asg (pe_callD d_echo_function (hr.mono (by decide)) (pa_cons (pe_callD d_rungs_impedance (hr.mono (by decide)) (pa_cons (pv 0) pa_nil)) pa_nil)) (pg_tup rfl (pgs_cons (pg_name (i := 2) sc_gain_of.nd rfl (Or.inl rfl)) (pgs_cons (pg_name (i := 3) sc_gain_of.nd rfl (Or.inl rfl)) pgs_nil))))
  (pss_cons (ps_set (i := 1) sc_gain_of.nd rfl (Or.inl rfl) (pe_callD d_size_on_axis (hr.mono (by decide)) (pa_cons (pv 3) pa_nil)))
  (pss_one (ps_ret (pe_callD d_limited (hr.mono (by decide)) (pa_cons (pe_callD d_quotient (hr.mono (by decide)) (pa_cons (pe_callD d_poly_difference (hr.mono (by decide)) (pa_cons (pv 1) (pa_cons (pe_callD d_size_on_axis (hr.mono (by decide)) (pa_cons (pv 2) pa_nil)) pa_nil))) (pa_cons (pv 1) pa_nil))) pa_nil))))))), ?_⟩
    have hb' : ∀ d ∈ l ++ [dl], Pos d ∧ Sz36 d := fun d hd => hb d (by rcases List.mem_append.mp hd with h | h; exact List.mem_cons_of_mem _ h; rw [List.mem_singleton.mp h]; exact List.mem_cons_self)
    refine ⟨_, rfl, a, xs, l, dl, rfl, hA, hx, h1, by have := h5.le; omega, hb', hl, hk, fun H1 e1 => ?_⟩
    refine ⟨_, rfl, a, xs, l, dl, rfl, ex_t e1 hA, hx.ex' e1, hb, h5, fun p2 H2 t b hp2 e2 hf2 hC => ?_⟩
    have hs := cr_sum hC (fun x hx => z_pos (hb dl List.mem_cons_self).1 hx) fun d hd => (hb d (List.mem_cons_of_mem _ hd)).1
    refine ⟨p2, t, b, rfl, hf2, cr_cs hC hb h5, hs, fun p3 H3 e lf hp3 e3 hf3 hc3 hx3 le ll be bl => ?_⟩
    obtain ⟨pe, pl, g1, g2, g3⟩ := id hf3.ex
    refine ⟨p3, _, rfl, SqT.of g1, rfl, ?_⟩
    refine ⟨_, _, rfl, _, _, rfl, rfl, ?_⟩
    refine ⟨_, rfl, pl, lf, 135, rfl, SqT.of g3, hc3.nb, by omega, bl, by decide, fun p4 H4 sl hp4 e4 h4 n4 z4 l4 c4 => ?_⟩
    have b4 : ∀ i, (co sl i).natAbs ≤ 2 ^ 273 := fun i => by
      have := sz_bd c4 (fun i => bl.co i) i
      have h7 := Nat.mul_le_mul_right (2 ^ 135 * 2 ^ 135) ll
      exact Nat.le_trans this (Nat.le_trans h7 (by decide +kernel))
    refine ⟨_, rfl, _, rfl, pe, e, 135, rfl, SqT.of (e4 _ _ g2), hc3.nt, by omega, be, by decide, fun p5 H5 se hp5 e5 h5' n5 z5 l5 c5 => ?_⟩
    have b5 : ∀ i, (co se i).natAbs ≤ 2 ^ 273 := fun i => by
      have := sz_bd c5 (fun i => be.co i) i
      have h7 := Nat.mul_le_mul_right (2 ^ 135 * 2 ^ 135) le
      exact Nat.le_trans this (Nat.le_trans h7 (by decide +kernel))
    refine ⟨p4, p5, sl, se, 273, rfl, SqT.of (e5 _ _ h4), SqT.of h5', by omega, by omega, .of_co b5, by decide, fun p6 H6 g hp6 e6 h6 n6 l6 c6 => ?_⟩
    have c6' : ∀ i, co g i = co sl i - co se i := c6
    have b6 : BdA (2 ^ 274) g := .of_co fun i => by
      rw [c6']
      have := b4 i
      have := b5 i
      have := Int.natAbs_sub_le (co sl i) (co se i)
      omega
    have b4' : BdA (2 ^ 274) sl := .of_co fun i => Nat.le_trans (b4 i) (by decide +kernel)
    have hsl : sl ≠ [] := z4 hc3.b0
    refine ⟨_, rfl, p6, p4, g, sl, 2 ^ 274, rfl, SqT.of h6, SqT.of (e6 _ _ (e5 _ _ h4)), qp7_274.pre n6 n4 hsl b6 b4' (by omega) (by omega), fun p7 H7 t' b' hp7 e7 hf7 hc7 hx7 l7 l7' _ _ => ?_⟩
    refine ⟨p7, t', b', rfl, hf7, by omega, by omega, ?_⟩
    have ee := e1.trans (e2.trans (e3.trans (e4.trans (e5.trans e6))))
    refine k p7 H7 t' b' (fresh_back ee hp7) (ee.trans e7) hf7 ⟨hc7, e, lf, se, sl, nz_of_nm hc3.nb hc3.b0, gain_h1 hC (fun d hd => (hb d hd).1) hk hx3, sz_rel c4, sz_rel c5, fun X => ?_⟩
    rw [hx7, ev_co (q := addP sl (smul (-1) se)) (fun i => by rw [co_add, co_smul, c6']; omega), ev_add, ev_smul]
    have : ev sl X + -1 * ev se X = ev sl X - ev se X := by omega
    rw [this]
/-! ### turned -/
def spInvR : Sp := fun vs H Q _ => ∃ (p : Addr) (q : Rat), vs = [.ref p] ∧ RO H p q ∧ 0 < q.num ∧ ∀ p' H', H p' = none → Ex H H' → RO H' p' q⁻¹ → Q (.ref p') H'
def spDivd (K : PySem.W.Frag) : Sp := fun vs H Q _ => ∃ (p pq : Addr) (d : RungD) (r : Rat), vs = [.ref p, .ref pq] ∧ RgO H p d ∧ RO H pq r ∧ r ≠ 0 ∧ Sm 4000 d.w ∧ Sm 4000 r ∧ ∀ p' H', H p' = none → Ex H H' → RgO H' p' (dvD r d) → Q (.ref p') H'
end
end Coil

set_option Elab.async false
set_option linter.all false
set_option maxRecDepth 100000
set_option maxHeartbeats 4000000
set_option exponentiation.threshold 10000
namespace Coil
open PySem L2 Evl RT
theorem RO.mut' {H : L2.Hp} {p D : Addr} {q : Rat} {xs : List V} {o : HO} (h : RO H p q) (hD : H D = some (.lst xs)) : RO (upd H D o) p q := by
  have hne : p ≠ D := fun z => by
    have h1 : H p = _ := h
    rw [z, hD] at h1
    cases h1
  show upd H D o p = _
  rw [upd_ne hne]
  exact h
theorem RgO.mut {H : L2.Hp} {p D : Addr} {d : RungD} {xs : List V} {o : HO} (h : RgO H p d) (hD : H D = some (.lst xs)) : RgO (upd H D o) p d := by
  obtain ⟨pw, h1, h2⟩ := h
  have hne : p ≠ D := fun z => by
    rw [z, hD] at h1
    cases h1
  exact ⟨pw, by rw [upd_ne hne]; exact h1, h2.mut' hD⟩
theorem RgsO.mut {H : L2.Hp} {D : Addr} {ys : List V} {ds : List RungD} {xs : List V} {o : HO} (h : RgsO H ys ds) (hD : H D = some (.lst xs)) : RgsO (upd H D o) ys ds := ⟨h.1, fun i v hv => by
  obtain ⟨p, h1, h2⟩ := h.2 i v hv
  exact ⟨p, h1, h2.mut hD⟩⟩
theorem RgsO.nil {H : L2.Hp} : RgsO H [] [] := ⟨rfl, fun i v hv => by simp at hv⟩
theorem RgsO.snoc {H : L2.Hp} {ys : List V} {ds : List RungD} {p : Addr} {d : RungD} (h : RgsO H ys ds) (hp : RgO H p d) : RgsO H (ys ++ [.ref p]) (ds ++ [d]) := ⟨by rw [List.length_append, List.length_append, h.1]; rfl, fun i v hv => by
  by_cases hi : i < ys.length
  · rw [List.getElem?_append_left hi] at hv
    obtain ⟨q, h1, h2⟩ := h.2 i v hv
    refine ⟨q, h1, ?_⟩
    rwa [List.getD_eq_getElem?_getD, List.getElem?_append_left (by rw [← h.1]; exact hi), ← List.getD_eq_getElem?_getD]
  · have hl := (List.getElem?_eq_some_iff.mp hv).1
    rw [List.length_append] at hl
    have hi' : i = ys.length := by simp at hl; omega
    rw [hi', List.getElem?_concat_length] at hv
    refine ⟨p, (Option.some.inj hv).symm, ?_⟩
    rw [List.getD_eq_getElem?_getD, hi', h.1, List.getElem?_concat_length]
    exact hp⟩
theorem sz_sm {d : RungD} (h : Sz36 d) : Sm 4000 d.w := ⟨Nat.lt_of_le_of_lt h.1 (by decide +kernel), Nat.lt_of_le_of_lt h.2 (by decide +kernel)⟩
theorem pos_ne {d : RungD} (h : Pos d) : d.w ≠ 0 := fun z => by
  have : 0 < d.w.num := h
  rw [z] at this
  simp at this
/-- the turned ladder -/
def trn (l : List RungD) (dl : RungD) : List RungD := (l.map (dvD dl.w)).reverse
theorem trn_at {l : List RungD} {dl : RungD} {i : Nat} (hi : i < l.length) : (trn l dl).take (i + 1) = (trn l dl).take i ++ [dvD dl.w (l.getD (l.length - 1 - i) default)] := by
  have hl : (trn l dl).length = l.length := by simp [trn]
  rw [List.take_add_one, List.getElem?_eq_getElem (by omega)]
  congr 1
  show [_] = _
  congr 1
  unfold trn
  rw [List.getElem_reverse]
  simp only [List.length_map, List.getElem_map]
  congr 1
  rw [List.getD_eq_getElem?_getD, List.getElem?_eq_getElem (by omega)]
  rfl
section
variable {P : Program} {w : World} {K : PySem.W.Frag} {mg : Str → Option Value} {base : Heap} {tL tM tD : Tok}
def spTurn (K : PySem.W.Frag) : Sp := fun vs H Q _ => ∃ (a : Addr) (xs : List V) (l : List RungD) (dl : RungD), vs = [.ref a] ∧ SqT K H a xs ∧ RgsO H xs (l ++ [dl]) ∧ 1 ≤ l.length ∧ l.length ≤ 12 ∧ (∀ d ∈ l ++ [dl], Pos d ∧ Sz36 d) ∧ (∀ d ∈ l, Lc d) ∧ dl.k = .R ∧ dl.s = false ∧ ∀ p H' ys, H p = none → Ex H H' → H' p = some (.tup ys) → RgsO H' ys (trn l dl ++ [⟨false, .R, dl.w⁻¹⟩]) → Q (.ref p) H'
end
end Coil

set_option Elab.async false
set_option linter.all false
set_option maxRecDepth 100000
set_option maxHeartbeats 4000000
set_option exponentiation.threshold 10000
namespace Coil
open PySem L2 Evl RT
theorem qp7_135 : QP 7 (2 ^ 135) := ⟨by decide, by decide, by decide, by decide +kernel, by decide +kernel⟩
theorem b135_60 : 2 ^ 135 ≤ 10 ^ 60 := by decide +kernel
theorem fn_pre {t b : List Int} {B : Nat} (hC : Can t b) (q : QP 7 B) (lt : t.length ≤ 7) (lb : b.length ≤ 7) (bt : BdA B t) (bb : BdA B b) (hB : B ≤ 10 ^ 60) : FnPre t b B := ⟨hC, pol_of hC.nt (by omega) bt hB, pol_of hC.nb (by omega) bb hB, q.pre hC.nt hC.nb hC.b0 bt bb lt lb⟩
section
variable {P : Program} {w : World} {K : PySem.W.Frag} {mg : Str → Option Value} {base : Heap} {tL tM tD : Tok}
def spGainX (K : PySem.W.Frag) : Sp := fun vs H Q _ => ∃ (a : Addr) (xs : List V) (l : List RungD) (dl : RungD), vs = [.ref a] ∧ SqT K H a xs ∧ RgsO H xs (l ++ [dl]) ∧ 1 ≤ l.length ∧ L56 l dl ∧ (∀ d ∈ dl :: l, Pos d ∧ Sz36 d) ∧ (∀ d ∈ l, Lc d) ∧ dl.k = .R ∧ ∀ p H' t b, H p = none → Ex H H' → FnO H' p t b → Gx l dl t b → Q (.ref p) H'
theorem ok_gain_x {f : Addr} {fd : FuncData} (F : Fun K "gain_of" "gain_of" s_gain_of f fd) (d_u_check_filter : Def P w K mg base "_check_filter" 7 ["ladder"] (spCheckFi K)) (d_echo_function : Def P w K mg base "echo_function" 5 ["one"] (spEchoF K)) (d_rungs_impedance : Def P w K mg base "rungs_impedance" 6 ["ladder"] (spRungs K))
    (d_size_on_axis : Def P w K mg base "size_on_axis" 2 ["polynomial"] (spSize2 K)) (d_limited : Def P w K mg base "limited" 2 ["one"] (spLimited K)) (d_quotient : Def P w K mg base "quotient" 4 ["top", "bottom"] (spQuot K)) (d_poly_difference : Def P w K mg base "poly_difference" 3 ["one", "other"] (spDiff K)) :
    FnOk P w K mg base CX0 8 f fd ["ladder"] (spGainX K) := by
  refine F.ok sc_gain_of (fun vs H Q E h => ?_) (fun cdv A outer s H vs Q E hr h => ?_)
  · obtain ⟨a, xs, l, dl, rfl, _⟩ := h
    rfl
  · obtain ⟨a, xs, l, dl, rfl, hA, hx, h1, h5, hb, hl, hk, k⟩ := h
    refine ⟨_, (pss_cons (ps_expr (pe_callD d_u_check_filter (hr.mono (by decide)) (pa_cons (pv 0) pa_nil)))
  (pss_cons (ps_asg (pe_callD d_echo_function (hr.mono (by decide)) (pa_cons (pe_callD d_rungs_impedance (hr.mono (by decide)) (pa_cons (pv 0) pa_nil)) pa_nil)) (pg_tup rfl (pgs_cons (pg_name (i := 2) sc_gain_of.nd rfl (Or.inl rfl)) (pgs_cons (pg_name (i := 3) sc_gain_of.nd rfl (Or.inl rfl)) pgs_nil))))
  (pss_cons (ps_set (i := 1) sc_gain_of.nd rfl (Or.inl rfl) (pe_callD d_size_on_axis (hr.mono (by decide)) (pa_cons (pv 3) pa_nil)))
  (pss_one (ps_ret (pe_callD d_limited (hr.mono (by decide)) (pa_cons (pe_callD d_quotient (hr.mono (by decide)) (pa_cons (pe_callD d_poly_difference (hr.mono (by decide)) (pa_cons (pv 1) (pa_cons (pe_callD d_size_on_axis (hr.mono (by decide)) (pa_cons (pv 2) pa_nil)) pa_nil))) (pa_cons (pv 1) pa_nil))) pa_nil))))))), ?_⟩
    have hb' : ∀ d ∈ l ++ [dl], Pos d ∧ Sz36 d := fun d hd => hb d (by rcases List.mem_append.mp hd with h | h; exact List.mem_cons_of_mem _ h; rw [List.mem_singleton.mp h]; exact List.mem_cons_self)
    refine ⟨_, rfl, a, xs, l, dl, rfl, hA, hx, h1, by have := h5.le; omega, hb', hl, hk, fun H1 e1 => ?_⟩
    refine ⟨_, rfl, a, xs, l, dl, rfl, ex_t e1 hA, hx.ex' e1, hb, h5, fun p2 H2 t b hp2 e2 hf2 hC => ?_⟩
    have hs := cr_sum hC (fun x hx => z_pos (hb dl List.mem_cons_self).1 hx) fun d hd => (hb d (List.mem_cons_of_mem _ hd)).1
    refine ⟨p2, t, b, rfl, hf2, cr_cs hC hb h5, hs, fun p3 H3 e lf hp3 e3 hf3 hc3 hx3 le ll be bl => ?_⟩
    obtain ⟨pe, pl, g1, g2, g3⟩ := id hf3.ex
    refine ⟨p3, _, rfl, SqT.of g1, rfl, ?_⟩
    refine ⟨_, _, rfl, _, _, rfl, rfl, ?_⟩
    refine ⟨_, rfl, pl, lf, 135, rfl, SqT.of g3, hc3.nb, by omega, bl, by decide, fun p4 H4 sl hp4 e4 h4 n4 z4 l4 c4 => ?_⟩
    have b4 : ∀ i, (co sl i).natAbs ≤ 2 ^ 273 := fun i => by
      have := sz_bd c4 (fun i => bl.co i) i
      have h7 := Nat.mul_le_mul_right (2 ^ 135 * 2 ^ 135) ll
      exact Nat.le_trans this (Nat.le_trans h7 (by decide +kernel))
    refine ⟨_, rfl, _, rfl, pe, e, 135, rfl, SqT.of (e4 _ _ g2), hc3.nt, by omega, be, by decide, fun p5 H5 se hp5 e5 h5' n5 z5 l5 c5 => ?_⟩
    have b5 : ∀ i, (co se i).natAbs ≤ 2 ^ 273 := fun i => by
      have := sz_bd c5 (fun i => be.co i) i
      have h7 := Nat.mul_le_mul_right (2 ^ 135 * 2 ^ 135) le
      exact Nat.le_trans this (Nat.le_trans h7 (by decide +kernel))
    refine ⟨p4, p5, sl, se, 273, rfl, SqT.of (e5 _ _ h4), SqT.of h5', by omega, by omega, .of_co b5, by decide, fun p6 H6 g hp6 e6 h6 n6 l6 c6 => ?_⟩
    have c6' : ∀ i, co g i = co sl i - co se i := c6
    have b6 : BdA (2 ^ 274) g := .of_co fun i => by
      rw [c6']
      have := b4 i
      have := b5 i
      have := Int.natAbs_sub_le (co sl i) (co se i)
      omega
    have b4' : BdA (2 ^ 274) sl := .of_co fun i => Nat.le_trans (b4 i) (by decide +kernel)
    have hsl : sl ≠ [] := z4 hc3.b0
    refine ⟨_, rfl, p6, p4, g, sl, 2 ^ 274, rfl, SqT.of h6, SqT.of (e6 _ _ (e5 _ _ h4)), qp7_274.pre n6 n4 hsl b6 b4' (by omega) (by omega), fun p7 H7 t' b' hp7 e7 hf7 hc7 hx7 l7 l7' _ _ => ?_⟩
    refine ⟨p7, t', b', rfl, hf7, by omega, by omega, ?_⟩
    have ee := e1.trans (e2.trans (e3.trans (e4.trans (e5.trans e6))))
    refine k p7 H7 t' b' (fresh_back ee hp7) (ee.trans e7) hf7 ⟨hc7, e, lf, se, sl, ⟨hc3, echo_nd hC (fun d hd => (hb d hd).1) hx3⟩, sz_rel c4, sz_rel c5, fun X => ?_, by omega, by omega, le, ll⟩
    rw [hx7, ev_co (q := addP sl (smul (-1) se)) (fun i => by rw [co_add, co_smul, c6']; omega), ev_add, ev_smul]
    have : ev sl X + -1 * ev se X = ev sl X - ev se X := by omega
    rw [this]

/-- the ladder handed in -/
def LadI (K : PySem.W.Frag) (H : L2.Hp) (a : Addr) (xs : List V) (l : List RungD) (dl : RungD) : Prop := SqT K H a xs ∧ RgsO H xs (l ++ [dl]) ∧ 1 ≤ l.length ∧ L56 l dl ∧ (∀ d ∈ dl :: l, Pos d ∧ Sz36 d)
def spEchoP (K : PySem.W.Frag) : Sp := fun vs H Q _ => ∃ (a : Addr) (xs : List V) (l : List RungD) (dl : RungD), vs = [.ref a] ∧ LadI K H a xs l dl ∧ (∀ d ∈ l, Lc d) ∧ dl.k = .R ∧ ∀ p H' e lf, H p = none → Ex H H' → FnO H' p lf e → Ec l dl e lf → e.length ≤ 7 → lf.length ≤ 7 → BdA (2 ^ 135) e → BdA (2 ^ 135) lf → Q (.ref p) H'
theorem ok_echo_polys {f : Addr} {fd : FuncData} (F : Fun K "echo_polys" "echo_polys" s_echo_polys f fd) (d_u_check_filter : Def P w K mg base "_check_filter" 7 ["ladder"] (spCheckFi K)) (d_echo_function : Def P w K mg base "echo_function" 5 ["one"] (spEchoF K)) (d_rungs_impedance : Def P w K mg base "rungs_impedance" 6 ["ladder"] (spRungs K)) :
    FnOk P w K mg base CX0 8 f fd ["ladder"] (spEchoP K) := by
  refine F.ok sc_echo_polys (fun vs H Q E h => ?_) (fun cdv A outer s H vs Q E hr h => ?_)
  · obtain ⟨a, xs, l, dl, rfl, _⟩ := h
    rfl
  · obtain ⟨a, xs, l, dl, rfl, ⟨hA, hx, h1, h5, hb⟩, hl, hk, k⟩ := h
    refine ⟨_, (pss_cons (ps_expr (pe_callD d_u_check_filter (hr.mono (by decide)) (pa_cons (pv 0) pa_nil)))
  (pss_cons (ps_asg (pe_callD d_echo_function (hr.mono (by decide)) (pa_cons (pe_callD d_rungs_impedance (hr.mono (by decide)) (pa_cons (pv 0) pa_nil)) pa_nil)) (pg_tup rfl (pgs_cons (pg_name (i := 1) sc_echo_polys.nd rfl (Or.inl rfl)) (pgs_cons (pg_name (i := 2) sc_echo_polys.nd rfl (Or.inl rfl)) pgs_nil))))
  (pss_one (ps_ret (pe_tup (pa_cons (pv 2) (pa_cons (pv 1) pa_nil))))))), ?_⟩
    have hb' : ∀ d ∈ l ++ [dl], Pos d ∧ Sz36 d := fun d hd => hb d (by rcases List.mem_append.mp hd with h | h; exact List.mem_cons_of_mem _ h; rw [List.mem_singleton.mp h]; exact List.mem_cons_self)
    refine ⟨_, rfl, a, xs, l, dl, rfl, hA, hx, h1, by have := h5.le; omega, hb', hl, hk, fun H1 e1 => ?_⟩
    refine ⟨_, rfl, a, xs, l, dl, rfl, ex_t e1 hA, hx.ex' e1, hb, h5, fun p2 H2 t b hp2 e2 hf2 hC => ?_⟩
    have hs := cr_sum hC (fun x hx => z_pos (hb dl List.mem_cons_self).1 hx) fun d hd => (hb d (List.mem_cons_of_mem _ hd)).1
    refine ⟨p2, t, b, rfl, hf2, cr_cs hC hb h5, hs, fun p3 H3 e lf hp3 e3 hf3 hc3 hx3 le ll be bl => ?_⟩
    obtain ⟨pe, pl, g1, g2, g3⟩ := id hf3.ex
    refine ⟨p3, _, rfl, SqT.of g1, rfl, ?_⟩
    refine ⟨_, _, rfl, _, _, rfl, rfl, ?_⟩
    refine ⟨_, rfl, _, rfl, (by show 2 ≤ sizeLine; decide), fun p hp => ?_⟩
    have e4 := Ex.new hp (o := .tup [.ref pl, .ref pe])
    have ee := e1.trans (e2.trans e3)
    exact k p _ e lf (fresh_back ee hp) (ee.trans e4) ⟨pl, pe, upd_same, e4 _ _ g3, e4 _ _ g2⟩ ⟨hc3, echo_nd hC (fun d hd => (hb d hd).1) hx3⟩ le ll be bl
def spEchoOf (K : PySem.W.Frag) : Sp := fun vs H Q _ => ∃ (p : Addr) (t b : List Int), vs = [.ref p] ∧ FnO H p t b ∧ Can t b ∧ CS t b ∧ ev t 1 + ev b 1 ≠ 0 ∧
  ∀ p' H' e l, H p' = none → Ex H H' → FnO H' p' e l → Can e l → (∀ x, ev e x * (ev t x + ev b x) = (ev t x - ev b x) * ev l x) → e.length ≤ 7 → l.length ≤ 7 → BdA (2 ^ 135) e → BdA (2 ^ 135) l → Q (.ref p') H'
def spLadImp (K : PySem.W.Frag) : Sp := fun vs H Q _ => ∃ (a : Addr) (xs : List V) (l : List RungD) (dl : RungD), vs = [.ref a] ∧ LadI K H a xs l dl ∧ ∀ p H' t b, H p = none → Ex H H' → FnO H' p t b → CR l (zTop dl, zBot dl) t b → CS t b → Q (.ref p) H'
end
end Coil

set_option Elab.async false
set_option linter.all false
set_option maxRecDepth 100000
set_option maxHeartbeats 4000000
set_option exponentiation.threshold 10000
namespace Coil
open PySem L2 Evl RT
/-! ### Routh's table -/
section
variable {P : Program} {w : World} {K : PySem.W.Frag} {mg : Str → Option Value} {base : Heap} {tL tM tD : Tok}
def spContentL (K : PySem.W.Frag) : Sp := fun vs H Q _ => ∃ (a : Addr) (ns : List Int), vs = [.ref a] ∧ (SqL K H a (ns.map V.int) ∨ SqT K H a (ns.map V.int)) ∧ Q (.int (gcdL ns)) H
theorem ok_content_l {f : Addr} {fd : FuncData} (F : Fun K "content" "content" s_content f fd) (T : Txt mg tL tM tD) : FnOk P w K mg base CX0 1 f fd ["polynomial"] (spContentL K) := by
  refine F.ok sc_content (fun vs H Q E h => ?_) (fun cdv A outer s H vs Q E hr h => ?_)
  · obtain ⟨a, ns, rfl, _⟩ := h
    rfl
  · obtain ⟨a, ns, rfl, hS, k⟩ := h
    refine ⟨_, (pss_cons (ps_set (i := 1) sc_content.nd rfl (Or.inl rfl) pe_int)
  (pss_cons (ps_for PassesOwn.never rfl (pi_or (pi_list (pv 0)) (pi_tup (pv 0))) (pg_name (i := 2) sc_content.nd rfl (Or.inl rfl)) (pss_one (ps_set (i := 1) sc_content.nd rfl (Or.inl rfl) (pe_callBfun cr_gcd (by rfl) T.g_gcd (pa_cons (pv 1) (pa_cons (pv 2) pa_nil))))))
  (pss_one (ps_ret (pv 1))))), ?_⟩
    rcases hS with hS | hS
    · refine .inl ⟨_, rfl, a, rfl, ⟨_, hS⟩, for_list (K := K) (a := a) (xs := ns.map V.int) (fun i σ H' => H' = H ∧ ∃ v : Option V, σ = [some (.ref a), some (.int (gcdL (ns.take i))), v]) ⟨rfl, none, rfl⟩ (fun i σ H' _ p => by rw [p.1]; exact hS) ?_ ?_⟩
      · rintro i x σ H' hi ⟨rfl, v, rfl⟩
        obtain ⟨n, hn, rfl⟩ := map_int_get hi
        refine ⟨_, rfl, _, rfl, _, _, rfl, ?_⟩
        exact ⟨rfl, _, by rw [gcdL_take hn]; rfl⟩
      · rintro σ H' ⟨rfl, v, rfl⟩
        refine ⟨_, rfl, ?_⟩
        rw [List.length_map, List.take_length]
        exact k
    · refine .inr ⟨_, rfl, a, rfl, ⟨_, hS⟩, for_tup (K := K) (a := a) (xs := ns.map V.int) (fun i σ H' => H' = H ∧ ∃ v : Option V, σ = [some (.ref a), some (.int (gcdL (ns.take i))), v]) ⟨rfl, none, rfl⟩ (fun i σ H' _ p => by rw [p.1]; exact hS) ?_ ?_⟩
      · rintro i x σ H' hi ⟨rfl, v, rfl⟩
        obtain ⟨n, hn, rfl⟩ := map_int_get hi
        refine ⟨_, rfl, _, rfl, _, _, rfl, ?_⟩
        exact ⟨rfl, _, by rw [gcdL_take hn]; rfl⟩
      · rintro σ H' ⟨rfl, v, rfl⟩
        refine ⟨_, rfl, ?_⟩
        rw [List.length_map, List.take_length]
        exact k

def spNotZero (K : PySem.W.Frag) : Sp := fun vs H Q _ => ∃ (a : Addr) (ns : List Int), vs = [.ref a] ∧ SqT K H a (ns.map V.int) ∧ Pol ns ∧ ns ≠ [] ∧ ∀ H', Ex H H' → Q .non H'
theorem ok_check_not_zero {f : Addr} {fd : FuncData} (F : Fun K "_check_not_zero" "_check_not_zero" s_u_check_not_zero f fd) (d_check_polynomial : Def P w K mg base "check_polynomial" 4 ["value"] (spCheck K)) :
    FnOk P w K mg base CX0 5 f fd ["polynomial"] (spNotZero K) := by
  refine F.ok sc_u_check_not_zero (fun vs H Q E h => ?_) (fun cdv A outer s H vs Q E hr h => ?_)
  · obtain ⟨a, ns, rfl, _⟩ := h
    rfl
  · obtain ⟨a, ns, rfl, hS, hp, hne, k⟩ := h
    refine ⟨_, (pss_cons (ps_expr (pe_callD d_check_polynomial (hr.mono (by decide)) (pa_cons (pv 0) pa_nil)))
  (pss_one (ps_if (pt_not (pt_truth (pv 0) (by intro _; rfl))) (pss_one ps_never) pss_nil))), ?_⟩
    refine ⟨_, rfl, a, ns, rfl, hS, hp, fun H' e => ?_⟩
    refine ⟨_, rfl, true, .inr (.inl ⟨_, ex_t e hS, ?_⟩), iteF (k _ e)⟩
    cases ns with
    | nil => exact absurd rfl hne
    | cons n0 ns0 => rfl

/-! ### roots -/
def spSmallN (K : PySem.W.Frag) : Sp := fun vs H Q _ => ∃ (a : Addr) (ns : List Int), vs = [.ref a] ∧ SqL K H a (ns.map V.int) ∧ ns.length ≤ 100 ∧ (gcdL ns).natAbs < 2 ^ 9000 ∧ ∀ p H', H p = none → Ex H H' → H' p = some (.lst ((smallL ns).map V.int)) → Q (.ref p) H'
theorem ok_with_small {f : Addr} {fd : FuncData} (F : Fun K "_with_small_numbers" "_with_small_numbers" s_u_with_small_numbers f fd) (T : Txt mg tL tM tD) (d_content : Def P w K mg base "content" 1 ["polynomial"] (spContentL K)) :
    FnOk P w K mg base CX0 2 f fd ["row"] (spSmallN K) := by
  refine F.ok sc_u_with_small_numbers (fun vs H Q E h => ?_) (fun cdv A outer s H vs Q E hr h => ?_)
  · obtain ⟨a, ns, rfl, _⟩ := h
    rfl
  · obtain ⟨a, ns, rfl, hS, hlen, hg, k⟩ := h
    refine ⟨_, ((pss_cons (ps_set (i := 1) sc_u_with_small_numbers.nd rfl (Or.inr rfl) (pe_callB (call_max2 rfl) (by rfl) T.b_max (by decide +kernel) (pa_cons pe_int (pa_cons (pe_callD d_content (hr.mono (by decide)) (pa_cons (pv 0) pa_nil)) pa_nil))))
  (pss_one (ps_ret (pe_lc (own := [("number", 2)]) (g := gName 2) (tt := tYes) rfl sc_u_with_small_numbers.nd (pi_list (pv 0)) (blkOk_by (own := [("number", 2)]) (N := ["row", "shared", "number"]) (sc := defScope s_u_with_small_numbers) (by decide +kernel)) (fun _ _ _ _ _ => pg_name (i := 2) sc_u_with_small_numbers.nd rfl (Or.inl rfl)) (fun _ _ _ _ _ => pts_nil) (fun _ _ _ _ _ => (pe_op op_fdivW (pv 2) (pv 1)))))))), ?_⟩
    refine ⟨_, rfl, a, ns, rfl, .inl hS, _, _, rfl, ?_⟩
    refine ⟨_, rfl, a, rfl, ⟨_, hS⟩, fun D hD => lc_list (K := K) (a := a) (xs := ns.map V.int) (fun i H' => Ex H H' ∧ H' D = some (.lst ((smallTo ns i).map V.int))) ⟨Ex.new hD, upd_same⟩ (fun i H' _ p => ex_l p.1 hS) ?_ ?_⟩
    · rintro i x H' hi ⟨e, hl⟩
      obtain ⟨n, hn, rfl⟩ := map_int_get hi
      refine ⟨rfl, ?_⟩
      refine ⟨_, rfl, _, rfl, _, _, rfl, rfl, ?_, _, hl, ?_, Ex.mut e hD, ?_⟩
      · exact wide_div (b := 9000) (maxg_pos ns) (maxg_lt hg) (by decide) (by decide)
      · rw [List.length_map, smallTo_len]
        have := (List.getElem?_eq_some_iff.mp hn).1
        exact Nat.lt_of_le_of_lt (by omega : _ ≤ 100) (by decide)
      · rw [upd_same, smallTo_succ hn, List.map_append]
        rfl
    · rintro H' ⟨e, hl⟩
      refine k D H' hD e ?_
      rw [hl, List.length_map, smallTo_all]

theorem pad_getD (l : List Int) (k i : Nat) : (l ++ List.replicate k 0).getD i 0 = l.getD i 0 := by
  rw [List.getD_eq_getElem?_getD, List.getD_eq_getElem?_getD]
  by_cases h : i < l.length
  · rw [List.getElem?_append_left h]
  · rw [List.getElem?_append_right (by omega), List.getElem?_eq_none (l := l) (by omega)]
    cases e : (List.replicate k (0 : Int))[i - l.length]? with
    | none => rfl
    | some z => rw [List.eq_of_mem_replicate (List.mem_of_getElem? e)]; rfl
def RouthPre (c : Nat) (u l : List Int) : Prop := l.length ≤ u.length ∧ u.length ≤ l.length + 1 ∧ Bd c u ∧ Bd c l ∧ (c + 1) * 2 ^ (u.length + l.length) ≤ 9000
def spRouth : Sp := fun vs H Q _ => ∃ (pu pl : Addr) (u l : List Int) (c : Nat), vs = [.ref pu, .ref pl] ∧ H pu = some (.lst (u.map V.int)) ∧ H pl = some (.lst (l.map V.int)) ∧ RouthPre c u l ∧
  ∀ H', Ex H H' → Q (.bl (routh (u.length + l.length) u l)) H'
theorem pre_small {c : Nat} {u l : List Int} (h : RouthPre c u l) : u.length + l.length ≤ 13 ∧ c ≤ 9000 := by
  obtain ⟨_, _, _, _, h⟩ := h
  constructor
  · refine Decidable.byContradiction fun q => ?_
    have h1 : 2 ^ 14 ≤ 2 ^ (u.length + l.length) := Nat.pow_le_pow_right (by decide) (by omega)
    have h2 : 1 * 2 ^ (u.length + l.length) ≤ (c + 1) * 2 ^ (u.length + l.length) := Nat.mul_le_mul_right _ (by omega)
    omega
  · have h1 : 1 ≤ 2 ^ (u.length + l.length) := Nat.one_le_two_pow
    have h2 : (c + 1) * 1 ≤ (c + 1) * 2 ^ (u.length + l.length) := Nat.mul_le_mul_left _ h1
    omega
theorem pre_next {c : Nat} {u l : List Int} (hl : 0 < l.length) (h : RouthPre c u l) : RouthPre (2 * c + 1) l (smallL (stepRow u l)) := by
  obtain ⟨h1, h2, h3, h4, h5⟩ := h
  have el : (smallL (stepRow u l)).length = u.length - 1 := by rw [smallL_len, stepRow_len]
  refine ⟨by omega, by omega, h4.mono (by omega), smallL_bd (stepRow_bd h3 h4), ?_⟩
  have e : u.length + l.length = (l.length + (smallL (stepRow u l)).length) + 1 := by omega
  rw [e, Nat.pow_succ] at h5
  have e2 : (2 * c + 1 + 1) * 2 ^ (l.length + (smallL (stepRow u l)).length) = (c + 1) * (2 ^ (l.length + (smallL (stepRow u l)).length) * 2) := by
    rw [show 2 * c + 1 + 1 = (c + 1) * 2 by omega, Nat.mul_assoc, Nat.mul_comm 2]
  rw [e2]
  exact h5
def RouthW (H : L2.Hp) (res : Bool) (m : Nat) (σ : L2.St) (H' : L2.Hp) : Prop := ∃ (pu pl : Addr) (u l : List Int) (c : Nat) (v2 v3 v4 : Option V), σ = [some (.ref pu), some (.ref pl), v2, v3, v4] ∧ Ex H H' ∧
  H' pu = some (.lst (u.map V.int)) ∧ H' pl = some (.lst (l.map V.int)) ∧ RouthPre c u l ∧ u.length + l.length = m ∧ routh m u l = res
theorem ok_routh {f : Addr} {fd : FuncData} (F : Fun K "_is_routh_positive" "_is_routh_positive" s_u_is_routh_positive f fd) (T : Txt mg tL tM tD) (d_u_with_small_numbers : Def P w K mg base "_with_small_numbers" 2 ["row"] (spSmallN K)) :
    FnOk P w K mg base CX0 3 f fd ["upper", "lower"] spRouth := by
  refine F.ok sc_u_is_routh_positive (fun vs H Q E h => ?_) (fun cdv A outer s H vs Q E hr h => ?_)
  · obtain ⟨pu, pl, u, l, c, rfl, _⟩ := h
    rfl
  · obtain ⟨pu0, pl0, u0, l0, c0, rfl, hu0, hl0, hpre0, k⟩ := h
    refine ⟨_, (pss_cons (ps_while PassesOwn.never (pt_truth (pv 1) (by intro _; rfl)) (pss_cons (ps_if (pt_cmpR op_le (pe_ix (r := rIxL K) ix_list (pv 1) pe_int (fun _ _ => rfl)) pe_int (nomark _)) (pss_one (ps_ret pe_bl)) pss_nil)
  (pss_cons (ps_set (i := 2) sc_u_is_routh_positive.nd rfl (Or.inr rfl) (pe_op op_cat (pv 1) (pe_op op_rep (pe_lst (pa_cons pe_int pa_nil)) (pe_op op_sub (pe_callB (r := Evl.rLenS K) call_len_seq (by rfl) T.b_len (by decide +kernel) (pa_cons (pv 0) pa_nil)) (pe_callB (r := Evl.rLenS K) call_len_seq (by rfl) T.b_len (by decide +kernel) (pa_cons (pv 1) pa_nil))))))
  (pss_cons (ps_setLc (i := 3) (own := [("at", 4)]) (g := gName 4) (tt := tYes) rfl sc_u_is_routh_positive.nd rfl rfl (sw_true rfl rfl rfl (by decide +kernel)) (pi_range2 rfl T.b_range (pa_cons pe_int (pa_cons (pe_callB (r := Evl.rLenS K) call_len_seq (by rfl) T.b_len (by decide +kernel) (pa_cons (pv 0) pa_nil)) pa_nil))) (blkOk_by (own := [("at", 4)]) (N := ["upper", "lower", "padded", "below", "at"]) (sc := defScope s_u_is_routh_positive) (by decide +kernel)) (fun _ _ _ _ _ => pg_name (i := 4) sc_u_is_routh_positive.nd rfl (Or.inl rfl)) (fun _ _ _ _ _ => pts_nil) (fun _ _ _ _ _ => (pe_op op_sub (pe_op op_mulW (pe_ix (r := rIxL K) ix_list (pv 1) pe_int (fun _ _ => rfl)) (pe_ix (r := rIxL K) ix_list (pv 0) (pv 4) (fun _ _ => rfl))) (pe_op op_mulW (pe_ix (r := rIxL K) ix_list (pv 0) pe_int (fun _ _ => rfl)) (pe_ix (r := rIxL K) ix_list (pv 2) (pv 4) (fun _ _ => rfl))))))
  (pss_one (ps_asg (pe_tup (pa_cons (pv 1) (pa_cons (pe_callD d_u_with_small_numbers (hr.mono (by decide)) (pa_cons (pv 3) pa_nil)) pa_nil))) (pg_tup rfl (pgs_cons (pg_name (i := 0) sc_u_is_routh_positive.nd rfl (Or.inr rfl)) (pgs_cons (pg_name (i := 1) sc_u_is_routh_positive.nd rfl (Or.inr rfl)) pgs_nil)))))))))
  (pss_one (ps_ret pe_bl))), ?_⟩
    refine ⟨RouthW H (routh (u0.length + l0.length) u0 l0), ⟨_, pu0, pl0, u0, l0, c0, none, none, none, rfl, Ex.refl H, hu0, hl0, hpre0, rfl, rfl⟩, ?_⟩
    rintro m σ H1 ⟨pu, pl, u, l, c, v2, v3, v4, rfl, e1, hu, hl, hpre, hm, hres⟩
    have hsz := pre_small hpre
    refine ⟨_, rfl, !(l.map V.int).isEmpty, .inl ⟨_, SqL.of hl, rfl⟩, ?_⟩
    cases hle : l with
    | nil =>
      refine iteF ?_
      subst hle
      have : routh m u [] = true := by cases m <;> rfl
      rw [this] at hres
      refine (show Q (.bl true) H1 from ?_)
      rw [hres]
      exact k _ e1
    | cons l1 ls =>
      refine iteT ?_
      have hlpos : 0 < l.length := by rw [hle]; simp
      have hupos : 0 < u.length := by have := hpre.1; omega
      have hm1 : m = (m - 1) + 1 := by omega
      have hr1 : routh m u l = if l.getD 0 0 ≤ 0 then false else routh (m - 1) l (smallL (stepRow u l)) := by
        rw [hm1, routh, hle]
        simp
      refine ⟨fun σ' H' => ∃ m', m' < m ∧ RouthW H (routh (u0.length + l0.length) u0 l0) m' σ' H', fun _ _ q => q, ?_⟩
      refine ⟨_, rfl, pl, _, _, _, rfl, rfl, SqL.of hl, at_map0 hlpos, _, _, rfl, rfl, _, rfl, ?_⟩
      refine ite2 (fun q => ?_) (fun q => ?_)
      · rw [hr1, if_pos (of_decide_eq_true q)] at hres
        refine (show Q (.bl false) H1 from ?_)
        rw [hres]
        exact k _ e1
      · have hpos : ¬ l.getD 0 0 ≤ 0 := fun z => q (decide_eq_true z)
        rw [hr1, if_neg hpos] at hres
        refine ⟨_, rfl, by decide, fun pz hz => ?_⟩
        have x1 : Ex H1 (upd H1 pz (.lst [.int 0])) := Ex.new hz
        refine ⟨_, rfl, pu, _, rfl, .inl (SqL.of (x1 _ _ hu)), _, rfl, pl, _, rfl, .inl (SqL.of (x1 _ _ hl)), _, _, rfl, rfl, ?_⟩
        rw [List.length_map, List.length_map]
        refine ⟨pz, _, _, rfl, rfl, upd_same, by omega, by omega, ?_, fun pr hpr => ?_⟩
        · show 1 * _ ≤ sizeLine
          exact Nat.le_trans (by omega : _ ≤ 100) (by decide)
        generalize hk : ((u.length : Int) - (l.length : Int)).toNat = kz at hpr ⊢
        have hrep : (List.replicate kz [V.int 0]).flatten = (List.replicate kz (0 : Int)).map V.int := by
          rw [show [V.int 0] = [(0 : Int)].map V.int from rfl, rep_int, rep_zero]
        rw [hrep]
        have x2 := x1.trans (Ex.new hpr (o := .lst ((List.replicate kz (0 : Int)).map V.int)))
        refine ⟨pl, pr, _, _, rfl, rfl, x2 _ _ hl, upd_same, ?_, fun pp hpp => ?_⟩
        · rw [List.length_map, List.length_map, List.length_replicate]
          exact Nat.le_trans (by omega : _ ≤ 100) (by decide)
        rw [← List.map_append]
        have x3 := x2.trans (Ex.new hpp (o := .lst ((l ++ List.replicate kz (0 : Int)).map V.int)))
        have hpad : upd (upd (upd H1 pz (.lst [.int 0])) pr (.lst ((List.replicate kz (0 : Int)).map V.int))) pp (.lst ((l ++ List.replicate kz (0 : Int)).map V.int)) pp = some (.lst ((l ++ List.replicate kz (0 : Int)).map V.int)) := upd_same
        generalize upd (upd (upd H1 pz (.lst [.int 0])) pr (.lst ((List.replicate kz (0 : Int)).map V.int))) pp (.lst ((l ++ List.replicate kz (0 : Int)).map V.int)) = H3 at x3 hpad ⊢
        refine ⟨_, rfl, pu, _, rfl, .inl (SqL.of (x3 _ _ hu)), _, _, rfl, ?_⟩
        rw [List.length_map]
        refine ⟨⟨by decide, by decide, by omega, by omega⟩, fun D hD => ?_⟩
        have en : ((u.length : Int) - 1).toNat = u.length - 1 := by omega
        rw [en]
        refine lc_range (lo := 1) (n := u.length - 1) (fun i H' => Ex H3 H' ∧ H' D = some (.lst ((stepTo u l i).map V.int))) ⟨Ex.new hD, upd_same⟩ ?_ ?_
        · rintro i H' hi ⟨e, hD'⟩
          have ei : (1 : Int) + (i : Int) = ((i + 1 : Nat) : Int) := by omega
          rw [ei]
          refine ⟨rfl, ?_⟩
          have hu' := e _ _ (x3 _ _ hu)
          have hl' := e _ _ (x3 _ _ hl)
          have hp' := e _ _ hpad
          refine ⟨_, rfl, pl, _, _, _, rfl, rfl, SqL.of hl', at_map0 hlpos, ?_⟩
          refine ⟨_, rfl, _, rfl, pu, _, _, _, rfl, rfl, SqL.of hu', at_map (by omega), _, _, rfl, rfl, ?_, ?_⟩
          · exact wide_mul (a := c + 1) (b := c + 1) ((hpre.2.2.2.1.mono (by omega)).getD _) ((hpre.2.2.1.mono (by omega)).getD _) (by omega) (by omega) (by omega)
          refine ⟨_, rfl, pu, _, _, _, rfl, rfl, SqL.of hu', at_map0 hupos, ?_⟩
          refine ⟨_, rfl, _, rfl, pp, _, _, _, rfl, rfl, SqL.of hp', at_map (by rw [List.length_append, List.length_replicate]; omega), _, _, rfl, rfl, ?_, ?_⟩
          · rw [pad_getD]
            exact wide_mul (a := c + 1) (b := c + 1) ((hpre.2.2.1.mono (by omega)).getD _) ((hpre.2.2.2.1.mono (by omega)).getD _) (by omega) (by omega) (by omega)
          rw [pad_getD]
          refine ⟨_, _, rfl, rfl, _, hD', ?_, Ex.mut e hD, ?_⟩
          · rw [List.length_map]
            exact Nat.lt_of_le_of_lt (by simp [stepTo]; omega : _ ≤ 100) (by decide)
          · rw [upd_same, stepTo_succ, List.map_append]
            rfl
        · rintro H' ⟨e, hD'⟩
          have hu' := e _ _ (x3 _ _ hu)
          have hl' := e _ _ (x3 _ _ hl)
          have hst : stepTo u l (u.length - 1) = stepRow u l := rfl
          rw [hst] at hD'
          have hn := pre_next hlpos hpre
          refine ⟨_, rfl, _, rfl, D, _, rfl, SqL.of hD', ?_, ?_, fun ps Hs hps es hs => ?_⟩
          · rw [stepRow_len]; omega
          · have hb := gcdL_lt (stepRow_bd hpre.2.2.1 hpre.2.2.2.1)
            refine Nat.lt_of_lt_of_le hb (Nat.pow_le_pow_right (by decide) ?_)
            have h9 := hn.2.2.2.2
            have h1 : 1 ≤ 2 ^ (l.length + (smallL (stepRow u l)).length) := Nat.one_le_two_pow
            have h2 : (2 * c + 1 + 1) * 1 ≤ (2 * c + 1 + 1) * 2 ^ (l.length + (smallL (stepRow u l)).length) := Nat.mul_le_mul_left _ h1
            omega
          refine ⟨by show 2 ≤ sizeLine; decide, fun pt hpt => ?_⟩
          refine ⟨pt, _, rfl, SqT.of upd_same, rfl, ?_⟩
          refine ⟨_, _, rfl, _, _, rfl, rfl, ?_⟩
          refine ⟨m - 1, by omega, pl, ps, l, smallL (stepRow u l), 2 * c + 1, _, _, _, rfl, ?_, ?_, ?_, hn, ?_, hres⟩
          · exact ((e1.trans x3).trans (e.trans es)).trans (Ex.new hpt)
          · exact (Ex.new hpt) _ _ (es _ _ hl')
          · exact (Ex.new hpt) _ _ hs
          · rw [smallL_len, stepRow_len]; omega

def spLeft (K : PySem.W.Frag) : Sp := fun vs H Q _ => ∃ (a : Addr) (ns : List Int) (c : Nat), vs = [.ref a] ∧ SqT K H a (ns.map V.int) ∧ Pol ns ∧ ns ≠ [] ∧ Bd c ns ∧ (c + 1) * 2 ^ ns.length ≤ 9000 ∧
  ∀ H', Ex H H' → Q (.bl (leftB ns)) H'
theorem ok_has_left {f : Addr} {fd : FuncData} (F : Fun K "has_left_roots" "has_left_roots" s_has_left_roots f fd) (T : Txt mg tL tM tD)
    (d_u_is_routh_positive : Def P w K mg base "_is_routh_positive" 3 ["upper", "lower"] spRouth) : FnOk P w K mg base CX0 4 f fd ["polynomial"] (spLeft K) := by
  refine F.ok sc_has_left_roots (fun vs H Q E h => ?_) (fun cdv A outer s H vs Q E hr h => ?_)
  · obtain ⟨a, ns, c, rfl, _⟩ := h
    rfl
  · obtain ⟨a, ns, c, rfl, hS, hp, hne, hb, hc, k⟩ := h
    refine ⟨_, (pss_cons (ps_set (i := 1) sc_has_left_roots.nd rfl (Or.inl rfl) (pe_callTy (r := Evl.rListS K) call_list_of (by rfl) T.b_list (by decide +kernel) (pa_cons (pe_revT (pv 0)) pa_nil)))
  (pss_cons (ps_if (pt_cmpR op_lt (pe_ix (r := rIxL K) ix_list (pv 1) pe_int (fun _ _ => rfl)) pe_int (nomark _)) (pss_one (ps_setLc (i := 1) (own := [("coefficient", 2)]) (g := gName 2) (tt := tYes) rfl sc_has_left_roots.nd rfl rfl (sw_true rfl rfl rfl (by decide +kernel)) (pi_list (pv 1)) (blkOk_by (own := [("coefficient", 2)]) (N := ["polynomial", "falling", "coefficient"]) (sc := defScope s_has_left_roots) (by decide +kernel)) (fun _ _ _ _ _ => pg_name (i := 2) sc_has_left_roots.nd rfl (Or.inl rfl)) (fun _ _ _ _ _ => pts_nil) (fun _ _ _ _ _ => (pe_un un_neg (pv 2))))) pss_nil)
  (pss_one (ps_ret (pe_callD d_u_is_routh_positive (hr.mono (by decide)) (pa_cons (pe_stepL (pv 1) po_none po_none (by decide)) (pa_cons (pe_stepL (pv 1) (po_some pe_int) po_none (by decide)) pa_nil))))))), ?_⟩
    have hnp : 0 < ns.length := List.length_pos_iff.mpr hne
    have h13 := hp.1
    refine ⟨_, rfl, a, _, rfl, hS, fun p hp' => ?_⟩
    have x1 : Ex H _ := Ex.new hp' (o := .tup (ns.map V.int).reverse)
    refine ⟨p, _, rfl, .inr (SqT.of upd_same), fun l hl => ?_⟩
    have x2 := x1.trans (Ex.new hl (o := .lst (ns.map V.int).reverse))
    have hfl : upd (upd H p (.tup (ns.map V.int).reverse)) l (.lst (ns.map V.int).reverse) l = some (.lst (ns.reverse.map V.int)) := by rw [upd_same, List.map_reverse]
    generalize upd (upd H p (.tup (ns.map V.int).reverse)) l (.lst (ns.map V.int).reverse) = H2 at x2 hfl ⊢
    have fin : ∀ (H3 : L2.Hp) (q : Addr) (v2 : Option V), Ex H H3 → H3 q = some (.lst ((fallN ns).map V.int)) → tRet (tCall spRouth [] E0 (tCons (tStepL K (tVar 1) tNoPart tNoPart 2) (tCons (tStepL K (tVar 1) (tPart (tC (.int 1))) tNoPart 2) tNil)))
        { nx := fun _ H' => Q .non H', rt := Q } [some (.ref a), some (.ref q), v2] H3 := by
      intro H3 q v2 e3 hq
      have el := evens_odds_len (fallN ns)
      rw [fallN_len] at el
      refine ⟨_, rfl, q, _, rfl, SqL.of hq, ?_, fun pe hpe => ?_⟩
      · rw [step_evens, evens_len]; omega
      rw [step_evens, evens_map]
      have y1 : Ex H3 (upd H3 pe (.lst ((evens (fallN ns)).map V.int))) := Ex.new hpe
      refine ⟨_, rfl, 1, rfl, q, _, rfl, SqL.of (y1 _ _ hq), ?_, fun po hpo => ?_⟩
      · rw [step_odds]; unfold odds; rw [evens_len, List.length_tail]; omega
      have eo : odds ((fallN ns).map V.int) = (odds (fallN ns)).map V.int := by
        unfold odds
        rw [← List.map_tail, evens_map]
      rw [step_odds, eo]
      have y2 := y1.trans (Ex.new hpo (o := .lst ((odds (fallN ns)).map V.int)))
      refine ⟨pe, po, evens (fallN ns), odds (fallN ns), c, rfl, ?_, upd_same, ⟨?_, ?_, evens_bd (fallN_bd hb), odds_bd (fallN_bd hb), ?_⟩, fun H' e' => ?_⟩
      · exact (Ex.new hpo) _ _ upd_same
      · unfold odds; rw [evens_len, evens_len, List.length_tail]; omega
      · unfold odds; rw [evens_len, evens_len, List.length_tail]; omega
      · rw [el]; exact hc
      · exact k _ ((e3.trans y2).trans e')
    have e0 : (ns.reverse.map V.int).length = ns.length := by simp
    refine ⟨_, rfl, l, _, _, _, rfl, rfl, SqL.of hfl, at_map0 (by rw [List.length_reverse]; exact hnp), _, _, rfl, rfl, _, rfl, ?_⟩
    refine ite2 (fun q => ?_) (fun q => ?_)
    · have hneg : ns.reverse.getD 0 0 < 0 := of_decide_eq_true q
      refine ⟨_, rfl, l, rfl, ⟨_, SqL.of hfl⟩, fun D hD => lc_list (K := K) (a := l) (xs := ns.reverse.map V.int) (fun i H' => Ex H2 H' ∧ H' D = some (.lst (((ns.reverse.take i).map fun z => -z).map V.int))) ⟨Ex.new hD, upd_same⟩ (fun i H' _ p => SqL.of (p.1 _ _ hfl)) ?_ ?_⟩
      · rintro i x H' hi ⟨e, hD'⟩
        obtain ⟨n, hn, rfl⟩ := map_int_get hi
        refine ⟨rfl, ?_⟩
        refine ⟨_, rfl, _, rfl, _, hD', ?_, Ex.mut e hD, ?_⟩
        · have := (List.getElem?_eq_some_iff.mp hn).1
          rw [List.length_reverse] at this
          exact Nat.lt_of_le_of_lt (by simp; omega : _ ≤ 100) (by decide)
        · rw [upd_same, List.take_add_one, hn]
          simp
      · rintro H' ⟨e, hD'⟩
        rw [List.length_map, List.take_length] at hD'
        refine fin H' D none (x2.trans e) ?_
        rw [hD', fallN, if_pos hneg]
    · have hneg : ¬ ns.reverse.getD 0 0 < 0 := fun z => q (decide_eq_true z)
      refine fin H2 l none x2 ?_
      rw [hfl, fallN, if_neg hneg]
theorem ok_is_left {f : Addr} {fd : FuncData} (F : Fun K "is_left" "is_left" s_is_left f fd) (d_u_check_not_zero : Def P w K mg base "_check_not_zero" 5 ["polynomial"] (spNotZero K))
    (d_has_left_roots : Def P w K mg base "has_left_roots" 4 ["polynomial"] (spLeft K)) : FnOk P w K mg base CX0 6 f fd ["polynomial"] (spLeft K) := by
  refine F.ok sc_is_left (fun vs H Q E h => ?_) (fun cdv A outer s H vs Q E hr h => ?_)
  · obtain ⟨a, ns, c, rfl, _⟩ := h
    rfl
  · obtain ⟨a, ns, c, rfl, hS, hp, hne, hb, hc, k⟩ := h
    refine ⟨_, (pss_cons (ps_expr (pe_callD d_u_check_not_zero (hr.mono (by decide)) (pa_cons (pv 0) pa_nil)))
  (pss_one (ps_ret (pe_callD d_has_left_roots (hr.mono (by decide)) (pa_cons (pv 0) pa_nil))))), ?_⟩
    exact ⟨_, rfl, a, ns, rfl, hS, hp, hne, fun H1 e1 => ⟨_, rfl, a, ns, c, rfl, ex_t e1 hS, hp, hne, hb, hc, fun H2 e2 => k _ (e1.trans e2)⟩⟩
end
end Coil

set_option Elab.async false
set_option linter.all false
set_option maxRecDepth 100000
set_option maxHeartbeats 4000000
set_option exponentiation.threshold 10000
namespace Coil
open PySem L2 Evl RT
theorem co_tS (p : List Int) (i : Nat) : co (timesS p) i = shp p i := by
  cases i with
  | zero => exact co_timesS0 p
  | succ i => exact co_timesS p i
theorem bd_tS {p : List Int} {B : Nat} (h : BdA B p) : BdA B (timesS p) := .of_co fun i => by
  rw [co_tS]
  cases i with
  | zero => exact Nat.zero_le _
  | succ i => exact h.co i
theorem bd_lin2 {c : Nat} {x y z w : Int} (h1 : x.natAbs ≤ 2 ^ c) (h2 : y.natAbs ≤ 2 ^ c) (h3 : z.natAbs ≤ 2 ^ c) (h4 : w.natAbs ≤ 2 ^ c) : (x * y - z * w).natAbs ≤ 2 ^ (2 * c + 1) := by
  have a1 := Int.natAbs_sub_le (x * y) (z * w)
  rw [Int.natAbs_mul, Int.natAbs_mul] at a1
  have a2 := Nat.mul_le_mul h1 h2
  have a3 := Nat.mul_le_mul h3 h4
  rw [← Nat.pow_add] at a2 a3
  rw [Nat.pow_succ, show 2 * c = c + c by omega]
  omega
theorem bd_g {g x y : Int} {B : Nat} (hg : g ≠ 0) (h : g * x = y) (hy : y.natAbs ≤ B) : x.natAbs ≤ B := by
  rw [← h, Int.natAbs_mul] at hy
  exact Nat.le_trans (Nat.le_mul_of_pos_left _ (by omega)) hy
section
variable {P : Program} {w : World} {K : PySem.W.Frag} {mg : Str → Option Value} {base : Heap} {tL tM tD : Tok}
def WfQ (Q : VK) (H : L2.Hp) (t b : List Int) (c : Nat) : Prop := ∀ pr H' (pu pv : Addr) (u v : List Int) (g : Int), H pr = none → Ex H H' → H' pr = some (.tup [.ref pu, .ref pv]) → H' pu = some (.tup (u.map V.int)) → H' pv = some (.tup (v.map V.int)) → Nm u → Nm v → g ≠ 0 → (∀ i, g * co u i = ldc b * co t i - ldc t * shp b i) → (∀ i, g * co v i = ldc b * co b i) → BdA (2 ^ (2 * c + 1)) u → BdA (2 ^ (2 * c + 1)) v → Q (.ref pr) H'
def spWfp (K : PySem.W.Frag) : Sp := fun vs H Q _ => ∃ (p q : Addr) (t b : List Int) (c : Nat), vs = [.ref p, .ref q] ∧ SqT K H p (t.map V.int) ∧ SqT K H q (b.map V.int) ∧ Nm t ∧ Nm b ∧ t ≠ [] ∧ b ≠ [] ∧ t.length ≤ 100 ∧ b.length ≤ 100 ∧ BdA (2 ^ c) t ∧ BdA (2 ^ c) b ∧ c ≤ 4000 ∧ WfQ Q H t b c
theorem ok_without_far {f : Addr} {fd : FuncData} (F : Fun K "_without_far_pole" "_without_far_pole" s_u_without_far_pole f fd) (T : Txt mg tL tM tD) (d_poly_difference : Def P w K mg base "poly_difference" 3 ["one", "other"] (spDiff K)) (d_poly_times_number : Def P w K mg base "poly_times_number" 2 ["polynomial", "number"] (spTimesN K)) (d_times_variable : Def P w K mg base "times_variable" 1 ["polynomial"] (spTimesV K)) (d_content : Def P w K mg base "content" 1 ["polynomial"] (spContent K)) (d_over_number : Def P w K mg base "over_number" 1 ["polynomial", "number"] (spOver K)) :
    FnOk P w K mg base CX0 4 f fd ["one", "other"] (spWfp K) := by
  refine F.ok sc_u_without_far_pole (fun vs H Q E h => ?_) (fun cdv A outer s H vs Q E hr h => ?_)
  · obtain ⟨p, q, t, b, c, rfl, _⟩ := h
    rfl
  · obtain ⟨p, q, t, b, c, rfl, hp, hq, nt, nb, t0, b0, lt, lb, bt, bb, hc, k⟩ := h
    refine ⟨_, (pss_cons (ps_set (i := 2) sc_u_without_far_pole.nd rfl (Or.inl rfl) (pe_callD d_poly_difference (hr.mono (by decide)) (pa_cons (pe_callD d_poly_times_number (hr.mono (by decide)) (pa_cons (pv 0) (pa_cons (pe_ix (r := rIxT K) ix_tup (pv 1) (pe_un un_neg pe_int) (fun _ _ => rfl)) pa_nil))) (pa_cons (pe_callD d_poly_times_number (hr.mono (by decide)) (pa_cons (pe_callD d_times_variable (hr.mono (by decide)) (pa_cons (pv 1) pa_nil)) (pa_cons (pe_ix (r := rIxT K) ix_tup (pv 0) (pe_un un_neg pe_int) (fun _ _ => rfl)) pa_nil))) pa_nil))))
  (pss_cons (ps_set (i := 3) sc_u_without_far_pole.nd rfl (Or.inl rfl) (pe_callD d_poly_times_number (hr.mono (by decide)) (pa_cons (pv 1) (pa_cons (pe_ix (r := rIxT K) ix_tup (pv 1) (pe_un un_neg pe_int) (fun _ _ => rfl)) pa_nil))))
  (pss_cons (ps_set (i := 4) sc_u_without_far_pole.nd rfl (Or.inl rfl) (pe_callBfun cr_gcd (by rfl) T.g_gcd (pa_cons (pe_callD d_content (hr.mono (by decide)) (pa_cons (pv 2) pa_nil)) (pa_cons (pe_callD d_content (hr.mono (by decide)) (pa_cons (pv 3) pa_nil)) pa_nil))))
  (pss_one (ps_ret (pe_tup (pa_cons (pe_callD d_over_number (hr.mono (by decide)) (pa_cons (pv 2) (pa_cons (pv 4) pa_nil))) (pa_cons (pe_callD d_over_number (hr.mono (by decide)) (pa_cons (pv 3) (pa_cons (pv 4) pa_nil))) pa_nil)))))))), ?_⟩
    have lc4 : (ldc t).natAbs ≤ 2 ^ c := bt.co _
    have lc5 : (ldc b).natAbs ≤ 2 ^ c := bb.co _
    have wm : ∀ {x : Int} {r : List Int}, x.natAbs ≤ 2 ^ c → BdA (2 ^ c) r → ∀ z ∈ r, CMulW x z := fun h1 h2 z hz => wide_mul (a := c + 1) (b := c + 1) (Nat.lt_of_le_of_lt h1 (Nat.pow_lt_pow_right (by decide) (by omega))) (Nat.lt_of_le_of_lt (h2 z hz) (Nat.pow_lt_pow_right (by decide) (by omega))) (by omega) (by omega) (by omega)
    refine ⟨_, rfl, _, rfl, _, rfl, q, _, _, _, rfl, rfl, hq, at_last b0, ?_⟩
    refine ⟨p, t, ldc b, rfl, hp, by omega, wm lc5 bt, fun p1 H1 u1 hp1 e1 h1 n1 l1 c1 => ?_⟩
    refine ⟨_, rfl, q, b, rfl, ex_t e1 hq, by omega, fun p2 H2 e2 h2 => ?_⟩
    have lS := timesS_len b
    refine ⟨_, rfl, _, rfl, p, _, _, _, rfl, rfl, ex_t (e1.trans e2) hp, at_last t0, ?_⟩
    refine ⟨p2, timesS b, ldc t, rfl, h2, by omega, wm lc4 (bd_tS bb), fun p3 H3 u3 hp3 e3 h3 n3 l3 c3 => ?_⟩
    have c1' : ∀ i, co u1 i = ldc b * co t i := c1
    have c3' : ∀ i, co u3 i = ldc t * shp b i := fun i => by have : co u3 i = ldc t * co (timesS b) i := c3 i; rw [this, co_tS]
    have b3 : BdA (2 ^ (2 * c + 1)) u3 := .of_co fun i => by
      rw [c3']
      have := bd_lin2 (c := c) (x := 0) (y := 0) (z := ldc t) (w := shp b i) (Nat.zero_le _) (Nat.zero_le _) lc4 (by have := (bd_tS bb).co i; rwa [co_tS] at this)
      rw [show (0 : Int) * 0 - ldc t * shp b i = -(ldc t * shp b i) by omega, Int.natAbs_neg] at this
      exact this
    refine ⟨p1, p3, u1, u3, 2 * c + 1, rfl, SqT.of (e3 _ _ (e2 _ _ h1)), SqT.of h3, by omega, by omega, b3, by omega, fun p4 H4 u4 hp4 e4 h4 n4 l4 c4 => ?_⟩
    have c4' : ∀ i, co u4 i = ldc b * co t i - ldc t * shp b i := fun i => by have : co u4 i = co u1 i - co u3 i := c4 i; rw [this, c1', c3']
    have e14 := ((e1.trans e2).trans e3).trans e4
    refine ⟨_, rfl, _, rfl, _, rfl, q, _, _, _, rfl, rfl, ex_t e14 hq, at_last b0, ?_⟩
    refine ⟨q, b, ldc b, rfl, ex_t e14 hq, by omega, wm lc5 bb, fun p5 H5 u5 hp5 e5 h5 n5 l5 c5 => ?_⟩
    have c5' : ∀ i, co u5 i = ldc b * co b i := c5
    have e15 := e14.trans e5
    have h45 := e5 _ _ h4
    refine ⟨_, rfl, p4, u4, rfl, SqT.of h45, _, rfl, p5, u5, rfl, SqT.of h5, _, _, rfl, ?_⟩
    have b4 : ∀ i, (co u4 i).natAbs ≤ 2 ^ (2 * c + 1) := fun i => by
      rw [c4']
      exact bd_lin2 lc5 (bt.co i) lc4 (by have := (bd_tS bb).co i; rwa [co_tS] at this)
    have b5 : ∀ i, (co u5 i).natAbs ≤ 2 ^ (2 * c + 1) := fun i => by
      rw [c5']
      have := bd_lin2 (c := c) (x := ldc b) (y := co b i) (z := 0) (w := 0) lc5 (bb.co i) (Nat.zero_le _) (Nat.zero_le _)
      rwa [show ldc b * co b i - 0 * 0 = ldc b * co b i by omega] at this
    have ldb : ldc b ≠ 0 := nb.resolve_left b0
    have u50 : Nz u5 := ⟨b.length - 1, by rw [c5']; exact Int.mul_ne_zero ldb ldb⟩
    have hg5 := gcdL_pos u50
    have hgp : 0 < Nat.gcd (gcdL u4).natAbs (gcdL u5).natAbs := Nat.gcd_pos_of_pos_right _ (by omega)
    have hgle : Nat.gcd (gcdL u4).natAbs (gcdL u5).natAbs ≤ 2 ^ (2 * c + 1) := Nat.le_trans (Nat.le_of_dvd (by omega) (Nat.gcd_dvd_right _ _)) (gcdL_le u50 b5)
    have hdv : ∀ x, CDivN x ((Nat.gcd (gcdL u4).natAbs (gcdL u5).natAbs : Nat) : Int) := fun x => divN (b := 8900) (by omega) (by
      rw [Int.natAbs_natCast]
      exact Nat.lt_of_le_of_lt hgle (Nat.pow_lt_pow_right (by decide) (by omega))) (by decide) (by decide)
    have dv : ∀ {r : List Int}, (Nat.gcd (gcdL u4).natAbs (gcdL u5).natAbs) ∣ (gcdL r).natAbs → DvA ((Nat.gcd (gcdL u4).natAbs (gcdL u5).natAbs : Nat) : Int) r := fun {r} h i => Int.dvd_trans (Int.ofNat_dvd_left.mpr h) (gcdL_dvd i)
    have dv4 := dv (r := u4) (Nat.gcd_dvd_left _ _)
    have dv5 := dv (r := u5) (Nat.gcd_dvd_right _ _)
    generalize hG : ((Nat.gcd (gcdL u4).natAbs (gcdL u5).natAbs : Nat) : Int) = G at *
    have hG0 : G ≠ 0 := by omega
    refine ⟨_, rfl, _, rfl, p4, u4, G, rfl, SqT.of h45, by omega, fun x _ => hdv x, fun p6 H6 hp6 e6 h6 => ?_⟩
    refine ⟨_, rfl, _, rfl, p5, u5, G, rfl, SqT.of (e6 _ _ h5), by omega, fun x _ => hdv x, fun p7 H7 hp7 e7 h7 => ?_⟩
    refine ⟨(by show 2 ≤ sizeLine; decide), fun pr hpr => ?_⟩
    have f8 := Ex.new hpr (o := .tup [.ref p6, .ref p7])
    have e17 := e15.trans (e6.trans e7)
    have r4 := fun i => co_overL hG0 dv4 i
    have r5 := fun i => co_overL hG0 dv5 i
    exact k pr _ p6 p7 _ _ G (fresh_back e17 hpr) (e17.trans f8) upd_same (f8 _ _ (e7 _ _ h6)) (f8 _ _ h7) (nm_overL hG0 dv4 n4) (nm_overL hG0 dv5 n5) hG0 (fun i => by rw [r4, c4']) (fun i => by rw [r5, c5']) (.of_co fun i => bd_g hG0 (r4 i) (b4 i)) (.of_co fun i => bd_g hG0 (r5 i) (b5 i))
end
end Coil

set_option Elab.async false
set_option linter.all false
set_option maxRecDepth 100000
set_option maxHeartbeats 4000000
set_option exponentiation.threshold 10000
namespace Coil
open PySem L2 Evl RT
theorem e_tp {dl : RungD} (hk : dl.k = .R) (hp : Pos dl) : Tp (zTop dl) 0 ∧ Tp (zBot dl) 0 := by
  have hd := den_pz dl.w
  have one : ∀ {c : Int}, 0 < c → Tp [c] 0 := fun h => ⟨h, fun i hi => co_over (by simp; omega)⟩
  unfold zTop zBot
  rw [hk]
  exact ⟨one hp, one hd⟩
theorem ne_true {t : List Int} (h : t ≠ []) : (!(t.map V.int).isEmpty) = true := by
  cases t with
  | nil => exact absurd rfl h
  | cons a t => rfl
theorem bt_app {done l : List RungD} : Bt (done ++ l) → Bt l := by
  induction done with
  | nil => exact fun h => h
  | cons d done ih => exact fun h => ih h.tl
theorem sqT_mut {K : PySem.W.Frag} {H : L2.Hp} {a D : Addr} {xs ys : List V} {o : HO} (h : SqT K H a xs) (hD : H D = some (.lst ys)) : SqT K (upd H D o) a xs := by
  rcases h with (h | ⟨u, h⟩) | h
  · refine .inl (.inl ?_)
    rw [upd_ne (fun z => by rw [z, hD] at h; cases h)]; exact h
  · refine .inl (.inr ⟨u, ?_⟩)
    rw [upd_ne (fun z => by rw [z, hD] at h; cases h)]; exact h
  · exact .inr h
theorem rat_w {q : Rat} {x y : Int} (hy : y ≠ 0) (h : x * ((q.den : Nat) : Int) = q.num * y) : (x : Rat) / (y : Rat) = q := by
  have h1 := rat_split q
  have h2 := den_ne q
  have h3 : (y : Rat) ≠ 0 := fun z => by
    have := Rat.intCast_inj.mp (show (y : Rat) = ((0 : Int) : Rat) from z)
    omega
  have h4 : (x : Rat) * (((q.den : Nat) : Int) : Rat) = ((q.num : Int) : Rat) * (y : Rat) := by rw [← Rat.intCast_mul, ← Rat.intCast_mul, h]
  rw [← h1] at h4
  generalize (((q.den : Nat) : Int) : Rat) = d at *
  grind
section
variable {P : Program} {w : World} {K : PySem.W.Frag} {mg : Str → Option Value} {base : Heap} {tL tM tD : Tok}
/-- ladders by turns with a resistor behind them, and the two polynomials -/
structure FrPre (l : List RungD) (dl : RungD) (t b : List Int) (c : Nat) : Prop where
  bt : Bt l
  pos : ∀ d ∈ dl :: l, Pos d
  k : dl.k = .R
  nt : Nm t
  nb : Nm b
  pr : Prp t b (ndL l (zTop dl, zBot dl)).1 (ndL l (zTop dl, zBot dl)).2
  bdt : BdA (2 ^ c) t
  bdb : BdA (2 ^ c) b
  sz : (c + 1) * 2 ^ l.length ≤ 4000
  l12 : l.length ≤ 12
def spFrr (K : PySem.W.Frag) : Sp := fun vs H Q _ => ∃ (p : Addr) (t b : List Int) (l : List RungD) (dl : RungD) (c : Nat), vs = [.ref p] ∧ PrO K H p t b ∧ FrPre l dl t b c ∧
  ∀ pr H' (prs pp : Addr) xs t' b', H pr = none → Ex H H' → H' pr = some (.tup [.ref prs, .ref pp]) → H' prs = some (.tup xs) → RgsO H' xs l → PrO K H' pp t' b' → Nm t' → Nm b' → Prp t' b' (zTop dl) (zBot dl) → BdA (2 ^ 4000) t' → BdA (2 ^ 4000) b' → Q (.ref pr) H'
def FrW (K : PySem.W.Frag) (H : L2.Hp) (p : Addr) (l : List RungD) (dl : RungD) (m : Nat) (σ : L2.St) (H' : L2.Hp) : Prop := ∃ (D pt pb : Addr) (xs : List V) (done rest : List RungD) (t b : List Int) (c : Nat), σ = [some (.ref p), some (.ref D), some (.ref pt), some (.ref pb)] ∧ Ex H H' ∧ H D = none ∧
  H' D = some (.lst xs) ∧ RgsO H' xs done ∧ done ++ rest = l ∧ SqT K H' pt (t.map V.int) ∧ SqT K H' pb (b.map V.int) ∧ FrPre rest dl t b c ∧ rest.length = m
theorem ok_far_rungs {f : Addr} {fd : FuncData} (F : Fun K "_far_rungs_and_rest" "_far_rungs_and_rest" s_u_far_rungs_and_rest f fd) (T : Txt mg tL tM tD) (d_ratio_of : Def P w K mg base "ratio_of" 1 ["number", "under"] spRatioOf) (d_u_without_far_pole : Def P w K mg base "_without_far_pole" 4 ["one", "other"] (spWfp K)) :
    FnOk P w K mg base CX0 5 f fd ["one"] (spFrr K) := by
  refine F.ok sc_u_far_rungs_and_rest (fun vs H Q E h => ?_) (fun cdv A outer s H vs Q E hr h => ?_)
  · obtain ⟨p, t, b, l, dl, c, rfl, _⟩ := h
    rfl
  · obtain ⟨p, t0, b0, l, dl, c0, rfl, hp, M, k⟩ := h
    refine ⟨_, (pss_cons (ps_set (i := 1) sc_u_far_rungs_and_rest.nd rfl (Or.inl rfl) (pe_lst pa_nil))
  (pss_cons (ps_asg (pv 0) (pg_tup rfl (pgs_cons (pg_name (i := 2) sc_u_far_rungs_and_rest.nd rfl (Or.inl rfl)) (pgs_cons (pg_name (i := 3) sc_u_far_rungs_and_rest.nd rfl (Or.inl rfl)) pgs_nil))))
  (pss_cons (ps_while PassesOwn.never (PW.pt (pw_and (pt_truth (pv 2) (by intro _; rfl)) (pw_and (pt_truth (pv 3) (by intro _; rfl)) (pw_and1 (pt_cmpR op_ne (pe_callB (r := Evl.rLenS K) call_len_seq (by rfl) T.b_len (by decide +kernel) (pa_cons (pv 2) pa_nil)) (pe_callB (r := Evl.rLenS K) call_len_seq (by rfl) T.b_len (by decide +kernel) (pa_cons (pv 3) pa_nil)) (nomark _)))))) (pss_one (ps_if (pt_cmpR op_gt (pe_callB (r := Evl.rLenS K) call_len_seq (by rfl) T.b_len (by decide +kernel) (pa_cons (pv 2) pa_nil)) (pe_callB (r := Evl.rLenS K) call_len_seq (by rfl) T.b_len (by decide +kernel) (pa_cons (pv 3) pa_nil)) (nomark _)) (pss_cons (ps_expr (pe_bm PySem.F.plainAttrs_list PySem.F.slot_list_append PySem.F.type_list_append mt_append (pv 1) (pa_cons (pe_tup (pa_cons pe_str (pa_cons pe_str (pa_cons (pe_callD d_ratio_of (hr.mono (by decide)) (pa_cons (pe_ix (r := rIxT K) ix_tup (pv 2) (pe_un un_neg pe_int) (fun _ _ => rfl)) (pa_cons (pe_ix (r := rIxT K) ix_tup (pv 3) (pe_un un_neg pe_int) (fun _ _ => rfl)) pa_nil))) pa_nil)))) pa_nil)))
  (pss_one (ps_asg (pe_callD d_u_without_far_pole (hr.mono (by decide)) (pa_cons (pv 2) (pa_cons (pv 3) pa_nil))) (pg_tup rfl (pgs_cons (pg_name (i := 2) sc_u_far_rungs_and_rest.nd rfl (Or.inl rfl)) (pgs_cons (pg_name (i := 3) sc_u_far_rungs_and_rest.nd rfl (Or.inl rfl)) pgs_nil)))))) (pss_cons (ps_expr (pe_bm PySem.F.plainAttrs_list PySem.F.slot_list_append PySem.F.type_list_append mt_append (pv 1) (pa_cons (pe_tup (pa_cons pe_str (pa_cons pe_str (pa_cons (pe_callD d_ratio_of (hr.mono (by decide)) (pa_cons (pe_ix (r := rIxT K) ix_tup (pv 3) (pe_un un_neg pe_int) (fun _ _ => rfl)) (pa_cons (pe_ix (r := rIxT K) ix_tup (pv 2) (pe_un un_neg pe_int) (fun _ _ => rfl)) pa_nil))) pa_nil)))) pa_nil)))
  (pss_one (ps_asg (pe_callD d_u_without_far_pole (hr.mono (by decide)) (pa_cons (pv 3) (pa_cons (pv 2) pa_nil))) (pg_tup rfl (pgs_cons (pg_name (i := 3) sc_u_far_rungs_and_rest.nd rfl (Or.inl rfl)) (pgs_cons (pg_name (i := 2) sc_u_far_rungs_and_rest.nd rfl (Or.inl rfl)) pgs_nil)))))))))
  (pss_one (ps_ret (pe_tup (pa_cons (pe_callTy call_tuple_of (by rfl) T.b_tuple (by decide +kernel) (pa_cons (pv 1) pa_nil)) (pa_cons (pe_tup (pa_cons (pv 2) (pa_cons (pv 3) pa_nil))) pa_nil)))))))), ?_⟩
    obtain ⟨pt0, pb0, g1, g2, g3⟩ := hp.ex
    obtain ⟨z1, z2⟩ := e_tp M.k (M.pos dl List.mem_cons_self)
    refine ⟨(by show 0 ≤ sizeLine; decide), fun D hD => ?_⟩
    have e0 := Ex.new hD (o := .lst [])
    refine ⟨_, rfl, p, _, rfl, ex_t e0 g1, rfl, ?_⟩
    refine ⟨_, _, rfl, _, _, rfl, rfl, ?_⟩
    refine ⟨FrW K H p l dl, ⟨l.length, D, pt0, pb0, [], [], l, t0, b0, c0, rfl, e0, hD, upd_same, RgsO.nil, rfl, ex_t e0 g2, ex_t e0 g3, M, rfl⟩, ?_⟩
    rintro m σ H1 ⟨D, pt, pb, xs, done, rest, t, b, c, rfl, e1, hD, hl, hx, hdn, ht, hb, N, hm⟩
    obtain ⟨al, be, ha, hbe, p1, p2⟩ := id N.pr
    have hND := ndT N.bt (fun q hq => N.pos q (List.mem_cons_of_mem _ hq)) (e := (zTop dl, zBot dl)) z1 z2
    have tne : t ≠ [] := fun z => by
      subst z
      cases rest with
      | nil => exact (prp_len ha hbe p1 hND.1 N.nt).1 |> fun h => by simp at h
      | cons d r =>
        rcases Bool.eq_false_or_eq_true d.s with hs | hs
        · have := (far_S N.bt (fun q hq => N.pos q (List.mem_cons_of_mem _ hq)) z1 z2 hs N.nt N.nb N.pr).1
          simp at this
        · have := (far_P N.bt (fun q hq => N.pos q (List.mem_cons_of_mem _ hq)) z1 z2 hs N.nt N.nb N.pr).2.1
          simp at this
    have bne : b ≠ [] := fun z => by
      subst z
      cases rest with
      | nil => exact (prp_len ha hbe p2 hND.2 N.nb).1 |> fun h => by simp at h
      | cons d r =>
        rcases Bool.eq_false_or_eq_true d.s with hs | hs
        · have := (far_S N.bt (fun q hq => N.pos q (List.mem_cons_of_mem _ hq)) z1 z2 hs N.nt N.nb N.pr).2.1
          simp at this
        · have := (far_P N.bt (fun q hq => N.pos q (List.mem_cons_of_mem _ hq)) z1 z2 hs N.nt N.nb N.pr).1
          simp at this
    have hc4 : c + 1 ≤ 4000 := Nat.le_trans (Nat.le_mul_of_pos_right _ (Nat.pow_pos (by decide))) N.sz
    refine ⟨_, rfl, true, .inr (.inl ⟨_, ht, (ne_true tne).symm⟩), iteT ?_⟩
    refine ⟨_, rfl, true, .inr (.inl ⟨_, hb, (ne_true bne).symm⟩), iteT ?_⟩
    refine ⟨_, rfl, pt, _, rfl, .inr ht, _, rfl, pb, _, rfl, .inr hb, rfl, _, rfl, ?_⟩
    rw [List.length_map, List.length_map]
    cases rest with
    | nil =>
      have l1 := (prp_len ha hbe p1 hND.1 N.nt).1
      have l2 := (prp_len ha hbe p2 hND.2 N.nb).1
      refine ifNF (by rw [l1, l2]) ?_
      refine ⟨_, rfl, D, _, rfl, .inl ⟨SqL.of hl, fun pq hpq => ?_⟩⟩
      have f1 := Ex.new hpq (o := .tup xs)
      refine ⟨_, rfl, _, rfl, (by show 2 ≤ sizeLine; decide), fun pp hpp => ?_⟩
      have f2 := f1.trans (Ex.new hpp (o := .tup [.ref pt, .ref pb]))
      refine ⟨(by show 2 ≤ sizeLine; decide), fun pr hpr => ?_⟩
      have f3 := f2.trans (Ex.new hpr (o := .tup [.ref pq, .ref pp]))
      have up : ∀ {r : List Int}, BdA (2 ^ c) r → BdA (2 ^ 4000) r := fun h => h.mono (Nat.pow_le_pow_right (by decide) (by omega))
      rw [List.append_nil] at hdn
      subst hdn
      refine k pr _ pq pp xs t b (fresh_back (e1.trans f2) hpr) (e1.trans f3) upd_same ?_ (hx.ex' f3) ⟨pt, pb, ?_, ex_t f3 ht, ex_t f3 hb⟩ N.nt N.nb N.pr (up N.bdt) (up N.bdb)
      · exact ((Ex.new hpr (o := .tup [.ref pq, .ref pp])) _ _ ((Ex.new hpp (o := .tup [.ref pt, .ref pb])) _ _ upd_same))
      · exact SqT.of ((Ex.new hpr (o := .tup [.ref pq, .ref pp])) _ _ upd_same)
    | cons d r =>
      have hp' := fun q hq => N.pos q (List.mem_cons_of_mem _ hq)
      have hn13 : done.length ≤ 12 := by
        have := congrArg List.length hdn
        rw [List.length_append] at this
        have := M.l12
        omega
      have hsz' : (2 * c + 1 + 1) * 2 ^ r.length ≤ 4000 := by
        have := N.sz
        rw [List.length_cons, Nat.pow_succ] at this
        rw [show 2 * c + 1 + 1 = (c + 1) * 2 by omega, Nat.mul_assoc, Nat.mul_comm 2]
        exact this
      have hr12 : r.length ≤ 12 := by have := N.l12; rw [List.length_cons] at this; omega
      have hb9 : ∀ {r : List Int}, BdA (2 ^ c) r → (ldc r).natAbs < 2 ^ 8900 := fun h => Nat.lt_of_le_of_lt (h.co _) (Nat.pow_lt_pow_right (by decide) (by omega))
      have pos' : ∀ q ∈ dl :: r, Pos q := fun q hq => N.pos q (by rcases List.mem_cons.mp hq with rfl | h; exact List.mem_cons_self; exact List.mem_cons_of_mem _ (List.mem_cons_of_mem _ h))
      have hxl : xs.length ≤ 12 := by rw [hx.1]; exact hn13
      rcases Bool.eq_false_or_eq_true d.s with hs | hs
      · obtain ⟨l1, l2, b0, hw, nx⟩ := far_S N.bt hp' z1 z2 hs N.nt N.nb N.pr
        have hk : d.k = .L := by rcases N.bt.hd with ⟨_, h⟩ | ⟨h, _⟩; exact h; rw [hs] at h; cases h
        refine ifNT (fun z => by have := V.int.inj z; omega) ?_
        refine ⟨fun σ' H' => ∃ m', m' < m ∧ FrW K H p l dl m' σ' H', fun _ _ q => q, ?_⟩
        refine ⟨_, rfl, pt, _, rfl, .inr ht, _, rfl, pb, _, rfl, .inr hb, _, _, rfl, rfl, _, rfl, ?_⟩
        rw [List.length_map, List.length_map]
        refine ite2 (fun _ => ?_) (fun z => absurd (decide_eq_true (by rw [l1, l2]; omega)) z)
        refine ⟨_, rfl, (.inl ⟨rfl, _, SqL.of hl⟩), ?_⟩
        refine ⟨_, rfl, _, rfl, pt, _, _, _, rfl, rfl, ht, at_last tne, _, rfl, _, rfl, pb, _, _, _, rfl, rfl, hb, at_last bne, ?_⟩
        refine ⟨_, _, rfl, b0, hb9 N.bdt, hb9 N.bdb, fun pq H2 a e hpq e2 hq hr1 hqe _ _ => ?_⟩
        have hq' : RO H2 pq d.w := ro_of b0 hr1 hqe (rat_w b0 hw) hq
        refine ⟨(by show 3 ≤ sizeLine; decide), fun p4 hp4 => ?_⟩
        have f4 := Ex.new hp4 (o := .tup [.str "S", .str "L", .ref pq])
        have g4 := e2.trans f4
        have hd : RgO (upd H2 p4 (.tup [.str "S", .str "L", .ref pq])) p4 d := ⟨pq, by rw [hs, hk]; exact upd_same, hq'.ex' f4⟩
        have hl4 := g4 _ _ hl
        have hx4 := (hx.ex' g4).snoc hd
        have ht4 := ex_t g4 ht
        have hb4 := ex_t g4 hb
        have e14 := e1.trans g4
        generalize upd H2 p4 (.tup [.str "S", .str "L", .ref pq]) = H4 at hl4 hx4 ht4 hb4 e14
        refine ⟨D, xs, _, rfl, rfl, hl4, line_of (by omega), ?_⟩
        have hx5 := hx4.mut (o := .lst (xs ++ [.ref p4])) hl4
        have ht5 := sqT_mut (o := .lst (xs ++ [.ref p4])) ht4 hl4
        have hb5 := sqT_mut (o := .lst (xs ++ [.ref p4])) hb4 hl4
        have e15 := Ex.mut (o := .lst (xs ++ [.ref p4])) e14 hD
        have hl5 : upd H4 D (.lst (xs ++ [.ref p4])) D = some (.lst (xs ++ [.ref p4])) := upd_same
        generalize upd H4 D (.lst (xs ++ [.ref p4])) = H5 at hx5 ht5 hb5 e15 hl5
        refine ⟨_, rfl, _, rfl, pt, pb, t, b, c, rfl, ht5, hb5, N.nt, N.nb, tne, bne, by omega, by omega, N.bdt, N.bdb, by omega, fun pr H6 pu pv u v g hpr e6 h1 h2 h3 nu nv hg hu hv bu bv => ?_⟩
        refine ⟨pr, _, rfl, SqT.of h1, rfl, ?_⟩
        refine ⟨_, _, rfl, _, _, rfl, rfl, ?_⟩
        refine ⟨r.length, by rw [← hm]; simp, D, pu, pv, xs ++ [.ref p4], done ++ [d], r, u, v, 2 * c + 1, rfl, e15.trans e6, hD, e6 _ _ hl5, hx5.ex' e6, by rw [← hdn]; simp, SqT.of h2, SqT.of h3, ⟨N.bt.tl, pos', N.k, nu, nv, nx u v g hg hu hv, bu, bv, hsz', hr12⟩, rfl⟩
      · obtain ⟨l1, l2, b0, hw, nx⟩ := far_P N.bt hp' z1 z2 hs N.nt N.nb N.pr
        have hk : d.k = .C := by rcases N.bt.hd with ⟨h, _⟩ | ⟨_, h⟩; rw [hs] at h; cases h; exact h
        refine ifNT (fun z => by have := V.int.inj z; omega) ?_
        refine ⟨fun σ' H' => ∃ m', m' < m ∧ FrW K H p l dl m' σ' H', fun _ _ q => q, ?_⟩
        refine ⟨_, rfl, pt, _, rfl, .inr ht, _, rfl, pb, _, rfl, .inr hb, _, _, rfl, rfl, _, rfl, ?_⟩
        rw [List.length_map, List.length_map]
        refine ite2 (fun z => absurd (of_decide_eq_true z) (by rw [l1, l2]; omega)) (fun _ => ?_)
        refine ⟨_, rfl, (.inl ⟨rfl, _, SqL.of hl⟩), ?_⟩
        refine ⟨_, rfl, _, rfl, pb, _, _, _, rfl, rfl, hb, at_last bne, _, rfl, _, rfl, pt, _, _, _, rfl, rfl, ht, at_last tne, ?_⟩
        refine ⟨_, _, rfl, b0, hb9 N.bdb, hb9 N.bdt, fun pq H2 a e hpq e2 hq hr1 hqe _ _ => ?_⟩
        have hq' : RO H2 pq d.w := ro_of b0 hr1 hqe (rat_w b0 hw) hq
        refine ⟨(by show 3 ≤ sizeLine; decide), fun p4 hp4 => ?_⟩
        have f4 := Ex.new hp4 (o := .tup [.str "P", .str "C", .ref pq])
        have g4 := e2.trans f4
        have hd : RgO (upd H2 p4 (.tup [.str "P", .str "C", .ref pq])) p4 d := ⟨pq, by rw [hs, hk]; exact upd_same, hq'.ex' f4⟩
        have hl4 := g4 _ _ hl
        have hx4 := (hx.ex' g4).snoc hd
        have ht4 := ex_t g4 ht
        have hb4 := ex_t g4 hb
        have e14 := e1.trans g4
        generalize upd H2 p4 (.tup [.str "P", .str "C", .ref pq]) = H4 at hl4 hx4 ht4 hb4 e14
        refine ⟨D, xs, _, rfl, rfl, hl4, line_of (by omega), ?_⟩
        have hx5 := hx4.mut (o := .lst (xs ++ [.ref p4])) hl4
        have ht5 := sqT_mut (o := .lst (xs ++ [.ref p4])) ht4 hl4
        have hb5 := sqT_mut (o := .lst (xs ++ [.ref p4])) hb4 hl4
        have e15 := Ex.mut (o := .lst (xs ++ [.ref p4])) e14 hD
        have hl5 : upd H4 D (.lst (xs ++ [.ref p4])) D = some (.lst (xs ++ [.ref p4])) := upd_same
        generalize upd H4 D (.lst (xs ++ [.ref p4])) = H5 at hx5 ht5 hb5 e15 hl5
        refine ⟨_, rfl, _, rfl, pb, pt, b, t, c, rfl, hb5, ht5, N.nb, N.nt, bne, tne, by omega, by omega, N.bdb, N.bdt, by omega, fun pr H6 pu pv u v g hpr e6 h1 h2 h3 nu nv hg hu hv bu bv => ?_⟩
        refine ⟨pr, _, rfl, SqT.of h1, rfl, ?_⟩
        refine ⟨_, _, rfl, _, _, rfl, rfl, ?_⟩
        refine ⟨r.length, by rw [← hm]; simp, D, pv, pu, xs ++ [.ref p4], done ++ [d], r, v, u, 2 * c + 1, rfl, e15.trans e6, hD, e6 _ _ hl5, hx5.ex' e6, by rw [← hdn]; simp, SqT.of h3, SqT.of h2, ⟨N.bt.tl, pos', N.k, nv, nu, nx u v g hg hu hv, bv, bu, hsz', hr12⟩, rfl⟩
end
end Coil

set_option Elab.async false
set_option linter.all false
set_option maxRecDepth 100000
set_option maxHeartbeats 4000000
set_option exponentiation.threshold 10000
namespace Coil
open PySem L2 Evl RT
/-- the last rung ahead of the resistor -/
def lastS (l : List RungD) : Bool := (l.getLast?.map (·.s)).getD true
theorem sS_S (s : Bool) : (V.str (sS s) = V.str "S") ↔ s = true := by cases s <;> simp [sS] <;> decide +kernel
section
variable {P : Program} {w : World} {K : PySem.W.Frag} {mg : Str → Option Value} {base : Heap} {tL tM tD : Tok}
def spFwr (K : PySem.W.Frag) : Sp := fun vs H Q _ => ∃ (p : Addr) (t b : List Int) (l : List RungD) (dl : RungD) (c : Nat), vs = [.ref p] ∧ PrO K H p t b ∧ FrPre l dl t b c ∧ l ≠ [] ∧ dl.s = !(lastS l) ∧
  ∀ pr H' xs, H pr = none → Ex H H' → H' pr = some (.tup xs) → RgsO H' xs (l ++ [dl]) → Q (.ref pr) H'
theorem ok_far_res {f : Addr} {fd : FuncData} (F : Fun K "far_rungs_with_resistor" "far_rungs_with_resistor" s_far_rungs_with_resistor f fd) (T : Txt mg tL tM tD) (d_u_far_rungs_and_rest : Def P w K mg base "_far_rungs_and_rest" 5 ["one"] (spFrr K)) (d_ratio_of : Def P w K mg base "ratio_of" 1 ["number", "under"] spRatioOf) :
    FnOk P w K mg base CX0 6 f fd ["one"] (spFwr K) := by
  refine F.ok sc_far_rungs_with_resistor (fun vs H Q E h => ?_) (fun cdv A outer s H vs Q E hr h => ?_)
  · obtain ⟨p, t, b, l, dl, c, rfl, _⟩ := h
    rfl
  · obtain ⟨p, t, b, l, dl, c, rfl, hp, M, hne, hds, k⟩ := h
    refine ⟨_, (pss_cons (ps_asg (pe_callD d_u_far_rungs_and_rest (hr.mono (by decide)) (pa_cons (pv 0) pa_nil)) (pg_tup rfl (pgs_cons (pg_name (i := 2) sc_far_rungs_with_resistor.nd rfl (Or.inl rfl)) (pgs_cons (pg_tup rfl (pgs_cons (pg_name (i := 3) sc_far_rungs_with_resistor.nd rfl (Or.inl rfl)) (pgs_cons (pg_name (i := 4) sc_far_rungs_with_resistor.nd rfl (Or.inl rfl)) pgs_nil))) pgs_nil))))
  (pss_cons (ps_set (i := 1) sc_far_rungs_with_resistor.nd rfl (Or.inl rfl) (pe_ifExp (pt_cmpR op_eq (pe_ix (r := rIxT K) ix_tup (pe_ix (r := rIxT K) ix_tup (pv 2) (pe_un un_neg pe_int) (fun _ _ => rfl)) pe_int (fun _ _ => rfl)) pe_str (nomark _)) pe_str pe_str))
  (pss_one (ps_ret (pe_op op_catA (pv 2) (pe_tup (pa_cons (pe_tup (pa_cons (pv 1) (pa_cons pe_str (pa_cons (pe_callD d_ratio_of (hr.mono (by decide)) (pa_cons (pe_ix (r := rIxT K) ix_tup (pv 3) pe_int (fun _ _ => rfl)) (pa_cons (pe_ix (r := rIxT K) ix_tup (pv 4) pe_int (fun _ _ => rfl)) pa_nil))) pa_nil)))) pa_nil))))))), ?_⟩
    refine ⟨_, rfl, p, t, b, l, dl, c, rfl, hp, M, fun pr H1 prs pp xs t' b' hpr e1 h1 h2 hx hpp nt nb hP bt bb => ?_⟩
    obtain ⟨pt, pb, g1, g2, g3⟩ := hpp.ex
    refine ⟨pr, _, rfl, SqT.of h1, rfl, ?_⟩
    refine ⟨_, _, rfl, _, _, rfl, ?_⟩
    refine ⟨pp, _, rfl, g1, rfl, ?_⟩
    refine ⟨_, _, rfl, _, _, rfl, rfl, ?_⟩
    refine ⟨rfl, ?_⟩
    -- the last of the rungs
    have hln : xs.length = l.length := hx.1
    have hl0 : 0 < l.length := List.length_pos_iff.mpr hne
    obtain ⟨pl, hpl, hd⟩ := hx.2 (xs.length - 1) _ (List.getElem?_eq_getElem (by omega))
    have hat : atI xs (-1) = some (.ref pl) := at_lastV (by rw [List.getElem?_eq_getElem (by omega), hpl])
    have hls : (l.getD (xs.length - 1) default).s = lastS l := by
      unfold lastS
      rw [List.getLast?_eq_getElem?, List.getD_eq_getElem?_getD, hln]
      rw [List.getElem?_eq_getElem (by omega)]
      rfl
    obtain ⟨pw, hd1, hd2⟩ := hd
    rw [hls] at hd1
    refine ⟨_, rfl, _, rfl, prs, _, _, _, rfl, rfl, SqT.of h2, hat, pl, _, _, _, rfl, rfl, SqT.of hd1, rfl, rfl, _, rfl, ?_⟩
    obtain ⟨al, be, ha, hbe, q1, q2⟩ := hP
    obtain ⟨z1, z2⟩ := e_tp M.k (M.pos dl List.mem_cons_self)
    have t1 := prp_len ha hbe q1 z1 nt
    have t2 := prp_len ha hbe q2 z2 nb
    have hbz : co b' 0 ≠ 0 := by have := t2.2.1; unfold ldc at this; rwa [t2.1] at this
    have hw : co t' 0 * ((dl.w.den : Nat) : Int) = dl.w.num * co b' 0 := by
      have e1 : co (zTop dl) 0 = dl.w.num := by unfold zTop; rw [M.k]; rfl
      have e2 : co (zBot dl) 0 = ((dl.w.den : Nat) : Int) := by unfold zBot; rw [M.k]; rfl
      have w1 := q1 0
      have w2 := q2 0
      rw [e1] at w1
      rw [e2] at w2
      refine Int.eq_of_mul_eq_mul_left (Int.mul_ne_zero ha hbe) ?_
      have : al * be * (co t' 0 * ((dl.w.den : Nat) : Int)) = al * co t' 0 * (be * ((dl.w.den : Nat) : Int)) := by grind
      rw [this, w1, ← w2]; grind
    have fin : ∀ s : Bool, s = dl.s → ∀ (H2 : L2.Hp), Ex H1 H2 → tRet (tOp (rCatA K) (tVar 2) (tTup (tCons (tTup (tCons (tVar 1) (tCons (tC (V.str "R")) (tCons (tCall spRatioOf [] E0 (tCons (tOp (rIxT K) (tVar 3) (tC (V.int 0))) (tCons (tOp (rIxT K) (tVar 4) (tC (V.int 0))) tNil))) tNil)))) tNil))) { nx := fun _ H' => Q .non H', rt := Q } [some (.ref p), some (.str (sS s)), some (.ref prs), some (.ref pt), some (.ref pb)] H2 := by
      intro s hs H2 e2
      have l1 := t1.1
      have l2 := t2.1
      have hb9 : ∀ {r : List Int}, BdA (2 ^ 4000) r → (co r 0).natAbs < 2 ^ 8900 := fun h => Nat.lt_of_le_of_lt (h.co 0) (Nat.pow_lt_pow_right (by decide) (by decide))
      refine ⟨_, rfl, _, rfl, ?_⟩
      refine ⟨_, rfl, pt, _, _, _, rfl, rfl, ex_t e2 g2, at_map0 (by omega), _, rfl, pb, _, _, _, rfl, rfl, ex_t e2 g3, at_map0 (by omega), ?_⟩
      refine ⟨co t' 0, co b' 0, rfl, hbz, hb9 bt, hb9 bb, fun pq H3 a e hpq e3 hq hr1 hqe _ _ => ?_⟩
      have hq' : RO H3 pq dl.w := ro_of hbz hr1 hqe (rat_w hbz hw) hq
      refine ⟨(by show 3 ≤ sizeLine; decide), fun p4 hp4 => ?_⟩
      have f4 := Ex.new hp4 (o := .tup [.str (sS s), .str "R", .ref pq])
      have hd : RgO (upd H3 p4 (.tup [.str (sS s), .str "R", .ref pq])) p4 dl := ⟨pq, by rw [hs, M.k]; exact upd_same, hq'.ex' f4⟩
      refine ⟨(by show 1 ≤ sizeLine; decide), fun p5 hp5 => ?_⟩
      have f5 := Ex.new hp5 (o := .tup [.ref p4])
      have g5 := (e2.trans e3).trans (f4.trans f5)
      have hxl := M.l12
      refine ⟨prs, p5, xs, [.ref p4], rfl, rfl, SqT.of (g5 _ _ h2), SqT.of upd_same, (by have := line_of (n := xs.length + 1) (by omega); exact Nat.le_of_lt this), fun z => ?_, fun _ z => (nomatch z), fun _ _ p6 hp6 => ?_⟩
      · rw [z] at hln; simp at hln; omega
      · have f6 := Ex.new hp6 (o := .tup (xs ++ [.ref p4]))
        have eA := e1.trans g5
        exact k p6 _ _ (fresh_back eA hp6) (eA.trans f6) upd_same (((hx.ex' g5).ex' f6).snoc ((hd.ex' f5).ex' f6))
    refine ite2 (fun z => ?_) (fun z => ?_)
    · have hsl : lastS l = true := (sS_S _).mp (of_decide_eq_true z)
      exact fin false (by rw [hds, hsl]; rfl) _ (Ex.refl _)
    · have hsl : lastS l = false := by
        cases h : lastS l with
        | false => rfl
        | true => exact absurd (decide_eq_true ((sS_S _).mpr h)) z
      exact fin true (by rw [hds, hsl]; rfl) _ (Ex.refl _)
/-! ### filter_ladder where there is a ladder -/
structure FlPre (left echo : List Int) (l : List RungD) (dl : RungD) (c cb : Nat) : Prop where
  pl : Pol left
  pe : Pol echo
  nl : Nm left
  ne : Nm echo
  l2 : 2 ≤ left.length
  l20 : left.length ≤ 13 ∧ echo.length ≤ 13
  lb : leftB left = true
  bl : Bd cb left
  sb : (cb + 1) * 2 ^ left.length ≤ 9000
  b1 : BdA (2 ^ 200) left
  b2 : BdA (2 ^ 200) echo
  gap : ∃ g : Int, 0 < g ∧ ∀ x, ev left x * ev left (-x) - ev echo x * ev echo (-x) = g
  lne : l ≠ []
  ds : dl.s = !(lastS l)
  fr : ∀ t b : List Int, Nm t → Nm b → (∀ i, co t i = co left i + co echo i) → (∀ i, co b i = co left i - co echo i) → FrPre l dl t b c
def spFilt (K : PySem.W.Frag) : Sp := fun vs H Q _ => ∃ (p q : Addr) (left echo : List Int) (l : List RungD) (dl : RungD) (c cb : Nat), vs = [.ref p, .ref q] ∧ SqT K H p (left.map V.int) ∧ SqT K H q (echo.map V.int) ∧ FlPre left echo l dl c cb ∧
  ∀ pr H' xs, H pr = none → Ex H H' → H' pr = some (.tup xs) → RgsO H' xs (l ++ [dl]) → Q (.ref pr) H'
theorem ok_filter_ladder {f : Addr} {fd : FuncData} (F : Fun K "filter_ladder" "filter_ladder" s_filter_ladder f fd) (T : Txt mg tL tM tD) (d_check_polynomial : Def P w K mg base "check_polynomial" 4 ["value"] (spCheck K)) (d_has_left_roots : Def P w K mg base "has_left_roots" 4 ["polynomial"] (spLeft K)) (d_poly_difference : Def P w K mg base "poly_difference" 3 ["one", "other"] (spDiff K)) (d_poly_product : Def P w K mg base "poly_product" 1 ["one", "other"] (spProd K)) (d_backwards : Def P w K mg base "backwards" 1 ["polynomial"] (spBackwards K)) (d_poly_sum : Def P w K mg base "poly_sum" 2 ["one", "other"] (spSum K)) (d_far_rungs_with_resistor : Def P w K mg base "far_rungs_with_resistor" 6 ["one"] (spFwr K)) :
    FnOk P w K mg base CX0 7 f fd ["left", "echo"] (spFilt K) := by
  refine F.ok sc_filter_ladder (fun vs H Q E h => ?_) (fun cdv A outer s H vs Q E hr h => ?_)
  · obtain ⟨p, q, left, echo, l, dl, c, cb, rfl, _⟩ := h
    rfl
  · obtain ⟨p, q, left, echo, l, dl, c, cb, rfl, hp, hq, M, k⟩ := h
    refine ⟨_, (pss_cons (ps_expr (pe_callD d_check_polynomial (hr.mono (by decide)) (pa_cons (pv 0) pa_nil)))
  (pss_cons (ps_expr (pe_callD d_check_polynomial (hr.mono (by decide)) (pa_cons (pv 1) pa_nil)))
  (pss_cons (ps_if (PW.pt (pw_or (pt_cmpR op_lt (pe_callB (r := Evl.rLenS K) call_len_seq (by rfl) T.b_len (by decide +kernel) (pa_cons (pv 0) pa_nil)) pe_int (nomark _)) (pw_or1 (pt_not (pt_val (pe_callD d_has_left_roots (hr.mono (by decide)) (pa_cons (pv 0) pa_nil))))))) (pss_one (ps_ret pe_non)) pss_nil)
  (pss_cons (ps_set (i := 2) sc_filter_ladder.nd rfl (Or.inl rfl) (pe_callD d_poly_difference (hr.mono (by decide)) (pa_cons (pe_callD d_poly_product (hr.mono (by decide)) (pa_cons (pv 0) (pa_cons (pe_callD d_backwards (hr.mono (by decide)) (pa_cons (pv 0) pa_nil)) pa_nil))) (pa_cons (pe_callD d_poly_product (hr.mono (by decide)) (pa_cons (pv 1) (pa_cons (pe_callD d_backwards (hr.mono (by decide)) (pa_cons (pv 1) pa_nil)) pa_nil))) pa_nil))))
  (pss_cons (ps_if (PW.pt (pw_or (pt_cmpR op_ne (pe_callB (r := Evl.rLenS K) call_len_seq (by rfl) T.b_len (by decide +kernel) (pa_cons (pv 2) pa_nil)) pe_int (nomark _)) (pw_or1 (pt_cmpR op_lt (pe_ix (r := rIxT K) ix_tup (pv 2) pe_int (fun _ _ => rfl)) pe_int (nomark _))))) (pss_one (ps_ret pe_non)) pss_nil)
  (pss_one (ps_ret (pe_callD d_far_rungs_with_resistor (hr.mono (by decide)) (pa_cons (pe_tup (pa_cons (pe_callD d_poly_sum (hr.mono (by decide)) (pa_cons (pv 0) (pa_cons (pv 1) pa_nil))) (pa_cons (pe_callD d_poly_difference (hr.mono (by decide)) (pa_cons (pv 0) (pa_cons (pv 1) pa_nil))) pa_nil))) pa_nil))))))))), ?_⟩
    have h13 := M.l20
    have l2 := M.l2
    refine ⟨_, rfl, p, left, rfl, hp, M.pl, fun H1 e1 => ?_⟩
    refine ⟨_, rfl, q, echo, rfl, ex_t e1 hq, M.pe, fun H2 e2 => ?_⟩
    have e12 := e1.trans e2
    refine ⟨_, rfl, p, _, rfl, .inr (ex_t e12 hp), _, _, rfl, rfl, _, rfl, ?_⟩
    rw [List.length_map]
    refine ite2 (fun z => absurd (of_decide_eq_true z) (by omega)) (fun _ => ?_)
    refine ⟨_, rfl, p, left, cb, rfl, ex_t e12 hp, M.pl, fun z => by rw [z] at l2; simp at l2, M.bl, M.sb, fun H3 e3 => ?_⟩
    rw [M.lb]
    refine ⟨true, rfl, iteF ?_⟩
    have e13 := e12.trans e3
    have bk1 := bk_len 1 left
    have bk2 := bk_len 1 echo
    refine ⟨_, rfl, _, rfl, p, left, rfl, ex_t e13 hp, by omega, fun p4 H4 hp4 e4 h4 => ?_⟩
    have e14 := e13.trans e4
    refine ⟨p, p4, left, bk 1 left, 200, rfl, ex_t e14 hp, SqT.of h4, by omega, by omega, M.nl, bk_nm M.nl, M.b1, bk_bd M.b1, by decide, fun p5 H5 u5 hp5 e5 h5 n5 l5 c5 => ?_⟩
    have e15 := e14.trans e5
    refine ⟨_, rfl, _, rfl, q, echo, rfl, ex_t e15 hq, by omega, fun p6 H6 hp6 e6 h6 => ?_⟩
    have e16 := e15.trans e6
    refine ⟨q, p6, echo, bk 1 echo, 200, rfl, ex_t e16 hq, SqT.of h6, by omega, by omega, M.ne, bk_nm M.ne, M.b2, bk_bd M.b2, by decide, fun p7 H7 u7 hp7 e7 h7 n7 l7 c7 => ?_⟩
    have e17 := e16.trans e7
    have c5' : ∀ i, co u5 i = co (mulP left (bk 1 left)) i := c5
    have c7' : ∀ i, co u7 i = co (mulP echo (bk 1 echo)) i := c7
    have b7 : BdA (2 ^ 404) u7 := .of_co fun i => by
      rw [c7']
      have h1 := mulP_bd (X := 2 ^ 200) (Y := 2 ^ 200) (fun i => M.b2.co i) (fun i => (bk_bd M.b2).co i) i
      have h2 := Nat.mul_le_mul_right (2 ^ 200 * 2 ^ 200) h13.2
      exact Nat.le_trans h1 (Nat.le_trans h2 (by decide +kernel))
    refine ⟨p5, p7, u5, u7, 404, rfl, SqT.of (e7 _ _ (e6 _ _ h5)), SqT.of h7, by omega, by omega, b7, by decide, fun p8 H8 g hp8 e8 h8 n8 l8 c8 => ?_⟩
    have e18 := e17.trans e8
    have c8' : ∀ i, co g i = co u5 i - co u7 i := c8
    obtain ⟨g0, hg0, hgx⟩ := M.gap
    have hgc : ∀ i, co g i = co [g0] i := ev_ext g [g0] 0 fun x _ => by
      rw [ev_co (q := addP (mulP left (bk 1 left)) (smul (-1) (mulP echo (bk 1 echo)))) (fun i => by rw [co_add, co_smul, c8', c5', c7']; omega), ev_add, ev_smul, ev_mul, ev_mul, ev_bk', ev_bk']
      have := hgx x
      show _ = g0 + x * 0
      rw [← this]; grind
    have hgl : g.length = 1 := nm_len n8 (q := [g0]) (.inr (by show g0 ≠ 0; omega)) hgc
    have hg00 : g.getD 0 0 = g0 := hgc 0
    refine ⟨_, rfl, p8, _, rfl, .inr (SqT.of h8), rfl, _, rfl, ?_⟩
    refine ifNF (by rw [List.length_map, hgl]; rfl) ?_
    refine ⟨_, rfl, p8, _, _, _, rfl, rfl, SqT.of h8, at_map0 (by omega), _, _, rfl, rfl, _, rfl, ?_⟩
    refine ite2 (fun z => absurd (of_decide_eq_true z) (by rw [hg00]; omega)) (fun _ => ?_)
    refine ⟨_, rfl, _, rfl, p, q, left, echo, rfl, ex_t e18 hp, ex_t e18 hq, by omega, by omega, fun p9 H9 u9 hp9 e9 h9 n9 l9 c9 => ?_⟩
    have e19 := e18.trans e9
    refine ⟨_, rfl, _, rfl, p, q, left, echo, 200, rfl, ex_t e19 hp, ex_t e19 hq, by omega, by omega, M.b2, by decide, fun pa Ha ua hpa ea ha na la ca => ?_⟩
    have e1a := e19.trans ea
    refine ⟨(by show 2 ≤ sizeLine; decide), fun pc hpc => ?_⟩
    have fc := Ex.new hpc (o := .tup [.ref p9, .ref pa])
    exact ⟨pc, u9, ua, l, dl, c, rfl, ⟨p9, pa, SqT.of upd_same, SqT.of (fc _ _ (ea _ _ h9)), SqT.of (fc _ _ ha)⟩, M.fr u9 ua n9 na c9 ca, M.lne, M.ds, fun pr H' xs h1 h2 h3 h4 => k pr H' xs (fresh_back (e1a.trans fc) h1) ((e1a.trans fc).trans h2) h3 h4⟩
end
end Coil

set_option Elab.async false
set_option linter.all false
set_option maxRecDepth 100000
set_option maxHeartbeats 8000000
set_option exponentiation.threshold 10000
namespace Coil
open PySem L2 Evl RT
theorem units65 {k : Nat} {A : Around} (r : Room k A) : A.units + 65 < cLine := by have := r.un; omega
def Ok6 (w : Rat) : Prop := 0 < w.num ∧ w.num.natAbs ≤ 6 ∧ w.den ≤ 6
theorem pick_s {i : Nat} {v : V} (h : [V.str "S", V.str "P"][i]? = some v) : ∃ s, v = .str (sS s) := by
  match i, h with
  | 0, h => exact ⟨true, (Option.some.inj h).symm⟩
  | 1, h => exact ⟨false, (Option.some.inj h).symm⟩
theorem pick_s3 {i : Nat} {v : V} (h : [V.str "S", V.str "P", V.str "P"][i]? = some v) : ∃ s, v = .str (sS s) := by
  match i, h with
  | 0, h => exact ⟨true, (Option.some.inj h).symm⟩
  | 1, h => exact ⟨false, (Option.some.inj h).symm⟩
  | 2, h => exact ⟨false, (Option.some.inj h).symm⟩
theorem pick_k {i : Nat} {v : V} (h : [V.str "L", V.str "C"][i]? = some v) : ∃ k, v = .str (kS k) ∧ k ≠ .R := by
  match i, h with
  | 0, h => exact ⟨.L, (Option.some.inj h).symm, by decide⟩
  | 1, h => exact ⟨.C, (Option.some.inj h).symm, by decide⟩
section
variable {P : Program} {w : World} {K : PySem.W.Frag} {mg : Str → Option Value} {base : Heap} {tL tM tD : Tok}
def spWorth (K : PySem.W.Frag) : Sp := fun vs H Q _ => ∃ (r a : Addr) (ns : List Int), vs = [.ref r] ∧ H r = some (RowO a r) ∧ SqL K H a (ns.map V.int) ∧ ∀ p H' q, H p = none → Ex H H' → RO H' p q → Ok6 q → Q (.ref p) H'
theorem ok_worth {f : Addr} {fd : FuncData} (F : Fun K "_law_worth" "_law_worth" s_u_law_worth f fd) (d_u_law_taken : Def P w K mg base "_law_taken" 1 ["row", "many"] (spTaken K)) (d_u_law_ratio : Def P w K mg base "_law_ratio" 2 ["top", "bottom"] spRatio) : FnOk P w K mg base CX0 3 f fd ["row"] (spWorth K) := by
  refine F.ok sc_u_law_worth (fun vs H Q E h => ?_) (fun cdv A outer s H vs Q E hr h => ?_)
  · obtain ⟨r, a, ns, rfl, _⟩ := h
    rfl
  · obtain ⟨r, a, ns, rfl, hR, hS, k⟩ := h
    refine ⟨_, (pss_one (ps_ret (pe_callD d_u_law_ratio (hr.mono (by decide)) (pa_cons (pe_op op_add pe_int (pe_callD d_u_law_taken (hr.mono (by decide)) (pa_cons (pv 0) (pa_cons pe_int pa_nil)))) (pa_cons (pe_op op_add pe_int (pe_callD d_u_law_taken (hr.mono (by decide)) (pa_cons (pv 0) (pa_cons pe_int pa_nil)))) pa_nil))))), ?_⟩
    refine ⟨_, rfl, r, a, ns, 6, rfl, hR, hS, by decide, by decide, fun n hn0 hn1 => ?_⟩
    refine ⟨_, _, rfl, rfl, ?_⟩
    refine ⟨_, rfl, r, a, ns, 4, rfl, hR, hS, by decide, by decide, fun m hm0 hm1 => ?_⟩
    refine ⟨_, _, rfl, rfl, ?_⟩
    refine ⟨1 + n, 1 + m, rfl, by omega, Nat.lt_of_le_of_lt (by omega : (1 + n).natAbs ≤ 6) (by decide), Nat.lt_of_le_of_lt (by omega : (1 + m).natAbs ≤ 6) (by decide), fun p H' u e hp ex h h1 h2 h3 h4 => ?_⟩
    obtain ⟨s1, s2⟩ := rat_eq (x := 1 + n) (y := 1 + m) (by omega) h1 h2
    refine k p H' (((1 + n : Int) : Rat) / ((1 + m : Int) : Rat)) hp ex (ro_of (by omega) h1 h2 rfl h) ?_
    have he : 0 < e := h1.1
    have hu : 0 < u := by
      have h5 : 0 < (1 + n) * e := Int.mul_pos (by omega) he
      rw [← h2] at h5
      refine Int.not_le.mp fun z => ?_
      have h6 := Int.mul_nonneg (show 0 ≤ -u by omega) (show 0 ≤ 1 + m by omega)
      rw [Int.neg_mul] at h6
      omega
    refine ⟨by rw [← s1]; exact hu, by rw [← s1]; omega, by omega⟩
def spFilter (K : PySem.W.Frag) : Sp := fun vs H Q _ => ∃ (r a : Addr) (ns : List Int) (m : Int), vs = [.ref r, .int m] ∧ H r = some (RowO a r) ∧ SqL K H a (ns.map V.int) ∧ 1 ≤ m ∧ m ≤ 5 ∧ ∀ p H' xs l dl, H p = none → Ex H H' → H' p = some (.tup xs) → RgsO H' xs (l ++ [dl]) → 1 ≤ l.length → l.length ≤ 5 → (∀ d ∈ l ++ [dl], Ok6 d.w) → (∀ d ∈ l, Lc d) → dl.k = .R → Q (.ref p) H'
end
end Coil

set_option Elab.async false
set_option linter.all false
set_option maxRecDepth 100000
set_option maxHeartbeats 8000000
set_option exponentiation.threshold 10000
namespace Coil
open PySem L2 Evl RT
def rgD (d : RungD) : PyData := .tuple [.str (sS d.s), .str (kS d.k), ratD d.w]
def laD (ds : List RungD) : PyData := .tuple (ds.map rgD)
theorem eqv_rg (d : RungD) : PyData.eqv (rgD d) (rgD d) = true := by
  unfold rgD
  simp [PyData.eqv, PyData.eqvAll, eqv_rat]
theorem eqv_las : ∀ ds : List RungD, PyData.eqvAll (ds.map rgD) (ds.map rgD) = true
  | [] => by simp [PyData.eqvAll]
  | d :: ds => by simp [PyData.eqvAll, eqv_rg, eqv_las ds]
theorem eqv_la (ds : List RungD) : PyData.eqv (laD ds) (laD ds) = true := by
  unfold laD
  rw [PyData.eqv]; exact eqv_las ds
theorem ok_ss (s : Bool) : PyData.strOk (sS s) = true := by cases s <;> decide +kernel
theorem ok_ks (k : Kd) : PyData.strOk (kS k) = true := by cases k <;> decide +kernel
theorem lay_rg (d : RungD) : PyData.canLay0 (rgD d) = true := by simp [rgD, ratD, PyData.canLay0, PyData.canLayAll0, ok_ss, ok_ks]
theorem depth_rg (d : RungD) : PyData.depth (rgD d) ≤ 3 := by
  have h1 := depth_ints [d.w.num, ((d.w.den : Nat) : Int)]
  have h2 : PyData.depth (ratD d.w) ≤ 2 := by
    unfold ratD
    rw [PyData.depth]
    omega
  simp only [rgD, PyData.depth, PyData.depthAll]
  omega
theorem shaped_rg (d : RungD) : SeqAt.shaped (rgD d) = true := by
  unfold SeqAt.shaped
  rw [Bool.and_eq_true]
  have := depth_rg d
  exact ⟨lay_rg d, decide_eq_true (by omega)⟩
theorem lay_las : ∀ ds : List RungD, PyData.canLayAll0 (ds.map rgD) = true
  | [] => by simp [PyData.canLayAll0]
  | d :: ds => by simp [PyData.canLayAll0, lay_rg, lay_las ds]
theorem depth_las : ∀ ds : List RungD, PyData.depthAll (ds.map rgD) ≤ 4
  | [] => by simp [PyData.depthAll]
  | d :: ds => by
    have := depth_las ds
    have := depth_rg d
    rw [List.map_cons, PyData.depthAll]
    omega
theorem shaped_la (ds : List RungD) : SeqAt.shaped (laD ds) = true := by
  unfold SeqAt.shaped laD
  rw [Bool.and_eq_true]
  refine ⟨by rw [PyData.canLay0]; exact lay_las ds, decide_eq_true ?_⟩
  have := depth_las ds
  rw [PyData.depth]
  omega
theorem dp_rg {K : PySem.W.Frag} {H : L2.Hp} {p : Addr} {d : RungD} (h : RgO H p d) : Dp K H (.ref p) (rgD d) := by
  obtain ⟨pw, h1, h2⟩ := h
  exact .tup (SqT.of h1) (.cons (.str _) (.cons (.str _) (.cons (dp_ro h2) .nil)))
theorem dpall_rg {K : PySem.W.Frag} {H : L2.Hp} : ∀ {xs : List V} {ds : List RungD}, RgsO H xs ds → DpAll K H xs (ds.map rgD)
  | [], [], _ => .nil
  | [], _ :: _, h => absurd h.1 (by simp)
  | _ :: _, [], h => absurd h.1 (by simp)
  | v :: xs, q :: qs, h => by
    obtain ⟨p, e, hp⟩ := h.2 0 v rfl
    subst e
    exact .cons (dp_rg hp) (dpall_rg ⟨Nat.succ.inj h.1, fun i v hv => h.2 (i + 1) v hv⟩)
theorem dp_la {K : PySem.W.Frag} {H : L2.Hp} {a : Addr} {xs : List V} {ds : List RungD} (hA : SqT K H a xs) (h : RgsO H xs ds) : Dp K H (.ref a) (laD ds) := .tup hA (dpall_rg h)
/-! ### sizes of the turned ladder -/
theorem q_sz {q : Rat} {x y : Int} (hx : 0 < x) (hy : 0 < y) (h : q * (y : Rat) = (x : Rat)) : 0 < q.num ∧ q.num.natAbs ≤ x.natAbs ∧ q.den ≤ y.natAbs := by
  have e : q.num * y = x * ((q.den : Nat) : Int) := by
    have h1 := rat_split q
    refine Rat.intCast_inj.mp ?_
    rw [Rat.intCast_mul, Rat.intCast_mul, ← h1, ← h]
    grind
  have hd := den_pz q
  have hpos : 0 < q.num := by
    have h5 : 0 < q.num * y := by rw [e]; exact Int.mul_pos hx hd
    refine Int.not_le.mp fun z => ?_
    have h6 := Int.mul_nonneg (show 0 ≤ -q.num by omega) (show 0 ≤ y by omega)
    rw [Int.neg_mul] at h6
    omega
  have n : q.num.natAbs * y.natAbs = x.natAbs * q.den := by
    have := congrArg Int.natAbs e
    rwa [Int.natAbs_mul, Int.natAbs_mul, Int.natAbs_natCast] at this
  have c : Nat.Coprime q.num.natAbs q.den := q.reduced
  exact ⟨hpos, Nat.le_of_dvd (by omega) (c.dvd_of_dvd_mul_right (n ▸ Nat.dvd_mul_right _ _)), Nat.le_of_dvd (by omega) (c.symm.dvd_of_dvd_mul_left (n.symm ▸ Nat.dvd_mul_left _ _))⟩
def Sz (w : Rat) : Prop := 0 < w.num ∧ w.num.natAbs ≤ 36 ∧ w.den ≤ 36
theorem Ok6.sz {w : Rat} (h : Ok6 w) : Sz w := ⟨h.1, by have := h.2.1; omega, by have := h.2.2; omega⟩
theorem mul66 {x y : Int} (hx : 0 < x) (hy : 0 < y) (h1 : x.natAbs ≤ 6) (h2 : y.natAbs ≤ 6) : 0 < x * y ∧ (x * y).natAbs ≤ 36 := ⟨Int.mul_pos hx hy, by rw [Int.natAbs_mul]; exact Nat.mul_le_mul h1 h2⟩
theorem sz_mul {w r : Rat} (h : Ok6 w) (h' : Ok6 r) : Sz (w * r) := by
  have d1 := den_pz w
  have d2 := den_pz r
  have a1 : (((w.den : Nat) : Int)).natAbs ≤ 6 := by rw [Int.natAbs_natCast]; exact h.2.2
  have a2 : (((r.den : Nat) : Int)).natAbs ≤ 6 := by rw [Int.natAbs_natCast]; exact h'.2.2
  obtain ⟨p1, p2⟩ := mul66 h.1 h'.1 h.2.1 h'.2.1
  obtain ⟨p3, p4⟩ := mul66 d1 d2 a1 a2
  obtain ⟨q1, q2, q3⟩ := q_sz (q := w * r) p1 p3 (by
    rw [Rat.intCast_mul, Rat.intCast_mul, ← rat_split w, ← rat_split r]; grind)
  exact ⟨q1, by omega, by omega⟩
theorem sz_div {w r : Rat} (h : Ok6 w) (h' : Ok6 r) : Sz (w / r) := by
  have d1 := den_pz w
  have d2 := den_pz r
  have a1 : (((w.den : Nat) : Int)).natAbs ≤ 6 := by rw [Int.natAbs_natCast]; exact h.2.2
  have a2 : (((r.den : Nat) : Int)).natAbs ≤ 6 := by rw [Int.natAbs_natCast]; exact h'.2.2
  obtain ⟨p1, p2⟩ := mul66 h.1 d2 h.2.1 a2
  obtain ⟨p3, p4⟩ := mul66 d1 h'.1 a1 h'.2.1
  have hr : r ≠ 0 := fun z => by have := h'.1; rw [z] at this; simp at this
  obtain ⟨q1, q2, q3⟩ := q_sz (q := w / r) p1 p3 (by
    rw [Rat.intCast_mul, Rat.intCast_mul, ← rat_split w, ← rat_split r]
    generalize (((w.den : Nat) : Int) : Rat) = x
    generalize (((r.den : Nat) : Int) : Rat) = y
    grind)
  exact ⟨q1, by omega, by omega⟩
theorem sz_inv {r : Rat} (h' : Ok6 r) : Sz r⁻¹ := by
  have d2 := den_pz r
  have a2 : (((r.den : Nat) : Int)).natAbs ≤ 6 := by rw [Int.natAbs_natCast]; exact h'.2.2
  have hr : r ≠ 0 := fun z => by have := h'.1; rw [z] at this; simp at this
  obtain ⟨q1, q2, q3⟩ := q_sz (q := r⁻¹) d2 h'.1 (by
    rw [← rat_split r]
    generalize (((r.den : Nat) : Int) : Rat) = y
    grind)
  have := h'.2.1
  exact ⟨q1, by omega, by omega⟩
theorem sz_dv {d : RungD} {r : Rat} (h : Ok6 d.w) (h' : Ok6 r) : Sz (dvD r d).w := by
  unfold dvD
  cases d.k with
  | L => exact sz_div h h'
  | R => exact sz_mul h h'
  | C => exact sz_mul h h'
theorem dv_dv {r : Rat} (hr : r ≠ 0) (d : RungD) : dvD r⁻¹ (dvD r d) = d := by
  obtain ⟨s, k, w⟩ := d
  cases k with
  | L => exact congrArg (RungD.mk s .L) (show w / r / r⁻¹ = w by grind)
  | R => exact congrArg (RungD.mk s .R) (show w * r * r⁻¹ = w by grind)
  | C => exact congrArg (RungD.mk s .C) (show w * r * r⁻¹ = w by grind)
theorem trn_trn {l : List RungD} {dl dl' : RungD} (hr : dl.w ≠ 0) (h : dl'.w = dl.w⁻¹) : trn (trn l dl) dl' = l := by
  unfold trn
  rw [h, List.map_reverse, List.reverse_reverse, List.map_map]
  have : (dvD dl.w⁻¹ ∘ dvD dl.w) = id := funext fun d => dv_dv hr d
  rw [this, List.map_id]
theorem trn_lc {l : List RungD} {dl : RungD} (h : ∀ d ∈ l, Lc d) : ∀ d ∈ trn l dl, Lc d := fun d hd => by
  unfold trn at hd
  obtain ⟨e, he, rfl⟩ := List.mem_map.mp (List.mem_reverse.mp hd)
  exact h e he
theorem trn_sz {l : List RungD} {dl : RungD} (h : ∀ d ∈ l, Ok6 d.w) (h' : Ok6 dl.w) : ∀ d ∈ trn l dl, Sz d.w := fun d hd => by
  unfold trn at hd
  obtain ⟨e, he, rfl⟩ := List.mem_map.mp (List.mem_reverse.mp hd)
  exact sz_dv (h e he) h'
theorem trn_get {l : List RungD} {dl : RungD} {i : Nat} (hi : i < l.length) : (trn l dl).getD (l.length - 1 - i) default = dvD dl.w (l.getD i default) := by
  unfold trn
  rw [List.getD_eq_getElem?_getD, List.getElem?_eq_getElem (by simp; omega), List.getD_eq_getElem?_getD, List.getElem?_eq_getElem hi, Option.getD_some, Option.getD_some, List.getElem_reverse]
  simp only [List.length_map, List.getElem_map]
  congr 2
  omega
end Coil

set_option Elab.async false
set_option linter.all false
set_option maxRecDepth 100000
set_option maxHeartbeats 4000000
set_option exponentiation.threshold 10000
namespace Coil
open PySem L2 Evl RT
/-! ### ladders drawn by turns -/
def TurnI (t : Int) (l : List RungD) : Prop := ∀ j, j < l.length → Tn (l.getD j default) ∧ ((l.getD j default).s = true ↔ (t + (j : Int)) % 2 = 0)
theorem turn_bt : ∀ {l : List RungD} {t : Int}, TurnI t l → Bt l
  | [], _, _ => True.intro
  | [d], _, h => (h 0 (by simp)).1
  | d :: d' :: l, t, h => by
    have h0 := h 0 (by simp)
    have h1 := h 1 (by simp)
    refine ⟨h0.1, fun z => ?_, turn_bt (t := t + 1) fun j hj => ?_⟩
    · have a : d.s = true ↔ (t + ((0 : Nat) : Int)) % 2 = 0 := h0.2
      have b : d'.s = true ↔ (t + ((1 : Nat) : Int)) % 2 = 0 := h1.2
      rw [z] at a
      have := a.symm.trans b
      omega
    · have := h (j + 1) (by simp at hj ⊢; omega)
      refine ⟨this.1, ?_⟩
      have e : t + 1 + (j : Int) = t + ((j + 1 : Nat) : Int) := by omega
      rw [e]
      exact this.2
theorem turn_snoc {t : Int} {l : List RungD} {d : RungD} (h : TurnI t l) (hd : Tn d) (hs : d.s = true ↔ (t + (l.length : Int)) % 2 = 0) : TurnI t (l ++ [d]) := fun j hj => by
  rw [List.length_append] at hj
  by_cases e : j < l.length
  · rw [List.getD_eq_getElem?_getD, List.getElem?_append_left e, ← List.getD_eq_getElem?_getD]
    exact h j e
  · have : j = l.length := by simp at hj; omega
    subst this
    rw [List.getD_eq_getElem?_getD, List.getElem?_concat_length]
    exact ⟨hd, hs⟩
theorem kS_L : V.str "L" = .str (kS .L) := rfl
section
variable {P : Program} {w : World} {K : PySem.W.Frag} {mg : Str → Option Value} {base : Heap} {tL tM tD : Tok}
def spLLad (K : PySem.W.Frag) : Sp := fun vs H Q _ => ∃ (r a : Addr) (ns : List Int) (m : Int), vs = [.ref r, .int m, .str "L", .str "C"] ∧ H r = some (RowO a r) ∧ SqL K H a (ns.map V.int) ∧ 1 ≤ m ∧ m ≤ 8 ∧ ∀ p H' xs l, H p = none → Ex H H' → H' p = some (.tup xs) → RgsO H' xs l → 1 ≤ l.length → (l.length : Int) ≤ m → (∀ d ∈ l, Ok6 d.w) → Bt l → Q (.ref p) H'
theorem ok_law_ladder {f : Addr} {fd : FuncData} (F : Fun K "_law_ladder" "_law_ladder" s_u_law_ladder f fd) (T : Txt mg tL tM tD) (d_u_law_taken : Def P w K mg base "_law_taken" 1 ["row", "many"] (spTaken K)) (d_u_law_worth : Def P w K mg base "_law_worth" 3 ["row"] (spWorth K)) : FnOk P w K mg base CX0 4 f fd ["row", "most", "series", "across"] (spLLad K) := by
  refine F.ok sc_u_law_ladder (fun vs H Q E h => ?_) (fun cdv A outer s H vs Q E hr h => ?_)
  · obtain ⟨r, a, ns, m, rfl, _⟩ := h
    rfl
  · obtain ⟨r, a, ns, m, rfl, hR, hS, hm1, hm8, k⟩ := h
    refine ⟨_, (pss_cons (ps_par (i := 5) (j := 6) rfl sc_u_law_ladder.nd rfl rfl (by decide) rfl rfl (pa_cons (pe_lst pa_nil) (pa_cons (pe_callD d_u_law_taken (hr.mono (by decide)) (pa_cons (pv 0) (pa_cons pe_int pa_nil))) pa_nil)) (by rfl))
  (pss_cons (ps_for PassesOwn.never rfl (pi_range1 rfl T.b_range (pa_cons (pe_op op_add pe_int (pe_callD d_u_law_taken (hr.mono (by decide)) (pa_cons (pv 0) (pa_cons (pv 1) pa_nil)))) pa_nil)) (pg_name (i := 4) sc_u_law_ladder.nd rfl (Or.inl rfl)) (pss_cons (ps_set (i := 7) sc_u_law_ladder.nd rfl (Or.inl rfl) (pe_ix (r := rIxL K) ix_list (pe_lst (pa_cons pe_str (pa_cons pe_str pa_nil))) (pe_op op_mod (pe_callTy call_int1 (by rfl) T.b_int (by decide +kernel) (pa_cons (pe_op op_add (pv 6) (pv 4)) pa_nil)) pe_int) (fun _ _ => rfl)))
  (pss_one (ps_expr (pe_bm PySem.F.plainAttrs_list PySem.F.slot_list_append PySem.F.type_list_append mt_append (pv 5) (pa_cons (pe_tup (pa_cons (pv 7) (pa_cons (pe_ifExp (pt_cmpR op_eq (pv 7) pe_str (nomark _)) (pv 2) (pv 3)) (pa_cons (pe_callD d_u_law_worth (hr.mono (by decide)) (pa_cons (pv 0) pa_nil)) pa_nil)))) pa_nil))))))
  (pss_one (ps_ret (pe_callTy call_tuple_of (by rfl) T.b_tuple (by decide +kernel) (pa_cons (pv 5) pa_nil)))))), ?_⟩
    refine ⟨(by show 0 ≤ sizeLine; decide), fun D hD => ?_⟩
    have e0 := Ex.new hD (o := .lst [])
    refine ⟨_, rfl, r, a, ns, 2, rfl, e0 _ _ hR, ex_l e0 hS, by decide, by decide, fun t ht0 ht1 => ?_⟩
    refine ⟨_, _, rfl, ?_⟩
    refine ⟨_, rfl, _, rfl, r, a, ns, m, rfl, e0 _ _ hR, ex_l e0 hS, by omega, by omega, fun n hn0 hn1 => ?_⟩
    refine ⟨_, _, rfl, rfl, ?_⟩
    refine ⟨_, rfl, by omega, by omega, for_range (lo := 0) (n := (1 + n).toNat) (fun i σ H' => ∃ xs l v4 v7, σ = [some (.ref r), some (.int m), some (.str "L"), some (.str "C"), v4, some (.ref D), some (.int t), v7] ∧ Ex H H' ∧ H' D = some (.lst xs) ∧ RgsO H' xs l ∧ l.length = i ∧ (∀ d ∈ l, Ok6 d.w) ∧ TurnI t l) ⟨[], [], none, none, rfl, e0, upd_same, RgsO.nil, rfl, fun x hx => (nomatch hx), fun j hj => absurd hj (Nat.not_lt_zero j)⟩ ?_ ?_⟩
    · rintro i σ H1 hi ⟨xs, l, v4, v7, rfl, e1, hl, hx, hlen, ok, hT⟩
      have R1 := e1 _ _ hR
      have S1 := ex_l e1 hS
      refine ⟨(by show 2 ≤ sizeLine; decide), fun p1 hp1 => ?_⟩
      have f1 := Ex.new hp1 (o := .lst [.str "S", .str "P"])
      refine ⟨_, rfl, _, rfl, _, _, rfl, rfl, .inl ⟨_, rfl, _, _, rfl, rfl, (by show (0 : Int) < 2; decide), ?_⟩⟩
      have hw : ∃ b : Bool, (b = true ↔ (t + (i : Int)) % 2 = 0) ∧ atI [V.str "S", V.str "P"] ((t + (0 + (i : Int))) % 2) = some (.str (sS b)) := by
        rw [Int.zero_add]
        rcases (by omega : (t + (i : Int)) % 2 = 0 ∨ (t + (i : Int)) % 2 = 1) with e | e
        · exact ⟨true, ⟨fun _ => e, fun _ => rfl⟩, by rw [e]; rfl⟩
        · exact ⟨false, ⟨fun h => Bool.noConfusion h, fun h => by omega⟩, by rw [e]; rfl⟩
      obtain ⟨b, hb, hat⟩ := hw
      refine ⟨p1, _, _, _, rfl, rfl, SqL.of upd_same, hat, ?_⟩
      refine ⟨_, rfl, (.inl ⟨rfl, _, SqL.of (f1 _ _ hl)⟩), ?_⟩
      have step : ∀ kd : Kd, ((b = true ∧ kd = .L) ∨ (b = false ∧ kd = .C)) → ∀ (p3 : Addr) (H3 : L2.Hp) (q : Rat), Ex (upd H1 p1 (.lst [.str "S", .str "P"])) H3 → RO H3 p3 q → Ok6 q → ∀ p4, H3 p4 = none → ∃ xs' l', Ex H (upd (upd H3 p4 (.tup [.str (sS b), .str (kS kd), .ref p3])) D (.lst (xs ++ [.ref p4]))) ∧ upd (upd H3 p4 (.tup [.str (sS b), .str (kS kd), .ref p3])) D (.lst (xs ++ [.ref p4])) D = some (.lst xs') ∧ RgsO (upd (upd H3 p4 (.tup [.str (sS b), .str (kS kd), .ref p3])) D (.lst (xs ++ [.ref p4]))) xs' l' ∧ l'.length = i + 1 ∧ (∀ d ∈ l', Ok6 d.w) ∧ TurnI t l' := fun kd hkd p3 H3 q e3 hq okq p4 hp4 => by
        have f4 := Ex.new hp4 (o := .tup [.str (sS b), .str (kS kd), .ref p3])
        have g4 := (f1.trans e3).trans f4
        have hd : RgO (upd H3 p4 (.tup [.str (sS b), .str (kS kd), .ref p3])) p4 ⟨b, kd, q⟩ := ⟨p3, upd_same, hq.ex' f4⟩
        have hl4 := g4 _ _ hl
        refine ⟨xs ++ [.ref p4], l ++ [⟨b, kd, q⟩], Ex.mut (e1.trans g4) hD, upd_same, ((hx.ex' g4).snoc hd).mut hl4, by rw [List.length_append, hlen]; rfl, fun x hx => ?_, turn_snoc hT ?_ ?_⟩
        · rcases List.mem_append.mp hx with hx | hx
          · exact ok x hx
          · rw [List.mem_singleton.mp hx]; exact okq
        · rcases hkd with ⟨h1, h2⟩ | ⟨h1, h2⟩
          · exact .inl ⟨h1, h2⟩
          · exact .inr ⟨h1, h2⟩
        · rw [hlen]; exact hb
      have hlin : xs.length < sizeLine := by rw [hx.1, hlen]; exact line_of (by omega)
      refine ⟨_, rfl, _, rfl, rfl, _, rfl, ?_⟩
      refine ite2 (fun z => ?_) (fun z => ?_)
      · have hbt : b = true := (sS_S b).mp (of_decide_eq_true z)
        refine ⟨_, rfl, _, rfl, r, a, ns, rfl, f1 _ _ R1, ex_l f1 S1, fun p3 H3 q hp3 e3 hq okq => ?_⟩
        refine ⟨(by show 3 ≤ sizeLine; decide), fun p4 hp4 => ?_⟩
        obtain ⟨xs', l', s1, s2, s3, s4, s5, s6⟩ := step .L (.inl ⟨hbt, rfl⟩) p3 H3 q e3 hq okq p4 hp4
        exact ⟨D, xs, _, rfl, rfl, ((f1.trans e3).trans (Ex.new hp4)) _ _ hl, hlin, xs', l', _, _, rfl, s1, s2, s3, s4, s5, s6⟩
      · have hbt : b = false := by
          cases h : b with
          | false => rfl
          | true => exact absurd (decide_eq_true ((sS_S b).mpr h)) z
        refine ⟨_, rfl, _, rfl, r, a, ns, rfl, f1 _ _ R1, ex_l f1 S1, fun p3 H3 q hp3 e3 hq okq => ?_⟩
        refine ⟨(by show 3 ≤ sizeLine; decide), fun p4 hp4 => ?_⟩
        obtain ⟨xs', l', s1, s2, s3, s4, s5, s6⟩ := step .C (.inr ⟨hbt, rfl⟩) p3 H3 q e3 hq okq p4 hp4
        exact ⟨D, xs, _, rfl, rfl, ((f1.trans e3).trans (Ex.new hp4)) _ _ hl, hlin, xs', l', _, _, rfl, s1, s2, s3, s4, s5, s6⟩
    · rintro σ H1 ⟨xs, l, v4, v7, rfl, e1, hl, hx, hlen, ok, hT⟩
      refine ⟨_, rfl, D, _, rfl, .inl ⟨SqL.of hl, fun pt hpt => ?_⟩⟩
      have f1 := Ex.new hpt (o := .tup xs)
      exact k pt _ xs l (fresh_back e1 hpt) (e1.trans f1) upd_same (hx.ex' f1) (by omega) (by omega) ok (turn_bt hT)
/-! ### the law's own polynomials -/
def spFlip (K : PySem.W.Frag) : Sp := fun vs H Q _ => ∃ (a : Addr) (ns : List Int), vs = [.ref a] ∧ SqT K H a (ns.map V.int) ∧ ns.length ≤ 900 ∧ ∀ p H', H p = none → Ex H H' → H' p = some (.tup ((bk 1 ns).map V.int)) → Q (.ref p) H'
theorem ok_law_flip {f : Addr} {fd : FuncData} (F : Fun K "_law_flip" "_law_flip" s_u_law_flip f fd) (T : Txt mg tL tM tD) : FnOk P w K mg base CX0 1 f fd ["one"] (spFlip K) := by
  refine F.ok sc_u_law_flip (fun vs H Q E h => ?_) (fun cdv A outer s H vs Q E hr h => ?_)
  · obtain ⟨a, ns, rfl, _⟩ := h
    rfl
  · obtain ⟨a, ns, rfl, hS, hlen, k⟩ := h
    refine ⟨_, (pss_one (ps_ret (pe_callTy call_tuple_of (by rfl) T.b_tuple (by decide +kernel) (pa_cons (pe_lc (own := [("at", 1)]) (g := gName 1) (tt := tYes) rfl sc_u_law_flip.nd (pi_range1 rfl T.b_range (pa_cons (pe_callB (r := Evl.rLenS K) call_len_seq (by rfl) T.b_len (by decide +kernel) (pa_cons (pv 0) pa_nil)) pa_nil)) (blkOk_by (own := [("at", 1)]) (N := ["one", "at"]) (sc := defScope s_u_law_flip) (by decide +kernel)) (fun _ _ _ _ _ => pg_name (i := 1) sc_u_law_flip.nd rfl (Or.inl rfl)) (fun _ _ _ _ _ => pts_nil) (fun _ _ _ _ _ => (pe_ifExp (pt_cmpR op_eq (pe_op op_mod (pe_callTy call_int1 (by rfl) T.b_int (by decide +kernel) (pa_cons (pv 1) pa_nil)) pe_int) pe_int (nomark _)) (pe_ix (r := rIxT K) ix_tup (pv 0) (pv 1) (fun _ _ => rfl)) (pe_un un_neg (pe_ix (r := rIxT K) ix_tup (pv 0) (pv 1) (fun _ _ => rfl)))))) pa_nil)))), ?_⟩
    refine ⟨_, rfl, a, _, rfl, .inr hS, ?_⟩
    rw [List.length_map]
    refine ⟨_, rfl, by omega, by omega, fun D hD => lc_range (lo := 0) (n := ns.length) (fun i H' => Ex H H' ∧ H' D = some (.lst ((bk 1 (ns.take i)).map V.int))) ⟨Ex.new hD, upd_same⟩ ?_ ?_⟩
    · rintro i H' hi ⟨e, hl⟩
      refine ⟨rfl, ?_⟩
      have hn : ns[i]? = some (co ns i) := by unfold co; rw [List.getD_eq_getElem?_getD, List.getElem?_eq_getElem hi]; rfl
      have hat : atI (ns.map V.int) (0 + (i : Int)) = some (.int (co ns i)) := by rw [Int.zero_add]; exact at_map hi
      have fin : ∀ z : Int, z = 1 * (-1) ^ i * co ns i → ∃ acc, H' D = some (HO.lst acc) ∧ acc.length < sizeLine ∧ Ex H (upd H' D (HO.lst (acc ++ [.int z]))) ∧ upd H' D (HO.lst (acc ++ [.int z])) D = some (HO.lst (List.map V.int (bk 1 (List.take (i + 1) ns)))) := fun z hz => by
        refine ⟨_, hl, ?_, Ex.mut e hD, ?_⟩
        · rw [List.length_map, bk_len, List.length_take]
          exact line_of (by omega)
        · rw [upd_same, List.take_add_one, hn, hz]
          simp only [Option.toList_some, bk_snoc, List.map_append, List.length_take, List.map_cons, List.map_nil]
          rw [show min i ns.length = i by omega]
      refine ⟨_, rfl, .inl ⟨_, rfl, _, _, rfl, rfl, (by decide : (0 : Int) < 2), ?_⟩⟩
      refine ⟨rfl, _, rfl, ?_⟩
      refine ite2 (fun q => ?_) (fun q => ?_)
      · have hq : (0 + (i : Int)) % 2 = 0 := V.int.inj (of_decide_eq_true q)
        refine ⟨_, rfl, _, rfl, a, _, _, _, rfl, rfl, ex_t e hS, hat, fin _ ?_⟩
        rw [neg_one_pow, if_neg (by omega)]; omega
      · have hq : ¬ (0 + (i : Int)) % 2 = 0 := fun z => q (decide_eq_true (congrArg V.int z))
        refine ⟨_, rfl, _, rfl, a, _, _, _, rfl, rfl, ex_t e hS, hat, _, rfl, fin _ ?_⟩
        rw [neg_one_pow, if_pos (by omega)]; omega
    · rintro H' ⟨e, hl⟩
      rw [List.take_length] at hl
      refine ⟨D, _, rfl, .inl ⟨SqL.of hl, fun l hl2 => ?_⟩⟩
      exact k l _ (fresh_back e hl2) (e.trans (Ex.new hl2)) upd_same
theorem trimTo_co (ns : List Int) : ∀ i j, trimTo ns i ≤ j → co ns j = 0
  | 0, j, h => co_over h
  | i + 1, j, h => by
    by_cases h0 : trimTo ns i = 0
    · exact trimTo_co ns i j (by omega)
    · by_cases hz : ns.getD (trimTo ns i - 1) 0 = 0
      · rw [← trimTo_zero (by omega) hz] at h
        by_cases e : j = trimTo ns i - 1
        · rw [e]; exact hz
        · exact trimTo_co ns i j (by omega)
      · rw [trimTo_same (.inr hz)] at h
        exact trimTo_co ns i j h
theorem co_trimL (ns : List Int) (i : Nat) : co (trimL ns) i = co ns i := by
  by_cases h : i < trimTo ns ns.length
  · unfold trimL co
    rw [List.getD_eq_getElem?_getD, List.getElem?_take_of_lt h, ← List.getD_eq_getElem?_getD]
  · rw [trimTo_co ns ns.length i (by omega), co_over]
    unfold trimL
    rw [List.length_take]
    omega
def spLPlus (K : PySem.W.Frag) : Sp := fun vs H Q _ => ∃ (a b : Addr) (ns ms : List Int), vs = [.ref a, .ref b] ∧ SqT K H a (ns.map V.int) ∧ SqT K H b (ms.map V.int) ∧ ns.length ≤ 900 ∧ ms.length ≤ 900 ∧ NewP Q H (fun i => co ns i + co ms i) 1000
theorem ok_law_plus {f : Addr} {fd : FuncData} (F : Fun K "_law_plus" "_law_plus" s_u_law_plus f fd) (T : Txt mg tL tM tD) (d_u_law_trim : Def P w K mg base "_law_trim" 1 ["some"] (spTrim K)) : FnOk P w K mg base CX0 2 f fd ["one", "other"] (spLPlus K) := by
  refine F.ok sc_u_law_plus (fun vs H Q E h => ?_) (fun cdv A outer s H vs Q E hr h => ?_)
  · obtain ⟨a, b, ns, ms, rfl, _⟩ := h
    rfl
  · obtain ⟨a, b, ns, ms, rfl, hA, hB, hn, hm, k⟩ := h
    refine ⟨_, (pss_cons (ps_set (i := 2) sc_u_law_plus.nd rfl (Or.inl rfl) (pe_callB (call_max2 rfl) (by rfl) T.b_max (by decide +kernel) (pa_cons (pe_callB (r := Evl.rLenS K) call_len_seq (by rfl) T.b_len (by decide +kernel) (pa_cons (pv 0) pa_nil)) (pa_cons (pe_callB (r := Evl.rLenS K) call_len_seq (by rfl) T.b_len (by decide +kernel) (pa_cons (pv 1) pa_nil)) pa_nil))))
  (pss_cons (ps_asg (pe_tup (pa_cons (pe_op op_cat (pe_callTy (r := Evl.rListS K) call_list_of (by rfl) T.b_list (by decide +kernel) (pa_cons (pv 0) pa_nil)) (pe_op op_rep (pe_lst (pa_cons pe_int pa_nil)) (pe_op op_sub (pv 2) (pe_callB (r := Evl.rLenS K) call_len_seq (by rfl) T.b_len (by decide +kernel) (pa_cons (pv 0) pa_nil))))) (pa_cons (pe_op op_cat (pe_callTy (r := Evl.rListS K) call_list_of (by rfl) T.b_list (by decide +kernel) (pa_cons (pv 1) pa_nil)) (pe_op op_rep (pe_lst (pa_cons pe_int pa_nil)) (pe_op op_sub (pv 2) (pe_callB (r := Evl.rLenS K) call_len_seq (by rfl) T.b_len (by decide +kernel) (pa_cons (pv 1) pa_nil))))) pa_nil))) (pg_tup rfl (pgs_cons (pg_name (i := 3) sc_u_law_plus.nd rfl (Or.inr rfl)) (pgs_cons (pg_name (i := 4) sc_u_law_plus.nd rfl (Or.inr rfl)) pgs_nil))))
  (pss_one (ps_ret (pe_callD d_u_law_trim (hr.mono (by decide)) (pa_cons (pe_lc (own := [("at", 5)]) (g := gName 5) (tt := tYes) rfl sc_u_law_plus.nd (pi_range1 rfl T.b_range (pa_cons (pv 2) pa_nil)) (blkOk_by (own := [("at", 5)]) (N := ["one", "other", "many", "first", "second", "at"]) (sc := defScope s_u_law_plus) (by decide +kernel)) (fun _ _ _ _ _ => pg_name (i := 5) sc_u_law_plus.nd rfl (Or.inl rfl)) (fun _ _ _ _ _ => pts_nil) (fun _ _ _ _ _ => (pe_op op_add (pe_ix (r := rIxL K) ix_list (pv 3) (pv 5) (fun _ _ => rfl)) (pe_ix (r := rIxL K) ix_list (pv 4) (pv 5) (fun _ _ => rfl))))) pa_nil)))))), ?_⟩
    refine ⟨_, rfl, a, _, rfl, .inr hA, _, rfl, b, _, rfl, .inr hB, _, _, rfl, ?_⟩
    have em : (if ((ms.map V.int).length : Int) > ((ns.map V.int).length : Int) then ((ms.map V.int).length : Int) else ((ns.map V.int).length : Int)) = ((max ns.length ms.length : Nat) : Int) := by
      rw [List.length_map, List.length_map]; split <;> omega
    generalize hM : max ns.length ms.length = M at em
    have hrep : ∀ kz, (List.replicate kz [V.int 0]).flatten = (List.replicate kz (0 : Int)).map V.int := fun kz => by
      rw [show [V.int 0] = [(0 : Int)].map V.int from rfl, rep_int, rep_zero]
    refine ⟨_, rfl, a, _, rfl, .inr hA, fun pa hpa => ?_⟩
    have x1 := Ex.new hpa (o := .lst (ns.map V.int))
    refine ⟨by decide, fun pz hz => ?_⟩
    have x2 := x1.trans (Ex.new hz (o := .lst [.int 0]))
    have ha2 := (Ex.new hz (o := .lst [.int 0])) _ _ (upd_same (H := H) (a := pa) (o := .lst (ns.map V.int)))
    have hz2 := upd_same (H := upd H pa (.lst (ns.map V.int))) (a := pz) (o := .lst [.int 0])
    generalize upd (upd H pa (.lst (ns.map V.int))) pz (.lst [.int 0]) = H2 at x2 ha2 hz2
    refine ⟨_, rfl, _, rfl, a, _, rfl, .inr (ex_t x2 hA), _, _, congrArg V.int em, rfl, ?_⟩
    have en : (ns.map V.int).length = ns.length := List.length_map _
    have em2 : (ms.map V.int).length = ms.length := List.length_map _
    refine ⟨pz, _, _, rfl, rfl, hz2, by omega, by omega, ?_, fun pr hpr => ?_⟩
    · show 1 * _ ≤ sizeLine
      exact Nat.le_trans (by omega : _ ≤ 1000) (by decide)
    rw [hrep]
    generalize hk1 : ((M : Int) - ((ns.map V.int).length : Int)).toNat = k1 at hpr ⊢
    have x3 := x2.trans (Ex.new hpr (o := .lst ((List.replicate k1 (0 : Int)).map V.int)))
    refine ⟨pa, pr, _, _, rfl, rfl, (Ex.new hpr) _ _ ha2, upd_same, ?_, fun pp hpp => ?_⟩
    · rw [List.length_map, List.length_map, List.length_replicate]
      exact Nat.le_trans (by omega : _ ≤ 1900) (by decide)
    rw [← List.map_append]
    have x4 := x3.trans (Ex.new hpp (o := .lst ((ns ++ List.replicate k1 (0 : Int)).map V.int)))
    have hp1 := upd_same (H := upd H2 pr (.lst ((List.replicate k1 (0 : Int)).map V.int))) (a := pp) (o := .lst ((ns ++ List.replicate k1 (0 : Int)).map V.int))
    generalize upd (upd H2 pr (.lst ((List.replicate k1 (0 : Int)).map V.int))) pp (.lst ((ns ++ List.replicate k1 (0 : Int)).map V.int)) = H4 at x4 hp1
    -- the other one
    refine ⟨_, rfl, b, _, rfl, .inr (ex_t x4 hB), fun pb hpb => ?_⟩
    have y1 := Ex.new hpb (o := .lst (ms.map V.int))
    refine ⟨by decide, fun pz' hz' => ?_⟩
    have y2 := y1.trans (Ex.new hz' (o := .lst [.int 0]))
    have hb2 := (Ex.new hz' (o := .lst [.int 0])) _ _ (upd_same (H := H4) (a := pb) (o := .lst (ms.map V.int)))
    have hz2' := upd_same (H := upd H4 pb (.lst (ms.map V.int))) (a := pz') (o := .lst [.int 0])
    generalize upd (upd H4 pb (.lst (ms.map V.int))) pz' (.lst [.int 0]) = H5 at y2 hb2 hz2'
    refine ⟨_, rfl, _, rfl, b, _, rfl, .inr (ex_t (x4.trans y2) hB), _, _, congrArg V.int em, rfl, ?_⟩
    refine ⟨pz', _, _, rfl, rfl, hz2', by omega, by omega, ?_, fun pr' hpr' => ?_⟩
    · show 1 * _ ≤ sizeLine
      exact Nat.le_trans (by omega : _ ≤ 1000) (by decide)
    rw [hrep]
    generalize hk2 : ((M : Int) - ((ms.map V.int).length : Int)).toNat = k2 at hpr' ⊢
    have y3 := y2.trans (Ex.new hpr' (o := .lst ((List.replicate k2 (0 : Int)).map V.int)))
    refine ⟨pb, pr', _, _, rfl, rfl, (Ex.new hpr') _ _ hb2, upd_same, ?_, fun pp' hpp' => ?_⟩
    · rw [List.length_map, List.length_map, List.length_replicate]
      exact Nat.le_trans (by omega : _ ≤ 1900) (by decide)
    rw [← List.map_append]
    have y4 := y3.trans (Ex.new hpp' (o := .lst ((ms ++ List.replicate k2 (0 : Int)).map V.int)))
    have hp2 := upd_same (H := upd H5 pr' (.lst ((List.replicate k2 (0 : Int)).map V.int))) (a := pp') (o := .lst ((ms ++ List.replicate k2 (0 : Int)).map V.int))
    have hp1' := y4 _ _ hp1
    generalize upd (upd H5 pr' (.lst ((List.replicate k2 (0 : Int)).map V.int))) pp' (.lst ((ms ++ List.replicate k2 (0 : Int)).map V.int)) = H6 at y4 hp2 hp1'
    refine ⟨(by show 2 ≤ sizeLine; decide), fun pt hpt => ?_⟩
    have f7 := Ex.new hpt (o := .tup [.ref pp, .ref pp'])
    refine ⟨pt, _, rfl, SqT.of upd_same, rfl, ?_⟩
    refine ⟨_, _, rfl, _, _, rfl, rfl, ?_⟩
    have hp1 := f7 _ _ hp1'
    have hp2 := f7 _ _ hp2
    have x7 := (x4.trans y4).trans f7
    generalize upd H6 pt (.tup [.ref pp, .ref pp']) = H7 at hp1 hp2 x7
    have l1 : (ns ++ List.replicate k1 (0 : Int)).length = M := by rw [List.length_append, List.length_replicate]; omega
    have l2 : (ms ++ List.replicate k2 (0 : Int)).length = M := by rw [List.length_append, List.length_replicate]; omega
    refine ⟨_, rfl, ((M : Nat) : Int), congrArg (fun z => [V.int z]) em, by omega, by omega, fun D hD => lc_range (lo := 0) (n := M) (fun i H' => Ex H7 H' ∧ H' D = some (.lst (((List.range i).map fun i => co ns i + co ms i).map V.int))) ⟨Ex.new hD, upd_same⟩ ?_ ?_⟩
    · rintro i H' hi ⟨e, hl⟩
      refine ⟨rfl, ?_⟩
      refine ⟨_, rfl, _, rfl, pp, _, _, _, rfl, rfl, SqL.of (e _ _ hp1), (by rw [Int.zero_add]; exact at_map (by omega)), _, rfl, _, rfl, pp', _, _, _, rfl, rfl, SqL.of (e _ _ hp2), (by rw [Int.zero_add]; exact at_map (by omega)), _, _, rfl, rfl, _, hl, ?_, Ex.mut e hD, ?_⟩
      · simp only [List.length_map, List.length_range]
        exact line_of (by omega)
      · rw [upd_same, List.range_succ, pad_getD, pad_getD]
        simp [co]
    · rintro H' ⟨e, hl⟩
      refine ⟨D, _, rfl, SqL.of hl, by simp; omega, fun p H2 hp e2 h2 => k p H2 _ (fresh_back (x7.trans e) hp) ((x7.trans e).trans e2) h2 (nm_trimL _) ?_ fun i => ?_⟩
      · have : (trimL ((List.range M).map fun i => co ns i + co ms i)).length ≤ M := by
          unfold trimL
          rw [List.length_take, List.length_map, List.length_range]
          omega
        omega
      · rw [co_trimL, co_range]
        split
        · rfl
        · show (0 : Int) = co ns i + co ms i
          rw [co_over (p := ns) (by omega), co_over (p := ms) (by omega)]; rfl
/-- left(s) left(-s) - echo(s) echo(-s) -/
def spLGap (K : PySem.W.Frag) : Sp := fun vs H Q _ => ∃ (a b : Addr) (ns ms : List Int), vs = [.ref a, .ref b] ∧ SqT K H a (ns.map V.int) ∧ SqT K H b (ms.map V.int) ∧ Nm ns ∧ Nm ms ∧ ns.length ≤ 20 ∧ ms.length ≤ 20 ∧ BdA (2 ^ 60) ns ∧ BdA (2 ^ 60) ms ∧
  ∀ p H' g, H p = none → Ex H H' → H' p = some (.tup (g.map V.int)) → Nm g → (∀ x, ev g x = ev ns x * ev ns (-x) - ev ms x * ev ms (-x)) → Q (.ref p) H'
theorem ok_law_gap {f : Addr} {fd : FuncData} (F : Fun K "_law_gap" "_law_gap" s_u_law_gap f fd) (T : Txt mg tL tM tD) (d_u_law_times : Def P w K mg base "_law_times" 2 ["one", "other"] (spTimes K)) (d_u_law_flip : Def P w K mg base "_law_flip" 1 ["one"] (spFlip K)) (d_u_law_plus : Def P w K mg base "_law_plus" 2 ["one", "other"] (spLPlus K)) : FnOk P w K mg base CX0 3 f fd ["left", "echo"] (spLGap K) := by
  refine F.ok sc_u_law_gap (fun vs H Q E h => ?_) (fun cdv A outer s H vs Q E hr h => ?_)
  · obtain ⟨a, b, ns, ms, rfl, _⟩ := h
    rfl
  · obtain ⟨a, b, ns, ms, rfl, hA, hB, nn, nm, ln, lm, bn, bm, k⟩ := h
    refine ⟨_, (pss_cons (ps_set (i := 2) sc_u_law_gap.nd rfl (Or.inl rfl) (pe_callTy call_tuple_of (by rfl) T.b_tuple (by decide +kernel) (pa_cons (pe_lc (own := [("number", 3)]) (g := gName 3) (tt := tYes) rfl sc_u_law_gap.nd (pi_tup (pe_callD d_u_law_times (hr.mono (by decide)) (pa_cons (pv 1) (pa_cons (pe_callD d_u_law_flip (hr.mono (by decide)) (pa_cons (pv 1) pa_nil)) pa_nil)))) (blkOk_by (own := [("number", 3)]) (N := ["left", "echo", "other", "number"]) (sc := defScope s_u_law_gap) (by decide +kernel)) (fun _ _ _ _ _ => pg_name (i := 3) sc_u_law_gap.nd rfl (Or.inl rfl)) (fun _ _ _ _ _ => pts_nil) (fun _ _ _ _ _ => (pe_un un_neg (pv 3)))) pa_nil)))
  (pss_one (ps_ret (pe_callD d_u_law_plus (hr.mono (by decide)) (pa_cons (pe_callD d_u_law_times (hr.mono (by decide)) (pa_cons (pv 0) (pa_cons (pe_callD d_u_law_flip (hr.mono (by decide)) (pa_cons (pv 0) pa_nil)) pa_nil))) (pa_cons (pv 2) pa_nil)))))), ?_⟩
    have b1 := bk_len 1 ns
    have b2 := bk_len 1 ms
    refine ⟨_, rfl, _, rfl, b, ms, rfl, hB, by omega, fun p1 H1 hp1 e1 h1 => ?_⟩
    refine ⟨b, p1, ms, bk 1 ms, rfl, ex_t e1 hB, SqT.of h1, by omega, by omega, bm, bk_bd bm, fun p2 H2 hp2 e2 h2 => ?_⟩
    have e12 := e1.trans e2
    obtain ⟨m1, m2, m3, _, _⟩ := mulL_facts nm (bk_nm nm) bm (bk_bd bm)
    obtain ⟨r1, r2, r3, _, _⟩ := mulL_facts nn (bk_nm nn) bn (bk_bd bn)
    generalize mulL ms (bk 1 ms) = L at m1 m2 m3 h2
    have hL : SqT K H2 p2 (L.map V.int) := SqT.of h2
    refine ⟨p2, rfl, ⟨_, hL⟩, fun D hD => lc_tup (K := K) (a := p2) (xs := L.map V.int) (fun i H' => Ex H2 H' ∧ H' D = some (.lst (((L.take i).map fun z => -z).map V.int))) ⟨Ex.new hD, upd_same⟩ (fun i H' _ p => ex_t p.1 hL) ?_ ?_⟩
    · rintro i x H' hi ⟨e, hD'⟩
      obtain ⟨n, hn, rfl⟩ := map_int_get hi
      refine ⟨rfl, ?_⟩
      refine ⟨_, rfl, _, rfl, _, hD', ?_, Ex.mut e hD, ?_⟩
      · have := (List.getElem?_eq_some_iff.mp hn).1
        exact Nat.lt_of_le_of_lt (by simp; omega : _ ≤ 100) (by decide)
      · rw [upd_same, List.take_add_one, hn]
        simp
    · rintro H' ⟨e, hD'⟩
      rw [List.length_map, List.take_length] at hD'
      refine ⟨D, _, rfl, .inl ⟨SqL.of hD', fun p3 hp3 => ?_⟩⟩
      have f3 := Ex.new hp3 (o := .tup ((L.map fun z => -z).map V.int))
      have h3 := upd_same (H := H') (a := p3) (o := .tup ((L.map fun z => -z).map V.int))
      have x3 := (e12.trans e).trans f3
      generalize upd H' p3 (.tup ((L.map fun z => -z).map V.int)) = H3 at h3 x3
      refine ⟨_, rfl, _, rfl, a, ns, rfl, ex_t x3 hA, by omega, fun p4 H4 hp4 e4 h4 => ?_⟩
      have x4 := x3.trans e4
      refine ⟨a, p4, ns, bk 1 ns, rfl, ex_t x4 hA, SqT.of h4, by omega, by omega, bn, bk_bd bn, fun p5 H5 hp5 e5 h5 => ?_⟩
      have x5 := x4.trans e5
      refine ⟨_, rfl, p5, p3, _, _, rfl, SqT.of h5, SqT.of (e5 _ _ (e4 _ _ h3)), by omega, by rw [List.length_map]; omega, fun p6 H6 g hp6 e6 h6 n6 _ c6 => ?_⟩
      have c6' : ∀ i, co g i = co (mulL ns (bk 1 ns)) i + co (L.map fun z => -z) i := c6
      have cn : ∀ i, co (L.map fun z => -z) i = -co L i := fun i => co_neg L i
      refine k p6 H6 g (fresh_back x5 hp6) (x5.trans e6) h6 n6 fun x => ?_
      rw [ev_co (q := addP (mulL ns (bk 1 ns)) (smul (-1) L)) (fun i => by rw [co_add, co_smul, c6', cn]; omega), ev_add, ev_smul, r2, m2, ev_bk', ev_bk']
      grind
/-! ### is_left -/
theorem op_notB {X : Cx} : OpR X (compareOp .IsNot) (fun x y H Q => ∃ a b : Bool, x = .bl a ∧ y = .bl b ∧ Q (.bl (!(a == b))) H) := by
  intro pins s σ H x y v u Q I rx ry h
  obtain ⟨a, b, rfl, rfl, q⟩ := h
  cases rx
  cases ry
  exact wpAny_pure (fin_bl I q (by cases a <;> cases b <;> rfl))
end
end Coil

set_option Elab.async false
set_option linter.all false
set_option maxRecDepth 100000
set_option maxHeartbeats 4000000
set_option exponentiation.threshold 10000
namespace Coil
open PySem L2 Evl RT
theorem nm_short {p : List Int} {n : Nat} (h : Nm p) (hz : ∀ i, n ≤ i → co p i = 0) : p.length ≤ n := by
  rcases h with h | h
  · rw [h]; simp
  · exact Decidable.byContradiction fun z => h (hz _ (by omega))
/-- sizes of the two polynomials of a ladder by turns -/
theorem turn_sz {l : List RungD} {dl : RungD} {echo left : List Int} {g : Int} (h6 : l.length ≤ 6) (hp : ∀ d ∈ dl :: l, Pos d ∧ Sz36 d) (hk : dl.k = .R) (w1 : dl.w.num.natAbs ≤ 6) (w2 : dl.w.den ≤ 6) (hg : g ≠ 0)
    (hL : ∀ i, g * co left i = co (ndL l (zTop dl, zBot dl)).1 i + co (ndL l (zTop dl, zBot dl)).2 i) (hE : ∀ i, g * co echo i = co (ndL l (zTop dl, zBot dl)).1 i - co (ndL l (zTop dl, zBot dl)).2 i) :
    (∀ i, (co left i).natAbs ≤ 12 * 144 ^ 6) ∧ (∀ i, (co echo i).natAbs ≤ 12 * 144 ^ 6) ∧ ∀ i, 7 ≤ i → co echo i = 0 := by
  have one : ∀ {c : Int}, c.natAbs ≤ 6 → ∀ i, (co [c] i).natAbs ≤ 6 := fun {c} hc i => by
    cases i with
    | zero => exact hc
    | succ i => rw [co_over (by simp)]; decide
  have e1 : zTop dl = [dl.w.num] := by unfold zTop; rw [hk]
  have e2 : zBot dl = [((dl.w.den : Nat) : Int)] := by unfold zBot; rw [hk]
  rw [e1, e2] at hL hE
  obtain ⟨⟨b1, b2⟩, b3, b4⟩ := nd_bd (e := ([dl.w.num], [((dl.w.den : Nat) : Int)])) (n0 := 1) (X := 6) (one w1) (one (by rw [Int.natAbs_natCast]; exact w2)) (by simp) (by simp) (by decide) l fun d hd => (hp d (List.mem_cons_of_mem _ hd)).2
  have hpw : 6 * 144 ^ l.length ≤ 6 * 144 ^ 6 := Nat.mul_le_mul_left 6 (Nat.pow_le_pow_right (by decide) h6)
  refine ⟨fun i => bd_g hg (hL i) ?_, fun i => bd_g hg (hE i) ?_, fun i hi => ?_⟩
  · have := b1 i
    have := b2 i
    have := Int.natAbs_add_le (co (ndL l ([dl.w.num], [((dl.w.den : Nat) : Int)])).1 i) (co (ndL l ([dl.w.num], [((dl.w.den : Nat) : Int)])).2 i)
    omega
  · have := b1 i
    have := b2 i
    have := Int.natAbs_sub_le (co (ndL l ([dl.w.num], [((dl.w.den : Nat) : Int)])).1 i) (co (ndL l ([dl.w.num], [((dl.w.den : Nat) : Int)])).2 i)
    omega
  · have := hE i
    rw [co_over (p := (ndL l ([dl.w.num], [((dl.w.den : Nat) : Int)])).1) (by omega), co_over (p := (ndL l ([dl.w.num], [((dl.w.den : Nat) : Int)])).2) (by omega)] at this
    exact (Int.mul_eq_zero.mp (by omega : g * co echo i = 0)).resolve_left hg
theorem fl_turn {l : List RungD} {dl : RungD} {echo left L' E' : List Int} {mu : Int} (hb : Bt l) (h1 : 1 ≤ l.length) (h6 : l.length ≤ 6) (hp : ∀ d ∈ dl :: l, Pos d ∧ Sz36 d) (hk : dl.k = .R) (w1 : dl.w.num.natAbs ≤ 6) (w2 : dl.w.den ≤ 6) (hds : dl.s = !(lastS l)) (hE : Ec l dl echo left)
    (hm : mu ≠ 0) (hm3 : mu.natAbs ≤ 3) (nL : Nm L') (nE : Nm E') (cL : ∀ i, co L' i = mu * co left i) (cE : ∀ i, co E' i = mu * co echo i) : FlPre L' E' l dl 50 49 := by
  have hpp : ∀ d ∈ dl :: l, Pos d := fun d hd => (hp d hd).1
  obtain ⟨g, K, hg, hK, gL, gE, hgap⟩ := turn_ec hb hpp hk hE
  obtain ⟨s1, s2, s3⟩ := turn_sz h6 hp hk w1 w2 hg gL gE
  obtain ⟨r1, r2⟩ := left_ladder2 (left := L') (mu := mu) hb hpp hk hg hm nL fun i => by rw [cL, ← gL]; grind
  have t1 : ∀ i, (co L' i).natAbs ≤ 36 * 144 ^ 6 := fun i => by
    rw [cL, Int.natAbs_mul]
    exact Nat.le_trans (Nat.mul_le_mul hm3 (s1 i)) (by decide)
  have t2 : ∀ i, (co E' i).natAbs ≤ 36 * 144 ^ 6 := fun i => by
    rw [cE, Int.natAbs_mul]
    exact Nat.le_trans (Nat.mul_le_mul hm3 (s2 i)) (by decide)
  have lE : E'.length ≤ 7 := nm_short nE fun i hi => by rw [cE, s3 i hi, Int.mul_zero]
  have bL : BdA (2 ^ 49) L' := .of_co fun i => Nat.le_trans (t1 i) (by decide)
  have bE : BdA (2 ^ 49) E' := .of_co fun i => Nat.le_trans (t2 i) (by decide)
  refine ⟨pol_of nL (by omega) bL (by decide), pol_of nE (by omega) bE (by decide), nL, nE, by omega, ⟨by omega, by omega⟩, r1, fun n hn => ?_, ?_, bL.mono (by decide +kernel), bE.mono (by decide +kernel), ⟨mu * mu * K, Int.mul_pos (sq_pos' hm) hK, fun x => ?_⟩, fun z => by rw [z] at h1; simp at h1, hds, fun t b nt nb ct cb => ?_⟩
  · obtain ⟨i, hi, rfl⟩ := List.mem_iff_getElem.mp hn
    have := t1 i
    unfold co at this
    rw [List.getD_eq_getElem?_getD, List.getElem?_eq_getElem hi] at this
    exact Nat.lt_of_le_of_lt this (by decide)
  · rw [r2]
    have : 2 ^ (l.length + 1) ≤ 2 ^ 7 := Nat.pow_le_pow_right (by decide) (by omega)
    omega
  · have e1 : ∀ y, ev L' y = mu * ev left y := fun y => by rw [ev_co (q := smul mu left) (fun i => by rw [co_smul, cL]), ev_smul]
    have e2 : ∀ y, ev E' y = mu * ev echo y := fun y => by rw [ev_co (q := smul mu echo) (fun i => by rw [co_smul, cE]), ev_smul]
    rw [e1, e1, e2, e2, ← hgap x]; grind
  · refine ⟨hb, hpp, hk, nt, nb, ⟨g, 2 * mu, hg, by omega, fun i => ?_, fun i => ?_⟩, .of_co fun i => ?_, .of_co fun i => ?_, ?_, by omega⟩
    · rw [ct, cL, cE]
      have a := gL i
      have b := gE i
      have : g * (mu * co left i + mu * co echo i) = mu * (g * co left i + g * co echo i) := by grind
      rw [this, a, b]; grind
    · rw [cb, cL, cE]
      have a := gL i
      have b := gE i
      have : g * (mu * co left i - mu * co echo i) = mu * (g * co left i - g * co echo i) := by grind
      rw [this, a, b]; grind
    · rw [ct]
      have := t1 i
      have := t2 i
      have := Int.natAbs_add_le (co L' i) (co E' i)
      exact Nat.le_trans (by omega : _ ≤ 72 * 144 ^ 6) (by decide)
    · rw [cb]
      have := t1 i
      have := t2 i
      have := Int.natAbs_sub_le (co L' i) (co E' i)
      exact Nat.le_trans (by omega : _ ≤ 72 * 144 ^ 6) (by decide)
    · have : 2 ^ l.length ≤ 2 ^ 6 := Nat.pow_le_pow_right (by decide) h6
      omega
theorem co_mapc (c : Int) (ns : List Int) (i : Nat) : co (ns.map fun z => c * z) i = c * co ns i := by
  unfold co
  rw [List.getD_eq_getElem?_getD, List.getElem?_map, List.getD_eq_getElem?_getD]
  cases ns[i]? with
  | none => simp
  | some z => rfl
theorem nm_mapc {c : Int} {ns : List Int} (hc : c ≠ 0) (h : Nm ns) : Nm (ns.map fun z => c * z) := by
  rcases h with h | h
  · rw [h]; exact .inl rfl
  · refine .inr ?_
    rw [co_mapc, List.length_map]
    exact Int.mul_ne_zero hc h
end Coil

set_option Elab.async false
set_option linter.all false
set_option maxRecDepth 100000
set_option maxHeartbeats 8000000
set_option exponentiation.threshold 10000
namespace Coil
open PySem L2 Evl RT
theorem rg2 : ∀ m : Fin 8, RgC 0 (2 * ((m.val : Nat) : Int) + 1) 2 (m.val + 1) := by unfold RgC; decide
theorem qp7_101' : QP 7 (2 ^ 101) := ⟨by decide, by decide, by decide, by decide +kernel, by decide +kernel⟩
section
variable {P : Program} {w : World} {K : PySem.W.Frag} {mg : Str → Option Value} {base : Heap} {tL tM tD : Tok}
def spLaw (K : PySem.W.Frag) : Sp := fun vs H Q _ => ∃ (a : Addr) (ns : List Int), vs = [.ref a] ∧ SqL K H a (ns.map V.int) ∧ ns.length ≤ 63 ∧ ∀ H', Q (.bl true) H'
theorem ok_law {f : Addr} {fd : FuncData} (F : Fun K "law" "law" s_law f fd) (T : Txt mg tL tM tD) (d_u_law_ladder : Def P w K mg base "_law_ladder" 4 ["row", "most", "series", "across"] (spLLad K)) (d_u_law_worth : Def P w K mg base "_law_worth" 3 ["row"] (spWorth K)) (d_echo_polys : Def P w K mg base "echo_polys" 8 ["ladder"] (spEchoP K)) (d_u_law_gap : Def P w K mg base "_law_gap" 3 ["left", "echo"] (spLGap K)) (d_is_left : Def P w K mg base "is_left" 6 ["polynomial"] (spLeft K)) (d_filter_ladder : Def P w K mg base "filter_ladder" 7 ["left", "echo"] (spFilt K)) (d_u_law_taken : Def P w K mg base "_law_taken" 1 ["row", "many"] (spTaken K)) (d_u_law_times : Def P w K mg base "_law_times" 2 ["one", "other"] (spTimes K)) (d_u_law_flip : Def P w K mg base "_law_flip" 1 ["one"] (spFlip K)) (d_gain_of : Def P w K mg base "gain_of" 8 ["ladder"] (spGainX K)) (d_function : Def P w K mg base "function" 5 ["top", "bottom"] (spFunction K)) : FnOk P w K mg base CX0 9 f fd ["script"] (spLaw K) := by
  refine F.ok sc_law (fun vs H Q E h => ?_) (fun cdv A outer s H vs Q E hr h => ?_)
  · obtain ⟨a, sc, rfl, _⟩ := h
    rfl
  · obtain ⟨a, sc, rfl, hS, hlen, k⟩ := h
    refine ⟨_, (pss_cons (ps_set (i := 1) sc_law.nd rfl (Or.inl rfl) (pe_row (pa_cons (pv 0) (pa_cons pe_int (pa_cons pe_int (pa_cons pe_int pa_nil))))))
  (pss_cons (ps_set (i := 2) sc_law.nd rfl (Or.inl rfl) (pe_callD d_u_law_ladder (hr.mono (by decide)) (pa_cons (pv 1) (pa_cons pe_int (pa_cons pe_str (pa_cons pe_str pa_nil))))))
  (Evl.pss_cut (ps_set (i := 3) sc_law.nd rfl (Or.inl rfl) (pe_ifExp (pt_cmpR op_eq (pe_ix (r := rIxT K) ix_tup (pe_ix (r := rIxT K) ix_tup (pv 2) (pe_un un_neg pe_int) (fun _ _ => rfl)) pe_int (fun _ _ => rfl)) pe_str (nomark _)) pe_str pe_str))
  (pss_cons (ps_set (i := 4) sc_law.nd rfl (Or.inl rfl) (pe_op op_catA (pv 2) (pe_tup (pa_cons (pe_tup (pa_cons (pv 3) (pa_cons pe_str (pa_cons (pe_callD d_u_law_worth (hr.mono (by decide)) (pa_cons (pv 1) pa_nil)) pa_nil)))) pa_nil))))
  (pss_cons (ps_asg (pe_callD d_echo_polys (hr.mono (by decide)) (pa_cons (pv 4) pa_nil)) (pg_tup rfl (pgs_cons (pg_name (i := 10) sc_law.nd rfl (Or.inl rfl)) (pgs_cons (pg_name (i := 11) sc_law.nd rfl (Or.inl rfl)) pgs_nil))))
  (pss_cons (ps_set (i := 5) sc_law.nd rfl (Or.inl rfl) (pe_callD d_u_law_gap (hr.mono (by decide)) (pa_cons (pv 10) (pa_cons (pv 11) pa_nil))))
  (pss_cons (ps_if (PW.pt (pw_or (pt_cmpR op_notB (pe_callD d_is_left (hr.mono (by decide)) (pa_cons (pv 10) pa_nil)) pe_bl (nomark _)) (pw_or (pt_cmpR op_ne (pe_callB (r := Evl.rLenS K) call_len_seq (by rfl) T.b_len (by decide +kernel) (pa_cons (pv 10) pa_nil)) (pe_op op_add (pe_callB (r := Evl.rLenS K) call_len_seq (by rfl) T.b_len (by decide +kernel) (pa_cons (pv 2) pa_nil)) pe_int) (nomark _)) (pw_or (pt_cmpR op_ne (pe_callB (r := Evl.rLenS K) call_len_seq (by rfl) T.b_len (by decide +kernel) (pa_cons (pv 5) pa_nil)) pe_int (nomark _)) (pw_or1 (pt_cmpR op_lt (pe_ix (r := rIxT K) ix_tup (pv 5) pe_int (fun _ _ => rfl)) pe_int (nomark _))))))) (pss_one (ps_ret pe_bl)) pss_nil)
  (pss_cons (ps_set (i := 6) sc_law.nd rfl (Or.inl rfl) (pe_callD d_filter_ladder (hr.mono (by decide)) (pa_cons (pv 10) (pa_cons (pv 11) pa_nil))))
  (pss_cons (ps_if (pt_cmpR (r := rNeD K) (op_neD hr.units) (pv 6) (pv 4) (nomark _)) (pss_one (ps_ret pe_bl)) pss_nil)
  (pss_cons (ps_set (i := 7) sc_law.nd rfl (Or.inr rfl) (pe_op op_add pe_int (pe_callD d_u_law_taken (hr.mono (by decide)) (pa_cons (pv 1) (pa_cons pe_int pa_nil)))))
  (pss_cons (ps_par (i := 12) (j := 13) rfl sc_law.nd rfl rfl (by decide) rfl rfl (pa_cons (pe_callTy call_tuple_of (by rfl) T.b_tuple (by decide +kernel) (pa_cons (pe_lc (own := [("number", 15)]) (g := gName 15) (tt := tYes) rfl sc_law.nd (pi_tup (pv 10)) (blkOk_by (own := [("number", 15)]) (N := ["script", "row", "core", "place", "ladder", "gap", "told", "many", "whole", "square", "left", "echo", "more", "less", "at", "number"]) (sc := defScope s_law) (by decide +kernel)) (fun _ _ _ _ _ => pg_name (i := 15) sc_law.nd rfl (Or.inl rfl)) (fun _ _ _ _ _ => pts_nil) (fun _ _ _ _ _ => (pe_op op_mulW (pe_un un_neg (pv 7)) (pv 15)))) pa_nil)) (pa_cons (pe_callTy call_tuple_of (by rfl) T.b_tuple (by decide +kernel) (pa_cons (pe_lc (own := [("number", 15)]) (g := gName 15) (tt := tYes) rfl sc_law.nd (pi_tup (pv 11)) (blkOk_by (own := [("number", 15)]) (N := ["script", "row", "core", "place", "ladder", "gap", "told", "many", "whole", "square", "left", "echo", "more", "less", "at", "number"]) (sc := defScope s_law) (by decide +kernel)) (fun _ _ _ _ _ => pg_name (i := 15) sc_law.nd rfl (Or.inl rfl)) (fun _ _ _ _ _ => pts_nil) (fun _ _ _ _ _ => (pe_op op_mulW (pe_un un_neg (pv 7)) (pv 15)))) pa_nil)) pa_nil)) (by rfl))
  (pss_cons (ps_if (pt_cmpR (r := rNeD K) (op_neD hr.units) (pe_callD d_filter_ladder (hr.mono (by decide)) (pa_cons (pv 12) (pa_cons (pv 13) pa_nil))) (pv 4) (nomark _)) (pss_one (ps_ret pe_bl)) pss_nil)
  (pss_cons (ps_set (i := 8) sc_law.nd rfl (Or.inr rfl) (pe_callD d_u_law_times (hr.mono (by decide)) (pa_cons (pv 10) (pa_cons (pe_callD d_u_law_flip (hr.mono (by decide)) (pa_cons (pv 10) pa_nil)) pa_nil))))
  (pss_cons (ps_set (i := 9) sc_law.nd rfl (Or.inl rfl) (pe_callTy call_tuple_of (by rfl) T.b_tuple (by decide +kernel) (pa_cons (pe_lc (own := [("at", 14)]) (g := gName 14) (tt := tYes) rfl sc_law.nd (pi_range3 rfl T.b_range (pa_cons pe_int (pa_cons (pe_callB (r := Evl.rLenS K) call_len_seq (by rfl) T.b_len (by decide +kernel) (pa_cons (pv 8) pa_nil)) (pa_cons pe_int pa_nil)))) (blkOk_by (own := [("at", 14)]) (N := ["script", "row", "core", "place", "ladder", "gap", "told", "many", "whole", "square", "left", "echo", "more", "less", "at", "number"]) (sc := defScope s_law) (by decide +kernel)) (fun _ _ _ _ _ => pg_name (i := 14) sc_law.nd rfl (Or.inl rfl)) (fun _ _ _ _ _ => pts_nil) (fun _ _ _ _ _ => (pe_ifExp (pt_cmpR op_eq (pe_op op_mod (pe_callTy call_int1 (by rfl) T.b_int (by decide +kernel) (pa_cons (pv 14) pa_nil)) pe_int) pe_int (nomark _)) (pe_ix (r := rIxT K) ix_tup (pv 8) (pv 14) (fun _ _ => rfl)) (pe_un un_neg (pe_ix (r := rIxT K) ix_tup (pv 8) (pv 14) (fun _ _ => rfl)))))) pa_nil)))
  (pss_one (ps_ret (pe_cmpR (r := rEqD K) (op_eqD hr.units) (pe_callD d_gain_of (hr.mono (by decide)) (pa_cons (pv 4) pa_nil)) (pe_callD d_function (hr.mono (by decide)) (pa_cons (pv 5) (pa_cons (pv 9) pa_nil))) (nomark _)))))))))))))))))), ?_⟩
    refine ⟨_, rfl, a, 3382, rfl, by decide, by decide, fun r hr0 => ?_⟩
    have x0 : Ex H (upd H r (RowO a r)) := Ex.new hr0
    have hR : upd H r (RowO a r) r = some (RowO a r) := upd_same
    have hS1 := ex_l x0 hS
    generalize upd H r (RowO a r) = H0 at x0 hR hS1
    refine ⟨_, rfl, r, a, sc, 6, rfl, hR, hS1, by decide, by decide, fun pa H1 xs l hpa e1 ha hx l1 l6 ok hbt => ?_⟩
    have l6' : l.length ≤ 6 := by omega
    have hA := SqT.of (K := K) ha
    have hxl : xs.length = l.length := hx.1
    obtain ⟨pl, hpl, hdl⟩ := hx.2 (xs.length - 1) _ (List.getElem?_eq_getElem (by omega))
    have hat : atI xs (-1) = some (.ref pl) := at_lastV (by rw [List.getElem?_eq_getElem (by omega), hpl])
    have hls : (l.getD (xs.length - 1) default).s = lastS l := by
      unfold lastS
      rw [List.getLast?_eq_getElem?, List.getD_eq_getElem?_getD, hxl]
      rw [List.getElem?_eq_getElem (by omega)]
      rfl
    obtain ⟨pw0, hd1, _⟩ := hdl
    rw [hls] at hd1
    have R1 := e1 _ _ hR
    have S1 := ex_l e1 hS1
    -- the side of the resistor
    refine ⟨fun σ' H' => H' = H1 ∧ σ' = [some (.ref a), some (.ref r), some (.ref pa), some (.str (sS (!(lastS l)))), none, none, none, none, none, none, none, none, none, none, none, none], ?_, ?_⟩
    · refine ⟨_, rfl, _, rfl, pa, _, _, _, rfl, rfl, hA, hat, pl, _, _, _, rfl, rfl, SqT.of hd1, rfl, rfl, _, rfl, ?_⟩
      refine ite2 (fun z => ?_) (fun z => ?_)
      · have hsl : lastS l = true := (sS_S _).mp (of_decide_eq_true z)
        rw [hsl]
        exact ⟨rfl, rfl⟩
      · have hsl : lastS l = false := by
          cases h : lastS l with
          | false => rfl
          | true => exact absurd (decide_eq_true ((sS_S _).mpr h)) z
        rw [hsl]
        exact ⟨rfl, rfl⟩
    rintro σ H' ⟨rfl, rfl⟩
    -- the ladder
    have okl : ∀ d ∈ l, Pos d ∧ Sz36 d := fun d hd => by
      have h1 := ok d hd
      exact ⟨h1.1, by have := h1.2.1; omega, by have := h1.2.2; omega⟩
    refine ⟨_, rfl, _, rfl, _, rfl, r, a, sc, rfl, R1, S1, fun p3 H3 q hp3 e3 hq okq => ?_⟩
    refine ⟨(by show 3 ≤ sizeLine; decide), fun p4 hp4 => ?_⟩
    have f4 := Ex.new hp4 (o := .tup [.str (sS (!(lastS l))), .str "R", .ref p3])
    generalize hdl : (⟨!(lastS l), .R, q⟩ : RungD) = dl
    have hds : dl.s = !(lastS l) := by rw [← hdl]
    have hdk : dl.k = .R := by rw [← hdl]
    have hdw : dl.w = q := by rw [← hdl]
    have hd : RgO (upd H3 p4 (.tup [.str (sS (!(lastS l))), .str "R", .ref p3])) p4 dl := ⟨p3, by rw [hds, hdk]; exact upd_same, by rw [hdw]; exact hq.ex' f4⟩
    refine ⟨(by show 1 ≤ sizeLine; decide), fun p5 hp5 => ?_⟩
    have f5 := Ex.new hp5 (o := .tup [.ref p4])
    have g5 := (e3.trans f4).trans f5
    refine ⟨pa, p5, xs, [.ref p4], rfl, rfl, SqT.of (g5 _ _ ha), SqT.of upd_same, (by have := line_of (n := xs.length + 1) (by omega); exact Nat.le_of_lt this), fun z => by rw [z] at hxl; simp at hxl; omega, fun _ z => (nomatch z), fun _ _ p6 hp6 => ?_⟩
    have f6 := Ex.new hp6 (o := .tup (xs ++ [.ref p4]))
    have hL0 := upd_same (H := upd (upd H3 p4 (.tup [.str (sS (!(lastS l))), .str "R", .ref p3])) p5 (.tup [.ref p4])) (a := p6) (o := .tup (xs ++ [.ref p4]))
    have hLo := ((hx.ex' g5).ex' f6).snoc ((hd.ex' f5).ex' f6)
    have g6 := g5.trans f6
    have hA6 := ex_t g6 hA
    generalize upd (upd (upd H3 p4 (.tup [.str (sS (!(lastS l))), .str "R", .ref p3])) p5 (.tup [.ref p4])) p6 (.tup (xs ++ [.ref p4])) = H6 at hL0 hLo g6 hA6
    have hzl : (xs ++ [V.ref p4]).length = l.length + 1 := by rw [List.length_append, hxl]; rfl
    generalize xs ++ [V.ref p4] = zs at hL0 hLo hzl
    have w1 : dl.w.num.natAbs ≤ 6 := by rw [hdw]; exact okq.2.1
    have w2 : dl.w.den ≤ 6 := by rw [hdw]; exact okq.2.2
    have okn : ∀ d ∈ dl :: l, Pos d ∧ Sz36 d := fun d hd => by
      rcases List.mem_cons.mp hd with rfl | hd
      · exact ⟨by show 0 < d.w.num; rw [hdw]; exact okq.1, by omega, by omega⟩
      · exact okl d hd
    have h56 : L56 l dl := .inr ⟨l6', hdk, w1, w2⟩
    have hLS := SqT.of (K := K) hL0
    have R6 := g6 _ _ R1
    have S6 := ex_l g6 S1
    clear hd hq f4 f5 f6 g5 g6 hp3 hp4 hp5 hp6 hdl ha hA hx e3 hpl hat hd1 hls
    -- left and echo
    refine ⟨_, rfl, p6, zs, l, dl, rfl, ⟨hLS, hLo, l1, h56, okn⟩, hbt.lc, hdk, fun pe H7 e lf hpe e7 hfe hE le ll be bl => ?_⟩
    obtain ⟨ql, qe, g1, g2, g3⟩ := id hfe.ex
    refine ⟨pe, _, rfl, SqT.of g1, rfl, ?_⟩
    refine ⟨_, _, rfl, _, _, rfl, rfl, ?_⟩
    have hpp : ∀ d ∈ dl :: l, Pos d := fun d hd => (okn d hd).1
    obtain ⟨gm, KK, hgm, hKK, gL, gE, hgap⟩ := turn_ec hbt hpp hdk hE
    obtain ⟨s1, s2, s3⟩ := turn_sz l6' okn hdk w1 w2 hgm gL gE
    have nL := hE.1.nb
    have nE := hE.1.nt
    have fl1 := fl_turn (mu := 1) hbt l1 l6' okn hdk w1 w2 hds hE (by decide) (by decide) nL nE (fun i => by omega) (fun i => by omega)
    obtain ⟨r1, r2⟩ := left_ladder2 (left := lf) (mu := 1) hbt hpp hdk hgm (by decide) nL fun i => by rw [gL]; omega
    have b60 : ∀ {p : List Int}, (∀ i, (co p i).natAbs ≤ 12 * 144 ^ 6) → BdA (2 ^ 60) p := fun h => .of_co fun i => Nat.le_trans (h i) (by decide)
    -- the gap
    refine ⟨_, rfl, _, rfl, ql, qe, lf, e, rfl, SqT.of g2, SqT.of g3, nL, nE, by omega, by omega, b60 s1, b60 s2, fun pg H8 gg hpg e8 hgg ngg hgx => ?_⟩
    obtain rfl : gg = [KK] := by
      have hc : ∀ i, co gg i = co [KK] i := ev_ext gg [KK] 0 fun x _ => by rw [hgx, hgap, ev1]
      have hl1 : gg.length = 1 := nm_len ngg (q := [KK]) (.inr (by show KK ≠ 0; omega)) hc
      match gg, hl1, hc 0 with
      | [z], _, h => exact congrArg (fun y => [y]) h
    have x78 := e7.trans e8
    -- is_left
    refine ⟨_, rfl, ql, lf, 49, rfl, SqT.of (e8 _ _ g2), fl1.pl, hE.1.b0, fl1.bl, fl1.sb, fun H9 e9 => ?_⟩
    rw [r1]
    refine ⟨true, true, rfl, rfl, false, rfl, iteF ?_⟩
    have x89 := e8.trans e9
    refine ⟨_, rfl, ql, _, rfl, .inr (SqT.of (x89 _ _ g2)), ?_⟩
    have x79 := e7.trans x89
    refine ⟨_, rfl, pa, _, rfl, .inr (ex_t x79 hA6), _, _, rfl, rfl, rfl, _, rfl, ?_⟩
    refine ifNF (by rw [List.length_map, r2, hxl]; rfl) ?_
    refine ⟨_, rfl, pg, _, rfl, .inr (SqT.of (e9 _ _ hgg)), rfl, _, rfl, ifNF rfl ?_⟩
    refine ⟨_, rfl, pg, _, _, _, rfl, rfl, SqT.of (e9 _ _ hgg), rfl, _, _, rfl, rfl, _, rfl, ?_⟩
    refine ite2 (fun z => absurd (of_decide_eq_true z) (by omega)) (fun _ => ?_)
    -- there and back
    have g29 := x89 _ _ g2
    have g39 := x89 _ _ g3
    have hg9 := e9 _ _ hgg
    have hL9 := ex_t x79 hLS
    have hLo9 := hLo.ex' x79
    have R9 := x79 _ _ R6
    have S9 := ex_l x79 S6
    clear R6 S6 R1 S1 hR hS1 x0 e1 hLS hLo hA6 x78 x79 x89 e7 e8 e9 hgg g1 g2 g3 hfe hpe hpg hL0
    refine ⟨_, rfl, _, rfl, ql, qe, lf, e, l, dl, 50, 49, rfl, SqT.of g29, SqT.of g39, fl1, fun pt Ha xt hpt ea hta hxt => ?_⟩
    refine ⟨_, rfl, _, rfl, ?_⟩
    refine ⟨_, _, dp_la (SqT.of hta) hxt, dp_la (ex_t ea hL9) (hLo9.ex' ea), shaped_la _, shaped_la _, ?_⟩
    rw [eqv_la]
    refine ⟨false, rfl, iteF ?_⟩
    -- the same times a number
    refine ⟨_, rfl, r, a, sc, 3, rfl, ea _ _ R9, ex_l ea S9, by decide, by decide, fun n n0 n1 => ?_⟩
    refine ⟨_, _, rfl, rfl, ?_⟩
    have hm0 : -(1 + n) ≠ 0 := by omega
    have hm3 : (-(1 + n)).natAbs ≤ 3 := by omega
    have comp : ∀ (H1 : L2.Hp) (p : Addr) (L : List Int), H1 p = some (.tup (L.map V.int)) → L.length ≤ 20 → (∀ i, (co L i).natAbs ≤ 12 * 144 ^ 6) → (∀ z ∈ L, CMulW (-(1 + n)) z) := fun H1 p L _ _ hb z hz => by
      obtain ⟨i, hi, rfl⟩ := List.mem_iff_getElem.mp hz
      have h2 := hb i
      unfold co at h2
      rw [List.getD_eq_getElem?_getD, List.getElem?_eq_getElem hi] at h2
      exact wide_mul (a := 2) (b := 60) (by omega) (Nat.lt_of_le_of_lt h2 (by decide)) (by decide) (by decide) (by decide)
    have g2a := ea _ _ g29
    have g3a := ea _ _ g39
    refine ⟨_, rfl, ql, rfl, ⟨_, SqT.of g2a⟩, fun D hD => lc_tup (K := K) (a := ql) (xs := lf.map V.int) (fun i H' => Ex Ha H' ∧ H' D = some (.lst (((lf.take i).map fun z => -(1 + n) * z).map V.int))) ⟨Ex.new hD, upd_same⟩ (fun i H' _ p => SqT.of (p.1 _ _ g2a)) ?_ ?_⟩
    · rintro i x H' hi ⟨e', hD'⟩
      obtain ⟨z, hz, rfl⟩ := map_int_get hi
      refine ⟨rfl, ?_⟩
      refine ⟨_, rfl, _, rfl, _, rfl, _, _, rfl, rfl, comp Ha ql lf g2a (by omega) s1 z (List.mem_of_getElem? hz), _, hD', ?_, Ex.mut e' hD, ?_⟩
      · have := (List.getElem?_eq_some_iff.mp hz).1
        exact Nat.lt_of_le_of_lt (by simp; omega : _ ≤ 100) (by decide)
      · rw [upd_same, List.take_add_one, hz]
        simp
    rintro Hb ⟨eb, hDb⟩
    rw [List.length_map, List.take_length] at hDb
    refine ⟨D, _, rfl, .inl ⟨SqL.of hDb, fun pm hpm => ?_⟩⟩
    have fm := Ex.new hpm (o := .tup ((lf.map fun z => -(1 + n) * z).map V.int))
    have hmo := upd_same (H := Hb) (a := pm) (o := .tup ((lf.map fun z => -(1 + n) * z).map V.int))
    have ebm := eb.trans fm
    generalize upd Hb pm (.tup ((lf.map fun z => -(1 + n) * z).map V.int)) = Hc at hmo ebm
    have g3c := ebm _ _ g3a
    refine ⟨_, rfl, qe, rfl, ⟨_, SqT.of g3c⟩, fun D2 hD2 => lc_tup (K := K) (a := qe) (xs := e.map V.int) (fun i H' => Ex Hc H' ∧ H' D2 = some (.lst (((e.take i).map fun z => -(1 + n) * z).map V.int))) ⟨Ex.new hD2, upd_same⟩ (fun i H' _ p => SqT.of (p.1 _ _ g3c)) ?_ ?_⟩
    · rintro i x H' hi ⟨e', hD'⟩
      obtain ⟨z, hz, rfl⟩ := map_int_get hi
      refine ⟨rfl, ?_⟩
      refine ⟨_, rfl, _, rfl, _, rfl, _, _, rfl, rfl, comp Hc qe e g3c (by omega) s2 z (List.mem_of_getElem? hz), _, hD', ?_, Ex.mut e' hD2, ?_⟩
      · have := (List.getElem?_eq_some_iff.mp hz).1
        exact Nat.lt_of_le_of_lt (by simp; omega : _ ≤ 100) (by decide)
      · rw [upd_same, List.take_add_one, hz]
        simp
    rintro Hd ⟨ed, hDd⟩
    rw [List.length_map, List.take_length] at hDd
    refine ⟨D2, _, rfl, .inl ⟨SqL.of hDd, fun pn hpn => ?_⟩⟩
    have fn := Ex.new hpn (o := .tup ((e.map fun z => -(1 + n) * z).map V.int))
    have hno := upd_same (H := Hd) (a := pn) (o := .tup ((e.map fun z => -(1 + n) * z).map V.int))
    have edn := ed.trans fn
    generalize upd Hd pn (.tup ((e.map fun z => -(1 + n) * z).map V.int)) = He at hno edn
    refine ⟨_, _, rfl, ?_⟩
    have hmo := edn _ _ hmo
    have fl2 := fl_turn (mu := -(1 + n)) hbt l1 l6' okn hdk w1 w2 hds hE hm0 hm3 (nm_mapc hm0 nL) (nm_mapc hm0 nE) (co_mapc _ _) (co_mapc _ _)
    refine ⟨_, rfl, _, rfl, pm, pn, _, _, l, dl, 50, 49, rfl, SqT.of hmo, SqT.of hno, fl2, fun pt2 Hf xt2 hpt2 ef htf hxf => ?_⟩
    have x9f := ea.trans (ebm.trans (edn.trans ef))
    refine ⟨_, rfl, ?_⟩
    refine ⟨_, _, dp_la (SqT.of htf) hxf, dp_la (ex_t x9f hL9) (hLo9.ex' x9f), shaped_la _, shaped_la _, ?_⟩
    rw [eqv_la]
    refine ⟨false, rfl, iteF ?_⟩
    have hL := ex_t x9f hL9
    have hLo := hLo9.ex' x9f
    have g2f := x9f _ _ g29
    have hgf := x9f _ _ hg9
    clear hxf htf hxt hta hDd hDb hmo hno g2a g3a g3c ebm edn x9f hL9 hLo9 fl2 comp R9 S9 ea ef ed eb fm fn
    -- the square
    have bkl := bk_len 1 lf
    refine ⟨_, rfl, _, rfl, ql, lf, rfl, SqT.of g2f, by omega, fun pb Hg hpb eg hgb => ?_⟩
    refine ⟨ql, pb, lf, bk 1 lf, rfl, SqT.of (eg _ _ g2f), SqT.of hgb, by omega, by omega, b60 s1, bk_bd (b60 s1), fun pw Hh hpw eh hh => ?_⟩
    obtain ⟨m1, m2, m3, _, _⟩ := mulL_facts nL (bk_nm nL) (b60 s1) (bk_bd (b60 s1))
    have lf0 := hE.1.b0
    have bk0 : bk 1 lf ≠ [] := fun z => lf0 (List.length_eq_zero_iff.mp (by rw [← bkl, z]; rfl))
    have hmul : mulL lf (bk 1 lf) = mulP lf (bk 1 lf) := by rw [mulL_nm nL (bk_nm nL), if_neg (by rintro (z | z) <;> contradiction)]
    rw [hmul] at hh m1 m2 m3
    obtain ⟨n1', n2'⟩ := nm_mulP nL (bk_nm nL) lf0 bk0
    have hWl : (mulP lf (bk 1 lf)).length = 2 * l.length + 1 := by rw [n2', bkl, r2]; omega
    have wbd : ∀ i, (co (mulP lf (bk 1 lf)) i).natAbs ≤ 2 ^ 100 := fun i => by
      have h1 := mulP_bd (X := 12 * 144 ^ 6) (Y := 12 * 144 ^ 6) s1 (fun i => by rw [bk_abs]; exact s1 i) i
      have h2 := Nat.mul_le_mul_right (12 * 144 ^ 6 * (12 * 144 ^ 6)) (show lf.length ≤ 7 by omega)
      exact Nat.le_trans h1 (Nat.le_trans h2 (by decide))
    have hrt : ∀ j, co (rt (mulP lf (bk 1 lf))) j = (-1) ^ j * co (mulP lf (bk 1 lf)) (2 * j) := co_rt _
    have szr := fun x => sz_rel (b := lf) (sl := rt (mulP lf (bk 1 lf))) (fun i => rfl) x
    generalize hW : mulP lf (bk 1 lf) = W at hh m1 m2 m3 hWl wbd hrt szr n1'
    have hSW := SqT.of (K := K) hh
    have hRg := rg2 ⟨l.length, by omega⟩
    refine ⟨_, rfl, pw, _, rfl, .inr hSW, ?_⟩
    rw [List.length_map, hWl]
    refine ⟨0, 2 * ((l.length : Nat) : Int) + 1, 2, l.length + 1, (by simp), hRg, fun D hD => lc_it (walk_rangeC (lo := 0) (c := 2) (n := l.length + 1)) (fun i H' => Ex Hh H' ∧ H' D = some (.lst (((List.range i).map fun j => (-1) ^ j * co W (2 * j)).map V.int))) ⟨Ex.new hD, upd_same⟩ (fun _ _ _ _ => True.intro) ?_ ?_⟩
    · rintro i y H1 H2 hi ⟨e', hl⟩ ⟨rfl, rfl⟩
      refine ⟨rfl, ?_⟩
      have hat : atI (W.map V.int) (0 + (i : Nat) * (2 : Int)) = some (.int (co W (2 * i))) := by
        rw [show 0 + ((i : Nat) : Int) * 2 = ((2 * i : Nat) : Int) by omega]; exact at_map (by omega)
      have fin : ∀ z : Int, z = (-1) ^ i * co W (2 * i) → ∃ acc, H2 D = some (HO.lst acc) ∧ acc.length < sizeLine ∧ Ex Hh (upd H2 D (HO.lst (acc ++ [.int z]))) ∧ upd H2 D (HO.lst (acc ++ [.int z])) D = some (HO.lst (((List.range (i + 1)).map fun j => (-1) ^ j * co W (2 * j)).map V.int)) := fun z hz => by
        refine ⟨_, hl, ?_, Ex.mut e' hD, ?_⟩
        · rw [List.length_map, List.length_map, List.length_range]
          exact line_of (by omega)
        · rw [upd_same, List.range_succ, hz]
          simp
      refine ⟨_, rfl, .inl ⟨_, rfl, _, _, rfl, rfl, (by decide : (0 : Int) < 4), ?_⟩⟩
      refine ⟨rfl, _, rfl, ?_⟩
      refine ite2 (fun z => ?_) (fun z => ?_)
      · have hq : (0 + ((i : Nat) : Int) * 2) % 4 = 0 := V.int.inj (of_decide_eq_true z)
        refine ⟨_, rfl, _, rfl, pw, _, _, _, rfl, rfl, ex_t e' hSW, hat, fin _ ?_⟩
        rw [neg_one_pow, if_neg (by omega)]; omega
      · have hq : ¬ (0 + ((i : Nat) : Int) * 2) % 4 = 0 := fun y => z (decide_eq_true (congrArg V.int y))
        refine ⟨_, rfl, _, rfl, pw, _, _, _, rfl, rfl, ex_t e' hSW, hat, _, rfl, fin _ ?_⟩
        rw [neg_one_pow, if_pos (by omega)]; omega
    rintro Hi ⟨ei, hDi⟩
    refine ⟨D, _, rfl, .inl ⟨SqL.of hDi, fun ps hps => ?_⟩⟩
    generalize hSS : (List.range (l.length + 1)).map (fun j => (-1) ^ j * co W (2 * j)) = S at hDi hps
    have coS : ∀ j, co S j = co (rt W) j := fun j => by
      rw [hrt, ← hSS, co_range]
      split
      · rfl
      · rw [co_over (p := W) (by omega), Int.mul_zero]
    have lS : S.length = l.length + 1 := by rw [← hSS, List.length_map, List.length_range]
    have nS : Nm S := .inr (by
      rw [lS, coS, hrt]
      have h1 : co W (W.length - 1) ≠ 0 := n1'.resolve_left fun z => by rw [z] at hWl; simp at hWl
      rw [hWl] at h1
      refine Int.mul_ne_zero (Int.pow_ne_zero (by decide)) ?_
      rw [show l.length + 1 - 1 = l.length by omega]
      exact h1)
    have bS : BdA (2 ^ 101) S := .of_co fun i => by
      rw [coS, hrt, Int.natAbs_mul]
      have h1 : ((-1 : Int) ^ i).natAbs = 1 := by rw [neg_one_pow]; split <;> rfl
      rw [h1, Nat.one_mul]
      exact Nat.le_trans (wbd _) (by decide)
    have fs := Ex.new hps (o := .tup (S.map V.int))
    have hps2 := upd_same (H := Hi) (a := ps) (o := .tup (S.map V.int))
    have eis := (eg.trans eh).trans (ei.trans fs)
    generalize upd Hi ps (.tup (S.map V.int)) = Hj at hps2 eis
    -- the gain
    refine ⟨_, rfl, p6, zs, l, dl, rfl, ex_t eis hL, hLo.ex' eis, l1, h56, okn, hbt.lc, hdk, fun pgn Hk t b hpgn ek hft hG => ?_⟩
    have nK : Nm [KK] := .inr (by show KK ≠ 0; omega)
    have bK : BdA (2 ^ 101) [KK] := fun z hz => by
      rw [List.mem_singleton.mp hz]
      have h0 := hgap 0
      rw [show -(0 : Int) = 0 from rfl, ev_0, ev_0] at h0
      have a1 := Nat.mul_le_mul (s1 0) (s1 0)
      have a2 := Nat.mul_le_mul (s2 0) (s2 0)
      rw [← Int.natAbs_mul] at a1 a2
      have a3 := Int.natAbs_sub_le (co lf 0 * co lf 0) (co e 0 * co e 0)
      rw [h0] at a3
      exact Nat.le_trans (by omega : _ ≤ 2 * (12 * 144 ^ 6 * (12 * 144 ^ 6))) (by decide)
    refine ⟨_, rfl, _, rfl, pg, ps, [KK], S, 2 ^ 101, rfl, SqT.of ((eis.trans ek) _ _ hgf), SqT.of (ek _ _ hps2), pol_of nK (by simp) bK (by decide), pol_of nS (by omega) bS (by decide), qp7_101'.pre nK nS (fun z => by rw [z] at lS; simp at lS) bK bS (by simp) (by omega), fun pz Hl t' b' hpz el hfz hCz hxx _ _ _ _ => ?_⟩
    obtain ⟨rfl, rfl⟩ : t = t' ∧ b = b' := by
      obtain ⟨hGC, e', lf', se, sl, hE', q1, q2, hX, _⟩ := hG
      obtain ⟨rfl, rfl⟩ := ec_same hpp hE' hE
      refine can_same hGC hCz fun X => ?_
      have k1 : ev sl X = ev S X := by
        refine sq_ext (B := 0) (fun x _ => ?_) X
        rw [q1, ev_co coS, szr]
      have k2 : ev (addP sl (smul (-1) se)) X = ev [KK] X := sq_ext (B := 0) (fun x _ => by
        rw [ev_add, ev_smul, q1, q2, ev1, ← hgap x]; omega) X
      rw [ev_add, ev_smul, ev1] at k2
      have h1 := hX X
      have h2 := hxx X
      rw [ev1, ← k1] at h2
      have k3 : ev sl X - ev se X = KK := by omega
      rw [k3] at h1
      refine Int.eq_of_mul_eq_mul_left (show KK ≠ 0 by omega) ?_
      have a1 : KK * (ev t X * ev b' X) = ev t X * (KK * ev b' X) := by grind
      have a2 : KK * (ev t' X * ev b X) = ev t' X * (KK * ev b X) := by grind
      rw [a1, ← h2, a2, ← h1]; grind
    refine ⟨_, _, dp_fn (hft.ex' el), dp_fn hfz, shaped_fn _ _, shaped_fn _ _, ?_⟩
    rw [eqv_fn, decide_eq_true rfl, decide_eq_true rfl]
    exact k _
end
end Coil

set_option Elab.async false
set_option linter.all false
set_option maxRecDepth 100000
set_option maxHeartbeats 4000000
namespace Coil
open PySem L2 Evl
/-! ### what the top has written -/
theorem all_mk {l : PySem.W.OpenLaw} {w : World} {K : PySem.W.Frag} {h : Heap} {mg : Str → Option Value} {fa f0 f1 f2 f3 f4 f5 f6 f7 f8 f9 f10 f11 f12 f13 f14 f15 f16 f17 f18 f19 f20 f21 f22 f23 f24 f25 f26 f27 f28 f29 f30 f31 f32 f33 f34 f35 f36 f37 f38 f39 f40 f41 f42 f43 f44 f45 f46 f47 f48 f49 f50 f51 f52 f53 f54 f55 f56 f57 f58 f59 : Addr} (X : K.In h) (G : h.Ns mainGlobals mg) (hfa : mg "law" = some (.ref fa))
    {od0 an0 : Option Addr} {sl0 : Array (Option Value)} {oc0 kV0 dc0 pm0 cd0 ct0 : Value}
    {od1 an1 : Option Addr} {sl1 : Array (Option Value)} {oc1 kV1 dc1 pm1 cd1 ct1 : Value}
    {od2 an2 : Option Addr} {sl2 : Array (Option Value)} {oc2 kV2 dc2 pm2 cd2 ct2 : Value}
    {od3 an3 : Option Addr} {sl3 : Array (Option Value)} {oc3 kV3 dc3 pm3 cd3 ct3 : Value}
    {od4 an4 : Option Addr} {sl4 : Array (Option Value)} {oc4 kV4 dc4 pm4 cd4 ct4 : Value}
    {od5 an5 : Option Addr} {sl5 : Array (Option Value)} {oc5 kV5 dc5 pm5 cd5 ct5 : Value}
    {od6 an6 : Option Addr} {sl6 : Array (Option Value)} {oc6 kV6 dc6 pm6 cd6 ct6 : Value}
    {od7 an7 : Option Addr} {sl7 : Array (Option Value)} {oc7 kV7 dc7 pm7 cd7 ct7 : Value}
    {od8 an8 : Option Addr} {sl8 : Array (Option Value)} {oc8 kV8 dc8 pm8 cd8 ct8 : Value}
    {od9 an9 : Option Addr} {sl9 : Array (Option Value)} {oc9 kV9 dc9 pm9 cd9 ct9 : Value}
    {od10 an10 : Option Addr} {sl10 : Array (Option Value)} {oc10 kV10 dc10 pm10 cd10 ct10 : Value}
    {od11 an11 : Option Addr} {sl11 : Array (Option Value)} {oc11 kV11 dc11 pm11 cd11 ct11 : Value}
    {od12 an12 : Option Addr} {sl12 : Array (Option Value)} {oc12 kV12 dc12 pm12 cd12 ct12 : Value}
    {od13 an13 : Option Addr} {sl13 : Array (Option Value)} {oc13 kV13 dc13 pm13 cd13 ct13 : Value}
    {od14 an14 : Option Addr} {sl14 : Array (Option Value)} {oc14 kV14 dc14 pm14 cd14 ct14 : Value}
    {od15 an15 : Option Addr} {sl15 : Array (Option Value)} {oc15 kV15 dc15 pm15 cd15 ct15 : Value}
    {od16 an16 : Option Addr} {sl16 : Array (Option Value)} {oc16 kV16 dc16 pm16 cd16 ct16 : Value}
    {od17 an17 : Option Addr} {sl17 : Array (Option Value)} {oc17 kV17 dc17 pm17 cd17 ct17 : Value}
    {od18 an18 : Option Addr} {sl18 : Array (Option Value)} {oc18 kV18 dc18 pm18 cd18 ct18 : Value}
    {od19 an19 : Option Addr} {sl19 : Array (Option Value)} {oc19 kV19 dc19 pm19 cd19 ct19 : Value}
    {od20 an20 : Option Addr} {sl20 : Array (Option Value)} {oc20 kV20 dc20 pm20 cd20 ct20 : Value}
    {od21 an21 : Option Addr} {sl21 : Array (Option Value)} {oc21 kV21 dc21 pm21 cd21 ct21 : Value}
    {od22 an22 : Option Addr} {sl22 : Array (Option Value)} {oc22 kV22 dc22 pm22 cd22 ct22 : Value}
    {od23 an23 : Option Addr} {sl23 : Array (Option Value)} {oc23 kV23 dc23 pm23 cd23 ct23 : Value}
    {od24 an24 : Option Addr} {sl24 : Array (Option Value)} {oc24 kV24 dc24 pm24 cd24 ct24 : Value}
    {od25 an25 : Option Addr} {sl25 : Array (Option Value)} {oc25 kV25 dc25 pm25 cd25 ct25 : Value}
    {od26 an26 : Option Addr} {sl26 : Array (Option Value)} {oc26 kV26 dc26 pm26 cd26 ct26 : Value}
    {od27 an27 : Option Addr} {sl27 : Array (Option Value)} {oc27 kV27 dc27 pm27 cd27 ct27 : Value}
    {od28 an28 : Option Addr} {sl28 : Array (Option Value)} {oc28 kV28 dc28 pm28 cd28 ct28 : Value}
    {od29 an29 : Option Addr} {sl29 : Array (Option Value)} {oc29 kV29 dc29 pm29 cd29 ct29 : Value}
    {od30 an30 : Option Addr} {sl30 : Array (Option Value)} {oc30 kV30 dc30 pm30 cd30 ct30 : Value}
    {od31 an31 : Option Addr} {sl31 : Array (Option Value)} {oc31 kV31 dc31 pm31 cd31 ct31 : Value}
    {od32 an32 : Option Addr} {sl32 : Array (Option Value)} {oc32 kV32 dc32 pm32 cd32 ct32 : Value}
    {od33 an33 : Option Addr} {sl33 : Array (Option Value)} {oc33 kV33 dc33 pm33 cd33 ct33 : Value}
    {od34 an34 : Option Addr} {sl34 : Array (Option Value)} {oc34 kV34 dc34 pm34 cd34 ct34 : Value}
    {od35 an35 : Option Addr} {sl35 : Array (Option Value)} {oc35 kV35 dc35 pm35 cd35 ct35 : Value}
    {od36 an36 : Option Addr} {sl36 : Array (Option Value)} {oc36 kV36 dc36 pm36 cd36 ct36 : Value}
    {od37 an37 : Option Addr} {sl37 : Array (Option Value)} {oc37 kV37 dc37 pm37 cd37 ct37 : Value}
    {od38 an38 : Option Addr} {sl38 : Array (Option Value)} {oc38 kV38 dc38 pm38 cd38 ct38 : Value}
    {od39 an39 : Option Addr} {sl39 : Array (Option Value)} {oc39 kV39 dc39 pm39 cd39 ct39 : Value}
    {od40 an40 : Option Addr} {sl40 : Array (Option Value)} {oc40 kV40 dc40 pm40 cd40 ct40 : Value}
    {od41 an41 : Option Addr} {sl41 : Array (Option Value)} {oc41 kV41 dc41 pm41 cd41 ct41 : Value}
    {od42 an42 : Option Addr} {sl42 : Array (Option Value)} {oc42 kV42 dc42 pm42 cd42 ct42 : Value}
    {od43 an43 : Option Addr} {sl43 : Array (Option Value)} {oc43 kV43 dc43 pm43 cd43 ct43 : Value}
    {od44 an44 : Option Addr} {sl44 : Array (Option Value)} {oc44 kV44 dc44 pm44 cd44 ct44 : Value}
    {od45 an45 : Option Addr} {sl45 : Array (Option Value)} {oc45 kV45 dc45 pm45 cd45 ct45 : Value}
    {od46 an46 : Option Addr} {sl46 : Array (Option Value)} {oc46 kV46 dc46 pm46 cd46 ct46 : Value}
    {od47 an47 : Option Addr} {sl47 : Array (Option Value)} {oc47 kV47 dc47 pm47 cd47 ct47 : Value}
    {od48 an48 : Option Addr} {sl48 : Array (Option Value)} {oc48 kV48 dc48 pm48 cd48 ct48 : Value}
    {od49 an49 : Option Addr} {sl49 : Array (Option Value)} {oc49 kV49 dc49 pm49 cd49 ct49 : Value}
    {od50 an50 : Option Addr} {sl50 : Array (Option Value)} {oc50 kV50 dc50 pm50 cd50 ct50 : Value}
    {od51 an51 : Option Addr} {sl51 : Array (Option Value)} {oc51 kV51 dc51 pm51 cd51 ct51 : Value}
    {od52 an52 : Option Addr} {sl52 : Array (Option Value)} {oc52 kV52 dc52 pm52 cd52 ct52 : Value}
    {od53 an53 : Option Addr} {sl53 : Array (Option Value)} {oc53 kV53 dc53 pm53 cd53 ct53 : Value}
    {od54 an54 : Option Addr} {sl54 : Array (Option Value)} {oc54 kV54 dc54 pm54 cd54 ct54 : Value}
    {od55 an55 : Option Addr} {sl55 : Array (Option Value)} {oc55 kV55 dc55 pm55 cd55 ct55 : Value}
    {od56 an56 : Option Addr} {sl56 : Array (Option Value)} {oc56 kV56 dc56 pm56 cd56 ct56 : Value}
    {od57 an57 : Option Addr} {sl57 : Array (Option Value)} {oc57 kV57 dc57 pm57 cd57 ct57 : Value}
    {od58 an58 : Option Addr} {sl58 : Array (Option Value)} {oc58 kV58 dc58 pm58 cd58 ct58 : Value}
    {od59 an59 : Option Addr} {sl59 : Array (Option Value)} {oc59 kV59 dc59 pm59 cd59 ct59 : Value}
    {tL tM tD tP : Tok}
    (a0 : PySem.W.nsIn K mainGlobals "content" = some (some (.ref f0)))
    (l0 : K.lookup f0 = some ⟨oc0, od0, .func (PySem.W.fnOf "content" "content" (defArgs s_content) (defBody s_content) (defScope s_content) .none kV0 dc0 pm0 an0 cd0 ct0), sl0⟩) (c0 : PySem.W.codeIn K cd0 "content" = true) (k0 : PySem.W.keepIn K (.ref f0) = true)
    (a1 : PySem.W.nsIn K mainGlobals "over_number" = some (some (.ref f1)))
    (l1 : K.lookup f1 = some ⟨oc1, od1, .func (PySem.W.fnOf "over_number" "over_number" (defArgs s_over_number) (defBody s_over_number) (defScope s_over_number) .none kV1 dc1 pm1 an1 cd1 ct1), sl1⟩) (c1 : PySem.W.codeIn K cd1 "over_number" = true) (k1 : PySem.W.keepIn K (.ref f1) = true)
    (a2 : PySem.W.nsIn K mainGlobals "primitive" = some (some (.ref f2)))
    (l2 : K.lookup f2 = some ⟨oc2, od2, .func (PySem.W.fnOf "primitive" "primitive" (defArgs s_primitive) (defBody s_primitive) (defScope s_primitive) .none kV2 dc2 pm2 an2 cd2 ct2), sl2⟩) (c2 : PySem.W.codeIn K cd2 "primitive" = true) (k2 : PySem.W.keepIn K (.ref f2) = true)
    (a3 : PySem.W.nsIn K mainGlobals "integer_value" = some (some (.ref f3)))
    (l3 : K.lookup f3 = some ⟨oc3, od3, .func (PySem.W.fnOf "integer_value" "integer_value" (defArgs s_integer_value) (defBody s_integer_value) (defScope s_integer_value) .none kV3 dc3 pm3 an3 cd3 ct3), sl3⟩) (c3 : PySem.W.codeIn K cd3 "integer_value" = true) (k3 : PySem.W.keepIn K (.ref f3) = true)
    (a4 : PySem.W.nsIn K mainGlobals "trimmed" = some (some (.ref f4)))
    (l4 : K.lookup f4 = some ⟨oc4, od4, .func (PySem.W.fnOf "trimmed" "trimmed" (defArgs s_trimmed) (defBody s_trimmed) (defScope s_trimmed) .none kV4 dc4 pm4 an4 cd4 ct4), sl4⟩) (c4 : PySem.W.codeIn K cd4 "trimmed" = true) (k4 : PySem.W.keepIn K (.ref f4) = true)
    (a5 : PySem.W.nsIn K mainGlobals "_height" = some (some (.ref f5)))
    (l5 : K.lookup f5 = some ⟨oc5, od5, .func (PySem.W.fnOf "_height" "_height" (defArgs s_u_height) (defBody s_u_height) (defScope s_u_height) .none kV5 dc5 pm5 an5 cd5 ct5), sl5⟩) (c5 : PySem.W.codeIn K cd5 "_height" = true) (k5 : PySem.W.keepIn K (.ref f5) = true)
    (a6 : PySem.W.nsIn K mainGlobals "_digits" = some (some (.ref f6)))
    (l6 : K.lookup f6 = some ⟨oc6, od6, .func (PySem.W.fnOf "_digits" "_digits" (defArgs s_u_digits) (defBody s_u_digits) (defScope s_u_digits) .none kV6 dc6 pm6 an6 cd6 ct6), sl6⟩) (c6 : PySem.W.codeIn K cd6 "_digits" = true) (k6 : PySem.W.keepIn K (.ref f6) = true)
    (a7 : PySem.W.nsIn K mainGlobals "exact_quotient" = some (some (.ref f7)))
    (l7 : K.lookup f7 = some ⟨oc7, od7, .func (PySem.W.fnOf "exact_quotient" "exact_quotient" (defArgs s_exact_quotient) (defBody s_exact_quotient) (defScope s_exact_quotient) .none kV7 dc7 pm7 an7 cd7 ct7), sl7⟩) (c7 : PySem.W.codeIn K cd7 "exact_quotient" = true) (k7 : PySem.W.keepIn K (.ref f7) = true)
    (a8 : PySem.W.nsIn K mainGlobals "common_divisor" = some (some (.ref f8)))
    (l8 : K.lookup f8 = some ⟨oc8, od8, .func (PySem.W.fnOf "common_divisor" "common_divisor" (defArgs s_common_divisor) (defBody s_common_divisor) (defScope s_common_divisor) .none kV8 dc8 pm8 an8 cd8 ct8), sl8⟩) (c8 : PySem.W.codeIn K cd8 "common_divisor" = true) (k8 : PySem.W.keepIn K (.ref f8) = true)
    (a9 : PySem.W.nsIn K mainGlobals "coefficient_at" = some (some (.ref f9)))
    (l9 : K.lookup f9 = some ⟨oc9, od9, .func (PySem.W.fnOf "coefficient_at" "coefficient_at" (defArgs s_coefficient_at) (defBody s_coefficient_at) (defScope s_coefficient_at) .none kV9 dc9 pm9 an9 cd9 ct9), sl9⟩) (c9 : PySem.W.codeIn K cd9 "coefficient_at" = true) (k9 : PySem.W.keepIn K (.ref f9) = true)
    (a10 : PySem.W.nsIn K mainGlobals "poly_sum" = some (some (.ref f10)))
    (l10 : K.lookup f10 = some ⟨oc10, od10, .func (PySem.W.fnOf "poly_sum" "poly_sum" (defArgs s_poly_sum) (defBody s_poly_sum) (defScope s_poly_sum) .none kV10 dc10 pm10 an10 cd10 ct10), sl10⟩) (c10 : PySem.W.codeIn K cd10 "poly_sum" = true) (k10 : PySem.W.keepIn K (.ref f10) = true)
    (a11 : PySem.W.nsIn K mainGlobals "poly_times_number" = some (some (.ref f11)))
    (l11 : K.lookup f11 = some ⟨oc11, od11, .func (PySem.W.fnOf "poly_times_number" "poly_times_number" (defArgs s_poly_times_number) (defBody s_poly_times_number) (defScope s_poly_times_number) .none kV11 dc11 pm11 an11 cd11 ct11), sl11⟩) (c11 : PySem.W.codeIn K cd11 "poly_times_number" = true) (k11 : PySem.W.keepIn K (.ref f11) = true)
    (a12 : PySem.W.nsIn K mainGlobals "poly_difference" = some (some (.ref f12)))
    (l12 : K.lookup f12 = some ⟨oc12, od12, .func (PySem.W.fnOf "poly_difference" "poly_difference" (defArgs s_poly_difference) (defBody s_poly_difference) (defScope s_poly_difference) .none kV12 dc12 pm12 an12 cd12 ct12), sl12⟩) (c12 : PySem.W.codeIn K cd12 "poly_difference" = true) (k12 : PySem.W.keepIn K (.ref f12) = true)
    (a13 : PySem.W.nsIn K mainGlobals "poly_product" = some (some (.ref f13)))
    (l13 : K.lookup f13 = some ⟨oc13, od13, .func (PySem.W.fnOf "poly_product" "poly_product" (defArgs s_poly_product) (defBody s_poly_product) (defScope s_poly_product) .none kV13 dc13 pm13 an13 cd13 ct13), sl13⟩) (c13 : PySem.W.codeIn K cd13 "poly_product" = true) (k13 : PySem.W.keepIn K (.ref f13) = true)
    (a14 : PySem.W.nsIn K mainGlobals "ratio_of" = some (some (.ref f14)))
    (l14 : K.lookup f14 = some ⟨oc14, od14, .func (PySem.W.fnOf "ratio_of" "ratio_of" (defArgs s_ratio_of) (defBody s_ratio_of) (defScope s_ratio_of) .none kV14 dc14 pm14 an14 cd14 ct14), sl14⟩) (c14 : PySem.W.codeIn K cd14 "ratio_of" = true) (k14 : PySem.W.keepIn K (.ref f14) = true)
    (a15 : PySem.W.nsIn K mainGlobals "quotient" = some (some (.ref f15)))
    (l15 : K.lookup f15 = some ⟨oc15, od15, .func (PySem.W.fnOf "quotient" "quotient" (defArgs s_quotient) (defBody s_quotient) (defScope s_quotient) .none kV15 dc15 pm15 an15 cd15 ct15), sl15⟩) (c15 : PySem.W.codeIn K cd15 "quotient" = true) (k15 : PySem.W.keepIn K (.ref f15) = true)
    (a16 : PySem.W.nsIn K mainGlobals "degree_of" = some (some (.ref f16)))
    (l16 : K.lookup f16 = some ⟨oc16, od16, .func (PySem.W.fnOf "degree_of" "degree_of" (defArgs s_degree_of) (defBody s_degree_of) (defScope s_degree_of) .none kV16 dc16 pm16 an16 cd16 ct16), sl16⟩) (c16 : PySem.W.codeIn K cd16 "degree_of" = true) (k16 : PySem.W.keepIn K (.ref f16) = true)
    (a17 : PySem.W.nsIn K mainGlobals "limited" = some (some (.ref f17)))
    (l17 : K.lookup f17 = some ⟨oc17, od17, .func (PySem.W.fnOf "limited" "limited" (defArgs s_limited) (defBody s_limited) (defScope s_limited) .none kV17 dc17 pm17 an17 cd17 ct17), sl17⟩) (c17 : PySem.W.codeIn K cd17 "limited" = true) (k17 : PySem.W.keepIn K (.ref f17) = true)
    (a18 : PySem.W.nsIn K mainGlobals "plus" = some (some (.ref f18)))
    (l18 : K.lookup f18 = some ⟨oc18, od18, .func (PySem.W.fnOf "plus" "plus" (defArgs s_plus) (defBody s_plus) (defScope s_plus) .none kV18 dc18 pm18 an18 cd18 ct18), sl18⟩) (c18 : PySem.W.codeIn K cd18 "plus" = true) (k18 : PySem.W.keepIn K (.ref f18) = true)
    (a19 : PySem.W.nsIn K mainGlobals "inverse" = some (some (.ref f19)))
    (l19 : K.lookup f19 = some ⟨oc19, od19, .func (PySem.W.fnOf "inverse" "inverse" (defArgs s_inverse) (defBody s_inverse) (defScope s_inverse) .none kV19 dc19 pm19 an19 cd19 ct19), sl19⟩) (c19 : PySem.W.codeIn K cd19 "inverse" = true) (k19 : PySem.W.keepIn K (.ref f19) = true)
    (a20 : PySem.W.nsIn K mainGlobals "backwards" = some (some (.ref f20)))
    (l20 : K.lookup f20 = some ⟨oc20, od20, .func (PySem.W.fnOf "backwards" "backwards" (defArgs s_backwards) (defBody s_backwards) (defScope s_backwards) .none kV20 dc20 pm20 an20 cd20 ct20), sl20⟩) (c20 : PySem.W.codeIn K cd20 "backwards" = true) (k20 : PySem.W.keepIn K (.ref f20) = true)
    (a21 : PySem.W.nsIn K mainGlobals "is_integer" = some (some (.ref f21)))
    (l21 : K.lookup f21 = some ⟨oc21, od21, .func (PySem.W.fnOf "is_integer" "is_integer" (defArgs s_is_integer) (defBody s_is_integer) (defScope s_is_integer) .none kV21 dc21 pm21 an21 cd21 ct21), sl21⟩) (c21 : PySem.W.codeIn K cd21 "is_integer" = true) (k21 : PySem.W.keepIn K (.ref f21) = true)
    (a22 : PySem.W.nsIn K mainGlobals "_is_limited_integer" = some (some (.ref f22)))
    (l22 : K.lookup f22 = some ⟨oc22, od22, .func (PySem.W.fnOf "_is_limited_integer" "_is_limited_integer" (defArgs s_u_is_limited_integer) (defBody s_u_is_limited_integer) (defScope s_u_is_limited_integer) .none kV22 dc22 pm22 an22 cd22 ct22), sl22⟩) (c22 : PySem.W.codeIn K cd22 "_is_limited_integer" = true) (k22 : PySem.W.keepIn K (.ref f22) = true)
    (a23 : PySem.W.nsIn K mainGlobals "is_ratio" = some (some (.ref f23)))
    (l23 : K.lookup f23 = some ⟨oc23, od23, .func (PySem.W.fnOf "is_ratio" "is_ratio" (defArgs s_is_ratio) (defBody s_is_ratio) (defScope s_is_ratio) .none kV23 dc23 pm23 an23 cd23 ct23), sl23⟩) (c23 : PySem.W.codeIn K cd23 "is_ratio" = true) (k23 : PySem.W.keepIn K (.ref f23) = true)
    (a24 : PySem.W.nsIn K mainGlobals "is_polynomial" = some (some (.ref f24)))
    (l24 : K.lookup f24 = some ⟨oc24, od24, .func (PySem.W.fnOf "is_polynomial" "is_polynomial" (defArgs s_is_polynomial) (defBody s_is_polynomial) (defScope s_is_polynomial) .none kV24 dc24 pm24 an24 cd24 ct24), sl24⟩) (c24 : PySem.W.codeIn K cd24 "is_polynomial" = true) (k24 : PySem.W.keepIn K (.ref f24) = true)
    (a25 : PySem.W.nsIn K mainGlobals "check_polynomial" = some (some (.ref f25)))
    (l25 : K.lookup f25 = some ⟨oc25, od25, .func (PySem.W.fnOf "check_polynomial" "check_polynomial" (defArgs s_check_polynomial) (defBody s_check_polynomial) (defScope s_check_polynomial) .none kV25 dc25 pm25 an25 cd25 ct25), sl25⟩) (c25 : PySem.W.codeIn K cd25 "check_polynomial" = true) (k25 : PySem.W.keepIn K (.ref f25) = true)
    (a26 : PySem.W.nsIn K mainGlobals "function" = some (some (.ref f26)))
    (l26 : K.lookup f26 = some ⟨oc26, od26, .func (PySem.W.fnOf "function" "function" (defArgs s_function) (defBody s_function) (defScope s_function) .none kV26 dc26 pm26 an26 cd26 ct26), sl26⟩) (c26 : PySem.W.codeIn K cd26 "function" = true) (k26 : PySem.W.keepIn K (.ref f26) = true)
    (a27 : PySem.W.nsIn K mainGlobals "_law_taken" = some (some (.ref f27)))
    (l27 : K.lookup f27 = some ⟨oc27, od27, .func (PySem.W.fnOf "_law_taken" "_law_taken" (defArgs s_u_law_taken) (defBody s_u_law_taken) (defScope s_u_law_taken) .none kV27 dc27 pm27 an27 cd27 ct27), sl27⟩) (c27 : PySem.W.codeIn K cd27 "_law_taken" = true) (k27 : PySem.W.keepIn K (.ref f27) = true)
    (a28 : PySem.W.nsIn K mainGlobals "_law_trim" = some (some (.ref f28)))
    (l28 : K.lookup f28 = some ⟨oc28, od28, .func (PySem.W.fnOf "_law_trim" "_law_trim" (defArgs s_u_law_trim) (defBody s_u_law_trim) (defScope s_u_law_trim) .none kV28 dc28 pm28 an28 cd28 ct28), sl28⟩) (c28 : PySem.W.codeIn K cd28 "_law_trim" = true) (k28 : PySem.W.keepIn K (.ref f28) = true)
    (a29 : PySem.W.nsIn K mainGlobals "_law_times" = some (some (.ref f29)))
    (l29 : K.lookup f29 = some ⟨oc29, od29, .func (PySem.W.fnOf "_law_times" "_law_times" (defArgs s_u_law_times) (defBody s_u_law_times) (defScope s_u_law_times) .none kV29 dc29 pm29 an29 cd29 ct29), sl29⟩) (c29 : PySem.W.codeIn K cd29 "_law_times" = true) (k29 : PySem.W.keepIn K (.ref f29) = true)
    (a30 : PySem.W.nsIn K mainGlobals "_law_shared" = some (some (.ref f30)))
    (l30 : K.lookup f30 = some ⟨oc30, od30, .func (PySem.W.fnOf "_law_shared" "_law_shared" (defArgs s_u_law_shared) (defBody s_u_law_shared) (defScope s_u_law_shared) .none kV30 dc30 pm30 an30 cd30 ct30), sl30⟩) (c30 : PySem.W.codeIn K cd30 "_law_shared" = true) (k30 : PySem.W.keepIn K (.ref f30) = true)
    (a31 : PySem.W.nsIn K mainGlobals "_law_ratio" = some (some (.ref f31)))
    (l31 : K.lookup f31 = some ⟨oc31, od31, .func (PySem.W.fnOf "_law_ratio" "_law_ratio" (defArgs s_u_law_ratio) (defBody s_u_law_ratio) (defScope s_u_law_ratio) .none kV31 dc31 pm31 an31 cd31 ct31), sl31⟩) (c31 : PySem.W.codeIn K cd31 "_law_ratio" = true) (k31 : PySem.W.keepIn K (.ref f31) = true)
    (a32 : PySem.W.nsIn K mainGlobals "is_positive_ratio" = some (some (.ref f32)))
    (l32 : K.lookup f32 = some ⟨oc32, od32, .func (PySem.W.fnOf "is_positive_ratio" "is_positive_ratio" (defArgs s_is_positive_ratio) (defBody s_is_positive_ratio) (defScope s_is_positive_ratio) .none kV32 dc32 pm32 an32 cd32 ct32), sl32⟩) (c32 : PySem.W.codeIn K cd32 "is_positive_ratio" = true) (k32 : PySem.W.keepIn K (.ref f32) = true)
    (a33 : PySem.W.nsIn K mainGlobals "impedance_of" = some (some (.ref f33)))
    (l33 : K.lookup f33 = some ⟨oc33, od33, .func (PySem.W.fnOf "impedance_of" "impedance_of" (defArgs s_impedance_of) (defBody s_impedance_of) (defScope s_impedance_of) .none kV33 dc33 pm33 an33 cd33 ct33), sl33⟩) (c33 : PySem.W.codeIn K cd33 "impedance_of" = true) (k33 : PySem.W.keepIn K (.ref f33) = true)
    (a34 : PySem.W.nsIn K mainGlobals "rung_impedance" = some (some (.ref f34)))
    (l34 : K.lookup f34 = some ⟨oc34, od34, .func (PySem.W.fnOf "rung_impedance" "rung_impedance" (defArgs s_rung_impedance) (defBody s_rung_impedance) (defScope s_rung_impedance) .none kV34 dc34 pm34 an34 cd34 ct34), sl34⟩) (c34 : PySem.W.codeIn K cd34 "rung_impedance" = true) (k34 : PySem.W.keepIn K (.ref f34) = true)
    (a35 : PySem.W.nsIn K mainGlobals "rungs_impedance" = some (some (.ref f35)))
    (l35 : K.lookup f35 = some ⟨oc35, od35, .func (PySem.W.fnOf "rungs_impedance" "rungs_impedance" (defArgs s_rungs_impedance) (defBody s_rungs_impedance) (defScope s_rungs_impedance) .none kV35 dc35 pm35 an35 cd35 ct35), sl35⟩) (c35 : PySem.W.codeIn K cd35 "rungs_impedance" = true) (k35 : PySem.W.keepIn K (.ref f35) = true)
    (a36 : PySem.W.nsIn K mainGlobals "size_on_axis" = some (some (.ref f36)))
    (l36 : K.lookup f36 = some ⟨oc36, od36, .func (PySem.W.fnOf "size_on_axis" "size_on_axis" (defArgs s_size_on_axis) (defBody s_size_on_axis) (defScope s_size_on_axis) .none kV36 dc36 pm36 an36 cd36 ct36), sl36⟩) (c36 : PySem.W.codeIn K cd36 "size_on_axis" = true) (k36 : PySem.W.keepIn K (.ref f36) = true)
    (a37 : PySem.W.nsIn K mainGlobals "echo_function" = some (some (.ref f37)))
    (l37 : K.lookup f37 = some ⟨oc37, od37, .func (PySem.W.fnOf "echo_function" "echo_function" (defArgs s_echo_function) (defBody s_echo_function) (defScope s_echo_function) .none kV37 dc37 pm37 an37 cd37 ct37), sl37⟩) (c37 : PySem.W.codeIn K cd37 "echo_function" = true) (k37 : PySem.W.keepIn K (.ref f37) = true)
    (a38 : PySem.W.nsIn K mainGlobals "is_rung" = some (some (.ref f38)))
    (l38 : K.lookup f38 = some ⟨oc38, od38, .func (PySem.W.fnOf "is_rung" "is_rung" (defArgs s_is_rung) (defBody s_is_rung) (defScope s_is_rung) .none kV38 dc38 pm38 an38 cd38 ct38), sl38⟩) (c38 : PySem.W.codeIn K cd38 "is_rung" = true) (k38 : PySem.W.keepIn K (.ref f38) = true)
    (a39 : PySem.W.nsIn K mainGlobals "check_ladder" = some (some (.ref f39)))
    (l39 : K.lookup f39 = some ⟨oc39, od39, .func (PySem.W.fnOf "check_ladder" "check_ladder" (defArgs s_check_ladder) (defBody s_check_ladder) (defScope s_check_ladder) .none kV39 dc39 pm39 an39 cd39 ct39), sl39⟩) (c39 : PySem.W.codeIn K cd39 "check_ladder" = true) (k39 : PySem.W.keepIn K (.ref f39) = true)
    (a40 : PySem.W.nsIn K mainGlobals "_check_filter" = some (some (.ref f40)))
    (l40 : K.lookup f40 = some ⟨oc40, od40, .func (PySem.W.fnOf "_check_filter" "_check_filter" (defArgs s_u_check_filter) (defBody s_u_check_filter) (defScope s_u_check_filter) .none kV40 dc40 pm40 an40 cd40 ct40), sl40⟩) (c40 : PySem.W.codeIn K cd40 "_check_filter" = true) (k40 : PySem.W.keepIn K (.ref f40) = true)
    (a41 : PySem.W.nsIn K mainGlobals "gain_of" = some (some (.ref f41)))
    (l41 : K.lookup f41 = some ⟨oc41, od41, .func (PySem.W.fnOf "gain_of" "gain_of" (defArgs s_gain_of) (defBody s_gain_of) (defScope s_gain_of) .none kV41 dc41 pm41 an41 cd41 ct41), sl41⟩) (c41 : PySem.W.codeIn K cd41 "gain_of" = true) (k41 : PySem.W.keepIn K (.ref f41) = true)
    (a42 : PySem.W.nsIn K mainGlobals "echo_polys" = some (some (.ref f42)))
    (l42 : K.lookup f42 = some ⟨oc42, od42, .func (PySem.W.fnOf "echo_polys" "echo_polys" (defArgs s_echo_polys) (defBody s_echo_polys) (defScope s_echo_polys) .none kV42 dc42 pm42 an42 cd42 ct42), sl42⟩) (c42 : PySem.W.codeIn K cd42 "echo_polys" = true) (k42 : PySem.W.keepIn K (.ref f42) = true)
    (a43 : PySem.W.nsIn K mainGlobals "content" = some (some (.ref f43)))
    (l43 : K.lookup f43 = some ⟨oc43, od43, .func (PySem.W.fnOf "content" "content" (defArgs s_content) (defBody s_content) (defScope s_content) .none kV43 dc43 pm43 an43 cd43 ct43), sl43⟩) (c43 : PySem.W.codeIn K cd43 "content" = true) (k43 : PySem.W.keepIn K (.ref f43) = true)
    (a44 : PySem.W.nsIn K mainGlobals "_with_small_numbers" = some (some (.ref f44)))
    (l44 : K.lookup f44 = some ⟨oc44, od44, .func (PySem.W.fnOf "_with_small_numbers" "_with_small_numbers" (defArgs s_u_with_small_numbers) (defBody s_u_with_small_numbers) (defScope s_u_with_small_numbers) .none kV44 dc44 pm44 an44 cd44 ct44), sl44⟩) (c44 : PySem.W.codeIn K cd44 "_with_small_numbers" = true) (k44 : PySem.W.keepIn K (.ref f44) = true)
    (a45 : PySem.W.nsIn K mainGlobals "_is_routh_positive" = some (some (.ref f45)))
    (l45 : K.lookup f45 = some ⟨oc45, od45, .func (PySem.W.fnOf "_is_routh_positive" "_is_routh_positive" (defArgs s_u_is_routh_positive) (defBody s_u_is_routh_positive) (defScope s_u_is_routh_positive) .none kV45 dc45 pm45 an45 cd45 ct45), sl45⟩) (c45 : PySem.W.codeIn K cd45 "_is_routh_positive" = true) (k45 : PySem.W.keepIn K (.ref f45) = true)
    (a46 : PySem.W.nsIn K mainGlobals "has_left_roots" = some (some (.ref f46)))
    (l46 : K.lookup f46 = some ⟨oc46, od46, .func (PySem.W.fnOf "has_left_roots" "has_left_roots" (defArgs s_has_left_roots) (defBody s_has_left_roots) (defScope s_has_left_roots) .none kV46 dc46 pm46 an46 cd46 ct46), sl46⟩) (c46 : PySem.W.codeIn K cd46 "has_left_roots" = true) (k46 : PySem.W.keepIn K (.ref f46) = true)
    (a47 : PySem.W.nsIn K mainGlobals "_check_not_zero" = some (some (.ref f47)))
    (l47 : K.lookup f47 = some ⟨oc47, od47, .func (PySem.W.fnOf "_check_not_zero" "_check_not_zero" (defArgs s_u_check_not_zero) (defBody s_u_check_not_zero) (defScope s_u_check_not_zero) .none kV47 dc47 pm47 an47 cd47 ct47), sl47⟩) (c47 : PySem.W.codeIn K cd47 "_check_not_zero" = true) (k47 : PySem.W.keepIn K (.ref f47) = true)
    (a48 : PySem.W.nsIn K mainGlobals "is_left" = some (some (.ref f48)))
    (l48 : K.lookup f48 = some ⟨oc48, od48, .func (PySem.W.fnOf "is_left" "is_left" (defArgs s_is_left) (defBody s_is_left) (defScope s_is_left) .none kV48 dc48 pm48 an48 cd48 ct48), sl48⟩) (c48 : PySem.W.codeIn K cd48 "is_left" = true) (k48 : PySem.W.keepIn K (.ref f48) = true)
    (a49 : PySem.W.nsIn K mainGlobals "times_variable" = some (some (.ref f49)))
    (l49 : K.lookup f49 = some ⟨oc49, od49, .func (PySem.W.fnOf "times_variable" "times_variable" (defArgs s_times_variable) (defBody s_times_variable) (defScope s_times_variable) .none kV49 dc49 pm49 an49 cd49 ct49), sl49⟩) (c49 : PySem.W.codeIn K cd49 "times_variable" = true) (k49 : PySem.W.keepIn K (.ref f49) = true)
    (a50 : PySem.W.nsIn K mainGlobals "_without_far_pole" = some (some (.ref f50)))
    (l50 : K.lookup f50 = some ⟨oc50, od50, .func (PySem.W.fnOf "_without_far_pole" "_without_far_pole" (defArgs s_u_without_far_pole) (defBody s_u_without_far_pole) (defScope s_u_without_far_pole) .none kV50 dc50 pm50 an50 cd50 ct50), sl50⟩) (c50 : PySem.W.codeIn K cd50 "_without_far_pole" = true) (k50 : PySem.W.keepIn K (.ref f50) = true)
    (a51 : PySem.W.nsIn K mainGlobals "_far_rungs_and_rest" = some (some (.ref f51)))
    (l51 : K.lookup f51 = some ⟨oc51, od51, .func (PySem.W.fnOf "_far_rungs_and_rest" "_far_rungs_and_rest" (defArgs s_u_far_rungs_and_rest) (defBody s_u_far_rungs_and_rest) (defScope s_u_far_rungs_and_rest) .none kV51 dc51 pm51 an51 cd51 ct51), sl51⟩) (c51 : PySem.W.codeIn K cd51 "_far_rungs_and_rest" = true) (k51 : PySem.W.keepIn K (.ref f51) = true)
    (a52 : PySem.W.nsIn K mainGlobals "far_rungs_with_resistor" = some (some (.ref f52)))
    (l52 : K.lookup f52 = some ⟨oc52, od52, .func (PySem.W.fnOf "far_rungs_with_resistor" "far_rungs_with_resistor" (defArgs s_far_rungs_with_resistor) (defBody s_far_rungs_with_resistor) (defScope s_far_rungs_with_resistor) .none kV52 dc52 pm52 an52 cd52 ct52), sl52⟩) (c52 : PySem.W.codeIn K cd52 "far_rungs_with_resistor" = true) (k52 : PySem.W.keepIn K (.ref f52) = true)
    (a53 : PySem.W.nsIn K mainGlobals "filter_ladder" = some (some (.ref f53)))
    (l53 : K.lookup f53 = some ⟨oc53, od53, .func (PySem.W.fnOf "filter_ladder" "filter_ladder" (defArgs s_filter_ladder) (defBody s_filter_ladder) (defScope s_filter_ladder) .none kV53 dc53 pm53 an53 cd53 ct53), sl53⟩) (c53 : PySem.W.codeIn K cd53 "filter_ladder" = true) (k53 : PySem.W.keepIn K (.ref f53) = true)
    (a54 : PySem.W.nsIn K mainGlobals "_law_worth" = some (some (.ref f54)))
    (l54 : K.lookup f54 = some ⟨oc54, od54, .func (PySem.W.fnOf "_law_worth" "_law_worth" (defArgs s_u_law_worth) (defBody s_u_law_worth) (defScope s_u_law_worth) .none kV54 dc54 pm54 an54 cd54 ct54), sl54⟩) (c54 : PySem.W.codeIn K cd54 "_law_worth" = true) (k54 : PySem.W.keepIn K (.ref f54) = true)
    (a55 : PySem.W.nsIn K mainGlobals "_law_ladder" = some (some (.ref f55)))
    (l55 : K.lookup f55 = some ⟨oc55, od55, .func (PySem.W.fnOf "_law_ladder" "_law_ladder" (defArgs s_u_law_ladder) (defBody s_u_law_ladder) (defScope s_u_law_ladder) .none kV55 dc55 pm55 an55 cd55 ct55), sl55⟩) (c55 : PySem.W.codeIn K cd55 "_law_ladder" = true) (k55 : PySem.W.keepIn K (.ref f55) = true)
    (a56 : PySem.W.nsIn K mainGlobals "_law_flip" = some (some (.ref f56)))
    (l56 : K.lookup f56 = some ⟨oc56, od56, .func (PySem.W.fnOf "_law_flip" "_law_flip" (defArgs s_u_law_flip) (defBody s_u_law_flip) (defScope s_u_law_flip) .none kV56 dc56 pm56 an56 cd56 ct56), sl56⟩) (c56 : PySem.W.codeIn K cd56 "_law_flip" = true) (k56 : PySem.W.keepIn K (.ref f56) = true)
    (a57 : PySem.W.nsIn K mainGlobals "_law_plus" = some (some (.ref f57)))
    (l57 : K.lookup f57 = some ⟨oc57, od57, .func (PySem.W.fnOf "_law_plus" "_law_plus" (defArgs s_u_law_plus) (defBody s_u_law_plus) (defScope s_u_law_plus) .none kV57 dc57 pm57 an57 cd57 ct57), sl57⟩) (c57 : PySem.W.codeIn K cd57 "_law_plus" = true) (k57 : PySem.W.keepIn K (.ref f57) = true)
    (a58 : PySem.W.nsIn K mainGlobals "_law_gap" = some (some (.ref f58)))
    (l58 : K.lookup f58 = some ⟨oc58, od58, .func (PySem.W.fnOf "_law_gap" "_law_gap" (defArgs s_u_law_gap) (defBody s_u_law_gap) (defScope s_u_law_gap) .none kV58 dc58 pm58 an58 cd58 ct58), sl58⟩) (c58 : PySem.W.codeIn K cd58 "_law_gap" = true) (k58 : PySem.W.keepIn K (.ref f58) = true)
    (a59 : PySem.W.nsIn K mainGlobals "law" = some (some (.ref f59)))
    (l59 : K.lookup f59 = some ⟨oc59, od59, .func (PySem.W.fnOf "law" "law" (defArgs s_law) (defBody s_law) (defScope s_law) .none kV59 dc59 pm59 an59 cd59 ct59), sl59⟩) (c59 : PySem.W.codeIn K cd59 "law" = true) (k59 : PySem.W.keepIn K (.ref f59) = true)
    (m_gcd : PySem.W.nsIn K mainGlobals "gcd" = some (some (.builtin "math.gcd")))
    (m_LARGEST : PySem.W.nsIn K mainGlobals "LARGEST" = some (some (.int 1000000000000000000000000000000000000000000000000000000000000 tL)))
    (m_MOST_COEFFICIENTS : PySem.W.nsIn K mainGlobals "MOST_COEFFICIENTS" = some (some (.int 13 tM)))
    (m_MOST_DEGREE : PySem.W.nsIn K mainGlobals "MOST_DEGREE" = some (some (.int 12 tD)))
    (m_MOST_RUNGS : PySem.W.nsIn K mainGlobals "MOST_RUNGS" = some (some (.int 13 tP)))
    (z_abs : PySem.W.nsIn K mainGlobals "abs" = some none)
    (z_all : PySem.W.nsIn K mainGlobals "all" = some none)
    (z_any : PySem.W.nsIn K mainGlobals "any" = some none)
    (z_bool : PySem.W.nsIn K mainGlobals "bool" = some none)
    (z_enumerate : PySem.W.nsIn K mainGlobals "enumerate" = some none)
    (z_int : PySem.W.nsIn K mainGlobals "int" = some none)
    (z_isinstance : PySem.W.nsIn K mainGlobals "isinstance" = some none)
    (z_len : PySem.W.nsIn K mainGlobals "len" = some none)
    (z_list : PySem.W.nsIn K mainGlobals "list" = some none)
    (z_max : PySem.W.nsIn K mainGlobals "max" = some none)
    (z_min : PySem.W.nsIn K mainGlobals "min" = some none)
    (z_range : PySem.W.nsIn K mainGlobals "range" = some none)
    (z_reversed : PySem.W.nsIn K mainGlobals "reversed" = some none)
    (z_tuple : PySem.W.nsIn K mainGlobals "tuple" = some none)
    : ∃ fd : FuncData, (∀ (s : Shared) (v : Value), BindsTo s fd ⟨[v], []⟩ [("script", v)]) ∧ ∀ base : Heap, K.In base → base.Ns mainGlobals mg → FnOk l.prog w K mg base CX0 9 fa fd ["script"] (spLaw K) := by
  have e := hfa.symm.trans (PySem.W.mg_of X G a59)
  cases e
  have T : Txt mg tL tM tD := ⟨PySem.W.mg_of X G m_gcd, PySem.W.mg_of X G m_LARGEST, PySem.W.mg_of X G m_MOST_COEFFICIENTS, PySem.W.mg_of X G m_MOST_DEGREE, ⟨_, PySem.W.mg_of X G m_MOST_RUNGS⟩, PySem.W.mg_none_of X G z_abs, PySem.W.mg_none_of X G z_all, PySem.W.mg_none_of X G z_any, PySem.W.mg_none_of X G z_bool, PySem.W.mg_none_of X G z_enumerate, PySem.W.mg_none_of X G z_int, PySem.W.mg_none_of X G z_isinstance, PySem.W.mg_none_of X G z_len, PySem.W.mg_none_of X G z_list, PySem.W.mg_none_of X G z_max, PySem.W.mg_none_of X G z_min, PySem.W.mg_none_of X G z_range, PySem.W.mg_none_of X G z_reversed, PySem.W.mg_none_of X G z_tuple⟩
  have F0 := fun_mk (st := s_content) l0 c0 k0
  have F1 := fun_mk (st := s_over_number) l1 c1 k1
  have F2 := fun_mk (st := s_primitive) l2 c2 k2
  have F3 := fun_mk (st := s_integer_value) l3 c3 k3
  have F4 := fun_mk (st := s_trimmed) l4 c4 k4
  have F5 := fun_mk (st := s_u_height) l5 c5 k5
  have F6 := fun_mk (st := s_u_digits) l6 c6 k6
  have F7 := fun_mk (st := s_exact_quotient) l7 c7 k7
  have F8 := fun_mk (st := s_common_divisor) l8 c8 k8
  have F9 := fun_mk (st := s_coefficient_at) l9 c9 k9
  have F10 := fun_mk (st := s_poly_sum) l10 c10 k10
  have F11 := fun_mk (st := s_poly_times_number) l11 c11 k11
  have F12 := fun_mk (st := s_poly_difference) l12 c12 k12
  have F13 := fun_mk (st := s_poly_product) l13 c13 k13
  have F14 := fun_mk (st := s_ratio_of) l14 c14 k14
  have F15 := fun_mk (st := s_quotient) l15 c15 k15
  have F16 := fun_mk (st := s_degree_of) l16 c16 k16
  have F17 := fun_mk (st := s_limited) l17 c17 k17
  have F18 := fun_mk (st := s_plus) l18 c18 k18
  have F19 := fun_mk (st := s_inverse) l19 c19 k19
  have F20 := fun_mk (st := s_backwards) l20 c20 k20
  have F21 := fun_mk (st := s_is_integer) l21 c21 k21
  have F22 := fun_mk (st := s_u_is_limited_integer) l22 c22 k22
  have F23 := fun_mk (st := s_is_ratio) l23 c23 k23
  have F24 := fun_mk (st := s_is_polynomial) l24 c24 k24
  have F25 := fun_mk (st := s_check_polynomial) l25 c25 k25
  have F26 := fun_mk (st := s_function) l26 c26 k26
  have F27 := fun_mk (st := s_u_law_taken) l27 c27 k27
  have F28 := fun_mk (st := s_u_law_trim) l28 c28 k28
  have F29 := fun_mk (st := s_u_law_times) l29 c29 k29
  have F30 := fun_mk (st := s_u_law_shared) l30 c30 k30
  have F31 := fun_mk (st := s_u_law_ratio) l31 c31 k31
  have F32 := fun_mk (st := s_is_positive_ratio) l32 c32 k32
  have F33 := fun_mk (st := s_impedance_of) l33 c33 k33
  have F34 := fun_mk (st := s_rung_impedance) l34 c34 k34
  have F35 := fun_mk (st := s_rungs_impedance) l35 c35 k35
  have F36 := fun_mk (st := s_size_on_axis) l36 c36 k36
  have F37 := fun_mk (st := s_echo_function) l37 c37 k37
  have F38 := fun_mk (st := s_is_rung) l38 c38 k38
  have F39 := fun_mk (st := s_check_ladder) l39 c39 k39
  have F40 := fun_mk (st := s_u_check_filter) l40 c40 k40
  have F41 := fun_mk (st := s_gain_of) l41 c41 k41
  have F42 := fun_mk (st := s_echo_polys) l42 c42 k42
  have F43 := fun_mk (st := s_content) l43 c43 k43
  have F44 := fun_mk (st := s_u_with_small_numbers) l44 c44 k44
  have F45 := fun_mk (st := s_u_is_routh_positive) l45 c45 k45
  have F46 := fun_mk (st := s_has_left_roots) l46 c46 k46
  have F47 := fun_mk (st := s_u_check_not_zero) l47 c47 k47
  have F48 := fun_mk (st := s_is_left) l48 c48 k48
  have F49 := fun_mk (st := s_times_variable) l49 c49 k49
  have F50 := fun_mk (st := s_u_without_far_pole) l50 c50 k50
  have F51 := fun_mk (st := s_u_far_rungs_and_rest) l51 c51 k51
  have F52 := fun_mk (st := s_far_rungs_with_resistor) l52 c52 k52
  have F53 := fun_mk (st := s_filter_ladder) l53 c53 k53
  have F54 := fun_mk (st := s_u_law_worth) l54 c54 k54
  have F55 := fun_mk (st := s_u_law_ladder) l55 c55 k55
  have F56 := fun_mk (st := s_u_law_flip) l56 c56 k56
  have F57 := fun_mk (st := s_u_law_plus) l57 c57 k57
  have F58 := fun_mk (st := s_u_law_gap) l58 c58 k58
  have F59 := fun_mk (st := s_law) l59 c59 k59
  have b0 := F0.binds (ps := ["polynomial"]) fun _ _ _ _ _ _ us hl => match us, hl with | [_], _ => rfl
  have b1 := F1.binds (ps := ["polynomial", "number"]) fun _ _ _ _ _ _ us hl => match us, hl with | [_, _], _ => rfl
  have b2 := F2.binds (ps := ["polynomial"]) fun _ _ _ _ _ _ us hl => match us, hl with | [_], _ => rfl
  have b3 := F3.binds (ps := ["polynomial", "number"]) fun _ _ _ _ _ _ us hl => match us, hl with | [_, _], _ => rfl
  have b4 := F4.binds (ps := ["coefficients"]) fun _ _ _ _ _ _ us hl => match us, hl with | [_], _ => rfl
  have b5 := F5.binds (ps := ["polynomial"]) fun _ _ _ _ _ _ us hl => match us, hl with | [_], _ => rfl
  have b6 := F6.binds (ps := ["number", "base"]) fun _ _ _ _ _ _ us hl => match us, hl with | [_, _], _ => rfl
  have b7 := F7.binds (ps := ["one", "other"]) fun _ _ _ _ _ _ us hl => match us, hl with | [_, _], _ => rfl
  have b8 := F8.binds (ps := ["one", "other"]) fun _ _ _ _ _ _ us hl => match us, hl with | [_, _], _ => rfl
  have b9 := F9.binds (ps := ["polynomial", "power"]) fun _ _ _ _ _ _ us hl => match us, hl with | [_, _], _ => rfl
  have b10 := F10.binds (ps := ["one", "other"]) fun _ _ _ _ _ _ us hl => match us, hl with | [_, _], _ => rfl
  have b11 := F11.binds (ps := ["polynomial", "number"]) fun _ _ _ _ _ _ us hl => match us, hl with | [_, _], _ => rfl
  have b12 := F12.binds (ps := ["one", "other"]) fun _ _ _ _ _ _ us hl => match us, hl with | [_, _], _ => rfl
  have b13 := F13.binds (ps := ["one", "other"]) fun _ _ _ _ _ _ us hl => match us, hl with | [_, _], _ => rfl
  have b14 := F14.binds (ps := ["number", "under"]) fun _ _ _ _ _ _ us hl => match us, hl with | [_, _], _ => rfl
  have b15 := F15.binds (ps := ["top", "bottom"]) fun _ _ _ _ _ _ us hl => match us, hl with | [_, _], _ => rfl
  have b16 := F16.binds (ps := ["one"]) fun _ _ _ _ _ _ us hl => match us, hl with | [_], _ => rfl
  have b17 := F17.binds (ps := ["one"]) fun _ _ _ _ _ _ us hl => match us, hl with | [_], _ => rfl
  have b18 := F18.binds (ps := ["one", "other"]) fun _ _ _ _ _ _ us hl => match us, hl with | [_, _], _ => rfl
  have b19 := F19.binds (ps := ["one"]) fun _ _ _ _ _ _ us hl => match us, hl with | [_], _ => rfl
  have b20 := F20.binds (ps := ["polynomial"]) fun _ _ _ _ _ _ us hl => match us, hl with | [_], _ => rfl
  have b21 := F21.binds (ps := ["value"]) fun _ _ _ _ _ _ us hl => match us, hl with | [_], _ => rfl
  have b22 := F22.binds (ps := ["value"]) fun _ _ _ _ _ _ us hl => match us, hl with | [_], _ => rfl
  have b23 := F23.binds (ps := ["value"]) fun _ _ _ _ _ _ us hl => match us, hl with | [_], _ => rfl
  have b24 := F24.binds (ps := ["value"]) fun _ _ _ _ _ _ us hl => match us, hl with | [_], _ => rfl
  have b25 := F25.binds (ps := ["value"]) fun _ _ _ _ _ _ us hl => match us, hl with | [_], _ => rfl
  have b26 := F26.binds (ps := ["top", "bottom"]) fun _ _ _ _ _ _ us hl => match us, hl with | [_, _], _ => rfl
  have b27 := F27.binds (ps := ["row", "many"]) fun _ _ _ _ _ _ us hl => match us, hl with | [_, _], _ => rfl
  have b28 := F28.binds (ps := ["some"]) fun _ _ _ _ _ _ us hl => match us, hl with | [_], _ => rfl
  have b29 := F29.binds (ps := ["one", "other"]) fun _ _ _ _ _ _ us hl => match us, hl with | [_, _], _ => rfl
  have b30 := F30.binds (ps := ["one", "other"]) fun _ _ _ _ _ _ us hl => match us, hl with | [_, _], _ => rfl
  have b31 := F31.binds (ps := ["top", "bottom"]) fun _ _ _ _ _ _ us hl => match us, hl with | [_, _], _ => rfl
  have b32 := F32.binds (ps := ["value"]) fun _ _ _ _ _ _ us hl => match us, hl with | [_], _ => rfl
  have b33 := F33.binds (ps := ["part"]) fun _ _ _ _ _ _ us hl => match us, hl with | [_], _ => rfl
  have b34 := F34.binds (ps := ["rung"]) fun _ _ _ _ _ _ us hl => match us, hl with | [_], _ => rfl
  have b35 := F35.binds (ps := ["ladder"]) fun _ _ _ _ _ _ us hl => match us, hl with | [_], _ => rfl
  have b36 := F36.binds (ps := ["polynomial"]) fun _ _ _ _ _ _ us hl => match us, hl with | [_], _ => rfl
  have b37 := F37.binds (ps := ["one"]) fun _ _ _ _ _ _ us hl => match us, hl with | [_], _ => rfl
  have b38 := F38.binds (ps := ["value"]) fun _ _ _ _ _ _ us hl => match us, hl with | [_], _ => rfl
  have b39 := F39.binds (ps := ["ladder"]) fun _ _ _ _ _ _ us hl => match us, hl with | [_], _ => rfl
  have b40 := F40.binds (ps := ["ladder"]) fun _ _ _ _ _ _ us hl => match us, hl with | [_], _ => rfl
  have b41 := F41.binds (ps := ["ladder"]) fun _ _ _ _ _ _ us hl => match us, hl with | [_], _ => rfl
  have b42 := F42.binds (ps := ["ladder"]) fun _ _ _ _ _ _ us hl => match us, hl with | [_], _ => rfl
  have b43 := F43.binds (ps := ["polynomial"]) fun _ _ _ _ _ _ us hl => match us, hl with | [_], _ => rfl
  have b44 := F44.binds (ps := ["row"]) fun _ _ _ _ _ _ us hl => match us, hl with | [_], _ => rfl
  have b45 := F45.binds (ps := ["upper", "lower"]) fun _ _ _ _ _ _ us hl => match us, hl with | [_, _], _ => rfl
  have b46 := F46.binds (ps := ["polynomial"]) fun _ _ _ _ _ _ us hl => match us, hl with | [_], _ => rfl
  have b47 := F47.binds (ps := ["polynomial"]) fun _ _ _ _ _ _ us hl => match us, hl with | [_], _ => rfl
  have b48 := F48.binds (ps := ["polynomial"]) fun _ _ _ _ _ _ us hl => match us, hl with | [_], _ => rfl
  have b49 := F49.binds (ps := ["polynomial"]) fun _ _ _ _ _ _ us hl => match us, hl with | [_], _ => rfl
  have b50 := F50.binds (ps := ["one", "other"]) fun _ _ _ _ _ _ us hl => match us, hl with | [_, _], _ => rfl
  have b51 := F51.binds (ps := ["one"]) fun _ _ _ _ _ _ us hl => match us, hl with | [_], _ => rfl
  have b52 := F52.binds (ps := ["one"]) fun _ _ _ _ _ _ us hl => match us, hl with | [_], _ => rfl
  have b53 := F53.binds (ps := ["left", "echo"]) fun _ _ _ _ _ _ us hl => match us, hl with | [_, _], _ => rfl
  have b54 := F54.binds (ps := ["row"]) fun _ _ _ _ _ _ us hl => match us, hl with | [_], _ => rfl
  have b55 := F55.binds (ps := ["row", "most", "series", "across"]) fun _ _ _ _ _ _ us hl => match us, hl with | [_, _, _, _], _ => rfl
  have b56 := F56.binds (ps := ["one"]) fun _ _ _ _ _ _ us hl => match us, hl with | [_], _ => rfl
  have b57 := F57.binds (ps := ["one", "other"]) fun _ _ _ _ _ _ us hl => match us, hl with | [_, _], _ => rfl
  have b58 := F58.binds (ps := ["left", "echo"]) fun _ _ _ _ _ _ us hl => match us, hl with | [_, _], _ => rfl
  refine ⟨PySem.W.fnOf "law" "law" (defArgs s_law) (defBody s_law) (defScope s_law) .none kV59 dc59 pm59 an59 cd59 ct59, fun s v => .of_eq rfl, fun base _ _ => ?_⟩
  have d_content : Def l.prog w K mg base "content" 1 ["polynomial"] (spContent K) := ⟨f0, _, ok_content F0 T, PySem.W.mg_of X G a0, k0, b0⟩
  have d_over_number : Def l.prog w K mg base "over_number" 1 ["polynomial", "number"] (spOver K) := ⟨f1, _, ok_over F1 T, PySem.W.mg_of X G a1, k1, b1⟩
  have d_primitive : Def l.prog w K mg base "primitive" 2 ["polynomial"] (spPrimitive K) := ⟨f2, _, ok_primitive F2 T d_over_number d_content, PySem.W.mg_of X G a2, k2, b2⟩
  have d_integer_value : Def l.prog w K mg base "integer_value" 1 ["polynomial", "number"] (spIntVal K) := ⟨f3, _, ok_integer_value F3 T, PySem.W.mg_of X G a3, k3, b3⟩
  have d_trimmed : Def l.prog w K mg base "trimmed" 1 ["coefficients"] (spTrimmed K) := ⟨f4, _, ok_trimmed F4 T, PySem.W.mg_of X G a4, k4, b4⟩
  have d_u_height : Def l.prog w K mg base "_height" 1 ["polynomial"] (spHeight K) := ⟨f5, _, ok_height F5 T, PySem.W.mg_of X G a5, k5, b5⟩
  have d_u_digits : Def l.prog w K mg base "_digits" 1 ["number", "base"] (spDigits) := ⟨f6, _, ok_digits F6 T, PySem.W.mg_of X G a6, k6, b6⟩
  have d_exact_quotient : Def l.prog w K mg base "exact_quotient" 2 ["one", "other"] (spExq K) := ⟨f7, _, ok_exact_quotient F7 T d_trimmed, PySem.W.mg_of X G a7, k7, b7⟩
  have d_common_divisor : Def l.prog w K mg base "common_divisor" 3 ["one", "other"] (spCd K) := ⟨f8, _, ok_common_divisor F8 T d_primitive d_u_height d_integer_value d_u_digits d_exact_quotient, PySem.W.mg_of X G a8, k8, b8⟩
  have d_coefficient_at : Def l.prog w K mg base "coefficient_at" 1 ["polynomial", "power"] (spCoef K) := ⟨f9, _, ok_coefficient_at F9 T, PySem.W.mg_of X G a9, k9, b9⟩
  have d_poly_sum : Def l.prog w K mg base "poly_sum" 2 ["one", "other"] (spSum K) := ⟨f10, _, ok_poly_sum F10 T d_trimmed d_coefficient_at, PySem.W.mg_of X G a10, k10, b10⟩
  have d_poly_times_number : Def l.prog w K mg base "poly_times_number" 2 ["polynomial", "number"] (spTimesN K) := ⟨f11, _, ok_poly_times_number F11 T d_trimmed, PySem.W.mg_of X G a11, k11, b11⟩
  have d_poly_difference : Def l.prog w K mg base "poly_difference" 3 ["one", "other"] (spDiff K) := ⟨f12, _, ok_poly_difference F12 T d_poly_sum d_poly_times_number, PySem.W.mg_of X G a12, k12, b12⟩
  have d_poly_product : Def l.prog w K mg base "poly_product" 1 ["one", "other"] (spProd K) := ⟨f13, _, ok_poly_product F13 T, PySem.W.mg_of X G a13, k13, b13⟩
  have d_ratio_of : Def l.prog w K mg base "ratio_of" 1 ["number", "under"] (spRatioOf) := ⟨f14, _, ok_ratio_of F14 T, PySem.W.mg_of X G a14, k14, b14⟩
  have d_quotient : Def l.prog w K mg base "quotient" 4 ["top", "bottom"] (spQuot K) := ⟨f15, _, ok_quotient F15 T d_common_divisor d_exact_quotient d_content d_over_number, PySem.W.mg_of X G a15, k15, b15⟩
  have d_degree_of : Def l.prog w K mg base "degree_of" 1 ["one"] (spDegOf K) := ⟨f16, _, ok_degree_of F16 T, PySem.W.mg_of X G a16, k16, b16⟩
  have d_limited : Def l.prog w K mg base "limited" 2 ["one"] (spLimited K) := ⟨f17, _, ok_limited F17 T d_degree_of, PySem.W.mg_of X G a17, k17, b17⟩
  have d_plus : Def l.prog w K mg base "plus" 5 ["one", "other"] (spBin K RPlus zNo) := ⟨f18, _, ok_plus F18 d_poly_sum d_poly_product d_quotient, PySem.W.mg_of X G a18, k18, b18⟩
  have d_inverse : Def l.prog w K mg base "inverse" 5 ["one"] (spInv K) := ⟨f19, _, ok_inverse F19 d_quotient, PySem.W.mg_of X G a19, k19, b19⟩
  have d_backwards : Def l.prog w K mg base "backwards" 1 ["polynomial"] (spBackwards K) := ⟨f20, _, ok_backwards F20 T, PySem.W.mg_of X G a20, k20, b20⟩
  have d_is_integer : Def l.prog w K mg base "is_integer" 1 ["value"] (spIsInt) := ⟨f21, _, ok_is_integer F21 T, PySem.W.mg_of X G a21, k21, b21⟩
  have d_u_is_limited_integer : Def l.prog w K mg base "_is_limited_integer" 2 ["value"] (spLim) := ⟨f22, _, ok_lim F22 T d_is_integer, PySem.W.mg_of X G a22, k22, b22⟩
  have d_is_ratio : Def l.prog w K mg base "is_ratio" 3 ["value"] (spIsRatio) := ⟨f23, _, ok_is_ratio F23 T d_u_is_limited_integer, PySem.W.mg_of X G a23, k23, b23⟩
  have d_is_polynomial : Def l.prog w K mg base "is_polynomial" 3 ["value"] (spIsPoly K) := ⟨f24, _, ok_is_polynomial F24 T d_u_is_limited_integer, PySem.W.mg_of X G a24, k24, b24⟩
  have d_check_polynomial : Def l.prog w K mg base "check_polynomial" 4 ["value"] (spCheck K) := ⟨f25, _, ok_check_polynomial F25 d_is_polynomial, PySem.W.mg_of X G a25, k25, b25⟩
  have d_function : Def l.prog w K mg base "function" 5 ["top", "bottom"] (spFunction K) := ⟨f26, _, ok_function F26 d_check_polynomial d_quotient, PySem.W.mg_of X G a26, k26, b26⟩
  have d_u_law_taken : Def l.prog w K mg base "_law_taken" 1 ["row", "many"] (spTaken K) := ⟨f27, _, ok_taken F27 T, PySem.W.mg_of X G a27, k27, b27⟩
  have d_u_law_trim : Def l.prog w K mg base "_law_trim" 1 ["some"] (spTrim K) := ⟨f28, _, ok_trim F28 T, PySem.W.mg_of X G a28, k28, b28⟩
  have d_u_law_times : Def l.prog w K mg base "_law_times" 2 ["one", "other"] (spTimes K) := ⟨f29, _, ok_times F29 T d_u_law_trim, PySem.W.mg_of X G a29, k29, b29⟩
  have d_u_law_shared : Def l.prog w K mg base "_law_shared" 1 ["one", "other"] (spShared) := ⟨f30, _, ok_shared F30 T, PySem.W.mg_of X G a30, k30, b30⟩
  have d_u_law_ratio : Def l.prog w K mg base "_law_ratio" 2 ["top", "bottom"] (spRatio) := ⟨f31, _, ok_ratio F31 T d_u_law_shared, PySem.W.mg_of X G a31, k31, b31⟩
  have d_is_positive_ratio : Def l.prog w K mg base "is_positive_ratio" 4 ["value"] (spIsPos) := ⟨f32, _, ok_is_positive_ratio F32 d_is_ratio, PySem.W.mg_of X G a32, k32, b32⟩
  have d_impedance_of : Def l.prog w K mg base "impedance_of" 1 ["part"] (spImp K) := ⟨f33, _, ok_impedance_of F33 , PySem.W.mg_of X G a33, k33, b33⟩
  have d_rung_impedance : Def l.prog w K mg base "rung_impedance" 2 ["rung"] (spRungImp K) := ⟨f34, _, ok_rung_impedance F34 d_impedance_of, PySem.W.mg_of X G a34, k34, b34⟩
  have d_rungs_impedance : Def l.prog w K mg base "rungs_impedance" 6 ["ladder"] (spRungs K) := ⟨f35, _, ok_rungs_impedance F35 T d_rung_impedance d_plus d_inverse, PySem.W.mg_of X G a35, k35, b35⟩
  have d_size_on_axis : Def l.prog w K mg base "size_on_axis" 2 ["polynomial"] (spSize2 K) := ⟨f36, _, ok_size2 F36 d_poly_product d_backwards, PySem.W.mg_of X G a36, k36, b36⟩
  have d_echo_function : Def l.prog w K mg base "echo_function" 5 ["one"] (spEchoF K) := ⟨f37, _, ok_echo_function F37 d_poly_difference d_poly_sum d_quotient, PySem.W.mg_of X G a37, k37, b37⟩
  have d_is_rung : Def l.prog w K mg base "is_rung" 5 ["value"] (spIsRung) := ⟨f38, _, ok_is_rung F38 T d_is_positive_ratio, PySem.W.mg_of X G a38, k38, b38⟩
  have d_check_ladder : Def l.prog w K mg base "check_ladder" 6 ["ladder"] (spCheckLa K) := ⟨f39, _, ok_check_ladder F39 T d_is_rung, PySem.W.mg_of X G a39, k39, b39⟩
  have d_u_check_filter : Def l.prog w K mg base "_check_filter" 7 ["ladder"] (spCheckFi K) := ⟨f40, _, ok_check_filter F40 T d_check_ladder, PySem.W.mg_of X G a40, k40, b40⟩
  have d_gain_of : Def l.prog w K mg base "gain_of" 8 ["ladder"] (spGainX K) := ⟨f41, _, ok_gain_x F41 d_u_check_filter d_echo_function d_rungs_impedance d_size_on_axis d_limited d_quotient d_poly_difference, PySem.W.mg_of X G a41, k41, b41⟩
  have d_echo_polys : Def l.prog w K mg base "echo_polys" 8 ["ladder"] (spEchoP K) := ⟨f42, _, ok_echo_polys F42 d_u_check_filter d_echo_function d_rungs_impedance, PySem.W.mg_of X G a42, k42, b42⟩
  have d_contentL : Def l.prog w K mg base "content" 1 ["polynomial"] (spContentL K) := ⟨f43, _, ok_content_l F43 T, PySem.W.mg_of X G a43, k43, b43⟩
  have d_u_with_small_numbers : Def l.prog w K mg base "_with_small_numbers" 2 ["row"] (spSmallN K) := ⟨f44, _, ok_with_small F44 T d_contentL, PySem.W.mg_of X G a44, k44, b44⟩
  have d_u_is_routh_positive : Def l.prog w K mg base "_is_routh_positive" 3 ["upper", "lower"] (spRouth) := ⟨f45, _, ok_routh F45 T d_u_with_small_numbers, PySem.W.mg_of X G a45, k45, b45⟩
  have d_has_left_roots : Def l.prog w K mg base "has_left_roots" 4 ["polynomial"] (spLeft K) := ⟨f46, _, ok_has_left F46 T d_u_is_routh_positive, PySem.W.mg_of X G a46, k46, b46⟩
  have d_u_check_not_zero : Def l.prog w K mg base "_check_not_zero" 5 ["polynomial"] (spNotZero K) := ⟨f47, _, ok_check_not_zero F47 d_check_polynomial, PySem.W.mg_of X G a47, k47, b47⟩
  have d_is_left : Def l.prog w K mg base "is_left" 6 ["polynomial"] (spLeft K) := ⟨f48, _, ok_is_left F48 d_u_check_not_zero d_has_left_roots, PySem.W.mg_of X G a48, k48, b48⟩
  have d_times_variable : Def l.prog w K mg base "times_variable" 1 ["polynomial"] (spTimesV K) := ⟨f49, _, ok_times_variable F49 T, PySem.W.mg_of X G a49, k49, b49⟩
  have d_u_without_far_pole : Def l.prog w K mg base "_without_far_pole" 4 ["one", "other"] (spWfp K) := ⟨f50, _, ok_without_far F50 T d_poly_difference d_poly_times_number d_times_variable d_content d_over_number, PySem.W.mg_of X G a50, k50, b50⟩
  have d_u_far_rungs_and_rest : Def l.prog w K mg base "_far_rungs_and_rest" 5 ["one"] (spFrr K) := ⟨f51, _, ok_far_rungs F51 T d_ratio_of d_u_without_far_pole, PySem.W.mg_of X G a51, k51, b51⟩
  have d_far_rungs_with_resistor : Def l.prog w K mg base "far_rungs_with_resistor" 6 ["one"] (spFwr K) := ⟨f52, _, ok_far_res F52 T d_u_far_rungs_and_rest d_ratio_of, PySem.W.mg_of X G a52, k52, b52⟩
  have d_filter_ladder : Def l.prog w K mg base "filter_ladder" 7 ["left", "echo"] (spFilt K) := ⟨f53, _, ok_filter_ladder F53 T d_check_polynomial d_has_left_roots d_poly_difference d_poly_product d_backwards d_poly_sum d_far_rungs_with_resistor, PySem.W.mg_of X G a53, k53, b53⟩
  have d_u_law_worth : Def l.prog w K mg base "_law_worth" 3 ["row"] (spWorth K) := ⟨f54, _, ok_worth F54 d_u_law_taken d_u_law_ratio, PySem.W.mg_of X G a54, k54, b54⟩
  have d_u_law_ladder : Def l.prog w K mg base "_law_ladder" 4 ["row", "most", "series", "across"] (spLLad K) := ⟨f55, _, ok_law_ladder F55 T d_u_law_taken d_u_law_worth, PySem.W.mg_of X G a55, k55, b55⟩
  have d_u_law_flip : Def l.prog w K mg base "_law_flip" 1 ["one"] (spFlip K) := ⟨f56, _, ok_law_flip F56 T, PySem.W.mg_of X G a56, k56, b56⟩
  have d_u_law_plus : Def l.prog w K mg base "_law_plus" 2 ["one", "other"] (spLPlus K) := ⟨f57, _, ok_law_plus F57 T d_u_law_trim, PySem.W.mg_of X G a57, k57, b57⟩
  have d_u_law_gap : Def l.prog w K mg base "_law_gap" 3 ["left", "echo"] (spLGap K) := ⟨f58, _, ok_law_gap F58 T d_u_law_times d_u_law_flip d_u_law_plus, PySem.W.mg_of X G a58, k58, b58⟩
  exact ok_law F59 T d_u_law_ladder d_u_law_worth d_echo_polys d_u_law_gap d_is_left d_filter_ladder d_u_law_taken d_u_law_times d_u_law_flip d_gain_of d_function
theorem walk {l : PySem.W.OpenLaw} {q : Program} {loose : List Str} {XP : (Str → Option Value) → Heap → Prop} {YP : World → Heap → Prop} {d : DefRec} {K : Params → PySem.W.Frag} (hn : l.most = some 63) (hdf : d.params.defaults = [])
    (hY : ∀ (w : World) (h : Heap), YP w h → (K w.params).In h)
    (F : ∀ (w : World) (mg : Str → Option Value) (fa : Addr) (h : Heap), (K w.params).In h → h.Ns mainGlobals mg → mg d.name = some (.ref fa) →
      ∃ fd : FuncData, (∀ (s : Shared) (u : Value), BindsTo s fd ⟨[u], []⟩ [("script", u)]) ∧ ∀ base : Heap, (K w.params).In base → base.Ns mainGlobals mg → FnOk l.prog w (K w.params) mg base CX0 9 fa fd ["script"] (spLaw (K w.params))) :
    PySem.W.WalkO q loose XP YP l.row.toRowW d [] (fun f vs => PySem.call f vs) :=
  L2.walk_of (n := 63) (k := 9) (x := "script") (CX := fun _ => CX0) (sp := fun w => spLaw (K w.params)) hn (by decide) hdf ⟨rfl, by decide, by decide⟩ hY F (fun _ _ a ns hl _ hS => ⟨a, ns, rfl, hS, hl, fun _ => rfl⟩) fun _ _ _ _ _ z => z
end Coil

open PySem PySem.W PyProof.Rows in
set_option maxRecDepth 100000 in
set_option maxHeartbeats 0 in
theorem PySem.Challenge.cw_coilnets_k82_whole_filters_there_and_bac_holds : PySem.Challenge.rw_coilnets_k82_whole_filters_there_and_bac.Holds := by
  w_on; o_law; k_head; (case hw => w_witness2)
  k_fill
  refine Coil.walk (l := PySem.Challenge.rw_coilnets_k82_whole_filters_there_and_bac) rfl rfl (fun w h Y => PySem.W.kIn_of Y) ?F
  case F =>
    intro w mg fa h KX G hmg
    refine' Coil.all_mk KX G hmg ?a0 ?l0 ?c0 ?k0 ?a1 ?l1 ?c1 ?k1 ?a2 ?l2 ?c2 ?k2 ?a3 ?l3 ?c3 ?k3 ?a4 ?l4 ?c4 ?k4 ?a5 ?l5 ?c5 ?k5 ?a6 ?l6 ?c6 ?k6 ?a7 ?l7 ?c7 ?k7 ?a8 ?l8 ?c8 ?k8 ?a9 ?l9 ?c9 ?k9 ?a10 ?l10 ?c10 ?k10 ?a11 ?l11 ?c11 ?k11 ?a12 ?l12 ?c12 ?k12 ?a13 ?l13 ?c13 ?k13 ?a14 ?l14 ?c14 ?k14 ?a15 ?l15 ?c15 ?k15 ?a16 ?l16 ?c16 ?k16 ?a17 ?l17 ?c17 ?k17 ?a18 ?l18 ?c18 ?k18 ?a19 ?l19 ?c19 ?k19 ?a20 ?l20 ?c20 ?k20 ?a21 ?l21 ?c21 ?k21 ?a22 ?l22 ?c22 ?k22 ?a23 ?l23 ?c23 ?k23 ?a24 ?l24 ?c24 ?k24 ?a25 ?l25 ?c25 ?k25 ?a26 ?l26 ?c26 ?k26 ?a27 ?l27 ?c27 ?k27 ?a28 ?l28 ?c28 ?k28 ?a29 ?l29 ?c29 ?k29 ?a30 ?l30 ?c30 ?k30 ?a31 ?l31 ?c31 ?k31 ?a32 ?l32 ?c32 ?k32 ?a33 ?l33 ?c33 ?k33 ?a34 ?l34 ?c34 ?k34 ?a35 ?l35 ?c35 ?k35 ?a36 ?l36 ?c36 ?k36 ?a37 ?l37 ?c37 ?k37 ?a38 ?l38 ?c38 ?k38 ?a39 ?l39 ?c39 ?k39 ?a40 ?l40 ?c40 ?k40 ?a41 ?l41 ?c41 ?k41 ?a42 ?l42 ?c42 ?k42 ?a43 ?l43 ?c43 ?k43 ?a44 ?l44 ?c44 ?k44 ?a45 ?l45 ?c45 ?k45 ?a46 ?l46 ?c46 ?k46 ?a47 ?l47 ?c47 ?k47 ?a48 ?l48 ?c48 ?k48 ?a49 ?l49 ?c49 ?k49 ?a50 ?l50 ?c50 ?k50 ?a51 ?l51 ?c51 ?k51 ?a52 ?l52 ?c52 ?k52 ?a53 ?l53 ?c53 ?k53 ?a54 ?l54 ?c54 ?k54 ?a55 ?l55 ?c55 ?k55 ?a56 ?l56 ?c56 ?k56 ?a57 ?l57 ?c57 ?k57 ?a58 ?l58 ?c58 ?k58 ?a59 ?l59 ?c59 ?k59 ?m_gcd ?m_LARGEST ?m_MOST_COEFFICIENTS ?m_MOST_DEGREE ?m_MOST_RUNGS ?z_abs ?z_all ?z_any ?z_bool ?z_enumerate ?z_int ?z_isinstance ?z_len ?z_list ?z_max ?z_min ?z_range ?z_reversed ?z_tuple
    (case a0 => k_is)
    (case l0 => k_is)
    (case c0 => k_is)
    (case k0 => k_is)
    (case a1 => k_is)
    (case l1 => k_is)
    (case c1 => k_is)
    (case k1 => k_is)
    (case a2 => k_is)
    (case l2 => k_is)
    (case c2 => k_is)
    (case k2 => k_is)
    (case a3 => k_is)
    (case l3 => k_is)
    (case c3 => k_is)
    (case k3 => k_is)
    (case a4 => k_is)
    (case l4 => k_is)
    (case c4 => k_is)
    (case k4 => k_is)
    (case a5 => k_is)
    (case l5 => k_is)
    (case c5 => k_is)
    (case k5 => k_is)
    (case a6 => k_is)
    (case l6 => k_is)
    (case c6 => k_is)
    (case k6 => k_is)
    (case a7 => k_is)
    (case l7 => k_is)
    (case c7 => k_is)
    (case k7 => k_is)
    (case a8 => k_is)
    (case l8 => k_is)
    (case c8 => k_is)
    (case k8 => k_is)
    (case a9 => k_is)
    (case l9 => k_is)
    (case c9 => k_is)
    (case k9 => k_is)
    (case a10 => k_is)
    (case l10 => k_is)
    (case c10 => k_is)
    (case k10 => k_is)
    (case a11 => k_is)
    (case l11 => k_is)
    (case c11 => k_is)
    (case k11 => k_is)
    (case a12 => k_is)
    (case l12 => k_is)
    (case c12 => k_is)
    (case k12 => k_is)
    (case a13 => k_is)
    (case l13 => k_is)
    (case c13 => k_is)
    (case k13 => k_is)
    (case a14 => k_is)
    (case l14 => k_is)
    (case c14 => k_is)
    (case k14 => k_is)
    (case a15 => k_is)
    (case l15 => k_is)
    (case c15 => k_is)
    (case k15 => k_is)
    (case a16 => k_is)
    (case l16 => k_is)
    (case c16 => k_is)
    (case k16 => k_is)
    (case a17 => k_is)
    (case l17 => k_is)
    (case c17 => k_is)
    (case k17 => k_is)
    (case a18 => k_is)
    (case l18 => k_is)
    (case c18 => k_is)
    (case k18 => k_is)
    (case a19 => k_is)
    (case l19 => k_is)
    (case c19 => k_is)
    (case k19 => k_is)
    (case a20 => k_is)
    (case l20 => k_is)
    (case c20 => k_is)
    (case k20 => k_is)
    (case a21 => k_is)
    (case l21 => k_is)
    (case c21 => k_is)
    (case k21 => k_is)
    (case a22 => k_is)
    (case l22 => k_is)
    (case c22 => k_is)
    (case k22 => k_is)
    (case a23 => k_is)
    (case l23 => k_is)
    (case c23 => k_is)
    (case k23 => k_is)
    (case a24 => k_is)
    (case l24 => k_is)
    (case c24 => k_is)
    (case k24 => k_is)
    (case a25 => k_is)
    (case l25 => k_is)
    (case c25 => k_is)
    (case k25 => k_is)
    (case a26 => k_is)
    (case l26 => k_is)
    (case c26 => k_is)
    (case k26 => k_is)
    (case a27 => k_is)
    (case l27 => k_is)
    (case c27 => k_is)
    (case k27 => k_is)
    (case a28 => k_is)
    (case l28 => k_is)
    (case c28 => k_is)
    (case k28 => k_is)
    (case a29 => k_is)
    (case l29 => k_is)
    (case c29 => k_is)
    (case k29 => k_is)
    (case a30 => k_is)
    (case l30 => k_is)
    (case c30 => k_is)
    (case k30 => k_is)
    (case a31 => k_is)
    (case l31 => k_is)
    (case c31 => k_is)
    (case k31 => k_is)
    (case a32 => k_is)
    (case l32 => k_is)
    (case c32 => k_is)
    (case k32 => k_is)
    (case a33 => k_is)
    (case l33 => k_is)
    (case c33 => k_is)
    (case k33 => k_is)
    (case a34 => k_is)
    (case l34 => k_is)
    (case c34 => k_is)
    (case k34 => k_is)
    (case a35 => k_is)
    (case l35 => k_is)
    (case c35 => k_is)
    (case k35 => k_is)
    (case a36 => k_is)
    (case l36 => k_is)
    (case c36 => k_is)
    (case k36 => k_is)
    (case a37 => k_is)
    (case l37 => k_is)
    (case c37 => k_is)
    (case k37 => k_is)
    (case a38 => k_is)
    (case l38 => k_is)
    (case c38 => k_is)
    (case k38 => k_is)
    (case a39 => k_is)
    (case l39 => k_is)
    (case c39 => k_is)
    (case k39 => k_is)
    (case a40 => k_is)
    (case l40 => k_is)
    (case c40 => k_is)
    (case k40 => k_is)
    (case a41 => k_is)
    (case l41 => k_is)
    (case c41 => k_is)
    (case k41 => k_is)
    (case a42 => k_is)
    (case l42 => k_is)
    (case c42 => k_is)
    (case k42 => k_is)
    (case a43 => k_is)
    (case l43 => k_is)
    (case c43 => k_is)
    (case k43 => k_is)
    (case a44 => k_is)
    (case l44 => k_is)
    (case c44 => k_is)
    (case k44 => k_is)
    (case a45 => k_is)
    (case l45 => k_is)
    (case c45 => k_is)
    (case k45 => k_is)
    (case a46 => k_is)
    (case l46 => k_is)
    (case c46 => k_is)
    (case k46 => k_is)
    (case a47 => k_is)
    (case l47 => k_is)
    (case c47 => k_is)
    (case k47 => k_is)
    (case a48 => k_is)
    (case l48 => k_is)
    (case c48 => k_is)
    (case k48 => k_is)
    (case a49 => k_is)
    (case l49 => k_is)
    (case c49 => k_is)
    (case k49 => k_is)
    (case a50 => k_is)
    (case l50 => k_is)
    (case c50 => k_is)
    (case k50 => k_is)
    (case a51 => k_is)
    (case l51 => k_is)
    (case c51 => k_is)
    (case k51 => k_is)
    (case a52 => k_is)
    (case l52 => k_is)
    (case c52 => k_is)
    (case k52 => k_is)
    (case a53 => k_is)
    (case l53 => k_is)
    (case c53 => k_is)
    (case k53 => k_is)
    (case a54 => k_is)
    (case l54 => k_is)
    (case c54 => k_is)
    (case k54 => k_is)
    (case a55 => k_is)
    (case l55 => k_is)
    (case c55 => k_is)
    (case k55 => k_is)
    (case a56 => k_is)
    (case l56 => k_is)
    (case c56 => k_is)
    (case k56 => k_is)
    (case a57 => k_is)
    (case l57 => k_is)
    (case c57 => k_is)
    (case k57 => k_is)
    (case a58 => k_is)
    (case l58 => k_is)
    (case c58 => k_is)
    (case k58 => k_is)
    (case a59 => k_is)
    (case l59 => k_is)
    (case c59 => k_is)
    (case k59 => k_is)
    (case m_gcd => k_is)
    (case m_LARGEST => k_is)
    (case m_MOST_COEFFICIENTS => k_is)
    (case m_MOST_DEGREE => k_is)
    (case m_MOST_RUNGS => k_is)
    (case z_abs => k_is)
    (case z_all => k_is)
    (case z_any => k_is)
    (case z_bool => k_is)
    (case z_enumerate => k_is)
    (case z_int => k_is)
    (case z_isinstance => k_is)
    (case z_len => k_is)
    (case z_list => k_is)
    (case z_max => k_is)
    (case z_min => k_is)
    (case z_range => k_is)
    (case z_reversed => k_is)
    (case z_tuple => k_is)
