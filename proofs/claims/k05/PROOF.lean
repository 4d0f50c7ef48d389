import PyProof.Rows.All
import Wide.All
import OpenK.AllK
import Wide.FinOn
import HandS.ForMost
import HandS.Wide
import HandS.Gcd
import HandS.IsInst
import HandS.Style
import HandS.Evl
import HandS.Flow
import KE.KRevSl
import PySem.Challenge.RW_coilnets_k05_whole_roots_on_the_left
set_option linter.all false
namespace Coil
def evens {α : Type} : List α → List α
  | [] => []
  | [a] => [a]
  | a :: _ :: t => a :: evens t
def odds {α : Type} (xs : List α) : List α := evens xs.tail
theorem evens_pick {α : Type} : ∀ (xs : List α), ((List.range ((xs.length + 1) / 2)).map fun k => 2 * k).filterMap (xs[·]?) = evens xs
  | [] => by first | rfl | simp [evens]
  | [a] => by
    have e : ([a].length + 1) / 2 = 1 := by simp
    rw [e]
    rfl
  | a :: b :: t => by
    have ih := evens_pick t
    have e : ((a :: b :: t).length + 1) / 2 = (t.length + 1) / 2 + 1 := by
      simp only [List.length_cons]; omega
    rw [e, List.range_succ_eq_map]
    simp only [List.map_cons, List.map_map, List.filterMap_cons, evens]
    show a :: _ = _
    congr 1
    rw [← ih]
    rw [List.filterMap_map, List.filterMap_map]
    congr 1
theorem evens_len {α : Type} : ∀ (xs : List α), (evens xs).length = (xs.length + 1) / 2
  | [] => by first | rfl | simp [evens]
  | [a] => by simp [evens]
  | a :: b :: t => by
    simp only [evens, List.length_cons, evens_len t]; omega
theorem evens_map {α β : Type} (f : α → β) : ∀ xs : List α, evens (xs.map f) = (evens xs).map f
  | [] => by first | rfl | simp [evens]
  | [a] => rfl
  | a :: b :: t => by simp [evens, evens_map f t]
theorem evens_mem {α : Type} {x : α} : ∀ {xs : List α}, x ∈ evens xs → x ∈ xs
  | [], h => by cases h
  | [a], h => h
  | a :: b :: t, h => by
    simp only [evens, List.mem_cons] at h
    rcases h with h | h
    · simp [h]
    · simp [evens_mem h]
end Coil

/-! Determinants by rows, E. Bareiss' elimination, pivots: mathematics alone -/
set_option linter.all false
namespace Coil
abbrev Row := Nat → Int
/-- a row laid over a form of columns -/
def lap (r : Row) (g : List Nat → Int) : List Nat → Int
  | [] => 0
  | c :: cs => r c * g cs - lap r (fun t => g (c :: t)) cs
theorem lap_add (r : Row) : ∀ (g h : List Nat → Int) (cs : List Nat), lap r (fun t => g t + h t) cs = lap r g cs + lap r h cs
  | _, _, [] => rfl
  | g, h, c :: cs => by
    have := lap_add r (fun t => g (c :: t)) (fun t => h (c :: t)) cs
    simp only [lap, this]; grind
theorem lap_smul (r : Row) (a : Int) : ∀ (g : List Nat → Int) (cs : List Nat), lap r (fun t => a * g t) cs = a * lap r g cs
  | _, [] => by simp [lap]
  | g, c :: cs => by
    have := lap_smul r a (fun t => g (c :: t)) cs
    simp only [lap, this]; grind
theorem lap_row_add (r s : Row) : ∀ (g : List Nat → Int) (cs : List Nat), lap (fun c => r c + s c) g cs = lap r g cs + lap s g cs
  | _, [] => rfl
  | g, c :: cs => by
    have := lap_row_add r s (fun t => g (c :: t)) cs
    simp only [lap, this]; grind
theorem lap_row_smul (r : Row) (a : Int) : ∀ (g : List Nat → Int) (cs : List Nat), lap (fun c => a * r c) g cs = a * lap r g cs
  | _, [] => by simp [lap]
  | g, c :: cs => by
    have := lap_row_smul r a (fun t => g (c :: t)) cs
    simp only [lap, this]; grind
theorem lap_zero (r : Row) : ∀ (g : List Nat → Int) (cs : List Nat), (∀ c ∈ cs, r c = 0) → lap r g cs = 0
  | _, [], _ => rfl
  | g, c :: cs, h => by
    have h1 := lap_zero r (fun t => g (c :: t)) cs (fun d hd => h d (List.mem_cons_of_mem _ hd))
    have h2 := h c List.mem_cons_self
    simp only [lap, h1, h2]; omega
theorem lap_anti (r s : Row) : ∀ (g : List Nat → Int) (cs : List Nat), lap r (lap s g) cs = -lap s (lap r g) cs
  | _, [] => rfl
  | g, c :: cs => by
    have ih := lap_anti r s (fun t => g (c :: t)) cs
    have e1 : lap r (fun t => lap s g (c :: t)) cs = s c * lap r g cs - lap r (lap s (fun t => g (c :: t))) cs := by
      have h1 := lap_add r (fun t => s c * g t) (fun t => -1 * lap s (fun t => g (c :: t)) t) cs
      rw [lap_smul, lap_smul] at h1
      have e : (fun t => lap s g (c :: t)) = fun t => s c * g t + -1 * lap s (fun t => g (c :: t)) t := by
        funext t; simp only [lap]; grind
      rw [e, h1]; grind
    have e2 : lap s (fun t => lap r g (c :: t)) cs = r c * lap s g cs - lap s (lap r (fun t => g (c :: t))) cs := by
      have h1 := lap_add s (fun t => r c * g t) (fun t => -1 * lap r (fun t => g (c :: t)) t) cs
      rw [lap_smul, lap_smul] at h1
      have e : (fun t => lap r g (c :: t)) = fun t => r c * g t + -1 * lap r (fun t => g (c :: t)) t := by
        funext t; simp only [lap]; grind
      rw [e, h1]; grind
    show r c * lap s g cs - lap r (fun t => lap s g (c :: t)) cs = -(s c * lap r g cs - lap s (fun t => lap r g (c :: t)) cs)
    rw [e1, e2, ih]; grind
theorem lap_self (r : Row) (g : List Nat → Int) (cs : List Nat) : lap r (lap r g) cs = 0 := by
  have := lap_anti r r g cs
  omega
theorem lap_congr {r s : Row} {g : List Nat → Int} : ∀ {cs : List Nat}, (∀ c ∈ cs, r c = s c) → lap r g cs = lap s g cs
  | [], _ => rfl
  | c :: cs, h => by
    have h1 := lap_congr (r := r) (s := s) (g := fun t => g (c :: t)) (cs := cs) (fun d hd => h d (List.mem_cons_of_mem _ hd))
    simp only [lap, h1, h c List.mem_cons_self]

/-! ### Bareiss: after k steps the entries are minors with the first k rows and columns -/
/-- the first k rows, the last one outermost -/
def DF (M : Nat → Row) : Nat → List Nat → Int
  | 0 => fun cs => if cs = [] then 1 else 0
  | k + 1 => lap (M k) (DF M k)
def cl : Nat → List Nat
  | 0 => []
  | k + 1 => k :: cl k
theorem mem_cl {k c : Nat} : c ∈ cl k ↔ c < k := by
  induction k with
  | zero => simp [cl]
  | succ k ih => simp only [cl, List.mem_cons, ih]; omega
def Dl (M : Nat → Row) (k : Nat) : Int := DF M k (cl k)
/-- the entry i j after k steps -/
def Bm (M : Nat → Row) (k i j : Nat) : Int := lap (M i) (DF M k) (j :: cl k)
theorem Bm_zero (M : Nat → Row) (i j : Nat) : Bm M 0 i j = M i j := by simp [Bm, DF, cl, lap]
theorem Bm_pivot (M : Nat → Row) (k : Nat) : Bm M k k k = Dl M (k + 1) := rfl
theorem Dl_zero (M : Nat → Row) : Dl M 0 = 1 := by simp [Dl, DF, cl]
/-- what is kept: the row over the form is the first row times a number, and it is 0 ahead -/
structure BI (M : Nat → Row) (k : Nat) : Prop where
  form : ∀ i cs, lap (Bm M k i) (DF M k) cs = Dl M k * lap (M i) (DF M k) cs
  zero : ∀ i c, c < k → Bm M k i c = 0
theorem Bm_step {M : Nat → Row} {k : Nat} (h : BI M k) (hp : Dl M (k + 1) ≠ 0) (i j : Nat) :
    Dl M k * Bm M (k + 1) i j = Bm M k k k * Bm M k i j - Bm M k i k * Bm M k k j := by
  let W : Row := fun c => Bm M k k k * Bm M k i c + -(Bm M k i k) * Bm M k k c
  have e1 : ∀ cs, lap W (DF M (k + 1)) cs = Dl M k * Dl M (k + 1) * lap (M i) (DF M (k + 1)) cs := by
    intro cs
    have x : ∀ a : Nat, lap (Bm M k a) (DF M (k + 1)) cs = Dl M k * lap (M a) (DF M (k + 1)) cs := by
      intro a
      show lap (Bm M k a) (lap (M k) (DF M k)) cs = Dl M k * lap (M a) (lap (M k) (DF M k)) cs
      rw [lap_anti, lap_anti (M a) (M k)]
      have : lap (Bm M k a) (DF M k) = fun t => Dl M k * lap (M a) (DF M k) t := by funext t; exact h.form a t
      rw [this, lap_smul]; grind
    have y : lap (M k) (DF M (k + 1)) cs = 0 := lap_self _ _ _
    show lap (fun c => Bm M k k k * Bm M k i c + -(Bm M k i k) * Bm M k k c) (DF M (k + 1)) cs = _
    rw [lap_row_add (fun c => Bm M k k k * Bm M k i c) (fun c => -(Bm M k i k) * Bm M k k c), lap_row_smul, lap_row_smul, x i, x k, y, Bm_pivot]; grind
  have hz : ∀ c ∈ cl (k + 1), W c = 0 := by
    intro c hc
    rw [mem_cl] at hc
    show Bm M k k k * Bm M k i c + -(Bm M k i k) * Bm M k k c = 0
    by_cases hck : c = k
    · subst hck; grind
    · rw [h.zero i c (by omega), h.zero k c (by omega)]; omega
  have e2 := e1 (j :: cl (k + 1))
  have e3 : lap W (DF M (k + 1)) (j :: cl (k + 1)) = W j * Dl M (k + 1) := by
    show W j * DF M (k + 1) (cl (k + 1)) - lap W (fun t => DF M (k + 1) (j :: t)) (cl (k + 1)) = _
    rw [lap_zero W _ _ hz]; simp [Dl]
  rw [e3] at e2
  have e4 : W j = Dl M k * Bm M (k + 1) i j := by
    have : Dl M (k + 1) * (W j - Dl M k * Bm M (k + 1) i j) = 0 := by
      show Dl M (k + 1) * (W j - Dl M k * lap (M i) (DF M (k + 1)) (j :: cl (k + 1))) = 0
      grind
    rcases Int.mul_eq_zero.mp this with z | z
    · exact absurd z hp
    · omega
  rw [← e4]
  show Bm M k k k * Bm M k i j + -(Bm M k i k) * Bm M k k j = _
  grind
theorem BI_zero (M : Nat → Row) : BI M 0 := ⟨fun i cs => by
  rw [Dl_zero, lap_congr (s := M i) (fun c _ => Bm_zero M i c)]; omega, fun _ _ h => absurd h (by omega)⟩
theorem BI_step {M : Nat → Row} {k : Nat} (h : BI M k) (h0 : Dl M k ≠ 0) (hp : Dl M (k + 1) ≠ 0) : BI M (k + 1) := by
  have hs := Bm_step h hp
  have z : ∀ i c, c < k + 1 → Bm M (k + 1) i c = 0 := by
    intro i c hc
    have e := hs i c
    have e0 : Bm M k k k * Bm M k i c - Bm M k i k * Bm M k k c = 0 := by
      by_cases hck : c = k
      · subst hck; grind
      · rw [h.zero i c (by omega), h.zero k c (by omega)]; omega
    rw [e0] at e
    rcases Int.mul_eq_zero.mp e with q | q
    · exact absurd q h0
    · exact q
  refine ⟨fun i cs => ?_, z⟩
  have x : ∀ a : Nat, lap (Bm M k a) (DF M (k + 1)) cs = Dl M k * lap (M a) (DF M (k + 1)) cs := by
    intro a
    show lap (Bm M k a) (lap (M k) (DF M k)) cs = Dl M k * lap (M a) (lap (M k) (DF M k)) cs
    rw [lap_anti, lap_anti (M a) (M k)]
    have : lap (Bm M k a) (DF M k) = fun t => Dl M k * lap (M a) (DF M k) t := by funext t; exact h.form a t
    rw [this, lap_smul]; grind
  have y : lap (M k) (DF M (k + 1)) cs = 0 := lap_self _ _ _
  have e1 : lap (fun c => Dl M k * Bm M (k + 1) i c) (DF M (k + 1)) cs = lap (fun c => Bm M k k k * Bm M k i c + -(Bm M k i k) * Bm M k k c) (DF M (k + 1)) cs := by
    apply lap_congr
    intro c _
    show Dl M k * Bm M (k + 1) i c = _
    rw [hs i c]; grind
  rw [lap_row_smul, lap_row_add (fun c => Bm M k k k * Bm M k i c) (fun c => -(Bm M k i k) * Bm M k k c), lap_row_smul, lap_row_smul, x i, x k, y, Bm_pivot] at e1
  have : Dl M k * (lap (Bm M (k + 1) i) (DF M (k + 1)) cs - Dl M (k + 1) * lap (M i) (DF M (k + 1)) cs) = 0 := by grind
  rcases Int.mul_eq_zero.mp this with q | q
  · exact absurd q h0
  · omega
end Coil

/-! Routh's rows, Hurwitz' determinants, factors: mathematics alone -/
set_option linter.all false
namespace Coil
abbrev Sq := Nat → Int
def stp (u l : Sq) : Sq := fun i => l 0 * u (i + 1) - u 0 * l (i + 1)
def RS : Nat → Sq → Sq → Bool
  | 0, _, _ => true
  | n + 1, u, l => if l 0 ≤ 0 then false else RS n l (stp u l)
/-- scaling -/
theorem RS_scale : ∀ (n : Nat) (u l u' l' : Sq) (a b : Int), 0 < a → 0 < b → (∀ i, u' i = a * u i) → (∀ i, l' i = b * l i) → RS n u' l' = RS n u l
  | 0, _, _, _, _, _, _, _, _, _, _ => rfl
  | n + 1, u, l, u', l', a, b, ha, hb, hu, hl => by
    have h0 : (l' 0 ≤ 0) ↔ (l 0 ≤ 0) := by
      rw [hl]
      constructor
      · intro h
        refine Decidable.byContradiction fun q => ?_
        have := Int.mul_pos hb (show 0 < l 0 by omega)
        omega
      · intro h
        exact Int.mul_nonpos_of_nonneg_of_nonpos (by omega) h
    have hs := RS_scale n l (stp u l) l' (stp u' l') b (a * b) hb (Int.mul_pos ha hb) hl (fun i => by
      simp only [stp, hu, hl]; grind)
    simp only [RS, h0, hs]
def SupU (n : Nat) (u : Sq) : Prop := ∀ i, n < 2 * i → u i = 0
def SupL (n : Nat) (l : Sq) : Prop := ∀ i, n < 2 * i + 1 → l i = 0
theorem SupL.up {n : Nat} {l : Sq} (h : SupL (n + 1) l) : SupU n l := fun i hi => h i (by omega)
theorem sup_stp {n : Nat} {u l : Sq} (hu : SupU (n + 1) u) (hl : SupL (n + 1) l) : SupL n (stp u l) := fun i hi => by
  simp only [stp]
  rw [hu (i + 1) (by omega), hl (i + 1) (by omega)]
  omega
theorem RS_pos {n : Nat} {u l : Sq} (h : RS (n + 1) u l = true) : 0 < l 0 ∧ RS n l (stp u l) = true := by
  simp only [RS] at h
  by_cases hl0 : l 0 ≤ 0
  · rw [if_pos hl0] at h; cases h
  · rw [if_neg hl0] at h
    exact ⟨by omega, h⟩
theorem RS_of {n : Nat} {u l : Sq} (h : 0 < l 0) (h2 : RS n l (stp u l) = true) : RS (n + 1) u l = true := by
  simp only [RS]
  rw [if_neg (by omega)]
  exact h2
/-- a linear factor -/
theorem RS_linear : ∀ (n : Nat) (u l u' l' : Sq) (c b c' b' : Int), 0 < c → 0 < b → 0 < c' → 0 < b' → 0 < u 0 →
    (∀ i, u' (i + 1) = c * u (i + 1) + b * l i) → u' 0 = c * u 0 → (∀ i, l' i = b' * u i + c' * l i) → SupU n u → SupL n l → RS n u l = true → RS (n + 1) u' l' = true
  | 0, u, l, u', l', c, b, c', b', hc, hb, hc', hb', hu0, h1, h2, h3, su, sl, _ => by
    have hl := sl 0 (by omega)
    refine RS_of ?_ rfl
    rw [h3, hl]
    have := Int.mul_pos hb' hu0
    omega
  | n + 1, u, l, u', l', c, b, c', b', hc, hb, hc', hb', hu0, h1, h2, h3, su, sl, hr => by
    obtain ⟨hl0, hr⟩ := RS_pos hr
    have hp : 0 < l' 0 := by
      rw [h3]
      have := Int.mul_pos hb' hu0
      have := Int.mul_pos hc' hl0
      omega
    have ih := RS_linear n l (stp u l) (fun i => l 0 * l' i) (stp u' l') (l' 0) b' (c * c') (l' 0 * b) hp hb' (Int.mul_pos hc hc') (Int.mul_pos hp hb) hl0
      (fun i => by simp only [stp]; have := h3 (i + 1); have := h3 0; grind)
      (by grind)
      (fun i => by simp only [stp]; have := h3 (i + 1); have := h3 0; have := h1 i; grind) sl.up (sup_stp su sl) hr
    refine RS_of hp ?_
    rw [← ih]
    exact (RS_scale _ _ _ _ _ (l 0) 1 hl0 (by decide) (fun i => rfl) (fun i => by omega)).symm
theorem sq_lt {x y : Int} (h0 : 0 ≤ x) (h : x < y) : x * x < y * y := by
  have h1 : x * x ≤ x * y := Int.mul_le_mul_of_nonneg_left (by omega) h0
  have h2 : x * y < y * y := Int.mul_lt_mul_of_pos_right h (by omega)
  omega
theorem pos_of {b c : Int} (hb : 0 < b) (h : 0 < b * c) : 0 < c := by
  refine Decidable.byContradiction fun q => ?_
  have := Int.mul_nonpos_of_nonneg_of_nonpos (a := b) (b := c) (by omega) (by omega)
  omega
/-- a quadratic one -/
theorem quad_pos {a a' c c' b b' k A B C : Int} (ha : 0 < a) (ha' : 0 < a') (hc : 0 < c) (hc' : 0 < c') (hb : 0 < b) (hk : 0 < k) (hA : 0 < A) (hB : 0 < B) (hC : 0 < C)
    (e1 : a * a' = k * (A * A)) (e2 : c * c' = k * (C * C)) (e3 : a * c' + a' * c - b * b' = k * (2 * (A * C) - B * B)) : 0 < b' := by
  have hS : 2 * (k * (A * C)) ≤ a * c' + a' * c := by
    refine Decidable.byContradiction fun q => ?_
    have hx : 0 < a * c' := Int.mul_pos ha hc'
    have hy : 0 < a' * c := Int.mul_pos ha' hc
    generalize hX : a * c' = x at *
    generalize hY : a' * c = y at *
    have hxy : x * y = (k * (A * C)) * (k * (A * C)) := by rw [← hX, ← hY]; grind
    generalize k * (A * C) = z at *
    have h1 : 0 ≤ (x - y) * (x - y) := by
      rcases Int.le_total 0 (x - y) with h | h
      · exact Int.mul_nonneg h h
      · exact Int.mul_nonneg_of_nonpos_of_nonpos h h
    have h2 : (x + y) * (x + y) < (2 * z) * (2 * z) := sq_lt (by omega) (by omega)
    grind
  have hbb : 0 < b * b' := by
    have h1 : 0 < k * (B * B) := Int.mul_pos hk (Int.mul_pos hB hB)
    grind
  exact pos_of hb hbb
theorem quad_id (a a' c c' b b' u0 l0 u1 l1 u2 l2 : Int) : l0 * ((c' * l0 + b' * u0) * (c * u2 + a * u1 + b * l1) - c * u0 * (c' * l2 + a' * l1 + b' * u2)) =
    c * c' * l0 * (l0 * u2 - u0 * l2) + (c' * l0 + b' * u0) * a * (l0 * u1 - u0 * l1) + ((c' * l0 + b' * u0) * a * u0 + l0 * (c' * l0 + b' * u0) * b - l0 * c * u0 * a') * l1 := by grind
theorem quad_id0 (a a' c c' b b' u0 l0 u1 l1 : Int) : l0 * ((c' * l0 + b' * u0) * (c * u1 + a * u0 + b * l0) - c * u0 * (c' * l1 + a' * l0 + b' * u1)) =
    c * c' * l0 * (l0 * u1 - u0 * l1) + ((c' * l0 + b' * u0) * a * u0 + l0 * (c' * l0 + b' * u0) * b - l0 * c * u0 * a') * l0 := by grind
theorem quad_id3 (a a' c c' b b' l0 u0 k A B C : Int) (e3 : a * c' + a' * c - b * b' = k * (2 * (A * C) - B * B)) :
    (a' * l0) * (c * c' * l0) + ((c' * l0 + b' * u0) * a) * (c' * l0 + b' * u0) - b' * ((c' * l0 + b' * u0) * a * u0 + l0 * (c' * l0 + b' * u0) * b - l0 * c * u0 * a') = l0 * (c' * l0 + b' * u0) * k * (2 * (A * C) - B * B) := by
  have : l0 * (c' * l0 + b' * u0) * k * (2 * (A * C) - B * B) = l0 * (c' * l0 + b' * u0) * (a * c' + a' * c - b * b') := by rw [e3]; grind
  rw [this]; grind
theorem RS_quad : ∀ (n : Nat) (u l u' l' : Sq) (a a' c c' b b' k A B C : Int), 0 < a → 0 < a' → 0 < c → 0 < c' → 0 < b → 0 < k → 0 < A → 0 < B → 0 < C →
    a * a' = k * (A * A) → c * c' = k * (C * C) → a * c' + a' * c - b * b' = k * (2 * (A * C) - B * B) → 0 < u 0 →
    (∀ i, u' (i + 1) = c * u (i + 1) + a * u i + b * l i) → u' 0 = c * u 0 → (∀ i, l' (i + 1) = c' * l (i + 1) + a' * l i + b' * u (i + 1)) → l' 0 = c' * l 0 + b' * u 0 →
    SupU n u → SupL n l → RS n u l = true → RS (n + 2) u' l' = true
  | 0, u, l, u', l', a, a', c, c', b, b', k, A, B, C, ha, ha', hc, hc', hb, hk, hA, hB, hC, e1, e2, e3, hu0, h1, h2, h3, h4, su, sl, _ => by
    have hb' := quad_pos ha ha' hc hc' hb hk hA hB hC e1 e2 e3
    have hl := sl 0 (by omega)
    have hl1 := sl 1 (by omega)
    have hu1 := su 1 (by omega)
    have hp : 0 < l' 0 := by
      rw [h4, hl]
      have := Int.mul_pos hb' hu0
      omega
    refine RS_of hp (RS_of ?_ rfl)
    simp only [stp]
    have e : l' 0 * u' (0 + 1) - u' 0 * l' (0 + 1) = l' 0 * (a * u 0) := by
      have := h1 0; have := h3 0; grind
    rw [e]
    exact Int.mul_pos hp (Int.mul_pos ha hu0)
  | n + 1, u, l, u', l', a, a', c, c', b, b', k, A, B, C, ha, ha', hc, hc', hb, hk, hA, hB, hC, e1, e2, e3, hu0, h1, h2, h3, h4, su, sl, hr => by
    obtain ⟨hl0, hr⟩ := RS_pos hr
    have hb' := quad_pos ha ha' hc hc' hb hk hA hB hC e1 e2 e3
    have hp : 0 < l' 0 := by
      rw [h4]
      have := Int.mul_pos hb' hu0
      have := Int.mul_pos hc' hl0
      omega
    have ih := RS_quad n l (stp u l) (fun i => l 0 * l' i) (fun i => l 0 * stp u' l' i) (a' * l 0) (l' 0 * a) (l' 0) (c * c' * l 0) b' (l' 0 * a * u 0 + l 0 * l' 0 * b - l 0 * c * u 0 * a') (l 0 * l' 0 * k) A B C
      (Int.mul_pos ha' hl0) (Int.mul_pos hp ha) hp (Int.mul_pos (Int.mul_pos hc hc') hl0) hb' (Int.mul_pos (Int.mul_pos hl0 hp) hk) hA hB hC
      (by grind) (by grind) (by rw [h4]; have := quad_id3 a a' c c' b b' (l 0) (u 0) k A B C e3; rw [← this]) hl0
      (fun i => by simp only [stp]; have := h3 i; have := h4; grind)
      (by grind)
      (fun i => by simp only [stp]; rw [h3 (i + 1), h1 (i + 1), h2, h4]; exact quad_id _ _ _ _ _ _ _ _ _ _ _ _)
      (by simp only [stp]; rw [h3 0, h1 0, h2, h4]; exact quad_id0 _ _ _ _ _ _ _ _ _ _) sl.up (sup_stp su sl) hr
    refine RS_of hp ?_
    rw [← ih]
    exact (RS_scale _ _ _ _ _ (l 0) (l 0) hl0 hl0 (fun i => rfl) (fun i => rfl)).symm

/-! ### values at points -/
/-- partial values by Horner's rule at a whole number -/
def Zi (x : Int) (f : Sq) : Nat → Int
  | 0 => f 0
  | k + 1 => x * Zi x f k + f (k + 1)
/-- the same at a root of s * s - t * s + m, as x + y * root -/
def Zq (t m : Int) (f : Sq) : Nat → Int × Int
  | 0 => (f 0, 0)
  | k + 1 => (-(m * (Zq t m f k).2) + f (k + 1), (Zq t m f k).1 + t * (Zq t m f k).2)
def iu (u : Sq) : Sq := fun k => if k % 2 = 0 then u (k / 2) else 0
def il (l : Sq) : Sq := fun k => if k % 2 = 0 then 0 else l (k / 2)
theorem il_succ (l : Sq) (k : Nat) : il l (k + 1) = iu l k := by
  unfold il iu
  by_cases h : k % 2 = 0
  · have h1 : (k + 1) % 2 = 1 := by omega
    have h2 : (k + 1) / 2 = k / 2 := by omega
    simp [h, h1, h2]
  · have h1 : (k + 1) % 2 = 0 := by omega
    simp [h, h1]
theorem il_zero (l : Sq) : il l 0 = 0 := by simp [il]
theorem iu_zero (l : Sq) : iu l 0 = l 0 := by simp [iu]
theorem iu_stp (u l : Sq) (k : Nat) : l 0 * iu u (k + 1) - u 0 * iu l (k + 1) = il (stp u l) k := by
  unfold il iu stp
  by_cases h : k % 2 = 0
  · have h1 : (k + 1) % 2 = 1 := by omega
    simp [h, h1]
  · have h1 : (k + 1) % 2 = 0 := by omega
    have h2 : (k + 1) / 2 = k / 2 + 1 := by omega
    simp [h, h1, h2]
theorem Zi_il (x : Int) (l : Sq) : ∀ n, Zi x (il l) (n + 1) = Zi x (iu l) n
  | 0 => by simp [Zi, il_zero, il_succ]
  | n + 1 => by
    rw [Zi, Zi_il x l n, il_succ]
    rfl
theorem Zq_il (t m : Int) (l : Sq) : ∀ n, Zq t m (il l) (n + 1) = Zq t m (iu l) n
  | 0 => by simp [Zq, il_zero, il_succ]
  | n + 1 => by
    rw [Zq, Zq_il t m l n, il_succ]
    rfl
theorem Zi_stp (x : Int) (u l : Sq) : ∀ n, l 0 * Zi x (iu u) (n + 1) - u 0 * Zi x (iu l) (n + 1) = Zi x (il (stp u l)) n
  | 0 => by
    have := iu_stp u l 0
    simp only [Zi, iu_zero] at *
    grind
  | n + 1 => by
    have ih := Zi_stp x u l n
    have h := iu_stp u l (n + 1)
    rw [Zi, Zi.eq_2 x (iu l), Zi.eq_2 x (il (stp u l)), ← ih, ← h]
    grind
theorem Zq_stp (t m : Int) (u l : Sq) : ∀ n, l 0 * (Zq t m (iu u) (n + 1)).1 - u 0 * (Zq t m (iu l) (n + 1)).1 = (Zq t m (il (stp u l)) n).1 ∧
    l 0 * (Zq t m (iu u) (n + 1)).2 - u 0 * (Zq t m (iu l) (n + 1)).2 = (Zq t m (il (stp u l)) n).2
  | 0 => by
    have := iu_stp u l 0
    simp only [Zq, iu_zero] at *
    constructor <;> grind
  | n + 1 => by
    obtain ⟨i1, i2⟩ := Zq_stp t m u l n
    have h := iu_stp u l (n + 1)
    rw [Zq, Zq.eq_2 t m (iu l), Zq.eq_2 t m (il (stp u l)), ← i1, ← i2, ← h]
    constructor <;> grind
theorem iu_top {n : Nat} {l : Sq} (sl : SupL n l) (h : 0 < n) : iu l n = 0 := by
  unfold iu
  by_cases h2 : n % 2 = 0
  · rw [if_pos h2]; exact sl _ (by omega)
  · rw [if_neg h2]
/-- at a whole number from 0 on -/
theorem RS_real (x : Int) (hx : 0 ≤ x) : ∀ (n : Nat) (u l : Sq), 0 < u 0 → SupU n u → SupL n l → RS n u l = true → 0 ≤ Zi x (iu u) n ∧ 0 ≤ Zi x (il l) n ∧ 0 < Zi x (iu u) n + Zi x (il l) n
  | 0, u, l, hu0, su, sl, _ => by
    simp only [Zi, iu_zero, il_zero]
    omega
  | n + 1, u, l, hu0, su, sl, hr => by
    obtain ⟨hl0, hr⟩ := RS_pos hr
    obtain ⟨h1, h2, h3⟩ := RS_real x hx n l (stp u l) hl0 sl.up (sup_stp su sl) hr
    have e := Zi_stp x u l n
    have et : Zi x (iu l) (n + 1) = x * Zi x (iu l) n := by rw [Zi, iu_top sl (by omega)]; omega
    rw [Zi_il]
    rw [et] at e
    generalize Zi x (iu u) (n + 1) = U at *
    generalize Zi x (iu l) n = L at *
    generalize Zi x (il (stp u l)) n = V at *
    have p : 0 ≤ u 0 * (x * L) := Int.mul_nonneg (by omega) (Int.mul_nonneg hx h1)
    have q : l 0 * U = V + u 0 * (x * L) := by omega
    have hU : 0 ≤ U := by
      refine Decidable.byContradiction fun z => ?_
      have := Int.mul_neg_of_pos_of_neg hl0 (show U < 0 by omega)
      omega
    refine ⟨hU, h1, ?_⟩
    refine Decidable.byContradiction fun z => ?_
    have hL : L = 0 := by omega
    have hU0 : U = 0 := by omega
    subst hL hU0
    simp at q
    omega
def nrm (t m : Int) (z : Int × Int) : Int := z.1 * z.1 + t * (z.1 * z.2) + m * (z.2 * z.2)
def trc (t m : Int) (z w : Int × Int) : Int := 2 * (z.1 * w.1) + t * (z.1 * w.2 + z.2 * w.1) + 2 * m * (z.2 * w.2)
theorem sq_nonneg (x : Int) : 0 ≤ x * x := by
  rcases Int.le_total 0 x with h | h
  · exact Int.mul_nonneg h h
  · exact Int.mul_nonneg_of_nonpos_of_nonpos h h
theorem nrm_nonneg {t m : Int} (h : t * t < 4 * m) (z : Int × Int) : 0 ≤ nrm t m z ∧ (nrm t m z = 0 → z = (0, 0)) := by
  obtain ⟨x, y⟩ := z
  have e : 4 * nrm t m (x, y) = (2 * x + t * y) * (2 * x + t * y) + (4 * m - t * t) * (y * y) := by simp only [nrm]; grind
  have h1 := sq_nonneg (2 * x + t * y)
  have h2 : 0 ≤ (4 * m - t * t) * (y * y) := Int.mul_nonneg (by omega) (sq_nonneg y)
  refine ⟨by omega, fun q => ?_⟩
  have e1 : (4 * m - t * t) * (y * y) = 0 := by omega
  have e2 : (2 * x + t * y) * (2 * x + t * y) = 0 := by omega
  have hy : y = 0 := by
    rcases Int.mul_eq_zero.mp e1 with z | z
    · omega
    · rcases Int.mul_eq_zero.mp z with z | z <;> exact z
  subst hy
  have hx : 2 * x + t * 0 = 0 := by rcases Int.mul_eq_zero.mp e2 with z | z <;> exact z
  have : x = 0 := by simp at hx; omega
  subst this; rfl
theorem RS_quadratic (t m : Int) (ht : 0 ≤ t) (hm : t * t < 4 * m) : ∀ (n : Nat) (u l : Sq), 0 < u 0 → SupU n u → SupL n l → RS n u l = true →
    0 ≤ trc t m (Zq t m (iu u) n) (Zq t m (il l) n) ∧ ¬ (Zq t m (iu u) n = (0, 0) ∧ Zq t m (il l) n = (0, 0))
  | 0, u, l, hu0, su, sl, _ => by
    simp only [Zq, iu_zero, il_zero, trc]
    refine ⟨by omega, fun q => ?_⟩
    have := congrArg Prod.fst q.1
    simp at this
    omega
  | n + 1, u, l, hu0, su, sl, hr => by
    obtain ⟨hl0, hr⟩ := RS_pos hr
    obtain ⟨h1, h2⟩ := RS_quadratic t m ht hm n l (stp u l) hl0 sl.up (sup_stp su sl) hr
    obtain ⟨e1, e2⟩ := Zq_stp t m u l n
    have et : Zq t m (iu l) (n + 1) = (-(m * (Zq t m (iu l) n).2), (Zq t m (iu l) n).1 + t * (Zq t m (iu l) n).2) := by rw [Zq, iu_top sl (by omega)]; simp
    rw [Zq_il]
    rw [et] at e1 e2
    simp only at e1 e2
    have hn := (nrm_nonneg hm (Zq t m (iu l) n)).1
    generalize Zq t m (iu u) (n + 1) = U at *
    generalize Zq t m (iu l) n = L at *
    generalize Zq t m (il (stp u l)) n = W at *
    obtain ⟨U1, U2⟩ := U
    obtain ⟨L1, L2⟩ := L
    obtain ⟨W1, W2⟩ := W
    simp only at e1 e2
    have key : l 0 * trc t m (U1, U2) (L1, L2) = trc t m (L1, L2) (W1, W2) + u 0 * (t * nrm t m (L1, L2)) := by
      simp only [trc, nrm]
      rw [← e1, ← e2]
      generalize u 0 = u0
      generalize l 0 = l0
      clear e1 e2 h1 h2 hn
      grind
    refine ⟨?_, fun q => h2 ?_⟩
    · have p : 0 ≤ u 0 * (t * nrm t m (L1, L2)) := Int.mul_nonneg (by omega) (Int.mul_nonneg ht hn)
      refine Decidable.byContradiction fun z => ?_
      have := Int.mul_neg_of_pos_of_neg hl0 (show trc t m (U1, U2) (L1, L2) < 0 by omega)
      omega
    · obtain ⟨q1, q2⟩ := q
      cases q1
      cases q2
      simp at e1 e2
      refine ⟨rfl, ?_⟩
      rw [← e1, ← e2]

/-! ### one sequence, from the greatest power on -/
def up (f : Sq) : Sq := fun i => f (2 * i)
def lo (f : Sq) : Sq := fun i => f (2 * i + 1)
def Sup (n : Nat) (f : Sq) : Prop := ∀ k, n < k → f k = 0
theorem Sup.u {n : Nat} {f : Sq} (h : Sup n f) : SupU n (up f) := fun i hi => h _ hi
theorem Sup.l {n : Nat} {f : Sq} (h : Sup n f) : SupL n (lo f) := fun i hi => h _ hi
def RF (n : Nat) (f : Sq) : Bool := RS n (up f) (lo f)
theorem iu_il (f : Sq) (k : Nat) : iu (up f) k + il (lo f) k = f k := by
  unfold iu il up lo
  by_cases h : k % 2 = 0
  · have : 2 * (k / 2) = k := by omega
    simp [h, this]
  · have : 2 * (k / 2) + 1 = k := by omega
    simp [h, this]
theorem Zi_split (x : Int) (f : Sq) : ∀ n, Zi x f n = Zi x (iu (up f)) n + Zi x (il (lo f)) n
  | 0 => by simp only [Zi]; exact (iu_il f 0).symm
  | n + 1 => by
    have ih := Zi_split x f n
    have h := iu_il f (n + 1)
    simp only [Zi]
    rw [ih, ← h]
    grind
theorem Zq_split (t m : Int) (f : Sq) : ∀ n, (Zq t m f n).1 = (Zq t m (iu (up f)) n).1 + (Zq t m (il (lo f)) n).1 ∧ (Zq t m f n).2 = (Zq t m (iu (up f)) n).2 + (Zq t m (il (lo f)) n).2
  | 0 => by simp only [Zq]; exact ⟨(iu_il f 0).symm, by omega⟩
  | n + 1 => by
    obtain ⟨i1, i2⟩ := Zq_split t m f n
    have h := iu_il f (n + 1)
    simp only [Zq]
    rw [i1, i2, ← h]
    constructor <;> grind
def Bad (n : Nat) (f : Sq) : Prop := (∃ x : Int, 0 ≤ x ∧ Zi x f n = 0) ∨ ∃ t m : Int, 0 ≤ t ∧ t * t < 4 * m ∧ Zq t m f n = (0, 0)
theorem RF_good {n : Nat} {f : Sq} (h0 : 0 < f 0) (sf : Sup n f) (hr : RF n f = true) : ¬ Bad n f := by
  rintro (⟨x, hx, e⟩ | ⟨t, m, ht, hm, e⟩)
  · obtain ⟨_, _, h3⟩ := RS_real x hx n (up f) (lo f) h0 sf.u sf.l hr
    rw [Zi_split] at e
    omega
  · obtain ⟨h1, h2⟩ := RS_quadratic t m ht hm n (up f) (lo f) h0 sf.u sf.l hr
    obtain ⟨e1, e2⟩ := Zq_split t m f n
    rw [e] at e1 e2
    simp only at e1 e2
    have hn := nrm_nonneg hm (Zq t m (il (lo f)) n)
    apply h2
    generalize Zq t m (iu (up f)) n = U at *
    generalize Zq t m (il (lo f)) n = L at *
    obtain ⟨U1, U2⟩ := U
    obtain ⟨L1, L2⟩ := L
    simp only at e1 e2
    have hU1 : U1 = -L1 := by omega
    have hU2 : U2 = -L2 := by omega
    subst hU1 hU2
    have e3 : trc t m (-L1, -L2) (L1, L2) = -2 * nrm t m (L1, L2) := by simp only [trc, nrm]; grind
    have hz := hn.2 (by omega)
    cases hz
    exact ⟨rfl, rfl⟩
/-- f times a + b s -/
structure Lin (a b : Int) (f g : Sq) : Prop where
  z : g 0 = b * f 0
  s : ∀ k, g (k + 1) = b * f (k + 1) + a * f k
structure Quad (a b c : Int) (f g : Sq) : Prop where
  z : g 0 = c * f 0
  o : g 1 = c * f 1 + b * f 0
  s : ∀ k, g (k + 2) = c * f (k + 2) + b * f (k + 1) + a * f k
theorem Lin.sup {a b : Int} {f g : Sq} {n : Nat} (h : Lin a b f g) (sf : Sup n f) : Sup (n + 1) g := fun k hk => by
  obtain ⟨j, rfl⟩ : ∃ j, k = j + 1 := ⟨k - 1, by omega⟩
  rw [h.s, sf _ (by omega), sf _ (by omega)]; omega
theorem Quad.sup {a b c : Int} {f g : Sq} {n : Nat} (h : Quad a b c f g) (sf : Sup n f) : Sup (n + 2) g := fun k hk => by
  obtain ⟨j, rfl⟩ : ∃ j, k = j + 2 := ⟨k - 2, by omega⟩
  rw [h.s, sf _ (by omega), sf _ (by omega), sf _ (by omega)]; omega
theorem Lin.RF {a b : Int} {f g : Sq} {n : Nat} (h : Lin a b f g) (ha : 0 < a) (hb : 0 < b) (h0 : 0 < f 0) (sf : Sup n f) (hr : RF n f = true) : Coil.RF (n + 1) g = true :=
  RS_linear n (up f) (lo f) (up g) (lo g) b a b a hb ha hb ha h0 (fun i => h.s (2 * i + 1)) h.z (fun i => by have := h.s (2 * i); simp only [lo, up]; omega) sf.u sf.l hr
theorem Quad.RF {a b c : Int} {f g : Sq} {n : Nat} (h : Quad a b c f g) (ha : 0 < a) (hb : 0 < b) (hc : 0 < c) (h0 : 0 < f 0) (sf : Sup n f) (hr : RF n f = true) : Coil.RF (n + 2) g = true :=
  RS_quad n (up f) (lo f) (up g) (lo g) a a c c b b 1 a b c ha ha hc hc hb (by decide) ha hb hc (by omega) (by omega) (by grind) h0
    (fun i => by have := h.s (2 * i); simp only [lo, up] at *; rw [show 2 * (i + 1) = 2 * i + 2 by omega, this]; omega) h.z
    (fun i => by have := h.s (2 * i + 1); simp only [lo, up] at *; rw [show 2 * (i + 1) + 1 = 2 * i + 1 + 2 by omega, this, show 2 * (i + 1) = 2 * i + 1 + 1 by omega]; omega)
    (by have := h.o; simp only [lo, up] at *; exact this) sf.u sf.l hr
theorem Lin.Zi {a b : Int} {f g : Sq} (h : Lin a b f g) (x : Int) : ∀ n, Coil.Zi x g (n + 1) = b * Coil.Zi x f (n + 1) + a * Coil.Zi x f n
  | 0 => by
    have h1 := h.z
    have h2 := h.s 0
    simp only [Coil.Zi] at *
    grind
  | n + 1 => by
    have ih := Lin.Zi h x n
    have h2 := h.s (n + 1)
    rw [Coil.Zi.eq_2 x g, ih, h2, Coil.Zi.eq_2 x f (n + 1), Coil.Zi.eq_2 x f n]
    grind
theorem Lin.Zq {a b : Int} {f g : Sq} (h : Lin a b f g) (t m : Int) : ∀ n, (Coil.Zq t m g (n + 1)).1 = b * (Coil.Zq t m f (n + 1)).1 + a * (Coil.Zq t m f n).1 ∧ (Coil.Zq t m g (n + 1)).2 = b * (Coil.Zq t m f (n + 1)).2 + a * (Coil.Zq t m f n).2
  | 0 => by
    have h1 := h.z
    have h2 := h.s 0
    simp only [Coil.Zq] at *
    constructor <;> grind
  | n + 1 => by
    obtain ⟨i1, i2⟩ := Lin.Zq h t m n
    have h2 := h.s (n + 1)
    rw [Coil.Zq.eq_2 t m g, i1, i2, h2, Coil.Zq.eq_2 t m f (n + 1)]
    simp only
    constructor
    · rw [Coil.Zq.eq_2 t m f n]; grind
    · rw [Coil.Zq.eq_2 t m f n]; grind
theorem Quad.Zi {a b c : Int} {f g : Sq} (h : Quad a b c f g) (x : Int) : ∀ n, Coil.Zi x g (n + 2) = c * Coil.Zi x f (n + 2) + b * Coil.Zi x f (n + 1) + a * Coil.Zi x f n
  | 0 => by
    have h1 := h.z
    have h2 := h.o
    have h3 := h.s 0
    simp only [Coil.Zi] at *
    grind
  | n + 1 => by
    have ih := Quad.Zi h x n
    have h2 := h.s (n + 1)
    rw [Coil.Zi.eq_2 x g, ih, h2, Coil.Zi.eq_2 x f (n + 2), Coil.Zi.eq_2 x f (n + 1), Coil.Zi.eq_2 x f n]
    grind
theorem Quad.Zq {a b c : Int} {f g : Sq} (h : Quad a b c f g) (t m : Int) : ∀ n, (Coil.Zq t m g (n + 2)).1 = c * (Coil.Zq t m f (n + 2)).1 + b * (Coil.Zq t m f (n + 1)).1 + a * (Coil.Zq t m f n).1 ∧
    (Coil.Zq t m g (n + 2)).2 = c * (Coil.Zq t m f (n + 2)).2 + b * (Coil.Zq t m f (n + 1)).2 + a * (Coil.Zq t m f n).2
  | 0 => by
    have h1 := h.z
    have h2 := h.o
    have h3 := h.s 0
    simp only [Coil.Zq] at *
    constructor <;> grind
  | n + 1 => by
    obtain ⟨i1, i2⟩ := Quad.Zq h t m n
    have h2 := h.s (n + 1)
    rw [Coil.Zq.eq_2 t m g, i1, i2, h2, Coil.Zq.eq_2 t m f (n + 2)]
    simp only
    constructor
    · rw [Coil.Zq.eq_2 t m f (n + 1), Coil.Zq.eq_2 t m f n]; grind
    · rw [Coil.Zq.eq_2 t m f (n + 1), Coil.Zq.eq_2 t m f n]; grind
theorem Zi_over {x : Int} {f : Sq} {n : Nat} (sf : Sup n f) : Zi x f (n + 1) = x * Zi x f n := by rw [Zi, sf _ (by omega)]; omega
theorem Zq_over {t m : Int} {f : Sq} {n : Nat} (sf : Sup n f) : Zq t m f (n + 1) = (-(m * (Zq t m f n).2), (Zq t m f n).1 + t * (Zq t m f n).2) := by rw [Zq, sf _ (by omega)]; simp
theorem Sup.up1 {n : Nat} {f : Sq} (h : Sup n f) : Sup (n + 1) f := fun k hk => h k (by omega)
theorem Lin.bad {a b : Int} {f g : Sq} {n : Nat} (h : Lin a b f g) (sf : Sup n f) (hb : Bad n f) : Bad (n + 1) g := by
  rcases hb with ⟨x, hx, e⟩ | ⟨t, m, ht, hm, e⟩
  · refine .inl ⟨x, hx, ?_⟩
    rw [h.Zi, Zi_over sf, e]; simp
  · refine .inr ⟨t, m, ht, hm, ?_⟩
    obtain ⟨e1, e2⟩ := h.Zq t m n
    rw [Zq_over sf, e] at e1 e2
    simp at e1 e2
    exact Prod.ext e1 e2
theorem Quad.bad {a b c : Int} {f g : Sq} {n : Nat} (h : Quad a b c f g) (sf : Sup n f) (hb : Bad n f) : Bad (n + 2) g := by
  rcases hb with ⟨x, hx, e⟩ | ⟨t, m, ht, hm, e⟩
  · refine .inl ⟨x, hx, ?_⟩
    rw [h.Zi, Zi_over sf.up1, Zi_over sf, e]; simp
  · refine .inr ⟨t, m, ht, hm, ?_⟩
    obtain ⟨e1, e2⟩ := h.Zq t m n
    rw [Zq_over sf.up1, Zq_over sf, e] at e1 e2
    simp at e1 e2
    exact Prod.ext e1 e2
/-- a factor with a root that is not on the left -/
theorem Lin.bad_new {x : Int} {f g : Sq} {n : Nat} (h : Lin (-x) 1 f g) (hx : 0 ≤ x) (sf : Sup n f) : Bad (n + 1) g := by
  refine .inl ⟨x, hx, ?_⟩
  rw [h.Zi, Zi_over sf]; grind
theorem Quad.bad_real {a b : Int} {f g : Sq} {n : Nat} (x : Int) (h : Quad a b 1 f g) (hx : 0 ≤ x) (hz : x * x + b * x + a = 0) (sf : Sup n f) : Bad (n + 2) g := by
  refine .inl ⟨x, hx, ?_⟩
  rw [h.Zi, Zi_over sf.up1, Zi_over sf]
  have : 1 * (x * (x * Coil.Zi x f n)) + b * (x * Coil.Zi x f n) + a * Coil.Zi x f n = (x * x + b * x + a) * Coil.Zi x f n := by grind
  rw [this, hz]; simp
theorem Quad.bad_new {t m : Int} {f g : Sq} {n : Nat} (h : Quad m (-t) 1 f g) (ht : 0 ≤ t) (hm : t * t < 4 * m) (sf : Sup n f) : Bad (n + 2) g := by
  refine .inr ⟨t, m, ht, hm, ?_⟩
  obtain ⟨e1, e2⟩ := h.Zq t m n
  rw [Zq_over sf.up1, Zq_over sf] at e1 e2
  simp only at e1 e2
  refine Prod.ext ?_ ?_
  · rw [e1]; grind
  · rw [e2]; grind
end Coil

set_option linter.all false
namespace Coil
def Sch (M : Nat → Row) : Nat → Row := fun i j => M 0 0 * M (i + 1) (j + 1) - M (i + 1) 0 * M 0 (j + 1)
def Piv : Nat → (Nat → Row) → Bool
  | 0, _ => true
  | n + 1, M => if M 0 0 ≤ 0 then false else Piv n (Sch M)
theorem Piv_low : ∀ (n : Nat) (M N : Nat → Row) (a b : Nat → Int), (∀ i, 0 < a i) → (∀ j, N 0 j = a 0 * M 0 j) → (∀ i j, N (i + 1) j = a (i + 1) * M (i + 1) j + b (i + 1) * M i j) → Piv n N = Piv n M
  | 0, _, _, _, _, _, _, _ => rfl
  | n + 1, M, N, a, b, ha, h0, h1 => by
    have c : (N 0 0 ≤ 0) ↔ (M 0 0 ≤ 0) := by
      rw [h0]
      constructor
      · intro h
        refine Decidable.byContradiction fun q => ?_
        have := Int.mul_pos (ha 0) (show 0 < M 0 0 by omega)
        omega
      · intro h
        have := ha 0
        exact Int.mul_nonpos_of_nonneg_of_nonpos (by omega) h
    have ih := Piv_low n (Sch M) (Sch N) (fun i => a 0 * a (i + 1)) (fun i => a 0 * b (i + 1)) (fun i => Int.mul_pos (ha 0) (ha _))
      (fun j => by simp only [Sch]; rw [h0, h0, h1, h1]; grind)
      (fun i j => by simp only [Sch]; rw [h0, h0, h1, h1]; grind)
    simp only [Piv, c, ih]
theorem Piv_scale {n : Nat} {M N : Nat → Row} {a : Int} (ha : 0 < a) (h : ∀ i j, N i j = a * M i j) : Piv n N = Piv n M :=
  Piv_low n M N (fun _ => a) (fun _ => 0) (fun _ => ha) (fun j => h 0 j) (fun i j => by rw [h]; omega)
def Hz (u l : Sq) : Nat → Row := fun i j => if j < i / 2 then 0 else if i % 2 = 0 then l (j - i / 2) else u (j - i / 2)
theorem Hz_even (u l : Sq) (k j : Nat) : Hz u l (2 * k) j = if j < k then 0 else l (j - k) := by
  unfold Hz
  have h1 : 2 * k / 2 = k := by omega
  have h2 : 2 * k % 2 = 0 := by omega
  simp [h1]
theorem Hz_odd (u l : Sq) (k j : Nat) : Hz u l (2 * k + 1) j = if j < k then 0 else u (j - k) := by
  unfold Hz
  have h1 : (2 * k + 1) / 2 = k := by omega
  have h2 : (2 * k + 1) % 2 = 1 := by omega
  simp [h1, h2]
theorem Hz_RS : ∀ (n : Nat) (u l : Sq), 0 < u 0 → Piv n (Hz u l) = RS n u l
  | 0, _, _, _ => rfl
  | n + 1, u, l, hu => by
    have e00 : Hz u l 0 0 = l 0 := by simp [Hz]
    simp only [Piv, RS, e00]
    by_cases hl : l 0 ≤ 0
    · rw [if_pos hl, if_pos hl]
    · rw [if_neg hl, if_neg hl, ← Hz_RS n l (stp u l) (by omega)]
      refine Piv_low n (Hz l (stp u l)) (Sch (Hz u l)) (fun i => if i % 2 = 0 then 1 else l 0) (fun i => if i % 2 = 0 then u 0 else 0) (fun i => by split <;> omega) (fun j => ?_) (fun i j => ?_)
      · have h1 := Hz_odd u l 0 (j + 1)
        have h2 := Hz_odd u l 0 0
        have h3 := Hz_even u l 0 (j + 1)
        have h4 := Hz_even l (stp u l) 0 j
        simp at h1 h2 h3 h4
        simp only [Sch, e00]
        rw [h1, h2, h3, h4]
        simp [stp]
      · rcases Nat.mod_two_eq_zero_or_one i with hi | hi
        · obtain ⟨k, rfl⟩ : ∃ k, i = 2 * k := ⟨i / 2, by omega⟩
          have h1 := Hz_even u l (k + 1) (j + 1)
          have h2 := Hz_even u l (k + 1) 0
          have h5 := Hz_odd l (stp u l) k j
          simp only [Sch, e00]
          rw [show 2 * k + 1 + 1 = 2 * (k + 1) by omega, h1, h2, h5]
          have m1 : (2 * k + 1) % 2 = 1 := by omega
          simp [m1]
        · obtain ⟨k, rfl⟩ : ∃ k, i = 2 * k + 1 := ⟨i / 2, by omega⟩
          have h1 := Hz_odd u l (k + 1) (j + 1)
          have h2 := Hz_odd u l (k + 1) 0
          have h5 := Hz_odd l (stp u l) k j
          have h6 := Hz_even l (stp u l) (k + 1) j
          simp only [Sch, e00]
          rw [show 2 * k + 1 + 1 + 1 = 2 * (k + 1) + 1 by omega, show 2 * k + 1 + 1 = 2 * (k + 1) by omega, h1, h2, h5, h6]
          have m1 : (2 * (k + 1)) % 2 = 0 := by omega
          simp [m1]
          by_cases hj : j < k
          · have : j < k + 1 := by omega
            simp [hj, this]
          · by_cases hjk : j = k
            · subst hjk; simp; grind
            · have h7 : ¬ j < k + 1 := by omega
              have h8 : j - k = (j - (k + 1)) + 1 := by omega
              simp only [hj, h7, if_false, stp, h8]
              grind
/-- all leading minors are positive: the pivots are -/
theorem Piv_minors (M : Nat → Row) : ∀ (d k : Nat), BI M k → 0 < Dl M k → Piv d (fun i j => Bm M k (i + k) (j + k)) = decide (∀ j, j < d → 0 < Dl M (k + j + 1))
  | 0, k, _, _ => by simp [Piv]
  | d + 1, k, hb, hk => by
    have e00 : Bm M k (0 + k) (0 + k) = Dl M (k + 1) := by rw [Nat.zero_add, Bm_pivot]
    simp only [Piv, e00]
    by_cases hp : Dl M (k + 1) ≤ 0
    · rw [if_pos hp]
      symm
      rw [decide_eq_false_iff_not]
      intro h
      have := h 0 (by omega)
      simp at this
      omega
    · rw [if_neg hp]
      have hb1 := BI_step hb (by omega) (by omega : Dl M (k + 1) ≠ 0)
      have ih := Piv_minors M d (k + 1) hb1 (by omega)
      have sc : Piv d (Sch fun i j => Bm M k (i + k) (j + k)) = Piv d (fun i j => Bm M (k + 1) (i + (k + 1)) (j + (k + 1))) := by
        refine Piv_scale hk (fun i j => ?_)
        have := Bm_step hb (by omega : Dl M (k + 1) ≠ 0) (i + (k + 1)) (j + (k + 1))
        rw [this]
        simp only [Sch, Nat.zero_add]
        rw [show i + 1 + k = i + (k + 1) by omega, show j + 1 + k = j + (k + 1) by omega]
      rw [sc, ih]
      apply decide_eq_decide.mpr
      constructor
      · intro h j hj
        by_cases h0 : j = 0
        · subst h0; simp; omega
        · have := h (j - 1) (by omega)
          rw [show k + 1 + (j - 1) + 1 = k + j + 1 by omega] at this
          exact this
      · intro h j hj
        have := h (j + 1) (by omega)
        rw [show k + (j + 1) + 1 = k + 1 + j + 1 by omega] at this
        exact this
theorem Piv_all (M : Nat → Row) (n : Nat) : Piv n M = decide (∀ j, j < n → 0 < Dl M (j + 1)) := by
  have h := Piv_minors M n 0 (BI_zero M) (by rw [Dl_zero]; decide)
  have e : (fun i j => Bm M 0 (i + 0) (j + 0)) = M := by funext i j; exact Bm_zero M i j
  rw [e] at h
  rw [h]
  apply decide_eq_decide.mpr
  simp
end Coil

set_option linter.all false
namespace Coil
/-! ### polynomials as lists, from the power 0 on -/
def co (p : List Int) (i : Nat) : Int := p.getD i 0
theorem co_over {p : List Int} {i : Nat} (h : p.length ≤ i) : co p i = 0 := by
  unfold co; rw [List.getD_eq_getElem?_getD, List.getElem?_eq_none h]; rfl
def sumN : Nat → (Nat → Int) → Int
  | 0, _ => 0
  | n + 1, f => sumN n f + f n
def sh (q : List Int) (k i : Nat) : Int := if i ≤ k then co q (k - i) else 0
/-- one coefficient of the product of the first n coefficients of p with q -/
def cv (p q : List Int) (n k : Nat) : Int := sumN n fun i => co p i * sh q k i
def conv (p q : List Int) : List Int := (List.range (p.length + q.length - 1)).map (cv p q p.length)
theorem conv_len (p q : List Int) : (conv p q).length = p.length + q.length - 1 := by simp [conv]
theorem co_conv {p q : List Int} {k : Nat} (h : k < p.length + q.length - 1) : co (conv p q) k = cv p q p.length k := by
  unfold co conv
  rw [List.getD_eq_getElem?_getD, List.getElem?_map, List.getElem?_range h]; rfl
theorem cv2 (p : List Int) (a b : Int) (k : Nat) : ∀ n, cv p [a, b] n k = (if k < n then a * co p k else 0) + (if 1 ≤ k ∧ k - 1 < n then b * co p (k - 1) else 0)
  | 0 => by simp [cv, sumN]
  | n + 1 => by
    have ih := cv2 p a b k n
    unfold cv at ih ⊢
    simp only [sumN]
    rw [ih]
    have hs : sh [a, b] k n = if n = k then a else if n + 1 = k then b else 0 := by
      unfold sh
      by_cases h1 : n ≤ k
      · rw [if_pos h1]
        by_cases h2 : n = k
        · subst h2; simp [co]
        · by_cases h3 : n + 1 = k
          · subst h3; simp [co]
          · rw [if_neg h2, if_neg h3]; exact co_over (by simp; omega)
      · rw [if_neg h1, if_neg (by omega), if_neg (by omega)]
    rw [hs]
    by_cases h2 : n = k
    · subst h2
      by_cases h4 : 1 ≤ n
      · have h5 : n - 1 < n := by omega
        have h6 : n - 1 < n + 1 := by omega
        simp [h4, h5, h6]; grind
      · simp [h4]; grind
    · by_cases h3 : n + 1 = k
      · subst h3; simp; grind
      · rw [if_neg h2, if_neg h3]
        have e1 : (k < n + 1) ↔ (k < n) := by omega
        have e2 : (1 ≤ k ∧ k - 1 < n + 1) ↔ (1 ≤ k ∧ k - 1 < n) := by omega
        simp only [e1, e2]; omega
theorem cv3 (p : List Int) (a b c : Int) (k : Nat) : ∀ n, cv p [a, b, c] n k = (if k < n then a * co p k else 0) + (if 1 ≤ k ∧ k - 1 < n then b * co p (k - 1) else 0) + (if 2 ≤ k ∧ k - 2 < n then c * co p (k - 2) else 0)
  | 0 => by simp [cv, sumN]
  | n + 1 => by
    have ih := cv3 p a b c k n
    unfold cv at ih ⊢
    simp only [sumN]
    rw [ih]
    have hs : sh [a, b, c] k n = if n = k then a else if n + 1 = k then b else if n + 2 = k then c else 0 := by
      unfold sh
      by_cases h1 : n ≤ k
      · rw [if_pos h1]
        by_cases h2 : n = k
        · subst h2; simp [co]
        · by_cases h3 : n + 1 = k
          · subst h3; simp [co]
          · by_cases h4 : n + 2 = k
            · subst h4
              have : n + 2 - n = 2 := by omega
              simp [co, this]
            · rw [if_neg h2, if_neg h3, if_neg h4]; exact co_over (by simp; omega)
      · rw [if_neg h1, if_neg (by omega), if_neg (by omega), if_neg (by omega)]
    rw [hs]
    by_cases h2 : n = k
    · subst h2
      have e1 : (1 ≤ n ∧ n - 1 < n + 1) ↔ (1 ≤ n ∧ n - 1 < n) := by omega
      have e2 : (2 ≤ n ∧ n - 2 < n + 1) ↔ (2 ≤ n ∧ n - 2 < n) := by omega
      simp only [e1, e2]; simp; grind
    · by_cases h3 : n + 1 = k
      · subst h3
        have e2 : (2 ≤ n + 1 ∧ n + 1 - 2 < n + 1) ↔ (2 ≤ n + 1 ∧ n + 1 - 2 < n) := by omega
        simp only [e2]; simp; grind
      · by_cases h4 : n + 2 = k
        · subst h4
          have e1 : ¬ (1 ≤ n + 2 ∧ n + 2 - 1 < n + 1) := by omega
          have e2 : ¬ (1 ≤ n + 2 ∧ n + 2 - 1 < n) := by omega
          have e3 : ¬ (n + 2 < n + 1) := by omega
          have e4 : ¬ (n + 2 < n) := by omega
          have e5 : (2 ≤ n + 2 ∧ n + 2 - 2 < n + 1) := by omega
          have e6 : ¬ (2 ≤ n + 2 ∧ n + 2 - 2 < n) := by omega
          rw [if_neg e3, if_neg e1, if_pos e5, if_neg e4, if_neg e2, if_neg e6]
          simp; grind
        · rw [if_neg h2, if_neg h3, if_neg h4]
          have e1 : (k < n + 1) ↔ (k < n) := by omega
          have e2 : (1 ≤ k ∧ k - 1 < n + 1) ↔ (1 ≤ k ∧ k - 1 < n) := by omega
          have e3 : (2 ≤ k ∧ k - 2 < n + 1) ↔ (2 ≤ k ∧ k - 2 < n) := by omega
          simp only [e1, e2, e3]; omega
/-- the product with a + b s, with a + b s + c s s, coefficient by coefficient -/
theorem co_lin (p : List Int) (a b : Int) (hp : 0 < p.length) (k : Nat) : co (conv p [a, b]) k = a * co p k + (if 1 ≤ k then b * co p (k - 1) else 0) := by
  by_cases h : k < p.length + 1
  · rw [co_conv (by simp; omega), cv2]
    by_cases hk : k < p.length
    · have : (1 ≤ k ∧ k - 1 < p.length) ↔ 1 ≤ k := by omega
      simp only [this, if_pos hk]
    · have : (1 ≤ k ∧ k - 1 < p.length) ↔ 1 ≤ k := by omega
      rw [co_over (p := p) (i := k) (by omega)]
      simp only [this, if_neg hk]; omega
  · rw [co_over (by rw [conv_len]; simp; omega), co_over (p := p) (i := k) (by omega), co_over (p := p) (i := k - 1) (by omega)]
    split <;> omega
theorem co_quad (p : List Int) (a b c : Int) (hp : 0 < p.length) (k : Nat) : co (conv p [a, b, c]) k = a * co p k + (if 1 ≤ k then b * co p (k - 1) else 0) + (if 2 ≤ k then c * co p (k - 2) else 0) := by
  by_cases h : k < p.length + 2
  · rw [co_conv (by simp; omega), cv3]
    have z0 : (if k < p.length then a * co p k else 0) = a * co p k := by
      split
      · rfl
      · rw [co_over (p := p) (i := k) (by omega)]; omega
    have z1 : (if 1 ≤ k ∧ k - 1 < p.length then b * co p (k - 1) else 0) = (if 1 ≤ k then b * co p (k - 1) else 0) := by
      by_cases h1 : 1 ≤ k
      · by_cases h2 : k - 1 < p.length
        · rw [if_pos ⟨h1, h2⟩, if_pos h1]
        · rw [if_neg (by omega), if_pos h1, co_over (p := p) (i := k - 1) (by omega)]; omega
      · rw [if_neg (by omega), if_neg h1]
    have z2 : (if 2 ≤ k ∧ k - 2 < p.length then c * co p (k - 2) else 0) = (if 2 ≤ k then c * co p (k - 2) else 0) := by
      by_cases h1 : 2 ≤ k
      · rw [if_pos (by omega), if_pos h1]
      · rw [if_neg (by omega), if_neg h1]
    rw [z0, z1, z2]
  · rw [co_over (by rw [conv_len]; simp; omega), co_over (p := p) (i := k) (by omega), co_over (p := p) (i := k - 1) (by omega), co_over (p := p) (i := k - 2) (by omega)]
    split <;> split <;> omega
/-! ### from the greatest power on, the first one positive -/
def sg (p : List Int) : Int := if co p (p.length - 1) < 0 then -1 else 1
def fs (p : List Int) : Sq := fun k => if k < p.length then sg p * co p (p.length - 1 - k) else 0
theorem fs_sup (p : List Int) (hp : 0 < p.length) : Sup (p.length - 1) (fs p) := fun k hk => by
  unfold fs; rw [if_neg (by omega)]
theorem fs_pos {p : List Int} (hp : 0 < p.length) (h : co p (p.length - 1) ≠ 0) : 0 < fs p 0 := by
  unfold fs sg; rw [if_pos hp]
  split
  · simp; omega
  · simp; omega
theorem sg_mul {p q : List Int} {b : Int} (hb : 0 < b) (h : co q (q.length - 1) = b * co p (p.length - 1)) : sg q = sg p := by
  unfold sg
  rw [h]
  have : (b * co p (p.length - 1) < 0) ↔ (co p (p.length - 1) < 0) := by
    constructor
    · intro x
      refine Decidable.byContradiction fun q => ?_
      have := Int.mul_nonneg (a := b) (b := co p (p.length - 1)) (by omega) (by omega)
      omega
    · exact Int.mul_neg_of_pos_of_neg hb
  simp only [this]
theorem fs_lin {p : List Int} {a b : Int} (hp : 0 < p.length) (hb : 0 < b) : Lin a b (fs p) (fs (conv p [a, b])) := by
  have hl : (conv p [a, b]).length = p.length + 1 := by rw [conv_len]; simp
  have hs : sg (conv p [a, b]) = sg p := by
    refine sg_mul hb ?_
    rw [hl, Nat.add_sub_cancel, co_lin p a b hp, co_over (p := p) (i := p.length) (by omega), if_pos (by omega)]; omega
  refine ⟨?_, fun k => ?_⟩
  · unfold fs
    rw [hl, hs, if_pos (by omega), if_pos hp, co_lin p a b hp, if_pos (by omega), co_over (p := p) (i := p.length + 1 - 1 - 0) (by omega), show p.length + 1 - 1 - 0 - 1 = p.length - 1 - 0 by omega]
    grind
  · unfold fs
    rw [hl, hs, co_lin p a b hp]
    by_cases h1 : k + 1 < p.length
    · rw [if_pos (by omega), if_pos h1, if_pos (by omega), if_pos (by omega), show p.length + 1 - 1 - (k + 1) = p.length - 1 - k by omega, show p.length - 1 - k - 1 = p.length - 1 - (k + 1) by omega]
      grind
    · by_cases h2 : k < p.length
      · rw [if_pos (by omega), if_neg h1, if_pos h2, if_neg (by omega), show p.length + 1 - 1 - (k + 1) = p.length - 1 - k by omega]
        grind
      · rw [if_neg (by omega), if_neg h1, if_neg h2]; omega
theorem fs_quad {p : List Int} {a b c : Int} (hp : 0 < p.length) (hc : 0 < c) : Quad a b c (fs p) (fs (conv p [a, b, c])) := by
  have hl : (conv p [a, b, c]).length = p.length + 2 := by rw [conv_len]; simp
  have hs : sg (conv p [a, b, c]) = sg p := by
    refine sg_mul hc ?_
    rw [hl, co_quad p a b c hp, co_over (p := p) (i := p.length + 2 - 1) (by omega), co_over (p := p) (i := p.length + 2 - 1 - 1) (by omega), if_pos (by omega), if_pos (by omega), show p.length + 2 - 1 - 2 = p.length - 1 by omega]; omega
  have z1 : co p (p.length + 1) = 0 := co_over (by omega)
  have z0 : co p p.length = 0 := co_over (by omega)
  refine ⟨?_, ?_, fun k => ?_⟩
  · unfold fs
    rw [hl, hs, if_pos (by omega), if_pos hp, co_quad p a b c hp, if_pos (by omega), if_pos (by omega), show p.length + 2 - 1 - 0 = p.length + 1 by omega, show p.length + 1 - 1 = p.length by omega, z0, z1, show p.length + 1 - 2 = p.length - 1 - 0 by omega]
    grind
  · unfold fs
    rw [hl, hs, if_pos (by omega), if_pos hp, co_quad p a b c hp, if_pos (by omega), show p.length + 2 - 1 - 1 = p.length by omega, z0]
    by_cases h1 : 1 < p.length
    · rw [if_pos h1, if_pos (by omega), show p.length - 2 = p.length - 1 - 1 by omega]
      simp; grind
    · rw [if_neg h1, if_neg (by omega)]
      simp; grind
  · unfold fs
    rw [hl, hs, co_quad p a b c hp]
    by_cases h2 : k < p.length
    · rw [if_pos (show k + 2 < p.length + 2 by omega), if_pos h2]
      have e : p.length + 2 - 1 - (k + 2) = p.length - 1 - k := by omega
      rw [e]
      have f1 : (if 1 ≤ p.length - 1 - k then b * co p (p.length - 1 - k - 1) else 0) = b * (if k + 1 < p.length then co p (p.length - 1 - (k + 1)) else 0) := by
        by_cases h1 : k + 1 < p.length
        · rw [if_pos h1, if_pos (show 1 ≤ p.length - 1 - k by omega), show p.length - 1 - k - 1 = p.length - 1 - (k + 1) by omega]
        · rw [if_neg h1, if_neg (show ¬ 1 ≤ p.length - 1 - k by omega)]; omega
      have f2 : (if 2 ≤ p.length - 1 - k then c * co p (p.length - 1 - k - 2) else 0) = c * (if k + 2 < p.length then co p (p.length - 1 - (k + 2)) else 0) := by
        by_cases h1 : k + 2 < p.length
        · rw [if_pos h1, if_pos (show 2 ≤ p.length - 1 - k by omega), show p.length - 1 - k - 2 = p.length - 1 - (k + 2) by omega]
        · rw [if_neg h1, if_neg (show ¬ 2 ≤ p.length - 1 - k by omega)]; omega
      rw [f1, f2]
      have g1 : (if k + 1 < p.length then sg p * co p (p.length - 1 - (k + 1)) else 0) = sg p * (if k + 1 < p.length then co p (p.length - 1 - (k + 1)) else 0) := by split <;> omega
      have g2 : (if k + 2 < p.length then sg p * co p (p.length - 1 - (k + 2)) else 0) = sg p * (if k + 2 < p.length then co p (p.length - 1 - (k + 2)) else 0) := by split <;> omega
      rw [g1, g2]
      generalize (if k + 1 < p.length then co p (p.length - 1 - (k + 1)) else 0) = x1
      generalize (if k + 2 < p.length then co p (p.length - 1 - (k + 2)) else 0) = x2
      generalize co p (p.length - 1 - k) = x0
      generalize sg p = z
      clear f1 f2 g1 g2 hs
      grind
    · rw [if_neg (show ¬ k + 2 < p.length + 2 by omega), if_neg h2, if_neg (show ¬ k + 1 < p.length by omega), if_neg (show ¬ k + 2 < p.length by omega)]; omega
end Coil

set_option linter.all false
namespace Coil
/-! ### the mathematics of content, small numbers, Routh's rows -/
def gcdL (ns : List Int) : Int := ns.foldl (fun g n => ((Nat.gcd g.natAbs n.natAbs : Nat) : Int)) 0
def maxg (ns : List Int) : Int := if gcdL ns > 1 then gcdL ns else 1
def smallL (ns : List Int) : List Int := ns.map (· / maxg ns)
def smallTo (ns : List Int) (i : Nat) : List Int := (ns.take i).map (· / maxg ns)
theorem smallTo_len (ns : List Int) (i : Nat) : (smallTo ns i).length = min i ns.length := by simp [smallTo]
theorem smallTo_succ {ns : List Int} {i : Nat} {n : Int} (h : ns[i]? = some n) : smallTo ns (i + 1) = smallTo ns i ++ [n / maxg ns] := by
  unfold smallTo
  rw [List.take_add_one, h]
  simp
theorem smallTo_all (ns : List Int) : smallTo ns ns.length = smallL ns := by simp [smallTo, smallL]
theorem maxg_pos (ns : List Int) : 0 < maxg ns := by unfold maxg; split <;> omega
theorem maxg_lt {ns : List Int} {b : Nat} (h : (gcdL ns).natAbs < 2 ^ (b + 1)) : (maxg ns).natAbs < 2 ^ (b + 1) := by
  unfold maxg
  split
  · exact h
  · have := Nat.one_lt_two_pow (n := b + 1) (by omega)
    omega
theorem gcd_fold {b : Nat} : ∀ (ns : List Int) (g : Int), g.natAbs < 2 ^ b → (∀ n ∈ ns, n.natAbs < 2 ^ b) → (ns.foldl (fun g n => ((Nat.gcd g.natAbs n.natAbs : Nat) : Int)) g).natAbs < 2 ^ b
  | [], _, h, _ => h
  | n :: ns, g, h, ha => by
    refine gcd_fold ns _ ?_ (fun m hm => ha m (List.mem_cons_of_mem _ hm))
    show (Nat.gcd g.natAbs n.natAbs) < 2 ^ b
    by_cases hn : n.natAbs = 0
    · rw [hn, Nat.gcd_zero_right]; exact h
    · exact Nat.lt_of_le_of_lt (Nat.gcd_le_right _ (by omega)) (ha n List.mem_cons_self)
theorem gcdL_lt {b : Nat} {ns : List Int} (h : ∀ n ∈ ns, n.natAbs < 2 ^ b) : (gcdL ns).natAbs < 2 ^ b :=
  gcd_fold ns 0 (Nat.pow_pos (by decide)) h
def stepRow (u l : List Int) : List Int := (List.range (u.length - 1)).map fun i => l.getD 0 0 * u.getD (i + 1) 0 - u.getD 0 0 * l.getD (i + 1) 0
def routh : Nat → List Int → List Int → Bool
  | 0, _, l => l.isEmpty
  | k + 1, u, l => if l.isEmpty then true else if l.getD 0 0 ≤ 0 then false else routh k l (smallL (stepRow u l))
end Coil
namespace Coil
theorem stepRow_len (u l : List Int) : (stepRow u l).length = u.length - 1 := by simp [stepRow]
theorem smallL_len (ns : List Int) : (smallL ns).length = ns.length := by simp [smallL]
def stepTo (u l : List Int) (i : Nat) : List Int := (List.range i).map fun i => l.getD 0 0 * u.getD (i + 1) 0 - u.getD 0 0 * l.getD (i + 1) 0
theorem stepTo_succ (u l : List Int) (i : Nat) : stepTo u l (i + 1) = stepTo u l i ++ [l.getD 0 0 * u.getD (i + 1) 0 - u.getD 0 0 * l.getD (i + 1) 0] := by
  unfold stepTo; rw [List.range_succ, List.map_append]; rfl
def Bd (b : Nat) (ns : List Int) : Prop := ∀ n ∈ ns, n.natAbs < 2 ^ b
theorem Bd.getD {b : Nat} {ns : List Int} (h : Bd b ns) (i : Nat) : (ns.getD i 0).natAbs < 2 ^ b := by
  rw [List.getD_eq_getElem?_getD]
  cases e : ns[i]? with
  | none => exact Nat.pow_pos (by decide)
  | some n => exact h n (List.mem_of_getElem? e)
theorem Bd.mono {b c : Nat} {ns : List Int} (h : Bd b ns) (hbc : b ≤ c) : Bd c ns := fun n hn => Nat.lt_of_lt_of_le (h n hn) (Nat.pow_le_pow_right (by decide) hbc)
theorem mul_bd {a b : Nat} {x y : Int} (hx : x.natAbs < 2 ^ a) (hy : y.natAbs < 2 ^ b) : (x * y).natAbs < 2 ^ (a + b) := by
  rw [Int.natAbs_mul, Nat.pow_add]
  exact Nat.mul_lt_mul'' hx hy
theorem sub_bd {a : Nat} {x y : Int} (hx : x.natAbs < 2 ^ a) (hy : y.natAbs < 2 ^ a) : (x - y).natAbs < 2 ^ (a + 1) := by
  rw [Nat.pow_succ]; omega
theorem stepRow_bd {b : Nat} {u l : List Int} (hu : Bd b u) (hl : Bd b l) : Bd (2 * b + 1) (stepRow u l) := by
  intro n hn
  simp only [stepRow, List.mem_map, List.mem_range] at hn
  obtain ⟨i, _, rfl⟩ := hn
  have h1 := mul_bd (hl.getD 0) (hu.getD (i + 1))
  have h2 := mul_bd (hu.getD 0) (hl.getD (i + 1))
  have e : b + b = 2 * b := by omega
  rw [e] at h1 h2
  exact sub_bd h1 h2
theorem smallL_bd {b : Nat} {ns : List Int} (h : Bd b ns) : Bd b (smallL ns) := by
  intro n hn
  simp only [smallL, List.mem_map] at hn
  obtain ⟨m, hm, rfl⟩ := hn
  have h1 := h m hm
  have h2 := maxg_pos ns
  generalize maxg ns = g at h2
  refine Nat.lt_of_le_of_lt ?_ h1
  have := Int.ediv_nonneg_iff_of_pos h2 (a := m)
  by_cases h0 : 0 ≤ m
  · have h3 : 0 ≤ m / g := Int.ediv_nonneg h0 (by omega)
    have h4 : m / g ≤ m := Int.ediv_le_self _ h0
    omega
  · have h3 : m ≤ m / g := by
      rw [Int.le_ediv_iff_mul_le h2]
      have := Int.mul_le_mul_of_nonpos_left (a := m) (b := g) (c := 1) (by omega) (by omega)
      omega
    have h4 : m / g < 0 := Int.ediv_neg_of_neg_of_pos (by omega) h2
    omega
end Coil
namespace Coil
def fallN (ns : List Int) : List Int := if ns.reverse.getD 0 0 < 0 then ns.reverse.map (fun z => -z) else ns.reverse
def leftB (ns : List Int) : Bool := routh ((evens (fallN ns)).length + (odds (fallN ns)).length) (evens (fallN ns)) (odds (fallN ns))
theorem fallN_len (ns : List Int) : (fallN ns).length = ns.length := by unfold fallN; split <;> simp
theorem evens_odds_len {α : Type} (xs : List α) : (evens xs).length + (odds xs).length = xs.length := by
  unfold odds
  rw [evens_len, evens_len, List.length_tail]
  omega
theorem fallN_bd {b : Nat} {ns : List Int} (h : Bd b ns) : Bd b (fallN ns) := by
  unfold fallN
  split
  · intro n hn
    simp only [List.mem_map, List.mem_reverse] at hn
    obtain ⟨m, hm, rfl⟩ := hn
    rw [Int.natAbs_neg]
    exact h m hm
  · intro n hn
    exact h n (List.mem_reverse.mp hn)
theorem evens_bd {b : Nat} {ns : List Int} (h : Bd b ns) : Bd b (evens ns) := fun n hn => h n (evens_mem hn)
theorem odds_bd {b : Nat} {ns : List Int} (h : Bd b ns) : Bd b (odds ns) := fun n hn => h n (List.mem_of_mem_tail (evens_mem hn))
end Coil
namespace Coil
theorem gcd_dvd : ∀ (ns : List Int) (g : Int), let r := ns.foldl (fun g n => ((Nat.gcd g.natAbs n.natAbs : Nat) : Int)) g; r ∣ g ∧ ∀ n ∈ ns, r ∣ n
  | [], g => ⟨Int.dvd_refl _, fun _ h => nomatch h⟩
  | n :: ns, g => by
    obtain ⟨h1, h2⟩ := gcd_dvd ns ((Nat.gcd g.natAbs n.natAbs : Nat) : Int)
    have d1 : ((Nat.gcd g.natAbs n.natAbs : Nat) : Int) ∣ g := Int.ofNat_dvd_left.mpr (Nat.gcd_dvd_left _ _)
    have d2 : ((Nat.gcd g.natAbs n.natAbs : Nat) : Int) ∣ n := Int.ofNat_dvd_left.mpr (Nat.gcd_dvd_right _ _)
    refine ⟨Int.dvd_trans h1 d1, fun m hm => ?_⟩
    rcases List.mem_cons.mp hm with rfl | hm
    · exact Int.dvd_trans h1 d2
    · exact h2 m hm
theorem maxg_dvd {ns : List Int} {n : Int} (h : n ∈ ns) : maxg ns ∣ n := by
  unfold maxg
  split
  · exact (gcd_dvd ns 0).2 n h
  · exact Int.one_dvd n
theorem co_small (ns : List Int) (i : Nat) : maxg ns * co (smallL ns) i = co ns i := by
  by_cases h : i < ns.length
  · have e : co (smallL ns) i = co ns i / maxg ns := by
      unfold co smallL
      rw [List.getD_eq_getElem?_getD, List.getElem?_map, List.getElem?_eq_getElem h, List.getD_eq_getElem?_getD, List.getElem?_eq_getElem h]; rfl
    rw [e]
    refine Int.mul_ediv_cancel' (maxg_dvd ?_)
    unfold co
    rw [List.getD_eq_getElem?_getD, List.getElem?_eq_getElem h]
    exact List.getElem_mem h
  · rw [co_over (by rw [smallL_len]; omega), co_over (by omega)]; omega
theorem co_stepRow {u l : List Int} (h : l.length ≤ u.length) (i : Nat) : co (stepRow u l) i = stp (co u) (co l) i := by
  by_cases hi : i < u.length - 1
  · unfold co stepRow
    rw [List.getD_eq_getElem?_getD, List.getElem?_map, List.getElem?_range hi]; rfl
  · rw [co_over (by rw [stepRow_len]; omega)]
    unfold stp
    rw [co_over (p := u) (i := i + 1) (by omega), co_over (p := l) (i := i + 1) (by omega)]; omega
theorem routh_RS : ∀ (m : Nat) (u l : List Int), u.length + l.length = m + 1 → l.length ≤ u.length → u.length ≤ l.length + 1 → routh (m + 1) u l = RS m (co u) (co l)
  | 0, u, l, hm, h1, h2 => by
    have hl : l = [] := List.length_eq_zero_iff.mp (by omega)
    subst hl
    rfl
  | m + 1, u, l, hm, h1, h2 => by
    have hne : l.isEmpty = false := by
      cases l with
      | nil => simp at *; omega
      | cons a t => rfl
    have el : (smallL (stepRow u l)).length = u.length - 1 := by rw [smallL_len, stepRow_len]
    have ih := routh_RS m l (smallL (stepRow u l)) (by omega) (by omega) (by omega)
    have sc : RS m (co l) (stp (co u) (co l)) = RS m (co l) (co (smallL (stepRow u l))) :=
      RS_scale m (co l) (co (smallL (stepRow u l))) (co l) (stp (co u) (co l)) 1 (maxg (stepRow u l)) (by decide) (maxg_pos _) (fun i => by omega) (fun i => by rw [co_small, co_stepRow h1])
    rw [routh, hne]
    simp only [RS, sc, ← ih]
    rfl
theorem co_evens : ∀ (f : List Int) (i : Nat), co (evens f) i = co f (2 * i)
  | [], i => by rw [co_over (by simp [evens]), co_over (by simp)]
  | [a], i => by
    cases i with
    | zero => rfl
    | succ i => rw [co_over (by simp [evens]), co_over (by simp; omega)]
  | a :: b :: t, i => by
    cases i with
    | zero => rfl
    | succ i =>
      have ih := co_evens t i
      simp only [evens, co] at *
      rw [show 2 * (i + 1) = 2 * i + 1 + 1 by omega, List.getD_cons_succ, List.getD_cons_succ, List.getD_cons_succ]
      exact ih
theorem co_odds (f : List Int) (i : Nat) : co (odds f) i = co f (2 * i + 1) := by
  unfold odds
  rw [co_evens]
  cases f with
  | nil => rw [List.tail_nil, co_over (by simp), co_over (by simp)]
  | cons a t => simp [co]
theorem co_reverse (ns : List Int) (k : Nat) : co ns.reverse k = if k < ns.length then co ns (ns.length - 1 - k) else 0 := by
  by_cases h : k < ns.length
  · rw [if_pos h]
    unfold co
    rw [List.getD_eq_getElem?_getD, List.getElem?_reverse h, List.getD_eq_getElem?_getD]
  · rw [if_neg h, co_over (by rw [List.length_reverse]; omega)]
theorem co_neg (ns : List Int) (k : Nat) : co (ns.map fun z => -z) k = -co ns k := by
  unfold co
  rw [List.getD_eq_getElem?_getD, List.getElem?_map, List.getD_eq_getElem?_getD]
  cases ns[k]? <;> rfl
theorem co_fallN {ns : List Int} (h : 0 < ns.length) (k : Nat) : co (fallN ns) k = fs ns k := by
  have e0 : ns.reverse.getD 0 0 = co ns (ns.length - 1) := by
    have := co_reverse ns 0
    rw [if_pos h] at this
    exact this
  unfold fallN fs sg
  rw [e0]
  by_cases hn : co ns (ns.length - 1) < 0
  · rw [if_pos hn, if_pos hn, co_neg, co_reverse]
    split <;> omega
  · rw [if_neg hn, if_neg hn, co_reverse]
    split <;> omega
/-- what is_left answers -/
theorem leftB_RF {ns : List Int} (h : 0 < ns.length) : leftB ns = RF (ns.length - 1) (fs ns) := by
  unfold leftB RF
  have el := evens_odds_len (fallN ns)
  rw [fallN_len] at el
  obtain ⟨m, hm⟩ : ∃ m, ns.length = m + 1 := ⟨ns.length - 1, by omega⟩
  have h1 : (odds (fallN ns)).length ≤ (evens (fallN ns)).length ∧ (evens (fallN ns)).length ≤ (odds (fallN ns)).length + 1 := by
    unfold odds
    rw [evens_len, evens_len, List.length_tail]
    omega
  rw [el, hm, routh_RS m _ _ (by omega) h1.1 h1.2, Nat.add_sub_cancel]
  congr 1
  · funext i; rw [co_evens, co_fallN h]; rfl
  · funext i; rw [co_odds, co_fallN h]; rfl
/-- what the minors tell -/
def minB (ns : List Int) : Bool := decide (∀ j, j < ns.length - 1 → 0 < Dl (Hz (up (fs ns)) (lo (fs ns))) (j + 1))
theorem minB_left {ns : List Int} (h : 0 < ns.length) (h0 : co ns (ns.length - 1) ≠ 0) : minB ns = leftB ns := by
  rw [leftB_RF h]
  unfold minB RF
  rw [← Piv_all, Hz_RS _ _ _ (show 0 < up (fs ns) 0 from fs_pos h h0)]
end Coil

set_option linter.all false
namespace Coil
/-- how many are left after i turns of the trimming loop -/
def trimTo (ns : List Int) : Nat → Nat
  | 0 => ns.length
  | i + 1 => if trimTo ns i = 0 then 0 else if ns.getD (trimTo ns i - 1) 0 = 0 then trimTo ns i - 1 else trimTo ns i
def trimL (ns : List Int) : List Int := ns.take (trimTo ns ns.length)
theorem trimTo_le (ns : List Int) : ∀ i, trimTo ns i ≤ ns.length
  | 0 => Nat.le_refl _
  | i + 1 => by
    have := trimTo_le ns i
    unfold trimTo
    split
    · omega
    · split <;> omega
theorem trimTo_zero {ns : List Int} {i : Nat} (h0 : 0 < trimTo ns i) (hz : ns.getD (trimTo ns i - 1) 0 = 0) : trimTo ns i - 1 = trimTo ns (i + 1) := by
  rw [trimTo, if_neg (by omega), if_pos hz]
theorem trimTo_same {ns : List Int} {i : Nat} (h : trimTo ns i = 0 ∨ ¬ ns.getD (trimTo ns i - 1) 0 = 0) : trimTo ns (i + 1) = trimTo ns i := by
  rw [trimTo]
  rcases h with h | h
  · rw [if_pos h, h]
  · by_cases h0 : trimTo ns i = 0
    · rw [if_pos h0, h0]
    · rw [if_neg h0, if_neg h]
theorem trimTo_end (ns : List Int) : ∀ i, trimTo ns i ≤ ns.length - i ∨ (0 < trimTo ns i ∧ ¬ ns.getD (trimTo ns i - 1) 0 = 0)
  | 0 => .inl (Nat.le_refl _)
  | i + 1 => by
    rcases trimTo_end ns i with h | h
    · by_cases h0 : trimTo ns i = 0
      · left; rw [trimTo_same (.inl h0), h0]; omega
      · by_cases hz : ns.getD (trimTo ns i - 1) 0 = 0
        · left; rw [← trimTo_zero (by omega) hz]; omega
        · right; rw [trimTo_same (.inr hz)]; exact ⟨by omega, hz⟩
    · right; rw [trimTo_same (.inr h.2)]; exact h
theorem co_take {ns : List Int} {m k : Nat} (h : k < m) : co (ns.take m) k = co ns k := by
  unfold co
  rw [List.getD_eq_getElem?_getD, List.getElem?_take_of_lt h, List.getD_eq_getElem?_getD]
/-- what trimming gives: its last coefficient is not 0 -/
theorem trimL_last (ns : List Int) (h : 0 < (trimL ns).length) : co (trimL ns) ((trimL ns).length - 1) ≠ 0 := by
  have hl : (trimL ns).length = trimTo ns ns.length := by
    unfold trimL; rw [List.length_take, Nat.min_eq_left (trimTo_le ns _)]
  rw [hl] at h ⊢
  unfold trimL
  rw [co_take (by omega)]
  rcases trimTo_end ns ns.length with q | q
  · omega
  · exact q.2
theorem trimTo_id {ns : List Int} (h : co ns (ns.length - 1) ≠ 0) : ∀ i, trimTo ns i = ns.length
  | 0 => rfl
  | i + 1 => by
    have ih := trimTo_id h i
    rw [trimTo_same (.inr (by rw [ih]; exact h)), ih]
theorem trimL_id {ns : List Int} (h : co ns (ns.length - 1) ≠ 0) : trimL ns = ns := by
  unfold trimL
  rw [trimTo_id h, List.take_length]
theorem trimL_mem {ns : List Int} {n : Int} (h : n ∈ trimL ns) : n ∈ ns := List.mem_of_mem_take h
end Coil

set_option linter.all false
namespace Coil
/-- one coefficient in the product's loop: i rows whole, of the next one j places -/
def cvp (p q : List Int) (i j k : Nat) : Int := cv p q i k + (if i ≤ k ∧ k < i + j then co p i * co q (k - i) else 0)
def cvL (p q : List Int) (i j : Nat) : List Int := (List.range (p.length + q.length - 1)).map (cvp p q i j)
theorem cvL_len (p q : List Int) (i j : Nat) : (cvL p q i j).length = p.length + q.length - 1 := by simp [cvL]
theorem cvL_zero (p q : List Int) : cvL p q 0 0 = List.replicate (p.length + q.length - 1) 0 := by
  unfold cvL
  rw [List.eq_replicate_iff]
  refine ⟨by simp, fun b hb => ?_⟩
  simp only [List.mem_map] at hb
  obtain ⟨k, _, rfl⟩ := hb
  unfold cvp cv
  simp only [sumN]
  rw [if_neg (by omega)]; rfl
theorem cvL_row (p q : List Int) (i : Nat) : cvL p q i q.length = cvL p q (i + 1) 0 := by
  unfold cvL
  apply List.map_congr_left
  intro k _
  unfold cvp cv
  simp only [sumN]
  rw [if_neg (by omega : ¬ (i + 1 ≤ k ∧ k < i + 1 + 0))]
  unfold sh
  by_cases h : i ≤ k
  · rw [if_pos h]
    by_cases h2 : k < i + q.length
    · rw [if_pos ⟨h, h2⟩]; omega
    · rw [if_neg (by omega), co_over (p := q) (i := k - i) (by omega)]; omega
  · rw [if_neg h, if_neg (by omega)]; omega
theorem cvL_get {p q : List Int} {i j k : Nat} (h : k < p.length + q.length - 1) : (cvL p q i j).getD k 0 = cvp p q i j k := by
  unfold cvL
  rw [List.getD_eq_getElem?_getD, List.getElem?_map, List.getElem?_range h]; rfl
theorem cvL_set {p q : List Int} {i j : Nat} (hi : i < p.length) (hj : j < q.length) : (cvL p q i j).set (i + j) ((cvL p q i j).getD (i + j) 0 + co p i * co q j) = cvL p q i (j + 1) := by
  have hk : i + j < p.length + q.length - 1 := by omega
  apply List.ext_getElem
  · simp [cvL]
  · intro k h1 h2
    have hk2 : k < p.length + q.length - 1 := by rw [cvL_len] at h2; exact h2
    rw [List.getElem_set]
    have g : ∀ (a b : Nat) (h : k < (cvL p q a b).length), (cvL p q a b)[k] = cvp p q a b k := by
      intro a b h; simp [cvL]
    rw [g, g, cvL_get hk]
    unfold cvp
    by_cases he : i + j = k
    · subst he
      rw [if_pos rfl, if_neg (by omega), if_pos (by omega), show i + j - i = j by omega]; omega
    · rw [if_neg he]
      have : (i ≤ k ∧ k < i + (j + 1)) ↔ (i ≤ k ∧ k < i + j) := by omega
      simp only [this]
theorem cvL_all (p q : List Int) : cvL p q p.length 0 = conv p q := by
  unfold cvL conv
  apply List.map_congr_left
  intro k _
  unfold cvp
  rw [if_neg (by omega)]; omega
/-- the product as the law makes it -/
def mulL (p q : List Int) : List Int := if p = [] ∨ q = [] then [] else trimL (conv p q)
theorem sumN_bd {B : Nat} {f : Nat → Int} : ∀ n, (∀ i, i < n → (f i).natAbs ≤ B) → (sumN n f).natAbs ≤ n * B
  | 0, _ => by simp [sumN]
  | n + 1, h => by
    have ih := sumN_bd n (fun i hi => h i (by omega))
    have h1 := h n (by omega)
    simp only [sumN]
    rw [Nat.succ_mul]
    omega
end Coil

set_option linter.all false
namespace Coil
theorem BI_all {M : Nat → Row} : ∀ k, (∀ j, j < k → 0 < Dl M (j + 1)) → BI M k ∧ 0 < Dl M k
  | 0, _ => ⟨BI_zero M, by rw [Dl_zero]; decide⟩
  | k + 1, h => by
    obtain ⟨h1, h2⟩ := BI_all (M := M) k (fun j hj => h j (by omega))
    have h3 := h k (by omega)
    exact ⟨BI_step h1 (by omega) (by omega), h3⟩
theorem lap_bd {r : Row} {B G : Nat} (hr : ∀ c, (r c).natAbs ≤ B) : ∀ (g : List Nat → Int) (cs : List Nat), (∀ t : List Nat, t.length < cs.length → (g t).natAbs ≤ G) → (lap r g cs).natAbs ≤ cs.length * (B * G)
  | _, [], _ => by simp [lap]
  | g, c :: cs, hg => by
    have ih := lap_bd hr (G := G) (fun t => g (c :: t)) cs (fun t ht => hg (c :: t) (by simp; omega))
    have h1 : (r c * g cs).natAbs ≤ B * G := by
      rw [Int.natAbs_mul]
      exact Nat.mul_le_mul (hr c) (hg cs (by simp))
    simp only [lap, List.length_cons]
    rw [Nat.succ_mul]
    omega
theorem DF_bd {M : Nat → Row} {B : Nat} (hB : 1 ≤ B) (hM : ∀ i j, (M i j).natAbs ≤ B) : ∀ (k : Nat) (cs : List Nat), cs.length ≤ 16 → (DF M k cs).natAbs ≤ (16 * B) ^ k
  | 0, cs, _ => by simp only [DF]; split <;> simp
  | k + 1, cs, h => by
    have h1 := lap_bd (hM k) (G := (16 * B) ^ k) (DF M k) cs (fun t ht => DF_bd hB hM k t (by omega))
    refine Nat.le_trans h1 ?_
    rw [Nat.pow_succ]
    have : cs.length * (B * (16 * B) ^ k) ≤ 16 * (B * (16 * B) ^ k) := Nat.mul_le_mul_right _ h
    calc _ ≤ _ := this
      _ = _ := by rw [Nat.mul_comm ((16 * B) ^ k), Nat.mul_assoc]
theorem cl_len : ∀ k, (cl k).length = k
  | 0 => rfl
  | k + 1 => by simp [cl, cl_len k]
theorem Bm_bd {M : Nat → Row} {B : Nat} (hB : 1 ≤ B) (hM : ∀ i j, (M i j).natAbs ≤ B) (k i j : Nat) (hk : k ≤ 12) : (Bm M k i j).natAbs ≤ (16 * B) ^ (k + 1) := by
  have h1 := lap_bd (hM i) (G := (16 * B) ^ k) (DF M k) (j :: cl k) (fun t ht => DF_bd hB hM k t (by simp [cl_len] at ht; omega))
  refine Nat.le_trans h1 ?_
  rw [Nat.pow_succ, List.length_cons, cl_len]
  have : (k + 1) * (B * (16 * B) ^ k) ≤ 16 * (B * (16 * B) ^ k) := Nat.mul_le_mul_right _ (by omega)
  calc _ ≤ _ := this
    _ = _ := by rw [Nat.mul_comm ((16 * B) ^ k), Nat.mul_assoc]
theorem Bm_small {M : Nat → Row} (hM : ∀ i j, (M i j).natAbs ≤ 2 ^ 15) (k i j : Nat) (hk : k ≤ 12) : (Bm M k i j).natAbs < 2 ^ 250 := by
  have h := Bm_bd (by decide) hM k i j hk
  have e : (16 * 2 ^ 15) ^ (k + 1) = 2 ^ (19 * (k + 1)) := by
    rw [show 16 * 2 ^ 15 = 2 ^ 19 by decide, ← Nat.pow_mul]
  rw [e] at h
  exact Nat.lt_of_le_of_lt h (Nat.pow_lt_pow_right (by decide) (by omega))
theorem Hz_bd {u l : Sq} {B : Nat} (hu : ∀ i, (u i).natAbs ≤ B) (hl : ∀ i, (l i).natAbs ≤ B) (i j : Nat) : (Hz u l i j).natAbs ≤ B := by
  unfold Hz
  split
  · simp
  · split
    · exact hl _
    · exact hu _
theorem fs_bd {ns : List Int} {B : Nat} (h : ∀ i, (co ns i).natAbs ≤ B) (k : Nat) : (fs ns k).natAbs ≤ B := by
  unfold fs sg
  split
  · have := h (ns.length - 1 - k)
    split
    · omega
    · omega
  · simp
/-- the entry of the law's table -/
theorem hz_entry {f : Sq} {n i j : Nat} (sf : Sup n f) (hj : j < n) : Hz (up f) (lo f) i j = if (i : Int) ≤ 2 * (j : Int) + 1 ∧ 2 * (j : Int) + 1 - i ≤ n then f (2 * j + 1 - i) else 0 := by
  unfold Hz up lo
  by_cases h : j < i / 2
  · rw [if_pos h, if_neg (by omega)]
  · rw [if_neg h]
    by_cases he : i % 2 = 0
    · rw [if_pos he]
      have e : 2 * (j - i / 2) + 1 = 2 * j + 1 - i := by omega
      rw [e]
      by_cases hn : 2 * (j : Int) + 1 - i ≤ n
      · rw [if_pos ⟨by omega, hn⟩]
      · rw [if_neg (by omega), sf _ (by omega)]
    · rw [if_neg he]
      have e : 2 * (j - i / 2) = 2 * j + 1 - i := by omega
      rw [e]
      by_cases hn : 2 * (j : Int) + 1 - i ≤ n
      · rw [if_pos ⟨by omega, hn⟩]
      · rw [if_neg (by omega), sf _ (by omega)]
theorem Bm_div {M : Nat → Row} {k : Nat} (h : BI M k) (h0 : 0 < Dl M k) (hp : 0 < Dl M (k + 1)) (i j : Nat) :
    (Bm M k i j * Bm M k k k - Bm M k i k * Bm M k k j) / Dl M k = Bm M (k + 1) i j := by
  have e := Bm_step h (by omega) i j
  have e2 : Bm M k i j * Bm M k k k - Bm M k i k * Bm M k k j = Dl M k * Bm M (k + 1) i j := by rw [e]; grind
  rw [e2]
  exact Int.mul_ediv_cancel_left _ (by omega)
end Coil

set_option linter.all false
namespace Coil
def BdA (b : Nat) (ns : List Int) : Prop := ∀ n ∈ ns, n.natAbs ≤ b
theorem BdA.co {b : Nat} {ns : List Int} (h : BdA b ns) (i : Nat) : (Coil.co ns i).natAbs ≤ b := by
  unfold Coil.co
  rw [List.getD_eq_getElem?_getD]
  cases e : ns[i]? with
  | none => exact Nat.zero_le _
  | some n => exact h n (List.mem_of_getElem? e)
theorem BdA.of_co {b : Nat} {ns : List Int} (h : ∀ i, (Coil.co ns i).natAbs ≤ b) : BdA b ns := fun n hn => by
  obtain ⟨i, hi, rfl⟩ := List.getElem_of_mem hn
  have := h i
  unfold Coil.co at this
  rw [List.getD_eq_getElem?_getD, List.getElem?_eq_getElem hi] at this
  exact this
theorem BdA.mono {b c : Nat} {ns : List Int} (h : BdA b ns) (hbc : b ≤ c) : BdA c ns := fun n hn => Nat.le_trans (h n hn) hbc
/-- the law's polynomial behind i factors; d: all of them are left -/
structure Pst (i : Nat) (ns : List Int) (d : Bool) : Prop where
  pos : 0 < ns.length
  len : ns.length ≤ 1 + 2 * i
  last : co ns (ns.length - 1) ≠ 0
  bd : BdA (2 * 11 ^ i) ns
  good : d = true → RF (ns.length - 1) (fs ns) = true
  bad : d = false → Bad (ns.length - 1) (fs ns)
theorem pst_start {c : Int} (h : c = 1 ∨ c = 2 ∨ c = -1) : Pst 0 [c] true := by
  refine ⟨by simp, by simp, ?_, ?_, fun _ => rfl, fun z => Bool.noConfusion z⟩
  · rcases h with h | h | h <;> subst h <;> decide
  · intro n hn
    have := List.mem_singleton.mp hn
    subst this
    rcases h with h | h | h <;> subst h <;> decide
theorem mul_lin {ns : List Int} {a b : Int} (hp : 0 < ns.length) (hl : co ns (ns.length - 1) ≠ 0) (hb : b ≠ 0) : mulL ns [a, b] = conv ns [a, b] ∧ co (conv ns [a, b]) ((conv ns [a, b]).length - 1) ≠ 0 := by
  have e : (conv ns [a, b]).length = ns.length + 1 := by rw [conv_len]; simp
  have h : co (conv ns [a, b]) ((conv ns [a, b]).length - 1) ≠ 0 := by
    rw [e, Nat.add_sub_cancel, co_lin ns a b hp, co_over (p := ns) (i := ns.length) (by omega), if_pos (by omega)]
    have := Int.mul_ne_zero hb hl
    omega
  refine ⟨?_, h⟩
  unfold mulL
  rw [if_neg, trimL_id h]
  rintro (z | z)
  · rw [z] at hp; exact absurd hp (by decide)
  · cases z
theorem mul_quad {ns : List Int} {a b c : Int} (hp : 0 < ns.length) (hl : co ns (ns.length - 1) ≠ 0) (hc : c ≠ 0) : mulL ns [a, b, c] = conv ns [a, b, c] ∧ co (conv ns [a, b, c]) ((conv ns [a, b, c]).length - 1) ≠ 0 := by
  have e : (conv ns [a, b, c]).length = ns.length + 2 := by rw [conv_len]; simp
  have h : co (conv ns [a, b, c]) ((conv ns [a, b, c]).length - 1) ≠ 0 := by
    rw [e, co_quad ns a b c hp, co_over (p := ns) (i := ns.length + 2 - 1) (by omega), co_over (p := ns) (i := ns.length + 2 - 1 - 1) (by omega), if_pos (by omega), if_pos (by omega), show ns.length + 2 - 1 - 2 = ns.length - 1 by omega]
    have := Int.mul_ne_zero hc hl
    omega
  refine ⟨?_, h⟩
  unfold mulL
  rw [if_neg, trimL_id h]
  rintro (z | z)
  · rw [z] at hp; exact absurd hp (by decide)
  · cases z
theorem mul_abs {x y : Int} {a b : Nat} (hx : x.natAbs ≤ a) (hy : y.natAbs ≤ b) : (x * y).natAbs ≤ a * b := by
  rw [Int.natAbs_mul]; exact Nat.mul_le_mul hx hy
theorem bd_lin {ns : List Int} {a b : Int} {B : Nat} (hp : 0 < ns.length) (h : BdA B ns) (hab : a.natAbs + b.natAbs ≤ 11) : BdA (11 * B) (conv ns [a, b]) := by
  refine BdA.of_co fun i => ?_
  rw [co_lin ns a b hp]
  have h1 := mul_abs (Nat.le_refl a.natAbs) (h.co i)
  have h2 := mul_abs (Nat.le_refl b.natAbs) (h.co (i - 1))
  have h3 : a.natAbs * B + b.natAbs * B ≤ 11 * B := by rw [← Nat.add_mul]; exact Nat.mul_le_mul_right _ hab
  split <;> omega
theorem bd_quad {ns : List Int} {a b c : Int} {B : Nat} (hp : 0 < ns.length) (h : BdA B ns) (hab : a.natAbs + b.natAbs + c.natAbs ≤ 11) : BdA (11 * B) (conv ns [a, b, c]) := by
  refine BdA.of_co fun i => ?_
  rw [co_quad ns a b c hp]
  have h1 := mul_abs (Nat.le_refl a.natAbs) (h.co i)
  have h2 := mul_abs (Nat.le_refl b.natAbs) (h.co (i - 1))
  have h4 := mul_abs (Nat.le_refl c.natAbs) (h.co (i - 2))
  have h3 : a.natAbs * B + b.natAbs * B + c.natAbs * B ≤ 11 * B := by rw [← Nat.add_mul, ← Nat.add_mul]; exact Nat.mul_le_mul_right _ hab
  split <;> split <;> omega
theorem pow11 (i : Nat) : 11 * (2 * 11 ^ i) = 2 * 11 ^ (i + 1) := by rw [Nat.pow_succ]; omega
theorem Pst.lin {i : Nat} {ns : List Int} {d : Bool} {a b : Int} (h : Pst i ns d) (ha : 0 < a) (hb : 0 < b) (hab : a.natAbs + b.natAbs ≤ 11) : Pst (i + 1) (mulL ns [a, b]) d := by
  obtain ⟨e1, e2⟩ := mul_lin (a := a) h.pos h.last (by omega : b ≠ 0)
  have el : (conv ns [a, b]).length = ns.length + 1 := by rw [conv_len]; simp
  have hl := fs_lin (a := a) h.pos hb
  have hs := fs_sup ns h.pos
  rw [e1]
  have hpos := h.pos
  have hle := h.len
  have ei : ns.length + 1 - 1 = ns.length - 1 + 1 := by omega
  refine ⟨by omega, by omega, e2, by rw [← pow11]; exact bd_lin h.pos h.bd hab, fun z => ?_, fun z => ?_⟩
  · rw [el, ei]; exact hl.RF ha hb (fs_pos h.pos h.last) hs (h.good z)
  · rw [el, ei]; exact hl.bad hs (h.bad z)
theorem Pst.quad {i : Nat} {ns : List Int} {d : Bool} {a b c : Int} (h : Pst i ns d) (ha : 0 < a) (hb : 0 < b) (hc : 0 < c) (hab : a.natAbs + b.natAbs + c.natAbs ≤ 11) : Pst (i + 1) (mulL ns [a, b, c]) d := by
  obtain ⟨e1, e2⟩ := mul_quad (a := a) (b := b) h.pos h.last (by omega : c ≠ 0)
  have el : (conv ns [a, b, c]).length = ns.length + 2 := by rw [conv_len]; simp
  have hl := fs_quad (a := a) (b := b) h.pos hc
  have hs := fs_sup ns h.pos
  rw [e1]
  have hpos := h.pos
  have hle := h.len
  have ei : ns.length + 2 - 1 = ns.length - 1 + 2 := by omega
  refine ⟨by omega, by omega, e2, by rw [← pow11]; exact bd_quad h.pos h.bd hab, fun z => ?_, fun z => ?_⟩
  · rw [el, ei]; exact hl.RF ha hb hc (fs_pos h.pos h.last) hs (h.good z)
  · rw [el, ei]; exact hl.bad hs (h.bad z)
theorem Pst.rlin {i : Nat} {ns : List Int} {d : Bool} {x : Int} (h : Pst i ns d) (hx : 0 ≤ x) (hx2 : x ≤ 10) : Pst (i + 1) (mulL ns [-x, 1]) false := by
  obtain ⟨e1, e2⟩ := mul_lin (a := -x) h.pos h.last (by omega : (1 : Int) ≠ 0)
  have el : (conv ns [-x, 1]).length = ns.length + 1 := by rw [conv_len]; simp
  have hl := fs_lin (a := -x) h.pos (by decide : (0 : Int) < 1)
  have hs := fs_sup ns h.pos
  rw [e1]
  have hpos := h.pos
  have hle := h.len
  have ei : ns.length + 1 - 1 = ns.length - 1 + 1 := by omega
  refine ⟨by omega, by omega, e2, by rw [← pow11]; exact bd_lin h.pos h.bd (by omega), fun z => Bool.noConfusion z, fun _ => ?_⟩
  rw [el, ei]; exact hl.bad_new hx hs
theorem Pst.rquad {i : Nat} {ns : List Int} {d : Bool} {a b : Int} (h : Pst i ns d) (hab : a.natAbs + b.natAbs ≤ 10) (hbad : (∃ x : Int, 0 ≤ x ∧ x * x + b * x + a = 0) ∨ (b ≤ 0 ∧ b * b < 4 * a)) : Pst (i + 1) (mulL ns [a, b, 1]) false := by
  obtain ⟨e1, e2⟩ := mul_quad (a := a) (b := b) h.pos h.last (by omega : (1 : Int) ≠ 0)
  have el : (conv ns [a, b, 1]).length = ns.length + 2 := by rw [conv_len]; simp
  have hl := fs_quad (a := a) (b := b) h.pos (by decide : (0 : Int) < 1)
  have hs := fs_sup ns h.pos
  rw [e1]
  have hpos := h.pos
  have hle := h.len
  have ei : ns.length + 2 - 1 = ns.length - 1 + 2 := by omega
  refine ⟨by omega, by omega, e2, by rw [← pow11]; exact bd_quad h.pos h.bd (by omega), fun z => Bool.noConfusion z, fun _ => ?_⟩
  rw [el, ei]
  rcases hbad with ⟨x, hx, hz⟩ | ⟨h1, h2⟩
  · exact hl.bad_real x hx hz hs
  · have hl' : Quad a (-(-b)) 1 (fs ns) (fs (conv ns [a, b, 1])) := by rw [Int.neg_neg]; exact hl
    refine hl'.bad_new (by omega) ?_ hs
    have : -b * -b = b * b := by grind
    rw [this]; exact h2
theorem Pst.end {i : Nat} {ns : List Int} {d : Bool} (h : Pst i ns d) : leftB ns = d ∧ minB ns = d := by
  have e : leftB ns = d := by
    rw [leftB_RF h.pos]
    cases hd : d with
    | true => exact h.good hd
    | false =>
      cases hr : RF (ns.length - 1) (fs ns) with
      | false => rfl
      | true => exact absurd (h.bad hd) (RF_good (fs_pos h.pos h.last) (fs_sup ns h.pos) hr)
  exact ⟨e, by rw [minB_left h.pos h.last, e]⟩
end Coil

set_option Elab.async false
set_option linter.all false
set_option maxRecDepth 100000
set_option maxHeartbeats 4000000
namespace Coil
open PySem L2 Evl PySem.Spec PyProof.Rows

/-! ### a def that stands, with its promise -/
structure Def (P : Program) (w : World) (K : PySem.W.Frag) (mg : Str → Option Value) (base : Heap) (x : Str) (k : Nat) (ps : List Str) (sp : Sp) : Prop where
  ex : ∃ (f : Addr) (fd : FuncData), FnOk P w K mg base CX0 k f fd ps sp ∧ mg x = some (.ref f) ∧ PySem.W.keepIn K (.ref f) = true ∧ Binds K fd ps []
section
variable {X : Cx} {x : Str} {k : Nat} {ps : List Str} {sp : Sp} {p pos : Pos} {e : Expr} {es : List Expr} {t : TA}
theorem pe_callD (D : Def X.prog X.w X.K X.mg X.base x k ps sp) (hr : Room k X.A) (ha : PA X (e :: es) t) (hg : Gl X x := by rfl)
    (hdb : (x == ("__debug__" : Str)) = false := by decide) (he : starEach (e :: es) X.env = (false, eval e X.env) :: starEach es X.env := by rfl) (hpl : (backTo pos (starEach es X.env)).any (·.1) = false := by rfl) :
    PE X (.Call (.Name x p) (e :: es) [] pos) (tCall sp [] E0 t) := by
  obtain ⟨f, fd, F, hm, hk, hb⟩ := D.ex
  exact pe_call F hr hg hm hk hb .nil pass0 ha hdb he hpl
end

/-! ### slices with a step -/
def stepV (xs : List V) (lo hi : Option Int) (st : Int) : List V :=
  match sliceBounds lo hi (some st) xs.length with
  | (a, b, c) => (sliceRange a b c).filterMap (xs[·]?)
theorem vals_pick {xs : List V} {us : List Value} (r : Vals xs us) : ∀ ks : List Nat, Vals (ks.filterMap (xs[·]?)) (ks.filterMap (us[·]?))
  | [] => .nil
  | k :: ks => by
    cases e : xs[k]? with
    | none =>
      rw [List.filterMap_cons_none e, List.filterMap_cons_none (r.none_of e)]
      exact vals_pick r ks
    | some v =>
      obtain ⟨u, h1, h2⟩ := r.get e
      rw [List.filterMap_cons_some e, List.filterMap_cons_some h1]
      exact .cons h2 (vals_pick r ks)
section
variable {X : Cx}
def tStepL (K : PySem.W.Frag) (te : TE) (tl th : TO) (st : Int) : TE := fun σ H Q => te σ H fun x H1 => tl σ H1 fun lo H2 => th σ H2 fun hi H3 =>
  ∃ a xs, x = .ref a ∧ SqL K H3 a xs ∧ (stepV xs lo hi st).length ≤ xs.length ∧ ∀ p, H3 p = none → Q (.ref p) (upd H3 p (.lst (stepV xs lo hi st)))
theorem pe_stepL {e : Expr} {te : TE} {lo hi : Option Expr} {tl th : TO} {n : Int} {k : Nat} {p1 p3 pos : Pos} (he : PE X e te) (hl : PO X lo tl) (hu : PO X hi th) (h0 : n ≠ 0) :
    PE X (.Subscript e (.Slice lo hi (some (.Constant (.int n) k p1)) p3) pos) (tStepL X.K te tl th n) := by
  refine ⟨fun pins s σ H Q I h => ?_⟩
  refine Subscript_ (thn (he.run pins s σ H _ I h) fun v s1 ⟨x, H1, I1, r1, q1⟩ => ?_)
  have hst : PO X (some (.Constant (.int n) k p1)) (tPart (tC (.int n))) := po_some pe_int
  refine wpAny_Slice (thn (hl.run pins s1 σ H1 _ I1 q1) fun vl s2 ⟨l, H2, I2, pl, q2⟩ => thn (hu.run pins s2 σ H2 _ I2 q2) fun vu s3 ⟨u, H3, I3, pu, q3⟩ => ?_)
  refine thn (hst.run pins s3 σ H3 (fun o H4 => o = some n ∧ H4 = H3) I3 ⟨n, rfl, rfl, rfl⟩) fun vs s4 ⟨o, H4, I4, ps, eo, e4⟩ => ?_
  subst eo e4
  obtain ⟨a, xs, ex, hx, hle, q⟩ := q3
  subst ex
  cases r1
  have I5 : Inv X pins σ H4 { s4 with heap := s4.heap.push { cls := .type "slice", data := .fields #[vl, vu, vs] } } := I4.kept (t' := s4.toks) fun b ob q => Heap.get?_push_of_some _ q
  obtain ⟨its, r, ht, hz⟩ := I5.list hx
  have hlen := r.length
  show wpAny (model X.prog X.w) X.A (subscriptTail e (.Slice lo hi (some (.Constant (.int n) k p1)) p3) (.ref a) (.ref s4.heap.objs.size)) (EP X pins σ Q) X.xe { s4 with heap := s4.heap.push { cls := .type "slice", data := .fields #[vl, vu, vs] } }
  refine tail_any (ops := [.ref a, .ref s4.heap.objs.size]) ht.isList.typeIs (PySem.slot_list_getitem.lookup) ?_ (by with_unfolding_all rfl)
  refine wpAny_getItem_list_slice ht.isList (Heap.IsSliceOf.new _ vl vu vs) pl pu ps (by intro z; exact h0 (Option.some.inj z)) ?_ (by rw [List.size_toArray]; omega)
  have e1 : slicePick its.toArray l u (some n) = ((match sliceBounds l u (some n) its.length with | (a, b, c) => (sliceRange a b c).filterMap (its[·]?))).toArray := by
    unfold slicePick
    rw [List.size_toArray]
    simp
  rw [e1]
  refine ⟨.ref _, _, I5.laid (t' := s4.toks) (o := .lst (stepV xs l u n)) (fun b ob q => Heap.get?_push_of_some _ q) (Nat.le_refl _) ?_, rfl, q _ (I5.hok.fresh (Nat.le_refl _))⟩
  refine ⟨Nat.le_trans hle hz, _, 0, ?_, Heap.get?_push_size _ rfl⟩
  unfold stepV
  rw [← hlen]
  exact vals_pick r _
end

/-! ### t[::-1] of a tuple -/
section
variable {prog : Program} {w : World} {A : Around} {E : Value → Shared → Prop} {s : Shared}
theorem adjust_rev (n : Nat) : Builtin.Slice.sliceAdjust none none (-1) (n : Int) = ((n : Int) - 1, -1) := by
  unfold Builtin.Slice.sliceAdjust
  simp
theorem places_rev (n : Nat) : Builtin.Slice.slicePlaces ((n : Int) - 1) (-1) (-1) = n := by
  unfold Builtin.Slice.slicePlaces
  have h1 : ¬ ((-1 : Int) > 0) := by omega
  have h2 : (-(-1) : Int) = 1 := by decide
  simp only [h1, if_false, h2, Int.ediv_one]
  split <;> omega
theorem pick_rev (xs : Array Value) : ((List.range xs.size).filterMap fun (m : Nat) => xs[(((xs.size : Nat) : Int) - 1 + (m : Int) * (-1)).toNat]?).toArray = xs.toList.reverse.toArray := by
  have e : (List.range xs.size).filterMap (fun (m : Nat) => xs[(((xs.size : Nat) : Int) - 1 + (m : Int) * (-1)).toNat]?) = ((List.range xs.size).map (fun k => xs.size - 1 - k)).filterMap (xs[·]?) := by
    rw [List.filterMap_map]
    congr 1
    funext m
    show xs[(((xs.size : Nat) : Int) - 1 + (m : Int) * (-1)).toNat]? = xs[xs.size - 1 - m]?
    have : (((xs.size : Nat) : Int) - 1 + (m : Int) * (-1)).toNat = xs.size - 1 - m := by omega
    rw [this]
  rw [e, PySem.W.krv_range, List.filterMap_reverse, PySem.W.krv_all]
theorem getItem_tuple_rev {t sl : Addr} {items : Array Value} {vl vu vs : Value} {Q : Value → Shared → Prop} (ht : IsTup s.heap t items) (hs : s.heap.IsSliceOf sl vl vu vs) (pl : IsPart vl none) (pu : IsPart vu none) (ps : IsPart vs (some (-1)))
    (h : Q (.ref s.heap.objs.size) { s with heap := s.heap.push { cls := .type "tuple", data := .seq items.toList.reverse.toArray } })
    (hsz : items.size ≤ sizeLine) : wpAny (model prog w) A (getItem (.ref t) (.ref sl)) Q E s := by
  have htake : sizeOk (.seq items.toList.reverse.toArray) := by
    show items.toList.reverse.toArray.size ≤ sizeLine
    rw [List.size_toArray, List.length_reverse, Array.length_toList]
    exact hsz
  obtain ⟨os, hos, hcs, hds⟩ := id hs
  have hTs : s.TypeIs (.ref sl) "slice" := ⟨os, hos, hcs⟩
  unfold getItem
  try with_reducible refine wpAny_holding ?_
  first | refine wpAny_bind (wpAny_pure ?_) | skip
  refine wpAny_bind (wpAny_sequenceKey ht.typeIs (by decide) ?_)
  refine wpAny_bind (wpAny_callSpecial?_slot (name := Str.ofString "__getitem__") ht.typeIs PyProof.Rows.slot_tuple_getitem
    (wpAny_call_entry PyProof.Rows.slot_tuple_getitem ht.typeIs entry_tuple_getitem ?_ (args_tuple_getitem _ _)))
  show wpAny _ _ (Builtin.Tuple.tupleItemsOf (.ref t) >>= _) _ _ s
  refine wpAny_bind (tupleItemsOf_ ht ?_)
  refine wpAny_bind (wpAny_typeOf hTs ?_)
  rw [if_pos (by decide)]
  refine wpAny_bind ?_
  · unfold Builtin.Slice.sliceApplied Builtin.Slice.sliceFields
    refine wpAny_bind (wpAny_bind (wpAny_field hos hds (x := vl) rfl (wpAny_bind (wpAny_field hos hds (x := vu) rfl (wpAny_bind (wpAny_field hos hds (x := vs) rfl (wpAny_pure ?_)))))))
    refine wpAny_bind (HT.slicePart_ ps ?_)
    show wpAny _ _ (if ((-1 : Int) == 0) = true then _ else _) _ _ s
    rw [if_neg (by decide)]
    refine wpAny_bind (HT.slicePart_ pl (wpAny_bind (HT.slicePart_ pu (wpAny_bind (wpAny_pure ?_)))))
    show wpAny _ _ (match Builtin.Slice.sliceAdjust none none (-1) ((items.size : Nat) : Int) with | (lo, hi) => pure (lo, (-1 : Int), Builtin.Slice.slicePlaces lo hi (-1))) _ _ s
    rw [adjust_rev]
    show wpAny _ _ (pure ((((items.size : Nat) : Int) - 1), (-1 : Int), Builtin.Slice.slicePlaces (((items.size : Nat) : Int) - 1) (-1) (-1))) _ _ s
    rw [places_rev]
    refine wpAny_pure ?_
    have hno : ¬ ((((((items.size : Nat) : Int) - 1) == 0) && (-1 : Int) == 1 && items.size == items.size) = true) := by
      intro q
      rw [Bool.and_eq_true, Bool.and_eq_true] at q
      have q1 : (-1 : Int) = 1 := eq_of_beq q.1.2
      omega
    show wpAny _ _ (if (((((items.size : Nat) : Int) - 1) == 0) && (-1 : Int) == 1 && items.size == items.size) = true then _ else _) _ _ s
    rw [if_neg hno, pick_rev]
    first
      | exact wpAny_bind (m := Builtin.Tuple.tupleExact _) (wpAny_newObj_type (wpAny_pure ⟨_, rfl, wpAny_pure h⟩) htake)
      | exact wpAny_bind (m := Builtin.Tuple.tupleExact _) (wpAny_newObj_type (wpAny_bind (wpAny_pure (wpAny_pure ⟨_, rfl, wpAny_pure h⟩))) htake)
      | exact wpAny_bind (wpAny_bind (m := Builtin.Tuple.tupleExact _) (wpAny_newObj_type (wpAny_pure (wpAny_pure ⟨_, rfl, wpAny_pure h⟩)) htake))
      | exact wpAny_bind (wpAny_bind (m := Builtin.Tuple.tupleExact _) (wpAny_newObj_type (wpAny_pure ⟨_, rfl, wpAny_pure h⟩) htake))
end
section
variable {X : Cx}
def tRevT (K : PySem.W.Frag) (te : TE) : TE := fun σ H Q => te σ H fun x H1 => ∃ a xs, x = .ref a ∧ SqT K H1 a xs ∧ ∀ p, H1 p = none → Q (.ref p) (upd H1 p (.tup xs.reverse))
theorem pe_revT {e : Expr} {te : TE} {k : Nat} {p1 p2 p3 pos : Pos} (he : PE X e te) : PE X (.Subscript e (.Slice none none (some (.UnaryOp .USub (.Constant (.int 1) k p1) p2)) p3) pos) (tRevT X.K te) := by
  refine ⟨fun pins s σ H Q I h => ?_⟩
  refine Subscript_ (thn (he.run pins s σ H _ I h) fun v s1 ⟨x, H1, I1, r1, q1⟩ => ?_)
  obtain ⟨a, xs, ex, hx, q⟩ := q1
  subst ex
  cases r1
  have hst : PO X (some (.UnaryOp .USub (.Constant (.int 1) k p1) p2)) (tPart (tUn (rU fun i => .int (-i)) (tC (.int 1)))) := po_some (pe_un un_neg pe_int)
  refine wpAny_Slice (thn (po_none.run pins s1 σ H1 (fun o H2 => o = none ∧ H2 = H1) I1 ⟨rfl, rfl⟩) fun vl s2 ⟨l, H2, I2, pl, el, e2⟩ => ?_)
  subst el e2
  refine thn (po_none.run pins s2 σ H2 (fun o H3 => o = none ∧ H3 = H2) I2 ⟨rfl, rfl⟩) fun vu s3 ⟨u, H3, I3, pu, eu, e3⟩ => ?_
  subst eu e3
  refine thn (hst.run pins s3 σ H3 (fun o H4 => o = some (-1) ∧ H4 = H3) I3 ⟨1, rfl, -1, rfl, rfl, rfl⟩) fun vs s4 ⟨o, H4, I4, ps, eo, e4⟩ => ?_
  subst eo e4
  have I5 : Inv X pins σ H4 { s4 with heap := s4.heap.push { cls := .type "slice", data := .fields #[vl, vu, vs] } } := I4.kept (t' := s4.toks) fun b ob q => Heap.get?_push_of_some _ q
  obtain ⟨its, r, ht, hz⟩ := I5.tuple hx
  have hlen := r.length
  show wpAny (model X.prog X.w) X.A (subscriptTail e (.Slice none none (some (.UnaryOp .USub (.Constant (.int 1) k p1) p2)) p3) (.ref a) (.ref s4.heap.objs.size)) (EP X pins σ Q) X.xe { s4 with heap := s4.heap.push { cls := .type "slice", data := .fields #[vl, vu, vs] } }
  refine tail_any (ops := [.ref a, .ref s4.heap.objs.size]) ht.typeIs (PyProof.Rows.slot_tuple_getitem.lookup) ?_ (by with_unfolding_all rfl)
  refine getItem_tuple_rev ht (Heap.IsSliceOf.new _ vl vu vs) pl pu ps ?_ (by rw [List.size_toArray, ← hlen]; exact hz)
  refine ⟨.ref _, _, I5.laid (t' := s4.toks) (o := .tup xs.reverse) (fun b ob q => Heap.get?_push_of_some _ q) (Nat.le_refl _) ?_, rfl, q _ (I5.hok.fresh (Nat.le_refl _))⟩
  exact ⟨by rw [List.length_reverse]; exact hz, _, r.reverse, IsTup.new _ _⟩
end

/-! ### the row of draws: its list is not told, only what holds of it -/
def rowPhi (a r : Addr) (h : Heap) : Prop := ∃ (n s b : Int) (its : List Value) (k : Nat), 0 ≤ n ∧ 0 ≤ s ∧ s < 2147483647 ∧ 0 ≤ b ∧ Vals [.ref a, .int n, .int s, .int b] its ∧ h.get? r = some { cls := .type "list", data := .seq its.toArray k }
def RowO (a r : Addr) : HO := .ext (rowPhi a r)
def rowL (a : Addr) (n s b : Int) : HO := .lst [.ref a, .int n, .int s, .int b]
theorem upd_back {H : Hp} {r : Addr} {o u : HO} (h : H r = some o) : upd (upd H r u) r o = H := by
  funext b
  by_cases e : b = r
  · subst e; rw [upd_same, h]
  · rw [upd_ne e, upd_ne e]
def rowEnd (a r : Addr) (k : Hp → Prop) (H : Hp) : Prop := ∃ n s b : Int, 0 ≤ n ∧ 0 ≤ s ∧ s < 2147483647 ∧ 0 ≤ b ∧ H r = some (rowL a n s b) ∧ k (upd H r (RowO a r))
def tView (a r : Addr) (t : TS) : TS := fun D σ H => H r = some (RowO a r) ∧ ∀ n s b : Int, 0 ≤ n → 0 ≤ s → s < 2147483647 → 0 ≤ b →
  t { nx := fun σ' => rowEnd a r (D.nx σ'), rt := fun v => rowEnd a r (D.rt v), bk := fun σ' => rowEnd a r (D.bk σ'), ct := fun σ' => rowEnd a r (D.ct σ') } σ (upd H r (rowL a n s b))
section
variable {X : Cx} {pins : List (Addr × Obj)} {σ : L2.St} {H : Hp} {s : Shared} {a r : Addr}
theorem row_back {k : Hp → Prop} (I : Inv X pins σ H s) (h : rowEnd a r k H) : ∃ H', Inv X pins σ H' s ∧ k H' := by
  obtain ⟨n, z, b, h1, h2, h3, h4, e, q⟩ := h
  obtain ⟨_, its, m, rv, hg⟩ := (show ObjOk X.prog X.w H s.heap r (.lst [.ref a, .int n, .int z, .int b]) from I.hok r _ e)
  refine ⟨_, I.write (h' := s.heap) (t' := s.toks) (x := r) (e := r) (o := RowO a r) (by rw [e]; exact True.intro) (.inl rfl) (fun _ _ _ q => q) ⟨_, hg⟩ ?_, q⟩
  refine ⟨⟨n, z, b, its, m, h1, h2, h3, h4, rv, hg⟩, ⟨_, hg⟩, fun g1 g2 p st => ?_⟩
  obtain ⟨n', z', b', its', m', h1', h2', h3', h4', rv', hg'⟩ := p
  exact ⟨n', z', b', its', m', h1', h2', h3', h4', rv', st _ hg'⟩
theorem pss_view {st : List Stmt} {t : TS} (h : PSs X st t) : PSs X st (tView a r t) := by
  refine ⟨fun pins s σ H D I q => ?_⟩
  obtain ⟨e, q⟩ := q
  obtain ⟨⟨n, z, b, its, m, h1, h2, h3, h4, rv, hg⟩, _, _⟩ := (show ObjOk X.prog X.w H s.heap r (RowO a r) from I.hok r _ e)
  have I' : Inv X pins σ (upd H r (rowL a n z b)) s := I.write (h' := s.heap) (t' := s.toks) (x := r) (e := r) (o := rowL a n z b) (by rw [e]; exact True.intro) (.inl rfl) (fun _ _ _ q => q) ⟨_, hg⟩ ⟨by show 4 ≤ sizeLine; decide, its, m, rv, hg⟩
  refine thn (h.run pins s σ _ _ I' (q n z b h1 h2 h3 h4)) fun f s' p => ?_
  cases f with
  | next =>
    obtain ⟨σ', H', I2, p⟩ := p
    obtain ⟨H2, I3, p⟩ := row_back I2 p
    exact ⟨σ', H2, I3, p⟩
  | brk =>
    obtain ⟨σ', H', I2, p⟩ := p
    obtain ⟨H2, I3, p⟩ := row_back I2 p
    exact ⟨σ', H2, I3, p⟩
  | cont =>
    obtain ⟨σ', H', I2, p⟩ := p
    obtain ⟨H2, I3, p⟩ := row_back I2 p
    exact ⟨σ', H2, I3, p⟩
  | ret u =>
    obtain ⟨v, σ', H', I2, rr, p⟩ := p
    obtain ⟨H2, I3, p⟩ := row_back I2 p
    exact ⟨v, σ', H2, I3, rr, p⟩
/-- over a list or a tuple -/
theorem pi_or {tg e : Expr} {wi wi' : TI} (h : PI X tg e wi) (h' : PI X tg e wi') : PI X tg e (fun σ H R => wi σ H R ∨ wi' σ H R) := by
  refine ⟨fun pins s σ H R I q => ?_⟩
  rcases q with q | q
  · exact h.run pins s σ H R I q
  · exact h'.run pins s σ H R I q
end
/-- the law's row is laid: a list of four that is from then on only told by what holds of it -/
def tRow (ta : TA) : TE := fun σ H Q => ta σ H fun vs H1 => ∃ (a : Addr) (s : Int), vs = [.ref a, .int 0, .int s, .int 0] ∧ 0 ≤ s ∧ s < 2147483647 ∧ ∀ r, H1 r = none → Q (.ref r) (upd H1 r (RowO a r))
section
variable {X : Cx}
theorem pe_row {es : List Expr} {ta : TA} {pos : Pos} (h : PA X es ta) : PE X (.List es pos) (tRow ta) := by
  refine ⟨fun pins s σ H Q I hq => ?_⟩
  refine wpAny_List_spliced (thn (h.run pos pins s σ H _ I hq) fun us s1 ⟨xs, H1, I1, r, a, z, e, h1, h2, q⟩ => ?_)
  subst e
  refine ⟨by rw [← r.length]; show 4 ≤ sizeLine; decide, ?_⟩
  have hf : H1 s1.heap.objs.size = none := I1.hok.fresh (Nat.le_refl _)
  have I2 := I1.laid (t' := s1.toks) (a := s1.heap.objs.size) (o := rowL a 0 z 0) (h' := s1.heap.push { cls := .type "list", data := .seq us.toArray }) (fun b ob q => Heap.get?_push_of_some _ q) (Nat.le_refl _) ⟨by show 4 ≤ sizeLine; decide, us, 0, r, Heap.get?_push_size _ rfl⟩
  obtain ⟨H2, I3, e⟩ := row_back (a := a) (r := s1.heap.objs.size) (k := fun H' => H' = upd (upd H1 s1.heap.objs.size (rowL a 0 z 0)) s1.heap.objs.size (RowO a s1.heap.objs.size)) I2 ⟨0, z, 0, by decide, h1, h2, by decide, upd_same, rfl⟩
  subst e
  rw [upd_upd] at I3
  exact ⟨.ref _, _, I3, rfl, q _ hf⟩
end
end Coil

set_option linter.all false
namespace Coil
open PySem L2
theorem step_evens (xs : List V) : stepV xs none none 2 = evens xs := by
  unfold stepV
  have e : sliceBounds none none (some 2) xs.length = (0, (xs.length : Int), 2) := by
    simp [sliceBounds]
  rw [e]
  show (sliceRange 0 (xs.length : Int) 2).filterMap (xs[·]?) = evens xs
  rw [← evens_pick xs]
  congr 1
  unfold sliceRange
  have h1 : (2 : Int) > 0 := by decide
  simp only [h1, if_true]
  have e2 : (if (0 : Int) < (xs.length : Int) then ((xs.length : Int) - 0 + 2 - 1) / 2 else 0).toNat = (xs.length + 1) / 2 := by
    split <;> omega
  rw [e2]
  apply List.map_congr_left
  intro k _
  omega
theorem step_odds (xs : List V) : stepV xs (some 1) none 2 = odds xs := by
  unfold stepV
  cases xs with
  | nil => rfl
  | cons a t =>
    have e : sliceBounds (some 1) none (some 2) (a :: t).length = (1, ((a :: t).length : Int), 2) := by
      have hm : min (1 : Int) ((t.length : Int) + 1) = 1 := by omega
      simp [sliceBounds, hm]
      omega
    rw [e]
    show (sliceRange 1 ((a :: t).length : Int) 2).filterMap ((a :: t)[·]?) = evens t
    rw [← evens_pick t]
    unfold sliceRange
    have h1 : (2 : Int) > 0 := by decide
    simp only [h1, if_true]
    have e2 : (if (1 : Int) < ((a :: t).length : Int) then (((a :: t).length : Int) - 1 + 2 - 1) / 2 else 0).toNat = (t.length + 1) / 2 := by
      simp only [List.length_cons]; split <;> omega
    rw [e2, List.filterMap_map, List.filterMap_map]
    congr 1
    funext k
    show (a :: t)[((1 : Int) + 2 * (k : Int)).toNat]? = t[2 * k]?
    have : ((1 : Int) + 2 * (k : Int)).toNat = 2 * k + 1 := by omega
    rw [this]
    rfl
end Coil

set_option linter.all false
namespace Coil
open PySem L2 Evl
theorem dpall_ints (K : PySem.W.Frag) (H : Hp) : ∀ ns : List Int, DpAll K H (ns.map V.int) (ns.map PyData.int)
  | [] => .nil
  | n :: ns => .cons (.int n) (dpall_ints K H ns)
theorem dp_tup {K : PySem.W.Frag} {H : Hp} {a : Addr} {ns : List Int} (h : SqT K H a (ns.map V.int)) : Dp K H (.ref a) (.tuple (ns.map PyData.int)) := .tup h (dpall_ints K H ns)
theorem lay_ints : ∀ ns : List Int, PyData.canLayAll0 (ns.map PyData.int) = true
  | [] => by simp [PyData.canLayAll0]
  | n :: ns => by simp [PyData.canLayAll0, PyData.canLay0, lay_ints ns]
theorem eqv_ints : ∀ ns ms : List Int, PyData.eqvAll (ns.map PyData.int) (ms.map PyData.int) = decide (ns = ms)
  | [], [] => by simp [PyData.eqvAll]
  | [], _ :: _ => by simp [PyData.eqvAll]
  | _ :: _, [] => by simp [PyData.eqvAll]
  | n :: ns, m :: ms => by
    simp only [List.map_cons, PyData.eqvAll, PyData.eqv, eqv_ints ns ms]
    by_cases h : n = m <;> by_cases h2 : ns = ms <;> simp [h, h2]
theorem eqv_tups (ns ms : List Int) : PyData.eqv (.tuple (ns.map PyData.int)) (.tuple (ms.map PyData.int)) = decide (ns = ms) := by
  rw [PyData.eqv]; exact eqv_ints ns ms
theorem depth_ints : ∀ ns : List Int, PyData.depthAll (ns.map PyData.int) ≤ 1
  | [] => by simp [PyData.depthAll]
  | n :: ns => by
    have := depth_ints ns
    simp only [List.map_cons, PyData.depthAll, PyData.depth]
    omega
theorem shaped_ints (ns : List Int) : SeqAt.shaped (.tuple (ns.map PyData.int)) = true := by
  unfold SeqAt.shaped
  rw [Bool.and_eq_true]
  refine ⟨by rw [PyData.canLay0]; exact lay_ints ns, decide_eq_true ?_⟩
  have := depth_ints ns
  rw [PyData.depth]
  omega
end Coil

set_option Elab.async false
set_option linter.all false
set_option maxRecDepth 100000
set_option maxHeartbeats 4000000
namespace Coil
open PySem L2 Evl
def top (i : Nat) : Stmt := PySem.Challenge.pw_coilnets_k05_whole_roots_on_the_left.main.body.getD i (.Pass ⟨0, 0, 0, 0⟩)
abbrev s_content : Stmt := top 5
theorem sc_content : FnScope ["polynomial", "shared", "coefficient"] ["polynomial"] (defScope s_content) := ⟨rfl, rfl, rfl, by decide +kernel, rfl, by decide +kernel, by decide +kernel⟩
abbrev s_is_integer : Stmt := top 9
theorem sc_is_integer : FnScope ["value"] ["value"] (defScope s_is_integer) := ⟨rfl, rfl, rfl, by decide +kernel, rfl, by decide +kernel, by decide +kernel⟩
abbrev s_u_is_limited_integer : Stmt := top 10
theorem sc_u_is_limited_integer : FnScope ["value"] ["value"] (defScope s_u_is_limited_integer) := ⟨rfl, rfl, rfl, by decide +kernel, rfl, by decide +kernel, by decide +kernel⟩
abbrev s_is_polynomial : Stmt := top 11
theorem sc_is_polynomial : FnScope ["value", "coefficient"] ["value"] (defScope s_is_polynomial) := ⟨rfl, rfl, rfl, by decide +kernel, rfl, by decide +kernel, by decide +kernel⟩
abbrev s_check_polynomial : Stmt := top 12
theorem sc_check_polynomial : FnScope ["value"] ["value"] (defScope s_check_polynomial) := ⟨rfl, rfl, rfl, by decide +kernel, rfl, by decide +kernel, by decide +kernel⟩
abbrev s_has_left_roots : Stmt := top 14
theorem sc_has_left_roots : FnScope ["polynomial", "falling", "coefficient"] ["polynomial"] (defScope s_has_left_roots) := ⟨rfl, rfl, rfl, by decide +kernel, rfl, by decide +kernel, by decide +kernel⟩
abbrev s_u_is_routh_positive : Stmt := top 15
theorem sc_u_is_routh_positive : FnScope ["upper", "lower", "padded", "below", "at"] ["upper", "lower"] (defScope s_u_is_routh_positive) := ⟨rfl, rfl, rfl, by decide +kernel, rfl, by decide +kernel, by decide +kernel⟩
abbrev s_u_with_small_numbers : Stmt := top 16
theorem sc_u_with_small_numbers : FnScope ["row", "shared", "number"] ["row"] (defScope s_u_with_small_numbers) := ⟨rfl, rfl, rfl, by decide +kernel, rfl, by decide +kernel, by decide +kernel⟩
abbrev s_is_left : Stmt := top 18
theorem sc_is_left : FnScope ["polynomial"] ["polynomial"] (defScope s_is_left) := ⟨rfl, rfl, rfl, by decide +kernel, rfl, by decide +kernel, by decide +kernel⟩
abbrev s_u_check_not_zero : Stmt := top 19
theorem sc_u_check_not_zero : FnScope ["polynomial"] ["polynomial"] (defScope s_u_check_not_zero) := ⟨rfl, rfl, rfl, by decide +kernel, rfl, by decide +kernel, by decide +kernel⟩
abbrev s_u_law_taken : Stmt := top 21
theorem sc_u_law_taken : FnScope ["row", "many", "cell", "found"] ["row", "many"] (defScope s_u_law_taken) := ⟨rfl, rfl, rfl, by decide +kernel, rfl, by decide +kernel, by decide +kernel⟩
abbrev s_u_law_pick : Stmt := top 22
theorem sc_u_law_pick : FnScope ["row", "things"] ["row", "things"] (defScope s_u_law_pick) := ⟨rfl, rfl, rfl, by decide +kernel, rfl, by decide +kernel, by decide +kernel⟩
abbrev s_u_law_is : Stmt := top 23
theorem sc_u_law_is : FnScope ["found", "due"] ["found", "due"] (defScope s_u_law_is) := ⟨rfl, rfl, rfl, by decide +kernel, rfl, by decide +kernel, by decide +kernel⟩
abbrev s_u_law_trim : Stmt := top 24
theorem sc_u_law_trim : FnScope ["some", "many", "turn"] ["some"] (defScope s_u_law_trim) := ⟨rfl, rfl, rfl, by decide +kernel, rfl, by decide +kernel, by decide +kernel⟩
abbrev s_u_law_times : Stmt := top 25
theorem sc_u_law_times : FnScope ["one", "other", "found", "at", "place"] ["one", "other"] (defScope s_u_law_times) := ⟨rfl, rfl, rfl, by decide +kernel, rfl, by decide +kernel, by decide +kernel⟩
abbrev s_u_law_poly : Stmt := top 26
theorem sc_u_law_poly : FnScope ["row", "most", "size", "at"] ["row", "most", "size"] (defScope s_u_law_poly) := ⟨rfl, rfl, rfl, by decide +kernel, rfl, by decide +kernel, by decide +kernel⟩
abbrev s_u_law_some : Stmt := top 27
theorem sc_u_law_some : FnScope ["row", "most", "size", "one"] ["row", "most", "size"] (defScope s_u_law_some) := ⟨rfl, rfl, rfl, by decide +kernel, rfl, by decide +kernel, by decide +kernel⟩
abbrev s_u_law_minors : Stmt := top 28
theorem sc_u_law_minors : FnScope ["one", "many", "down", "table", "at", "places", "rows", "shared", "place", "more", "told", "number"] ["one"] (defScope s_u_law_minors) := ⟨rfl, rfl, rfl, by decide +kernel, rfl, by decide +kernel, by decide +kernel⟩
abbrev s_law : Stmt := top 29
theorem sc_law : FnScope ["script", "row", "turn", "other", "one", "due", "way", "more"] ["script"] (defScope s_law) := ⟨rfl, rfl, rfl, by decide +kernel, rfl, by decide +kernel, by decide +kernel⟩
structure Txt (mg : Str → Option Value) (tL tM : Tok) : Prop where
  g_gcd : mg "gcd" = some (.builtin "math.gcd")
  g_LARGEST : mg "LARGEST" = some (.int 1000000000000000000000000000000000000000000000000000000000000 tL)
  g_MOST_COEFFICIENTS : mg "MOST_COEFFICIENTS" = some (.int 13 tM)
  b_abs : mg "abs" = none
  b_all : mg "all" = none
  b_bool : mg "bool" = none
  b_int : mg "int" = none
  b_isinstance : mg "isinstance" = none
  b_len : mg "len" = none
  b_list : mg "list" = none
  b_max : mg "max" = none
  b_range : mg "range" = none
  b_tuple : mg "tuple" = none

/-! ### content -/
def spContent (K : PySem.W.Frag) : Sp := fun vs H Q _ => ∃ (a : Addr) (ns : List Int), vs = [.ref a] ∧ (SqL K H a (ns.map V.int) ∨ SqT K H a (ns.map V.int)) ∧ Q (.int (gcdL ns)) H
theorem gcdL_take {ns : List Int} {i : Nat} {n : Int} (h : ns[i]? = some n) : gcdL (ns.take (i + 1)) = ((Nat.gcd (gcdL (ns.take i)).natAbs n.natAbs : Nat) : Int) := by
  unfold gcdL
  rw [List.take_add_one, h]
  simp [List.foldl_append]
theorem map_int_get {ns : List Int} {i : Nat} {x : V} (h : (ns.map V.int)[i]? = some x) : ∃ n, ns[i]? = some n ∧ x = .int n := by
  rw [List.getElem?_map] at h
  cases e : ns[i]? with
  | none => rw [e] at h; cases h
  | some n => rw [e] at h; exact ⟨n, rfl, (Option.some.inj h).symm⟩
section
variable {P : Program} {w : World} {K : PySem.W.Frag} {mg : Str → Option Value} {base : Heap} {tL tM : Tok}
theorem ok_content {f : Addr} {fd : FuncData} (F : Fun K "content" "content" s_content f fd) (T : Txt mg tL tM) : FnOk P w K mg base CX0 1 f fd ["polynomial"] (spContent K) := by
  refine F.ok sc_content (fun vs H Q E h => ?_) (fun cdv A outer s H vs Q E hr h => ?_)
  · obtain ⟨a, ns, rfl, _⟩ := h
    rfl
  · obtain ⟨a, ns, rfl, hS, k⟩ := h
    refine ⟨_, (pss_cons (ps_set (i := 1) sc_content.nd rfl (Or.inl rfl) pe_int)
  (pss_cons (ps_for PassesOwn.never rfl (pi_or (pi_list (pv 0)) (pi_tup (pv 0))) (pg_name (i := 2) sc_content.nd rfl (Or.inl rfl)) (pss_one (ps_set (i := 1) sc_content.nd rfl (Or.inl rfl) (pe_callBfun cr_gcd (by rfl) T.g_gcd (pa_cons (pv 1) (pa_cons (pv 2) pa_nil))))))
  (pss_one (ps_ret (pv 1))))), ?_⟩
    rcases hS with hS | hS
    · refine .inl ⟨_, rfl, a, rfl, ⟨_, hS⟩, for_list (K := K) (a := a) (xs := ns.map V.int) (fun i σ H' => H' = H ∧ ∃ v : Option V, σ = [some (.ref a), some (.int (gcdL (ns.take i))), v]) ⟨rfl, none, rfl⟩ (fun i σ H' _ p => by rw [p.1]; exact hS) ?_ ?_⟩
      · rintro i x σ H' hi ⟨rfl, v, rfl⟩
        obtain ⟨n, hn, rfl⟩ := map_int_get hi
        refine ⟨_, rfl, _, rfl, _, _, rfl, ?_⟩
        exact ⟨rfl, _, by rw [gcdL_take hn]; rfl⟩
      · rintro σ H' ⟨rfl, v, rfl⟩
        refine ⟨_, rfl, ?_⟩
        rw [List.length_map, List.take_length]
        exact k
    · refine .inr ⟨_, rfl, a, rfl, ⟨_, hS⟩, for_tup (K := K) (a := a) (xs := ns.map V.int) (fun i σ H' => H' = H ∧ ∃ v : Option V, σ = [some (.ref a), some (.int (gcdL (ns.take i))), v]) ⟨rfl, none, rfl⟩ (fun i σ H' _ p => by rw [p.1]; exact hS) ?_ ?_⟩
      · rintro i x σ H' hi ⟨rfl, v, rfl⟩
        obtain ⟨n, hn, rfl⟩ := map_int_get hi
        refine ⟨_, rfl, _, rfl, _, _, rfl, ?_⟩
        exact ⟨rfl, _, by rw [gcdL_take hn]; rfl⟩
      · rintro σ H' ⟨rfl, v, rfl⟩
        refine ⟨_, rfl, ?_⟩
        rw [List.length_map, List.take_length]
        exact k

/-! ### checks -/
abbrev big60 : Int := 1000000000000000000000000000000000000000000000000000000000000
def spIsInt : Sp := fun vs H Q _ => ∃ n : Int, vs = [.int n] ∧ Q (.bl true) H
theorem ok_is_integer {f : Addr} {fd : FuncData} (F : Fun K "is_integer" "is_integer" s_is_integer f fd) (T : Txt mg tL tM) : FnOk P w K mg base CX0 1 f fd ["value"] spIsInt := by
  refine F.ok sc_is_integer (fun vs H Q E h => ?_) (fun cdv A outer s H vs Q E hr h => ?_)
  · obtain ⟨n, rfl, _⟩ := h
    rfl
  · obtain ⟨n, rfl, k⟩ := h
    refine ⟨_, (pss_one (ps_ret (pe_and (pe_callB (r := rIsi K) call_isi (by rfl) T.b_isinstance (by decide +kernel) (pa_cons (pv 0) (pa_cons (pe_bltn (v := .ty "int") (by rfl) T.b_int (by decide +kernel) rfl) pa_nil))) (pe_one (pe_not (pe_callB (r := rIsi K) call_isi (by rfl) T.b_isinstance (by decide +kernel) (pa_cons (pv 0) (pa_cons (pe_bltn (v := .ty "bool") (by rfl) T.b_bool (by decide +kernel) rfl) pa_nil)))))))), ?_⟩
    refine ⟨_, rfl, _, _, _, _, true, rfl, ClsV.ty _, TyX.base (TyOf.int n), kit_ty (by decide +kernel), true, rfl, ?_⟩
    refine iteT ?_
    exact ⟨_, rfl, _, _, _, _, false, rfl, ClsV.ty _, TyX.base (TyOf.int n), kit_ty (by decide +kernel), false, rfl, k⟩
def spLim : Sp := fun vs H Q _ => ∃ n : Int, vs = [.int n] ∧ n.natAbs ≤ big60.natAbs ∧ Q (.bl true) H
theorem ok_lim {f : Addr} {fd : FuncData} (F : Fun K "_is_limited_integer" "_is_limited_integer" s_u_is_limited_integer f fd) (T : Txt mg tL tM) (d_is_integer : Def P w K mg base "is_integer" 1 ["value"] spIsInt) :
    FnOk P w K mg base CX0 2 f fd ["value"] spLim := by
  refine F.ok sc_u_is_limited_integer (fun vs H Q E h => ?_) (fun cdv A outer s H vs Q E hr h => ?_)
  · obtain ⟨n, rfl, _⟩ := h
    rfl
  · obtain ⟨n, rfl, hb, k⟩ := h
    refine ⟨_, (pss_one (ps_ret (pe_and (pe_callD d_is_integer (hr.mono (by decide)) (pa_cons (pv 0) pa_nil)) (pe_one (pe_cmpR op_le (pe_callB call_abs (by rfl) T.b_abs (by decide +kernel) (pa_cons (pv 0) pa_nil)) (pe_glob (v := .int 1000000000000000000000000000000000000000000000000000000000000) rfl T.g_LARGEST ⟨_, rfl⟩) (nomark _)))))), ?_⟩
    refine ⟨_, rfl, n, rfl, true, rfl, ?_⟩
    refine iteT ?_
    refine ⟨_, rfl, n, rfl, _, _, rfl, rfl, ?_⟩
    have e : decide ((if n < 0 then -n else n) ≤ big60) = true := by
      rw [decide_eq_true_eq]
      have h1 : big60.natAbs = 1000000000000000000000000000000000000000000000000000000000000 := by decide
      rw [h1] at hb
      show (if n < 0 then -n else n) ≤ (1000000000000000000000000000000000000000000000000000000000000 : Int)
      split <;> omega
    show Q (.bl (decide ((if n < 0 then -n else n) ≤ big60))) H
    rw [e]
    exact k
/-- a polynomial that may be passed -/
def Pol (ns : List Int) : Prop := ns.length ≤ 13 ∧ (∀ n ∈ ns, n.natAbs ≤ big60.natAbs) ∧ ns.getLast? ≠ some 0
theorem ty_tup {H : Hp} {a : Addr} {xs : List V} (h : SqT K H a xs) : TyX K H (.ref a) (.type "tuple") := by
  rcases h with (h | ⟨o, h⟩) | h
  · exact .base (.tup h)
  · exact .fTuple h
  · obtain ⟨o, its, m, h1, h2, _⟩ := h
    exact .kTuple h1 h2
theorem emap_last {ns : List Int} {n : Int} (h : ns.getLast? = some n) : atI (ns.map V.int) (-1) = some (.int n) := by
  have hne : ns ≠ [] := by intro e; rw [e] at h; cases h
  have e : ns = ns.dropLast ++ [n] := by
    rw [List.getLast?_eq_some_getLast hne] at h
    rw [← Option.some.inj h]
    exact (List.dropLast_concat_getLast hne).symm
  rw [e, List.map_append]
  exact atI_last _ _
def spIsPoly (K : PySem.W.Frag) : Sp := fun vs H Q _ => ∃ (a : Addr) (ns : List Int), vs = [.ref a] ∧ SqT K H a (ns.map V.int) ∧ Pol ns ∧ ∀ H', Ex H H' → Q (.bl true) H'
theorem ok_is_polynomial {f : Addr} {fd : FuncData} (F : Fun K "is_polynomial" "is_polynomial" s_is_polynomial f fd) (T : Txt mg tL tM) (d_u_is_limited_integer : Def P w K mg base "_is_limited_integer" 2 ["value"] spLim) :
    FnOk P w K mg base CX0 3 f fd ["value"] (spIsPoly K) := by
  refine F.ok sc_is_polynomial (fun vs H Q E h => ?_) (fun cdv A outer s H vs Q E hr h => ?_)
  · obtain ⟨a, ns, rfl, _⟩ := h
    rfl
  · obtain ⟨a, ns, rfl, hS, ⟨h13, hb, h0⟩, k⟩ := h
    refine ⟨_, (pss_cons (ps_if (PW.pt (pw_or (pt_not (pt_val (pe_callB (r := rIsi K) call_isi (by rfl) T.b_isinstance (by decide +kernel) (pa_cons (pv 0) (pa_cons (pe_bltn (v := .ty "tuple") (by rfl) T.b_tuple (by decide +kernel) rfl) pa_nil))))) (pw_or1 (pt_cmpR op_gt (pe_callB (r := Evl.rLenS K) call_len_seq (by rfl) T.b_len (by decide +kernel) (pa_cons (pv 0) pa_nil)) (pe_glob (v := .int 13) rfl T.g_MOST_COEFFICIENTS ⟨_, rfl⟩) (nomark _))))) (pss_one (ps_ret pe_bl)) pss_nil)
  (pss_cons (ps_if (pt_not (pt_val (pe_callB (r := rAll K) (cr_all rfl) (by rfl) T.b_all (by decide +kernel) (pa_cons (pe_lc (own := [("coefficient", 1)]) (g := gName 1) (tt := tYes) rfl sc_is_polynomial.nd (pi_tup (pv 0)) (blkOk_by (own := [("coefficient", 1)]) (N := ["value", "coefficient"]) (sc := defScope s_is_polynomial) (by decide +kernel)) (fun _ _ _ _ _ => pg_name (i := 1) sc_is_polynomial.nd rfl (Or.inl rfl)) (fun _ _ _ _ _ => pts_nil) (fun _ _ _ _ _ => (pe_callD d_u_is_limited_integer (hr.mono (by decide)) (pa_cons (pv 1) pa_nil)))) pa_nil)))) (pss_one (ps_ret pe_bl)) pss_nil)
  (pss_one (ps_ret (pe_or (pe_notT (pv 0)) (pe_one (pe_cmpR op_ne (pe_ix (r := rIxT K) ix_tup (pv 0) (pe_un un_neg pe_int) (fun _ _ => rfl)) pe_int (nomark _)))))))), ?_⟩
    refine ⟨_, rfl, _, _, _, _, true, rfl, ClsV.ty _, ty_tup hS, kit_ty (by decide +kernel), true, rfl, ?_⟩
    refine iteF ?_
    refine ⟨_, rfl, a, _, rfl, .inr hS, _, _, rfl, rfl, _, rfl, ?_⟩
    rw [List.length_map]
    refine ite2 (fun h => absurd (of_decide_eq_true h) (by omega)) (fun _ => ?_)
    refine ⟨_, rfl, a, rfl, ⟨_, hS⟩, fun D hD => lc_tup (K := K) (a := a) (xs := ns.map V.int) (fun i H' => Ex H H' ∧ H' D = some (.lst (List.replicate i (.bl true)))) ⟨Ex.new hD, upd_same⟩ (fun i H' _ p => ex_t p.1 hS) ?_ ?_⟩
    · rintro i x H' hi ⟨e, hl⟩
      obtain ⟨n, hn, rfl⟩ := map_int_get hi
      refine ⟨rfl, ?_⟩
      refine ⟨_, rfl, n, rfl, hb n (List.mem_of_getElem? hn), _, hl, ?_, Ex.mut e hD, ?_⟩
      · rw [List.length_replicate]
        have := (List.getElem?_eq_some_iff.mp hn).1
        exact Nat.lt_of_lt_of_le (by omega : i < 13) (by decide)
      · rw [upd_same, List.replicate_succ']
    · rintro H' ⟨e, hl⟩
      refine ⟨D, List.replicate (ns.map V.int).length true, rfl, SqL.of (by rw [hl, List.map_replicate]), true, ?_, ?_⟩
      · rw [List.all_eq_true.mpr (fun x hx => by rw [List.eq_of_mem_replicate hx]; rfl)]
      · refine iteF ?_
        refine ⟨_, rfl, _, .inr (.inl ⟨_, ex_t e hS, rfl⟩), _, rfl, ?_⟩
        cases ns with
        | nil => exact iteT (k _ e)
        | cons n0 ns0 =>
          refine iteF ?_
          obtain ⟨z, hz⟩ : ∃ z, (n0 :: ns0).getLast? = some z := ⟨_, List.getLast?_eq_some_getLast (by simp)⟩
          have hz0 : z ≠ 0 := fun q => h0 (by rw [hz, q])
          refine ⟨_, rfl, _, rfl, a, _, _, _, rfl, rfl, ex_t e hS, emap_last hz, rfl, ?_⟩
          have ed : (!decide (V.int z = V.int 0)) = true := by
            rw [decide_eq_false (fun q => hz0 (V.int.inj q))]
            rfl
          rw [ed]
          exact k _ e

def spCheck (K : PySem.W.Frag) : Sp := fun vs H Q _ => ∃ (a : Addr) (ns : List Int), vs = [.ref a] ∧ SqT K H a (ns.map V.int) ∧ Pol ns ∧ ∀ H', Ex H H' → Q .non H'
theorem ok_check_polynomial {f : Addr} {fd : FuncData} (F : Fun K "check_polynomial" "check_polynomial" s_check_polynomial f fd) (d_is_polynomial : Def P w K mg base "is_polynomial" 3 ["value"] (spIsPoly K)) :
    FnOk P w K mg base CX0 4 f fd ["value"] (spCheck K) := by
  refine F.ok sc_check_polynomial (fun vs H Q E h => ?_) (fun cdv A outer s H vs Q E hr h => ?_)
  · obtain ⟨a, ns, rfl, _⟩ := h
    rfl
  · obtain ⟨a, ns, rfl, hS, hp, k⟩ := h
    refine ⟨_, (pss_one (ps_if (pt_not (pt_val (pe_callD d_is_polynomial (hr.mono (by decide)) (pa_cons (pv 0) pa_nil)))) (pss_one ps_never) pss_nil)), ?_⟩
    exact ⟨_, rfl, a, ns, rfl, hS, hp, fun H' e => ⟨true, rfl, iteF (k _ e)⟩⟩
def spNotZero (K : PySem.W.Frag) : Sp := fun vs H Q _ => ∃ (a : Addr) (ns : List Int), vs = [.ref a] ∧ SqT K H a (ns.map V.int) ∧ Pol ns ∧ ns ≠ [] ∧ ∀ H', Ex H H' → Q .non H'
theorem ok_check_not_zero {f : Addr} {fd : FuncData} (F : Fun K "_check_not_zero" "_check_not_zero" s_u_check_not_zero f fd) (d_check_polynomial : Def P w K mg base "check_polynomial" 4 ["value"] (spCheck K)) :
    FnOk P w K mg base CX0 5 f fd ["polynomial"] (spNotZero K) := by
  refine F.ok sc_u_check_not_zero (fun vs H Q E h => ?_) (fun cdv A outer s H vs Q E hr h => ?_)
  · obtain ⟨a, ns, rfl, _⟩ := h
    rfl
  · obtain ⟨a, ns, rfl, hS, hp, hne, k⟩ := h
    refine ⟨_, (pss_cons (ps_expr (pe_callD d_check_polynomial (hr.mono (by decide)) (pa_cons (pv 0) pa_nil)))
  (pss_one (ps_if (pt_not (pt_truth (pv 0) (by intro _; rfl))) (pss_one ps_never) pss_nil))), ?_⟩
    refine ⟨_, rfl, a, ns, rfl, hS, hp, fun H' e => ?_⟩
    refine ⟨_, rfl, true, .inr (.inl ⟨_, ex_t e hS, ?_⟩), iteF (k _ e)⟩
    cases ns with
    | nil => exact absurd rfl hne
    | cons n0 ns0 => rfl

/-! ### roots -/
def spSmall (K : PySem.W.Frag) : Sp := fun vs H Q _ => ∃ (a : Addr) (ns : List Int), vs = [.ref a] ∧ SqL K H a (ns.map V.int) ∧ ns.length ≤ 100 ∧ (gcdL ns).natAbs < 2 ^ 9000 ∧ ∀ p H', H p = none → Ex H H' → H' p = some (.lst ((smallL ns).map V.int)) → Q (.ref p) H'
theorem ok_with_small {f : Addr} {fd : FuncData} (F : Fun K "_with_small_numbers" "_with_small_numbers" s_u_with_small_numbers f fd) (T : Txt mg tL tM) (d_content : Def P w K mg base "content" 1 ["polynomial"] (spContent K)) :
    FnOk P w K mg base CX0 2 f fd ["row"] (spSmall K) := by
  refine F.ok sc_u_with_small_numbers (fun vs H Q E h => ?_) (fun cdv A outer s H vs Q E hr h => ?_)
  · obtain ⟨a, ns, rfl, _⟩ := h
    rfl
  · obtain ⟨a, ns, rfl, hS, hlen, hg, k⟩ := h
    refine ⟨_, (pss_cons (ps_set (i := 1) sc_u_with_small_numbers.nd rfl (Or.inr rfl) (pe_callB (call_max2 rfl) (by rfl) T.b_max (by decide +kernel) (pa_cons pe_int (pa_cons (pe_callD d_content (hr.mono (by decide)) (pa_cons (pv 0) pa_nil)) pa_nil))))
  (pss_one (ps_ret (pe_lc (own := [("number", 2)]) (g := gName 2) (tt := tYes) rfl sc_u_with_small_numbers.nd (pi_list (pv 0)) (blkOk_by (own := [("number", 2)]) (N := ["row", "shared", "number"]) (sc := defScope s_u_with_small_numbers) (by decide +kernel)) (fun _ _ _ _ _ => pg_name (i := 2) sc_u_with_small_numbers.nd rfl (Or.inl rfl)) (fun _ _ _ _ _ => pts_nil) (fun _ _ _ _ _ => (pe_op op_fdivW (pv 2) (pv 1))))))), ?_⟩
    refine ⟨_, rfl, a, ns, rfl, .inl hS, _, _, rfl, ?_⟩
    refine ⟨_, rfl, a, rfl, ⟨_, hS⟩, fun D hD => lc_list (K := K) (a := a) (xs := ns.map V.int) (fun i H' => Ex H H' ∧ H' D = some (.lst ((smallTo ns i).map V.int))) ⟨Ex.new hD, upd_same⟩ (fun i H' _ p => ex_l p.1 hS) ?_ ?_⟩
    · rintro i x H' hi ⟨e, hl⟩
      obtain ⟨n, hn, rfl⟩ := map_int_get hi
      refine ⟨rfl, ?_⟩
      refine ⟨_, rfl, _, rfl, _, _, rfl, rfl, ?_, _, hl, ?_, Ex.mut e hD, ?_⟩
      · exact wide_div (b := 9000) (maxg_pos ns) (maxg_lt hg) (by decide) (by decide)
      · rw [List.length_map, smallTo_len]
        have := (List.getElem?_eq_some_iff.mp hn).1
        exact Nat.lt_of_le_of_lt (by omega : _ ≤ 100) (by decide)
      · rw [upd_same, smallTo_succ hn, List.map_append]
        rfl
    · rintro H' ⟨e, hl⟩
      refine k D H' hD e ?_
      rw [hl, List.length_map, smallTo_all]

theorem at_map {ns : List Int} {j : Nat} (h : j < ns.length) : atI (ns.map V.int) ((j : Nat) : Int) = some (.int (ns.getD j 0)) := by
  refine atI_nat ?_
  rw [List.getElem?_map, List.getElem?_eq_getElem h, List.getD_eq_getElem?_getD, List.getElem?_eq_getElem h]
  rfl
theorem at_map0 {ns : List Int} (h : 0 < ns.length) : atI (ns.map V.int) 0 = some (.int (ns.getD 0 0)) := at_map (j := 0) h
theorem pad_getD (l : List Int) (k i : Nat) : (l ++ List.replicate k 0).getD i 0 = l.getD i 0 := by
  rw [List.getD_eq_getElem?_getD, List.getD_eq_getElem?_getD]
  by_cases h : i < l.length
  · rw [List.getElem?_append_left h]
  · rw [List.getElem?_append_right (by omega), List.getElem?_eq_none (l := l) (by omega)]
    cases e : (List.replicate k (0 : Int))[i - l.length]? with
    | none => rfl
    | some z => rw [List.eq_of_mem_replicate (List.mem_of_getElem? e)]; rfl
theorem rep_int (k : Nat) (xs : List Int) : (List.replicate k (xs.map V.int)).flatten = ((List.replicate k xs).flatten).map V.int := by
  rw [List.map_flatten, List.map_replicate]
theorem rep_zero (k : Nat) : (List.replicate k [(0 : Int)]).flatten = List.replicate k 0 := by
  induction k with
  | zero => rfl
  | succ k ih => rw [List.replicate_succ, List.flatten_cons, ih, List.replicate_succ]; rfl
def RouthPre (c : Nat) (u l : List Int) : Prop := l.length ≤ u.length ∧ u.length ≤ l.length + 1 ∧ Bd c u ∧ Bd c l ∧ (c + 1) * 2 ^ (u.length + l.length) ≤ 9000
def spRouth : Sp := fun vs H Q _ => ∃ (pu pl : Addr) (u l : List Int) (c : Nat), vs = [.ref pu, .ref pl] ∧ H pu = some (.lst (u.map V.int)) ∧ H pl = some (.lst (l.map V.int)) ∧ RouthPre c u l ∧
  ∀ H', Ex H H' → Q (.bl (routh (u.length + l.length) u l)) H'
theorem pre_small {c : Nat} {u l : List Int} (h : RouthPre c u l) : u.length + l.length ≤ 13 ∧ c ≤ 9000 := by
  obtain ⟨_, _, _, _, h⟩ := h
  constructor
  · refine Decidable.byContradiction fun q => ?_
    have h1 : 2 ^ 14 ≤ 2 ^ (u.length + l.length) := Nat.pow_le_pow_right (by decide) (by omega)
    have h2 : 1 * 2 ^ (u.length + l.length) ≤ (c + 1) * 2 ^ (u.length + l.length) := Nat.mul_le_mul_right _ (by omega)
    omega
  · have h1 : 1 ≤ 2 ^ (u.length + l.length) := Nat.one_le_two_pow
    have h2 : (c + 1) * 1 ≤ (c + 1) * 2 ^ (u.length + l.length) := Nat.mul_le_mul_left _ h1
    omega
theorem pre_next {c : Nat} {u l : List Int} (hl : 0 < l.length) (h : RouthPre c u l) : RouthPre (2 * c + 1) l (smallL (stepRow u l)) := by
  obtain ⟨h1, h2, h3, h4, h5⟩ := h
  have el : (smallL (stepRow u l)).length = u.length - 1 := by rw [smallL_len, stepRow_len]
  refine ⟨by omega, by omega, h4.mono (by omega), smallL_bd (stepRow_bd h3 h4), ?_⟩
  have e : u.length + l.length = (l.length + (smallL (stepRow u l)).length) + 1 := by omega
  rw [e, Nat.pow_succ] at h5
  have e2 : (2 * c + 1 + 1) * 2 ^ (l.length + (smallL (stepRow u l)).length) = (c + 1) * (2 ^ (l.length + (smallL (stepRow u l)).length) * 2) := by
    rw [show 2 * c + 1 + 1 = (c + 1) * 2 by omega, Nat.mul_assoc, Nat.mul_comm 2]
  rw [e2]
  exact h5
def RouthW (H : Hp) (res : Bool) (m : Nat) (σ : L2.St) (H' : Hp) : Prop := ∃ (pu pl : Addr) (u l : List Int) (c : Nat) (v2 v3 v4 : Option V), σ = [some (.ref pu), some (.ref pl), v2, v3, v4] ∧ Ex H H' ∧
  H' pu = some (.lst (u.map V.int)) ∧ H' pl = some (.lst (l.map V.int)) ∧ RouthPre c u l ∧ u.length + l.length = m ∧ routh m u l = res
theorem ok_routh {f : Addr} {fd : FuncData} (F : Fun K "_is_routh_positive" "_is_routh_positive" s_u_is_routh_positive f fd) (T : Txt mg tL tM) (d_u_with_small_numbers : Def P w K mg base "_with_small_numbers" 2 ["row"] (spSmall K)) :
    FnOk P w K mg base CX0 3 f fd ["upper", "lower"] spRouth := by
  refine F.ok sc_u_is_routh_positive (fun vs H Q E h => ?_) (fun cdv A outer s H vs Q E hr h => ?_)
  · obtain ⟨pu, pl, u, l, c, rfl, _⟩ := h
    rfl
  · obtain ⟨pu0, pl0, u0, l0, c0, rfl, hu0, hl0, hpre0, k⟩ := h
    refine ⟨_, (pss_cons (ps_while PassesOwn.never (pt_truth (pv 1) (by intro _; rfl)) (pss_cons (ps_if (pt_cmpR op_le (pe_ix (r := rIxL K) ix_list (pv 1) pe_int (fun _ _ => rfl)) pe_int (nomark _)) (pss_one (ps_ret pe_bl)) pss_nil)
  (pss_cons (ps_set (i := 2) sc_u_is_routh_positive.nd rfl (Or.inr rfl) (pe_op op_cat (pv 1) (pe_op op_rep (pe_lst (pa_cons pe_int pa_nil)) (pe_op op_sub (pe_callB (r := Evl.rLenS K) call_len_seq (by rfl) T.b_len (by decide +kernel) (pa_cons (pv 0) pa_nil)) (pe_callB (r := Evl.rLenS K) call_len_seq (by rfl) T.b_len (by decide +kernel) (pa_cons (pv 1) pa_nil))))))
  (pss_cons (ps_setLc (i := 3) (own := [("at", 4)]) (g := gName 4) (tt := tYes) rfl sc_u_is_routh_positive.nd rfl rfl (sw_true rfl rfl rfl (by decide +kernel)) (pi_range2 rfl T.b_range (pa_cons pe_int (pa_cons (pe_callB (r := Evl.rLenS K) call_len_seq (by rfl) T.b_len (by decide +kernel) (pa_cons (pv 0) pa_nil)) pa_nil))) (blkOk_by (own := [("at", 4)]) (N := ["upper", "lower", "padded", "below", "at"]) (sc := defScope s_u_is_routh_positive) (by decide +kernel)) (fun _ _ _ _ _ => pg_name (i := 4) sc_u_is_routh_positive.nd rfl (Or.inl rfl)) (fun _ _ _ _ _ => pts_nil) (fun _ _ _ _ _ => (pe_op op_sub (pe_op op_mulW (pe_ix (r := rIxL K) ix_list (pv 1) pe_int (fun _ _ => rfl)) (pe_ix (r := rIxL K) ix_list (pv 0) (pv 4) (fun _ _ => rfl))) (pe_op op_mulW (pe_ix (r := rIxL K) ix_list (pv 0) pe_int (fun _ _ => rfl)) (pe_ix (r := rIxL K) ix_list (pv 2) (pv 4) (fun _ _ => rfl))))))
  (pss_one (ps_asg (pe_tup (pa_cons (pv 1) (pa_cons (pe_callD d_u_with_small_numbers (hr.mono (by decide)) (pa_cons (pv 3) pa_nil)) pa_nil))) (pg_tup rfl (pgs_cons (pg_name (i := 0) sc_u_is_routh_positive.nd rfl (Or.inr rfl)) (pgs_cons (pg_name (i := 1) sc_u_is_routh_positive.nd rfl (Or.inr rfl)) pgs_nil)))))))))
  (pss_one (ps_ret pe_bl))), ?_⟩
    refine ⟨RouthW H (routh (u0.length + l0.length) u0 l0), ⟨_, pu0, pl0, u0, l0, c0, none, none, none, rfl, Ex.refl H, hu0, hl0, hpre0, rfl, rfl⟩, ?_⟩
    rintro m σ H1 ⟨pu, pl, u, l, c, v2, v3, v4, rfl, e1, hu, hl, hpre, hm, hres⟩
    have hsz := pre_small hpre
    refine ⟨_, rfl, !(l.map V.int).isEmpty, .inl ⟨_, SqL.of hl, rfl⟩, ?_⟩
    cases hle : l with
    | nil =>
      refine iteF ?_
      subst hle
      have : routh m u [] = true := by cases m <;> rfl
      rw [this] at hres
      refine (show Q (.bl true) H1 from ?_)
      rw [hres]
      exact k _ e1
    | cons l1 ls =>
      refine iteT ?_
      have hlpos : 0 < l.length := by rw [hle]; simp
      have hupos : 0 < u.length := by have := hpre.1; omega
      have hm1 : m = (m - 1) + 1 := by omega
      have hr1 : routh m u l = if l.getD 0 0 ≤ 0 then false else routh (m - 1) l (smallL (stepRow u l)) := by
        rw [hm1, routh, hle]
        simp
      refine ⟨fun σ' H' => ∃ m', m' < m ∧ RouthW H (routh (u0.length + l0.length) u0 l0) m' σ' H', fun _ _ q => q, ?_⟩
      refine ⟨_, rfl, pl, _, _, _, rfl, rfl, SqL.of hl, at_map0 hlpos, _, _, rfl, rfl, _, rfl, ?_⟩
      refine ite2 (fun q => ?_) (fun q => ?_)
      · rw [hr1, if_pos (of_decide_eq_true q)] at hres
        refine (show Q (.bl false) H1 from ?_)
        rw [hres]
        exact k _ e1
      · have hpos : ¬ l.getD 0 0 ≤ 0 := fun z => q (decide_eq_true z)
        rw [hr1, if_neg hpos] at hres
        refine ⟨_, rfl, by decide, fun pz hz => ?_⟩
        have x1 : Ex H1 (upd H1 pz (.lst [.int 0])) := Ex.new hz
        refine ⟨_, rfl, pu, _, rfl, .inl (SqL.of (x1 _ _ hu)), _, rfl, pl, _, rfl, .inl (SqL.of (x1 _ _ hl)), _, _, rfl, rfl, ?_⟩
        rw [List.length_map, List.length_map]
        refine ⟨pz, _, _, rfl, rfl, upd_same, by omega, by omega, ?_, fun pr hpr => ?_⟩
        · show 1 * _ ≤ sizeLine
          exact Nat.le_trans (by omega : _ ≤ 100) (by decide)
        generalize hk : ((u.length : Int) - (l.length : Int)).toNat = kz at hpr ⊢
        have hrep : (List.replicate kz [V.int 0]).flatten = (List.replicate kz (0 : Int)).map V.int := by
          rw [show [V.int 0] = [(0 : Int)].map V.int from rfl, rep_int, rep_zero]
        rw [hrep]
        have x2 := x1.trans (Ex.new hpr (o := .lst ((List.replicate kz (0 : Int)).map V.int)))
        refine ⟨pl, pr, _, _, rfl, rfl, x2 _ _ hl, upd_same, ?_, fun pp hpp => ?_⟩
        · rw [List.length_map, List.length_map, List.length_replicate]
          exact Nat.le_trans (by omega : _ ≤ 100) (by decide)
        rw [← List.map_append]
        have x3 := x2.trans (Ex.new hpp (o := .lst ((l ++ List.replicate kz (0 : Int)).map V.int)))
        have hpad : upd (upd (upd H1 pz (.lst [.int 0])) pr (.lst ((List.replicate kz (0 : Int)).map V.int))) pp (.lst ((l ++ List.replicate kz (0 : Int)).map V.int)) pp = some (.lst ((l ++ List.replicate kz (0 : Int)).map V.int)) := upd_same
        generalize upd (upd (upd H1 pz (.lst [.int 0])) pr (.lst ((List.replicate kz (0 : Int)).map V.int))) pp (.lst ((l ++ List.replicate kz (0 : Int)).map V.int)) = H3 at x3 hpad ⊢
        refine ⟨_, rfl, pu, _, rfl, .inl (SqL.of (x3 _ _ hu)), _, _, rfl, ?_⟩
        rw [List.length_map]
        refine ⟨⟨by decide, by decide, by omega, by omega⟩, fun D hD => ?_⟩
        have en : ((u.length : Int) - 1).toNat = u.length - 1 := by omega
        rw [en]
        refine lc_range (lo := 1) (n := u.length - 1) (fun i H' => Ex H3 H' ∧ H' D = some (.lst ((stepTo u l i).map V.int))) ⟨Ex.new hD, upd_same⟩ ?_ ?_
        · rintro i H' hi ⟨e, hD'⟩
          have ei : (1 : Int) + (i : Int) = ((i + 1 : Nat) : Int) := by omega
          rw [ei]
          refine ⟨rfl, ?_⟩
          have hu' := e _ _ (x3 _ _ hu)
          have hl' := e _ _ (x3 _ _ hl)
          have hp' := e _ _ hpad
          refine ⟨_, rfl, pl, _, _, _, rfl, rfl, SqL.of hl', at_map0 hlpos, ?_⟩
          refine ⟨_, rfl, _, rfl, pu, _, _, _, rfl, rfl, SqL.of hu', at_map (by omega), _, _, rfl, rfl, ?_, ?_⟩
          · exact wide_mul (a := c + 1) (b := c + 1) ((hpre.2.2.2.1.mono (by omega)).getD _) ((hpre.2.2.1.mono (by omega)).getD _) (by omega) (by omega) (by omega)
          refine ⟨_, rfl, pu, _, _, _, rfl, rfl, SqL.of hu', at_map0 hupos, ?_⟩
          refine ⟨_, rfl, _, rfl, pp, _, _, _, rfl, rfl, SqL.of hp', at_map (by rw [List.length_append, List.length_replicate]; omega), _, _, rfl, rfl, ?_, ?_⟩
          · rw [pad_getD]
            exact wide_mul (a := c + 1) (b := c + 1) ((hpre.2.2.1.mono (by omega)).getD _) ((hpre.2.2.2.1.mono (by omega)).getD _) (by omega) (by omega) (by omega)
          rw [pad_getD]
          refine ⟨_, _, rfl, rfl, _, hD', ?_, Ex.mut e hD, ?_⟩
          · rw [List.length_map]
            exact Nat.lt_of_le_of_lt (by simp [stepTo]; omega : _ ≤ 100) (by decide)
          · rw [upd_same, stepTo_succ, List.map_append]
            rfl
        · rintro H' ⟨e, hD'⟩
          have hu' := e _ _ (x3 _ _ hu)
          have hl' := e _ _ (x3 _ _ hl)
          have hst : stepTo u l (u.length - 1) = stepRow u l := rfl
          rw [hst] at hD'
          have hn := pre_next hlpos hpre
          refine ⟨_, rfl, _, rfl, D, _, rfl, SqL.of hD', ?_, ?_, fun ps Hs hps es hs => ?_⟩
          · rw [stepRow_len]; omega
          · have hb := gcdL_lt (stepRow_bd hpre.2.2.1 hpre.2.2.2.1)
            refine Nat.lt_of_lt_of_le hb (Nat.pow_le_pow_right (by decide) ?_)
            have h9 := hn.2.2.2.2
            have h1 : 1 ≤ 2 ^ (l.length + (smallL (stepRow u l)).length) := Nat.one_le_two_pow
            have h2 : (2 * c + 1 + 1) * 1 ≤ (2 * c + 1 + 1) * 2 ^ (l.length + (smallL (stepRow u l)).length) := Nat.mul_le_mul_left _ h1
            omega
          refine ⟨by show 2 ≤ sizeLine; decide, fun pt hpt => ?_⟩
          refine ⟨pt, _, rfl, SqT.of upd_same, rfl, ?_⟩
          refine ⟨_, _, rfl, _, _, rfl, rfl, ?_⟩
          refine ⟨m - 1, by omega, pl, ps, l, smallL (stepRow u l), 2 * c + 1, _, _, _, rfl, ?_, ?_, ?_, hn, ?_, hres⟩
          · exact ((e1.trans x3).trans (e.trans es)).trans (Ex.new hpt)
          · exact (Ex.new hpt) _ _ (es _ _ hl')
          · exact (Ex.new hpt) _ _ hs
          · rw [smallL_len, stepRow_len]; omega

def spLeft (K : PySem.W.Frag) : Sp := fun vs H Q _ => ∃ (a : Addr) (ns : List Int) (c : Nat), vs = [.ref a] ∧ SqT K H a (ns.map V.int) ∧ Pol ns ∧ ns ≠ [] ∧ Bd c ns ∧ (c + 1) * 2 ^ ns.length ≤ 9000 ∧
  ∀ H', Ex H H' → Q (.bl (leftB ns)) H'
theorem ok_has_left {f : Addr} {fd : FuncData} (F : Fun K "has_left_roots" "has_left_roots" s_has_left_roots f fd) (T : Txt mg tL tM)
    (d_u_is_routh_positive : Def P w K mg base "_is_routh_positive" 3 ["upper", "lower"] spRouth) : FnOk P w K mg base CX0 4 f fd ["polynomial"] (spLeft K) := by
  refine F.ok sc_has_left_roots (fun vs H Q E h => ?_) (fun cdv A outer s H vs Q E hr h => ?_)
  · obtain ⟨a, ns, c, rfl, _⟩ := h
    rfl
  · obtain ⟨a, ns, c, rfl, hS, hp, hne, hb, hc, k⟩ := h
    refine ⟨_, (pss_cons (ps_set (i := 1) sc_has_left_roots.nd rfl (Or.inl rfl) (pe_callTy (r := Evl.rListS K) call_list_of (by rfl) T.b_list (by decide +kernel) (pa_cons (pe_revT (pv 0)) pa_nil)))
  (pss_cons (ps_if (pt_cmpR op_lt (pe_ix (r := rIxL K) ix_list (pv 1) pe_int (fun _ _ => rfl)) pe_int (nomark _)) (pss_one (ps_setLc (i := 1) (own := [("coefficient", 2)]) (g := gName 2) (tt := tYes) rfl sc_has_left_roots.nd rfl rfl (sw_true rfl rfl rfl (by decide +kernel)) (pi_list (pv 1)) (blkOk_by (own := [("coefficient", 2)]) (N := ["polynomial", "falling", "coefficient"]) (sc := defScope s_has_left_roots) (by decide +kernel)) (fun _ _ _ _ _ => pg_name (i := 2) sc_has_left_roots.nd rfl (Or.inl rfl)) (fun _ _ _ _ _ => pts_nil) (fun _ _ _ _ _ => (pe_un un_neg (pv 2))))) pss_nil)
  (pss_one (ps_ret (pe_callD d_u_is_routh_positive (hr.mono (by decide)) (pa_cons (pe_stepL (pv 1) po_none po_none (by decide)) (pa_cons (pe_stepL (pv 1) (po_some pe_int) po_none (by decide)) pa_nil))))))), ?_⟩
    have hnp : 0 < ns.length := List.length_pos_iff.mpr hne
    have h13 := hp.1
    refine ⟨_, rfl, a, _, rfl, hS, fun p hp' => ?_⟩
    have x1 : Ex H _ := Ex.new hp' (o := .tup (ns.map V.int).reverse)
    refine ⟨p, _, rfl, .inr (SqT.of upd_same), fun l hl => ?_⟩
    have x2 := x1.trans (Ex.new hl (o := .lst (ns.map V.int).reverse))
    have hfl : upd (upd H p (.tup (ns.map V.int).reverse)) l (.lst (ns.map V.int).reverse) l = some (.lst (ns.reverse.map V.int)) := by rw [upd_same, List.map_reverse]
    generalize upd (upd H p (.tup (ns.map V.int).reverse)) l (.lst (ns.map V.int).reverse) = H2 at x2 hfl ⊢
    have fin : ∀ (H3 : Hp) (q : Addr) (v2 : Option V), Ex H H3 → H3 q = some (.lst ((fallN ns).map V.int)) → tRet (tCall spRouth [] E0 (tCons (tStepL K (tVar 1) tNoPart tNoPart 2) (tCons (tStepL K (tVar 1) (tPart (tC (.int 1))) tNoPart 2) tNil)))
        { nx := fun _ H' => Q .non H', rt := Q } [some (.ref a), some (.ref q), v2] H3 := by
      intro H3 q v2 e3 hq
      have el := evens_odds_len (fallN ns)
      rw [fallN_len] at el
      refine ⟨_, rfl, q, _, rfl, SqL.of hq, ?_, fun pe hpe => ?_⟩
      · rw [step_evens, evens_len]; omega
      rw [step_evens, evens_map]
      have y1 : Ex H3 (upd H3 pe (.lst ((evens (fallN ns)).map V.int))) := Ex.new hpe
      refine ⟨_, rfl, 1, rfl, q, _, rfl, SqL.of (y1 _ _ hq), ?_, fun po hpo => ?_⟩
      · rw [step_odds]; unfold odds; rw [evens_len, List.length_tail]; omega
      have eo : odds ((fallN ns).map V.int) = (odds (fallN ns)).map V.int := by
        unfold odds
        rw [← List.map_tail, evens_map]
      rw [step_odds, eo]
      have y2 := y1.trans (Ex.new hpo (o := .lst ((odds (fallN ns)).map V.int)))
      refine ⟨pe, po, evens (fallN ns), odds (fallN ns), c, rfl, ?_, upd_same, ⟨?_, ?_, evens_bd (fallN_bd hb), odds_bd (fallN_bd hb), ?_⟩, fun H' e' => ?_⟩
      · exact (Ex.new hpo) _ _ upd_same
      · unfold odds; rw [evens_len, evens_len, List.length_tail]; omega
      · unfold odds; rw [evens_len, evens_len, List.length_tail]; omega
      · rw [el]; exact hc
      · exact k _ ((e3.trans y2).trans e')
    have e0 : (ns.reverse.map V.int).length = ns.length := by simp
    refine ⟨_, rfl, l, _, _, _, rfl, rfl, SqL.of hfl, at_map0 (by rw [List.length_reverse]; exact hnp), _, _, rfl, rfl, _, rfl, ?_⟩
    refine ite2 (fun q => ?_) (fun q => ?_)
    · have hneg : ns.reverse.getD 0 0 < 0 := of_decide_eq_true q
      refine ⟨_, rfl, l, rfl, ⟨_, SqL.of hfl⟩, fun D hD => lc_list (K := K) (a := l) (xs := ns.reverse.map V.int) (fun i H' => Ex H2 H' ∧ H' D = some (.lst (((ns.reverse.take i).map fun z => -z).map V.int))) ⟨Ex.new hD, upd_same⟩ (fun i H' _ p => SqL.of (p.1 _ _ hfl)) ?_ ?_⟩
      · rintro i x H' hi ⟨e, hD'⟩
        obtain ⟨n, hn, rfl⟩ := map_int_get hi
        refine ⟨rfl, ?_⟩
        refine ⟨_, rfl, _, rfl, _, hD', ?_, Ex.mut e hD, ?_⟩
        · have := (List.getElem?_eq_some_iff.mp hn).1
          rw [List.length_reverse] at this
          exact Nat.lt_of_le_of_lt (by simp; omega : _ ≤ 100) (by decide)
        · rw [upd_same, List.take_add_one, hn]
          simp
      · rintro H' ⟨e, hD'⟩
        rw [List.length_map, List.take_length] at hD'
        refine fin H' D none (x2.trans e) ?_
        rw [hD', fallN, if_pos hneg]
    · have hneg : ¬ ns.reverse.getD 0 0 < 0 := fun z => q (decide_eq_true z)
      refine fin H2 l none x2 ?_
      rw [hfl, fallN, if_neg hneg]
theorem ok_is_left {f : Addr} {fd : FuncData} (F : Fun K "is_left" "is_left" s_is_left f fd) (d_u_check_not_zero : Def P w K mg base "_check_not_zero" 5 ["polynomial"] (spNotZero K))
    (d_has_left_roots : Def P w K mg base "has_left_roots" 4 ["polynomial"] (spLeft K)) : FnOk P w K mg base CX0 6 f fd ["polynomial"] (spLeft K) := by
  refine F.ok sc_is_left (fun vs H Q E h => ?_) (fun cdv A outer s H vs Q E hr h => ?_)
  · obtain ⟨a, ns, c, rfl, _⟩ := h
    rfl
  · obtain ⟨a, ns, c, rfl, hS, hp, hne, hb, hc, k⟩ := h
    refine ⟨_, (pss_cons (ps_expr (pe_callD d_u_check_not_zero (hr.mono (by decide)) (pa_cons (pv 0) pa_nil)))
  (pss_one (ps_ret (pe_callD d_has_left_roots (hr.mono (by decide)) (pa_cons (pv 0) pa_nil))))), ?_⟩
    exact ⟨_, rfl, a, ns, rfl, hS, hp, hne, fun H1 e1 => ⟨_, rfl, a, ns, c, rfl, ex_t e1 hS, hp, hne, hb, hc, fun H2 e2 => k _ (e1.trans e2)⟩⟩
end
end Coil

set_option Elab.async false
set_option linter.all false
set_option maxRecDepth 100000
set_option maxHeartbeats 4000000
namespace Coil
open PySem L2 Evl
theorem upd_id {H : Hp} {r : Addr} {o : HO} (h : H r = some o) : upd H r o = H := by
  funext b
  by_cases e : b = r
  · subst e; rw [upd_same, h]
  · rw [upd_ne e]
theorem seq_upd {K : PySem.W.Frag} {H : Hp} {a r : Addr} {ns : List Int} {o u : HO} (hr : H r = some (RowO a r)) (h : SqL K H a (ns.map V.int)) : SqL K (upd H r u) a (ns.map V.int) := by
  rcases h with (h | ⟨ob, h⟩) | h
  · have ne : a ≠ r := ne_of h hr (by intro z; cases z)
    exact .inl (.inl (by rw [upd_ne ne]; exact h))
  · have ne : a ≠ r := ne_of h hr (by intro z; cases z)
    exact .inl (.inr ⟨ob, by rw [upd_ne ne]; exact h⟩)
  · exact .inr h
section
variable {P : Program} {w : World} {K : PySem.W.Frag} {mg : Str → Option Value} {base : Heap} {tL tM : Tok}
/-! ### the law's draws -/
def spTaken (K : PySem.W.Frag) : Sp := fun vs H Q _ => ∃ (r a : Addr) (ns : List Int) (m : Int), vs = [.ref r, .int m] ∧ H r = some (RowO a r) ∧ SqL K H a (ns.map V.int) ∧ 0 < m ∧ m ≤ 1000 ∧ ∀ k : Int, 0 ≤ k → k < m → Q (.int k) H
theorem ok_taken {f : Addr} {fd : FuncData} (F : Fun K "_law_taken" "_law_taken" s_u_law_taken f fd) (T : Txt mg tL tM) : FnOk P w K mg base CX0 1 f fd ["row", "many"] (spTaken K) := by
  refine F.ok sc_u_law_taken (fun vs H Q E h => ?_) (fun cdv A outer s H vs Q E hr h => ?_)
  · obtain ⟨r, a, ns, m, rfl, _⟩ := h
    rfl
  · obtain ⟨r, a, ns, m, rfl, hR, hS, hm, hm2, k⟩ := h
    refine ⟨_, pss_view (a := a) (r := r) (pss_cons (ps_if (pt_cmpR op_gt (pe_ix (r := rIxL K) ix_list (pv 0) pe_int (fun _ _ => rfl)) pe_int (nomark _)) (pss_cons (ps_set (i := 3) sc_u_law_taken.nd rfl (Or.inl rfl) (pe_op op_mod (pe_callTy call_int1 (by rfl) T.b_int (by decide +kernel) (pa_cons (pe_ix (r := rIxL K) ix_list (pv 0) pe_int (fun _ _ => rfl)) pa_nil)) (pv 1)))
  (pss_cons (ps_asg (pe_op op_fdivW (pe_ix (r := rIxL K) ix_list (pv 0) pe_int (fun _ _ => rfl)) (pv 1)) (pg_sub (pv 0) pe_int set_list))
  (pss_one (ps_ret (pv 3))))) pss_nil)
  (pss_cons (ps_asg (pe_op op_add (pe_ix (r := rIxL K) ix_list (pv 0) pe_int (fun _ _ => rfl)) pe_int) (pg_sub (pv 0) pe_int set_list))
  (pss_cons (ps_if (pt_cmpR op_gt (pe_ix (r := rIxL K) ix_list (pv 0) pe_int (fun _ _ => rfl)) (pe_callB (r := Evl.rLenS K) call_len_seq (by rfl) T.b_len (by decide +kernel) (pa_cons (pe_ix (r := rIxL K) ix_list (pv 0) pe_int (fun _ _ => rfl)) pa_nil)) (nomark _)) (pss_cons (ps_asg (pe_op op_mod (pe_callTy call_int1 (by rfl) T.b_int (by decide +kernel) (pa_cons (pe_op op_add (pe_op op_mulW (pe_ix (r := rIxL K) ix_list (pv 0) pe_int (fun _ _ => rfl)) pe_int) pe_int) pa_nil)) pe_int) (pg_sub (pv 0) pe_int set_list))
  (pss_one (ps_ret (pe_op op_mod (pe_callTy call_int1 (by rfl) T.b_int (by decide +kernel) (pa_cons (pe_op op_fdivW (pe_ix (r := rIxL K) ix_list (pv 0) pe_int (fun _ _ => rfl)) pe_int) pa_nil)) (pv 1))))) pss_nil)
  (pss_cons (ps_set (i := 2) sc_u_law_taken.nd rfl (Or.inl rfl) (pe_ix (r := rIxL K) ix_list (pe_ix (r := rIxL K) ix_list (pv 0) pe_int (fun _ _ => rfl)) (pe_op op_sub (pe_ix (r := rIxL K) ix_list (pv 0) pe_int (fun _ _ => rfl)) pe_int) (fun _ _ => rfl)))
  (pss_cons (ps_asg (pe_op op_mod (pe_callTy call_int1 (by rfl) T.b_int (by decide +kernel) (pa_cons (pe_op op_add (pe_op op_add (pe_op op_mulW (pe_ix (r := rIxL K) ix_list (pv 0) pe_int (fun _ _ => rfl)) pe_int) (pv 2)) pe_int) pa_nil)) pe_int) (pg_sub (pv 0) pe_int set_list))
  (pss_cons (ps_if (pt_cmpR op_ge (pv 2) (pe_op op_pow pe_int pe_int) (nomark _)) (pss_one (ps_asg (pe_op op_fdivW (pv 2) (pv 1)) (pg_sub (pv 0) pe_int set_list))) pss_nil)
  (pss_one (ps_ret (pe_op op_mod (pe_callTy call_int1 (by rfl) T.b_int (by decide +kernel) (pa_cons (pv 2) pa_nil)) (pv 1)))))))))), ?_⟩
    refine ⟨hR, fun n z b hn hz0 hz1 hb => ?_⟩
    have dm : CDivW b m := wide_div (b := 64) hm (by omega) (by decide) (by decide)
    have hS1 : ∀ u, SqL K (upd H r u) a (ns.map V.int) := fun u => seq_upd (o := u) hR hS
    refine ⟨_, rfl, r, _, _, _, rfl, rfl, SqL.of upd_same, rfl, _, _, rfl, rfl, _, rfl, ?_⟩
    refine ite2 (fun _ => ?_) (fun _ => ?_)
    · refine ⟨_, rfl, r, _, _, _, rfl, rfl, SqL.of upd_same, rfl, .inl ⟨_, rfl, ?_⟩⟩
      refine ⟨_, rfl, _, _, rfl, rfl, hm, ?_⟩
      refine ⟨_, rfl, r, _, _, _, rfl, rfl, SqL.of upd_same, rfl, _, rfl, _, _, rfl, rfl, dm, ?_⟩
      refine ⟨_, rfl, r, _, _, 3, rfl, rfl, upd_same, rfl, ?_⟩
      refine ⟨_, rfl, n, z, b / m, hn, hz0, hz1, Int.ediv_nonneg hb (by omega), upd_same, ?_⟩
      rw [upd_upd, upd_upd, upd_id hR]
      exact k _ (Int.emod_nonneg _ (by omega)) (Int.emod_lt_of_pos _ hm)
    · refine ⟨_, rfl, r, _, _, _, rfl, rfl, SqL.of upd_same, rfl, _, _, rfl, rfl, ?_⟩
      refine ⟨_, rfl, r, _, _, 1, rfl, rfl, upd_same, rfl, ?_⟩
      rw [upd_upd]
      refine ⟨_, rfl, r, _, _, _, rfl, rfl, SqL.of upd_same, rfl, ?_⟩
      refine ⟨_, rfl, r, _, _, _, rfl, rfl, SqL.of upd_same, rfl, a, _, rfl, .inl (hS1 _), _, _, rfl, rfl, _, rfl, ?_⟩
      have hx : ∀ x : Int, 0 ≤ x % 2147483647 ∧ x % 2147483647 < 2147483647 := fun x => ⟨Int.emod_nonneg _ (by decide), Int.emod_lt_of_pos _ (by decide)⟩
      have mz : CMulW z 48271 := wide_mul (a := 64) (b := 64) (by omega) (by decide) (by decide) (by decide) (by decide)
      refine ite2 (fun _ => ?_) (fun hlen => ?_)
      · refine ⟨_, rfl, r, _, _, _, rfl, rfl, SqL.of upd_same, rfl, _, _, rfl, rfl, mz, ?_⟩
        refine ⟨_, _, rfl, rfl, .inl ⟨_, rfl, _, _, rfl, rfl, (by show (0 : Int) < 2147483647; decide), ?_⟩⟩
        refine ⟨_, rfl, r, _, _, 2, rfl, rfl, upd_same, rfl, ?_⟩
        rw [upd_upd]
        refine ⟨_, rfl, r, _, _, _, rfl, rfl, SqL.of upd_same, rfl, _, _, rfl, rfl, wide_div (b := 64) (by decide) (by decide) (by decide) (by decide), .inl ⟨_, rfl, _, rfl, _, _, rfl, rfl, hm, ?_⟩⟩
        refine ⟨n + 1, _, b, by omega, (hx _).1, (hx _).2, hb, upd_same, ?_⟩
        rw [upd_upd, upd_id hR]
        exact k _ (Int.emod_nonneg _ (by omega)) (Int.emod_lt_of_pos _ hm)
      · have hlen' : n + 1 ≤ ((ns.map V.int).length : Int) := by
          have : ¬ (((ns.map V.int).length : Nat) : Int) < n + 1 := fun q => hlen (decide_eq_true q)
          omega
        rw [List.length_map] at hlen'
        have hj : n.toNat < ns.length := by omega
        have ej : n + 1 - 1 = ((n.toNat : Nat) : Int) := by omega
        refine ⟨_, rfl, r, _, _, _, rfl, rfl, SqL.of upd_same, rfl, ?_⟩
        refine ⟨_, rfl, r, _, _, _, rfl, rfl, SqL.of upd_same, rfl, _, _, rfl, rfl, ?_⟩
        refine ⟨a, _, _, _, rfl, rfl, hS1 _, (by rw [ej]; exact at_map hj), ?_⟩
        generalize ns.getD n.toNat 0 = cell
        refine ⟨_, rfl, r, _, _, _, rfl, rfl, SqL.of upd_same, rfl, _, _, rfl, rfl, mz, ?_⟩
        refine ⟨_, rfl, _, _, rfl, rfl, _, _, rfl, rfl, .inl ⟨_, rfl, _, _, rfl, rfl, (by show (0 : Int) < 2147483647; decide), ?_⟩⟩
        refine ⟨_, rfl, r, _, _, 2, rfl, rfl, upd_same, rfl, ?_⟩
        rw [upd_upd]
        refine ⟨_, rfl, _, _, rfl, rfl, ⟨by decide, by decide, by decide⟩, _, _, rfl, rfl, _, rfl, ?_⟩
        refine ite2 (fun hc => ?_) (fun _ => ?_)
        · have hc' : (10 : Int) ^ (18 : Int).toNat ≤ cell := of_decide_eq_true hc
          have h18 : (0 : Int) ≤ 10 ^ (18 : Int).toNat := by decide
          refine ⟨_, rfl, _, rfl, _, _, rfl, rfl, wide_div (b := 64) hm (by omega) (by decide) (by decide), ?_⟩
          refine ⟨_, rfl, r, _, _, 3, rfl, rfl, upd_same, rfl, ?_⟩
          rw [upd_upd]
          refine ⟨_, rfl, .inl ⟨_, rfl, _, rfl, _, _, rfl, rfl, hm, ?_⟩⟩
          refine ⟨n + 1, _, cell / m, by omega, (hx _).1, (hx _).2, Int.ediv_nonneg (by omega) (by omega), upd_same, ?_⟩
          rw [upd_upd, upd_id hR]
          exact k _ (Int.emod_nonneg _ (by omega)) (Int.emod_lt_of_pos _ hm)
        · refine ⟨_, rfl, .inl ⟨_, rfl, _, rfl, _, _, rfl, rfl, hm, ?_⟩⟩
          refine ⟨n + 1, _, b, by omega, (hx _).1, (hx _).2, hb, upd_same, ?_⟩
          rw [upd_upd, upd_id hR]
          exact k _ (Int.emod_nonneg _ (by omega)) (Int.emod_lt_of_pos _ hm)

def spPick (K : PySem.W.Frag) : Sp := fun vs H Q _ => ∃ (r a t : Addr) (ns : List Int) (xs : List V), vs = [.ref r, .ref t] ∧ H r = some (RowO a r) ∧ SqL K H a (ns.map V.int) ∧ SqL K H t xs ∧ 0 < xs.length ∧ xs.length ≤ 1000 ∧ ∀ (i : Nat) (v : V), xs[i]? = some v → Q v H
theorem ok_pick {f : Addr} {fd : FuncData} (F : Fun K "_law_pick" "_law_pick" s_u_law_pick f fd) (T : Txt mg tL tM) (d_u_law_taken : Def P w K mg base "_law_taken" 1 ["row", "many"] (spTaken K)) : FnOk P w K mg base CX0 2 f fd ["row", "things"] (spPick K) := by
  refine F.ok sc_u_law_pick (fun vs H Q E h => ?_) (fun cdv A outer s H vs Q E hr h => ?_)
  · obtain ⟨r, a, t, ns, xs, rfl, _⟩ := h
    rfl
  · obtain ⟨r, a, t, ns, xs, rfl, hR, hS, hT, h0, h1, k⟩ := h
    refine ⟨_, (pss_one (ps_ret (pe_ix (r := rIxL K) ix_list (pv 1) (pe_callD d_u_law_taken (hr.mono (by decide)) (pa_cons (pv 0) (pa_cons (pe_callB (r := Evl.rLenS K) call_len_seq (by rfl) T.b_len (by decide +kernel) (pa_cons (pv 1) pa_nil)) pa_nil))) (fun _ _ => rfl)))), ?_⟩
    refine ⟨_, rfl, _, rfl, _, rfl, t, _, rfl, .inl hT, r, a, ns, _, rfl, hR, hS, by omega, by omega, fun i hi hi2 => ?_⟩
    obtain ⟨j, rfl⟩ : ∃ j : Nat, i = (j : Int) := ⟨i.toNat, by omega⟩
    have e : xs[j]? = some (xs[j]'(by omega)) := List.getElem?_eq_getElem _
    exact ⟨t, _, _, _, rfl, rfl, hT, atI_nat e, k _ _ e⟩
def spIs : Sp := fun vs H Q _ => ∃ f d : Bool, vs = [.bl f, .bl d] ∧ Q (.bl (f == d)) H
theorem ok_is {f : Addr} {fd : FuncData} (F : Fun K "_law_is" "_law_is" s_u_law_is f fd) (T : Txt mg tL tM) : FnOk P w K mg base CX0 1 f fd ["found", "due"] spIs := by
  refine F.ok sc_u_law_is (fun vs H Q E h => ?_) (fun cdv A outer s H vs Q E hr h => ?_)
  · obtain ⟨b, d, rfl, _⟩ := h
    rfl
  · obtain ⟨b, d, rfl, k⟩ := h
    refine ⟨_, (pss_one (ps_ret (pe_and (pe_callB (r := rIsi K) call_isi (by rfl) T.b_isinstance (by decide +kernel) (pa_cons (pv 0) (pa_cons (pe_bltn (v := .ty "bool") (by rfl) T.b_bool (by decide +kernel) rfl) pa_nil))) (pe_one (pe_cmpR op_eq (pv 0) (pv 1) (nomark _)))))), ?_⟩
    refine ⟨_, rfl, _, _, _, _, true, rfl, ClsV.ty _, TyX.base (TyOf.bl b), kit_ty (by decide +kernel), true, rfl, ?_⟩
    refine iteT ?_
    refine ⟨_, rfl, _, rfl, rfl, ?_⟩
    have e : decide (V.bl b = V.bl d) = (b == d) := by cases b <;> cases d <;> rfl
    rw [e]
    exact k
/-! ### the law's polynomials -/
def spTrim (K : PySem.W.Frag) : Sp := fun vs H Q _ => ∃ (a : Addr) (ns : List Int), vs = [.ref a] ∧ SqL K H a (ns.map V.int) ∧ ns.length ≤ 1000 ∧ ∀ p H', H p = none → Ex H H' → H' p = some (.tup ((trimL ns).map V.int)) → Q (.ref p) H'
theorem ok_trim {f : Addr} {fd : FuncData} (F : Fun K "_law_trim" "_law_trim" s_u_law_trim f fd) (T : Txt mg tL tM) : FnOk P w K mg base CX0 1 f fd ["some"] (spTrim K) := by
  refine F.ok sc_u_law_trim (fun vs H Q E h => ?_) (fun cdv A outer s H vs Q E hr h => ?_)
  · obtain ⟨a, ns, rfl, _⟩ := h
    rfl
  · obtain ⟨a, ns, rfl, hS, hlen, k⟩ := h
    refine ⟨_, (pss_cons (ps_set (i := 1) sc_u_law_trim.nd rfl (Or.inl rfl) (pe_callB (r := Evl.rLenS K) call_len_seq (by rfl) T.b_len (by decide +kernel) (pa_cons (pv 0) pa_nil)))
  (pss_cons (ps_for PassesOwn.never rfl (pi_range1 rfl T.b_range (pa_cons (pe_callB (r := Evl.rLenS K) call_len_seq (by rfl) T.b_len (by decide +kernel) (pa_cons (pv 0) pa_nil)) pa_nil)) (pg_name (i := 2) sc_u_law_trim.nd rfl (Or.inl rfl)) (pss_one (ps_if (PW.pt (pw_and (pt_cmpR op_gt (pv 1) pe_int (nomark _)) (pw_and1 (pt_cmpR op_eq (pe_ix (r := rIxL K) ix_list (pv 0) (pe_op op_sub (pv 1) pe_int) (fun _ _ => rfl)) pe_int (nomark _))))) (pss_one (ps_set (i := 1) sc_u_law_trim.nd rfl (Or.inl rfl) (pe_op op_sub (pv 1) pe_int))) pss_nil)))
  (pss_one (ps_ret (pe_callTy call_tuple_of (by rfl) T.b_tuple (by decide +kernel) (pa_cons (pe_slice (r := rSlL K) sl_list (pv 0) po_none (po_some (pv 1))) pa_nil)))))), ?_⟩
    refine ⟨_, rfl, a, _, rfl, .inl hS, _, rfl, a, _, rfl, .inl hS, ?_⟩
    rw [List.length_map]
    refine ⟨_, rfl, by omega, by omega, for_range (lo := 0) (n := ns.length) (fun i σ H' => H' = H ∧ ∃ (v : Option V), σ = [some (.ref a), some (.int ((trimTo ns i : Nat) : Int)), v]) ⟨rfl, none, rfl⟩ ?_ ?_⟩
    · rintro i σ H' hi ⟨rfl, v, rfl⟩
      refine ⟨_, rfl, _, _, rfl, rfl, _, rfl, ?_⟩
      have ht := trimTo_le ns i
      by_cases h0 : 0 < trimTo ns i
      · rw [decide_eq_true (by omega : (0 : Int) < ((trimTo ns i : Nat) : Int))]
        refine iteT ?_
        have ej : ((trimTo ns i : Nat) : Int) - 1 = ((trimTo ns i - 1 : Nat) : Int) := by omega
        refine ⟨_, rfl, _, rfl, _, _, rfl, rfl, a, _, _, _, rfl, rfl, hS, (by rw [ej]; exact at_map (by omega)), rfl, _, rfl, ?_⟩
        refine ite2 (fun q => ?_) (fun q => ?_)
        · have hz : ns.getD (trimTo ns i - 1) 0 = 0 := V.int.inj (of_decide_eq_true q)
          refine ⟨_, rfl, _, _, rfl, rfl, ?_⟩
          refine ⟨rfl, some (.int ((0 : Int) + (i : Int))), ?_⟩
          show [some (V.ref a), some (V.int (((trimTo ns i : Nat) : Int) - 1)), some (V.int ((0 : Int) + (i : Int)))] = _
          rw [ej, trimTo_zero h0 hz]
        · have hz : ¬ ns.getD (trimTo ns i - 1) 0 = 0 := fun z => q (decide_eq_true (by rw [z]))
          refine ⟨rfl, some (.int ((0 : Int) + (i : Int))), ?_⟩
          rw [trimTo_same (.inr hz)]
          rfl
      · rw [decide_eq_false (by omega : ¬ (0 : Int) < ((trimTo ns i : Nat) : Int))]
        refine iteF (iteF ?_)
        refine ⟨rfl, some (.int ((0 : Int) + (i : Int))), ?_⟩
        rw [trimTo_same (.inl (by omega))]
        rfl
    · rintro σ H' ⟨rfl, v, rfl⟩
      have ht := trimTo_le ns ns.length
      refine ⟨_, rfl, _, rfl, _, rfl, a, _, rfl, hS, fun p hp => ?_⟩
      have ec : cutV (ns.map V.int) none (some ((trimTo ns ns.length : Nat) : Int)) = (trimL ns).map V.int := by
        unfold cutV
        rw [HT.sIx_none, HT.sIx_nat, List.length_map, List.drop_zero, Nat.sub_zero, Nat.min_eq_left ht, ← List.map_take]
        rfl
      rw [ec]
      have x1 : Ex H' (upd H' p (.lst ((trimL ns).map V.int))) := Ex.new hp
      refine ⟨p, _, rfl, .inl ⟨SqL.of upd_same, fun l hl => ?_⟩⟩
      exact k l _ (fresh_back x1 hl) (x1.trans (Ex.new hl)) upd_same

def spTimes (K : PySem.W.Frag) : Sp := fun vs H Q _ => ∃ (a b : Addr) (ns ms : List Int), vs = [.ref a, .ref b] ∧ SqT K H a (ns.map V.int) ∧ SqT K H b (ms.map V.int) ∧ ns.length ≤ 100 ∧ ms.length ≤ 100 ∧ BdA (2 ^ 60) ns ∧ BdA (2 ^ 60) ms ∧
  ∀ p H', H p = none → Ex H H' → H' p = some (.tup ((mulL ns ms).map V.int)) → Q (.ref p) H'
theorem ok_times {f : Addr} {fd : FuncData} (F : Fun K "_law_times" "_law_times" s_u_law_times f fd) (T : Txt mg tL tM) (d_u_law_trim : Def P w K mg base "_law_trim" 1 ["some"] (spTrim K)) : FnOk P w K mg base CX0 2 f fd ["one", "other"] (spTimes K) := by
  refine F.ok sc_u_law_times (fun vs H Q E h => ?_) (fun cdv A outer s H vs Q E hr h => ?_)
  · obtain ⟨a, b, ns, ms, rfl, _⟩ := h
    rfl
  · obtain ⟨a, b, ns, ms, rfl, hA, hB, hn, hm, hbd, hbd2, k⟩ := h
    refine ⟨_, (pss_cons (ps_if (PW.pt (pw_or (pt_cmpR (r := rEqD K) (op_eqD hr.units) (pv 0) (pe_tup pa_nil) (nomark _)) (pw_or1 (pt_cmpR (r := rEqD K) (op_eqD hr.units) (pv 1) (pe_tup pa_nil) (nomark _))))) (pss_one (ps_ret (pe_tup pa_nil))) pss_nil)
  (pss_cons (ps_set (i := 2) sc_u_law_times.nd rfl (Or.inl rfl) (pe_op op_rep (pe_lst (pa_cons pe_int pa_nil)) (pe_op op_sub (pe_op op_add (pe_callB (r := Evl.rLenS K) call_len_seq (by rfl) T.b_len (by decide +kernel) (pa_cons (pv 0) pa_nil)) (pe_callB (r := Evl.rLenS K) call_len_seq (by rfl) T.b_len (by decide +kernel) (pa_cons (pv 1) pa_nil))) pe_int)))
  (pss_cons (ps_for PassesOwn.never rfl (pi_range1 rfl T.b_range (pa_cons (pe_callB (r := Evl.rLenS K) call_len_seq (by rfl) T.b_len (by decide +kernel) (pa_cons (pv 0) pa_nil)) pa_nil)) (pg_name (i := 3) sc_u_law_times.nd rfl (Or.inl rfl)) (pss_one (ps_for PassesOwn.never rfl (pi_range1 rfl T.b_range (pa_cons (pe_callB (r := Evl.rLenS K) call_len_seq (by rfl) T.b_len (by decide +kernel) (pa_cons (pv 1) pa_nil)) pa_nil)) (pg_name (i := 4) sc_u_law_times.nd rfl (Or.inl rfl)) (pss_one (ps_asg (pe_op op_add (pe_ix (r := rIxL K) ix_list (pv 2) (pe_op op_add (pv 3) (pv 4)) (fun _ _ => rfl)) (pe_op op_mulW (pe_ix (r := rIxT K) ix_tup (pv 0) (pv 3) (fun _ _ => rfl)) (pe_ix (r := rIxT K) ix_tup (pv 1) (pv 4) (fun _ _ => rfl)))) (pg_sub (pv 2) (pe_op op_add (pv 3) (pv 4)) set_list))))))
  (pss_one (ps_ret (pe_callD d_u_law_trim (hr.mono (by decide)) (pa_cons (pv 2) pa_nil))))))), ?_⟩
    have fin0 : (ns = [] ∨ ms = []) → ∀ H1, Ex H H1 → tRet (tTup tNil) { nx := fun _ H' => Q .non H', rt := Q } [some (.ref a), some (.ref b), none, none, none] H1 := by
      intro h0 H1 e1
      refine ⟨Nat.zero_le _, fun p hp => ?_⟩
      refine k p _ (fresh_back e1 hp) (e1.trans (Ex.new hp)) ?_
      rw [upd_same, mulL, if_pos h0]; rfl
    refine ⟨_, rfl, Nat.zero_le _, fun p1 hp1 => ?_⟩
    have x1 : Ex H (upd H p1 (.tup [])) := Ex.new hp1
    refine ⟨_, _, dp_tup (ex_t x1 hA), dp_tup (ns := []) (SqT.of upd_same), shaped_ints _, shaped_ints [], _, rfl, ?_⟩
    rw [eqv_tups]
    by_cases hn0 : ns = []
    · rw [decide_eq_true hn0]
      exact iteT (iteT (fin0 (.inl hn0) _ x1))
    rw [decide_eq_false hn0]
    refine iteF ?_
    refine ⟨_, rfl, Nat.zero_le _, fun p2 hp2 => ?_⟩
    have x2 := x1.trans (Ex.new hp2 (o := .tup []))
    refine ⟨_, _, dp_tup (ex_t x2 hB), dp_tup (ns := []) (SqT.of upd_same), shaped_ints _, shaped_ints [], _, rfl, ?_⟩
    rw [eqv_tups]
    by_cases hm0 : ms = []
    · rw [decide_eq_true hm0]
      exact iteT (fin0 (.inr hm0) _ x2)
    rw [decide_eq_false hm0]
    refine iteF ?_
    have hnl : 0 < ns.length := List.length_pos_iff.mpr hn0
    have hml : 0 < ms.length := List.length_pos_iff.mpr hm0
    generalize upd (upd H p1 (.tup [])) p2 (.tup []) = H2 at x2
    refine ⟨by decide, fun pz hz => ?_⟩
    have x3 := x2.trans (Ex.new hz (o := .lst [.int 0]))
    refine ⟨_, rfl, a, _, rfl, .inr (ex_t x3 hA), _, rfl, b, _, rfl, .inr (ex_t x3 hB), _, _, rfl, rfl, _, _, rfl, rfl, ?_⟩
    rw [List.length_map, List.length_map]
    refine ⟨pz, _, _, rfl, rfl, upd_same, by omega, by omega, ?_, fun fa hfa => ?_⟩
    · show 1 * _ ≤ sizeLine
      exact Nat.le_trans (by omega : _ ≤ 1000) (by decide)
    have ek : ((ns.length : Int) + (ms.length : Int) - 1).toNat = ns.length + ms.length - 1 := by omega
    have hrep : (List.replicate ((ns.length : Int) + (ms.length : Int) - 1).toNat [V.int 0]).flatten = (cvL ns ms 0 0).map V.int := by
      rw [ek, cvL_zero, show [V.int 0] = [(0 : Int)].map V.int from rfl, rep_int, rep_zero]
    rw [hrep]
    have f0 : H fa = none := fresh_back x3 hfa
    have x4 : Ex H (upd (upd H2 pz (.lst [.int 0])) fa (.lst ((cvL ns ms 0 0).map V.int))) := x3.trans (Ex.new hfa)
    refine ⟨_, rfl, a, _, rfl, .inr (ex_t x4 hA), ?_⟩
    rw [List.length_map]
    refine ⟨_, rfl, by omega, by omega, for_range (lo := 0) (n := ns.length) (fun i σ H' => ∃ v3 v4 : Option V, σ = [some (.ref a), some (.ref b), some (.ref fa), v3, v4] ∧ Ex H H' ∧ H' fa = some (.lst ((cvL ns ms i 0).map V.int))) ⟨none, none, rfl, x4, upd_same⟩ ?_ ?_⟩
    · rintro i σ H3 hi ⟨v3, v4, rfl, e3, hf⟩
      refine ⟨_, rfl, b, _, rfl, .inr (ex_t e3 hB), ?_⟩
      rw [List.length_map]
      refine ⟨_, rfl, by omega, by omega, for_range (lo := 0) (n := ms.length) (fun j σ H' => ∃ v4 : Option V, σ = [some (.ref a), some (.ref b), some (.ref fa), some (.int (i : Int)), v4] ∧ Ex H H' ∧ H' fa = some (.lst ((cvL ns ms i j).map V.int))) ⟨v4, by simp [List.set], e3, hf⟩ ?_ ?_⟩
      · rintro j σ H4 hj ⟨v4', rfl, e4, hf4⟩
        have ij : (i : Int) + ((0 : Int) + (j : Int)) = ((i + j : Nat) : Int) := by omega
        have ej : (0 : Int) + (j : Int) = ((j : Nat) : Int) := by omega
        have hlen : i + j < (cvL ns ms i j).length := by rw [cvL_len]; omega
        refine ⟨_, rfl, _, rfl, _, rfl, _, _, rfl, rfl, fa, _, _, _, rfl, rfl, SqL.of hf4, (by rw [ij]; exact at_map hlen), ?_⟩
        refine ⟨_, rfl, _, rfl, a, _, _, _, rfl, rfl, ex_t e4 hA, at_map (by omega), ?_⟩
        refine ⟨_, rfl, _, rfl, b, _, _, _, rfl, rfl, ex_t e4 hB, (by rw [ej]; exact at_map (by omega)), ?_⟩
        refine ⟨_, _, rfl, rfl, ?_, _, _, rfl, rfl, ?_⟩
        · exact wide_mul (a := 61) (b := 61) (Nat.lt_of_le_of_lt (hbd.co i) (by decide)) (Nat.lt_of_le_of_lt (hbd2.co j) (by decide)) (by decide) (by decide) (by decide)
        refine ⟨_, rfl, _, rfl, _, rfl, _, _, rfl, rfl, ?_⟩
        refine ⟨fa, _, _, i + j, rfl, rfl, hf4, (by rw [ij]; exact ixN_nat (by rw [List.length_map]; exact hlen)), ?_⟩
        refine ⟨some (.int (j : Int)), by simp [List.set], Ex.mut e4 f0, ?_⟩
        rw [upd_same]
        show some (HO.lst (((cvL ns ms i j).map V.int).set (i + j) (V.int ((cvL ns ms i j).getD (i + j) 0 + ns.getD i 0 * ms.getD j 0)))) = _
        rw [← List.map_set]
        have := cvL_set hi hj
        unfold co at this
        rw [this]
      · rintro σ H4 ⟨v4', rfl, e4, hf4⟩
        refine ⟨_, v4', rfl, e4, ?_⟩
        rw [hf4, cvL_row]
    · rintro σ H3 ⟨v3, v4, rfl, e3, hf⟩
      rw [cvL_all] at hf
      refine ⟨_, rfl, fa, _, rfl, SqL.of hf, ?_, fun p H' hp e hp' => ?_⟩
      · rw [conv_len]; omega
      · refine k p H' (fresh_back e3 hp) (e3.trans e) ?_
        rw [hp', mulL, if_neg (by rintro (z | z) <;> contradiction)]
def spPoly (K : PySem.W.Frag) : Sp := fun vs H Q _ => ∃ (r a : Addr) (ns : List Int) (m z : Int), vs = [.ref r, .int m, .int z] ∧ H r = some (RowO a r) ∧ SqL K H a (ns.map V.int) ∧ 0 ≤ m ∧ m ≤ 20 ∧ 0 ≤ z ∧ z ≤ 100 ∧
  ∀ p H' qs, H p = none → Ex H H' → H' p = some (.tup ((trimL qs).map V.int)) → (qs.length : Int) ≤ m + 1 → BdA z.toNat qs → Q (.ref p) H'
theorem ok_poly {f : Addr} {fd : FuncData} (F : Fun K "_law_poly" "_law_poly" s_u_law_poly f fd) (T : Txt mg tL tM) (d_u_law_trim : Def P w K mg base "_law_trim" 1 ["some"] (spTrim K)) (d_u_law_taken : Def P w K mg base "_law_taken" 1 ["row", "many"] (spTaken K)) : FnOk P w K mg base CX0 2 f fd ["row", "most", "size"] (spPoly K) := by
  refine F.ok sc_u_law_poly (fun vs H Q E h => ?_) (fun cdv A outer s H vs Q E hr h => ?_)
  · obtain ⟨r, a, ns, m, z, rfl, _⟩ := h
    rfl
  · obtain ⟨r, a, ns, m, z, rfl, hR, hS, hm0, hm1, hz0, hz1, k⟩ := h
    refine ⟨_, (pss_one (ps_ret (pe_callD d_u_law_trim (hr.mono (by decide)) (pa_cons (pe_lc (own := [("at", 3)]) (g := gName 3) (tt := tYes) rfl sc_u_law_poly.nd (pi_range1 rfl T.b_range (pa_cons (pe_callD d_u_law_taken (hr.mono (by decide)) (pa_cons (pv 0) (pa_cons (pe_op op_add (pv 1) pe_int) pa_nil))) pa_nil)) (blkOk_by (own := [("at", 3)]) (N := ["row", "most", "size", "at"]) (sc := defScope s_u_law_poly) (by decide +kernel)) (fun _ _ _ _ _ => pg_name (i := 3) sc_u_law_poly.nd rfl (Or.inl rfl)) (fun _ _ _ _ _ => pts_nil) (fun _ _ _ _ _ => (pe_op op_sub (pe_callD d_u_law_taken (hr.mono (by decide)) (pa_cons (pv 0) (pa_cons (pe_op op_add (pe_op op_mulW pe_int (pv 2)) pe_int) pa_nil))) (pv 2)))) pa_nil)))), ?_⟩
    refine ⟨_, rfl, _, rfl, _, _, rfl, rfl, r, a, ns, _, rfl, hR, hS, by omega, by omega, fun n hn0 hn1 => ?_⟩
    refine ⟨_, rfl, by omega, by omega, fun D hD => lc_range (lo := 0) (n := n.toNat) (fun i H' => ∃ qs : List Int, qs.length = i ∧ BdA z.toNat qs ∧ Ex H H' ∧ H' D = some (.lst (qs.map V.int))) ⟨[], rfl, fun _ h => (nomatch h), Ex.new hD, upd_same⟩ ?_ ?_⟩
    · rintro i H' hi ⟨qs, hl, hb, e, hD'⟩
      refine ⟨rfl, ?_⟩
      refine ⟨_, rfl, _, rfl, _, _, rfl, rfl, wide_mul (a := 64) (b := 64) (by decide) (by omega) (by decide) (by decide) (by decide), _, _, rfl, rfl, ?_⟩
      refine ⟨r, a, ns, _, rfl, e _ _ hR, ex_l e hS, by omega, by omega, fun x hx0 hx1 => ?_⟩
      refine ⟨_, rfl, _, _, rfl, rfl, _, hD', ?_, qs ++ [x - z], by simp [hl], ?_, Ex.mut e hD, ?_⟩
      · rw [List.length_map]
        exact Nat.lt_of_le_of_lt (by omega : _ ≤ 100) (by decide)
      · intro y hy
        rcases List.mem_append.mp hy with hy | hy
        · exact hb y hy
        · have := List.mem_singleton.mp hy
          subst this
          omega
      · rw [upd_same, List.map_append]; rfl
    · rintro H' ⟨qs, hl, hb, e, hD'⟩
      refine ⟨D, qs, rfl, SqL.of hD', by omega, fun p H2 hp e2 hp2 => ?_⟩
      exact k p H2 qs (fresh_back e hp) (e.trans e2) hp2 (by omega) hb
end
end Coil

set_option Elab.async false
set_option linter.all false
set_option maxRecDepth 100000
set_option maxHeartbeats 4000000
namespace Coil
open PySem L2 Evl
section
variable {P : Program} {w : World} {K : PySem.W.Frag} {mg : Str → Option Value} {base : Heap} {tL tM : Tok}
def spSome (K : PySem.W.Frag) : Sp := fun vs H Q _ => ∃ (r a : Addr) (ns : List Int) (m z : Int), vs = [.ref r, .int m, .int z] ∧ H r = some (RowO a r) ∧ SqL K H a (ns.map V.int) ∧ 0 ≤ m ∧ m ≤ 20 ∧ 1 ≤ z ∧ z ≤ 100 ∧
  ∀ p H' qs, Ex H H' → H' p = some (.tup (qs.map V.int)) → 0 < qs.length → (qs.length : Int) ≤ m + 1 → BdA z.toNat qs → co qs (qs.length - 1) ≠ 0 → Q (.ref p) H'
theorem ok_some {f : Addr} {fd : FuncData} (F : Fun K "_law_some" "_law_some" s_u_law_some f fd) (T : Txt mg tL tM) (d_u_law_poly : Def P w K mg base "_law_poly" 2 ["row", "most", "size"] (spPoly K)) (d_u_law_taken : Def P w K mg base "_law_taken" 1 ["row", "many"] (spTaken K)) : FnOk P w K mg base CX0 3 f fd ["row", "most", "size"] (spSome K) := by
  refine F.ok sc_u_law_some (fun vs H Q E h => ?_) (fun cdv A outer s H vs Q E hr h => ?_)
  · obtain ⟨r, a, ns, m, z, rfl, _⟩ := h
    rfl
  · obtain ⟨r, a, ns, m, z, rfl, hR, hS, hm0, hm1, hz0, hz1, k⟩ := h
    refine ⟨_, (pss_cons (ps_set (i := 3) sc_u_law_some.nd rfl (Or.inl rfl) (pe_callD d_u_law_poly (hr.mono (by decide)) (pa_cons (pv 0) (pa_cons (pv 1) (pa_cons (pv 2) pa_nil)))))
  (pss_one (ps_ret (pe_ifExp (pt_cmpR (r := rNeD K) (op_neD hr.units) (pv 3) (pe_tup pa_nil) (nomark _)) (pv 3) (pe_tup (pa_cons (pe_op op_add pe_int (pe_callD d_u_law_taken (hr.mono (by decide)) (pa_cons (pv 0) (pa_cons (pv 2) pa_nil)))) pa_nil)))))), ?_⟩
    refine ⟨_, rfl, _, rfl, _, rfl, r, a, ns, _, _, rfl, hR, hS, hm0, hm1, by omega, hz1, fun p H1 qs hp e1 hp1 hl hb => ?_⟩
    refine ⟨_, rfl, Nat.zero_le _, fun p2 hp2 => ?_⟩
    have x2 := e1.trans (Ex.new hp2 (o := .tup []))
    have hp1' := (Ex.new hp2 (o := .tup [])) _ _ hp1
    refine ⟨_, _, dp_tup (SqT.of hp1'), dp_tup (ns := []) (SqT.of upd_same), shaped_ints _, shaped_ints [], _, rfl, ?_⟩
    rw [eqv_tups]
    by_cases h0 : trimL qs = []
    · rw [decide_eq_true h0]
      refine iteF ?_
      refine ⟨_, rfl, _, rfl, r, a, ns, _, rfl, x2 _ _ hR, ex_l x2 hS, by omega, by omega, fun n hn0 hn1 => ?_⟩
      refine ⟨_, _, rfl, rfl, by show 1 ≤ sizeLine; decide, fun p3 hp3 => ?_⟩
      refine k p3 _ [1 + n] (x2.trans (Ex.new hp3)) upd_same (by simp) (by simp; omega) ?_ (by simp [co]; omega)
      intro y hy
      have := List.mem_singleton.mp hy
      subst this
      omega
    · rw [decide_eq_false h0]
      refine iteT ?_
      have hpos : 0 < (trimL qs).length := List.length_pos_iff.mpr h0
      refine ⟨_, rfl, ?_⟩
      refine k p _ (trimL qs) x2 hp1' hpos ?_ (fun y hy => hb y (trimL_mem hy)) (trimL_last qs hpos)
      have : (trimL qs).length ≤ qs.length := by unfold trimL; rw [List.length_take]; omega
      omega
/-! ### the minors -/
def rowI (n : Nat) (g : Nat → Int) : List V := (List.range n).map fun j => V.int (g j)
theorem rowI_len (n : Nat) (g : Nat → Int) : (rowI n g).length = n := by simp [rowI]
theorem rowI_at {n : Nat} {g : Nat → Int} {j : Nat} (h : j < n) : (rowI n g)[j]? = some (.int (g j)) := by
  unfold rowI; rw [List.getElem?_map, List.getElem?_range h]; rfl
theorem rowI_set {n : Nat} {g : Nat → Int} {j : Nat} (h : j < n) (x : Int) : (rowI n g).set j (.int x) = rowI n fun c => if c = j then x else g c := by
  unfold rowI
  apply List.ext_getElem
  · simp
  · intro i h1 h2
    simp only [List.getElem_set, List.getElem_map, List.getElem_range]
    by_cases e : j = i
    · subst e; simp
    · rw [if_neg e, if_neg (fun q => e q.symm)]
theorem rowI_congr {n : Nat} {g h : Nat → Int} (e : ∀ j, j < n → g j = h j) : rowI n g = rowI n h := by
  unfold rowI
  apply List.map_congr_left
  intro j hj
  rw [e j (List.mem_range.mp hj)]
def refs (n : Nat) (as : Nat → Addr) : List V := (List.range n).map fun i => V.ref (as i)
theorem refs_len (n : Nat) (as : Nat → Addr) : (refs n as).length = n := by simp [refs]
theorem refs_at {n : Nat} {as : Nat → Addr} {j : Nat} (h : j < n) : (refs n as)[j]? = some (.ref (as j)) := by
  unfold refs; rw [List.getElem?_map, List.getElem?_range h]; rfl
/-- m rows of n numbers, each a list of its own -/
structure Mt (H : Hp) (R : Addr) (m n : Nat) (as : Nat → Addr) (G : Nat → Nat → Int) : Prop where
  top : H R = some (.lst (refs m as))
  row : ∀ i, i < m → H (as i) = some (.lst (rowI n (G i)))
  inj : ∀ i j, i < m → j < m → as i = as j → i = j
theorem Mt.ne {H : Hp} {R : Addr} {m n : Nat} {as : Nat → Addr} {G : Nat → Nat → Int} (h : Mt H R m n as G) {i : Nat} (hi : i < m) (hn : 0 < n) : R ≠ as i := by
  refine ne_of h.top (h.row i hi) ?_
  intro z
  have z1 : refs m as = rowI n (G i) := HO.lst.inj z
  have z2 : (refs m as)[0]? = (rowI n (G i))[0]? := by rw [z1]
  rw [refs_at (by omega), rowI_at hn] at z2
  cases z2
theorem Mt.ex {H H' : Hp} {R : Addr} {m n : Nat} {as : Nat → Addr} {G : Nat → Nat → Int} (h : Mt H R m n as G) (e : Ex H H') : Mt H' R m n as G :=
  ⟨e _ _ h.top, fun i hi => e _ _ (h.row i hi), h.inj⟩
theorem Mt.put {H : Hp} {R : Addr} {m n : Nat} {as : Nat → Addr} {G : Nat → Nat → Int} (h : Mt H R m n as G) {i j : Nat} (hi : i < m) (hj : j < n) (x : Int) :
    Mt (upd H (as i) (.lst ((rowI n (G i)).set j (.int x)))) R m n as (fun a b => if a = i ∧ b = j then x else G a b) := by
  refine ⟨by rw [upd_ne (h.ne hi (by omega))]; exact h.top, fun a ha => ?_, h.inj⟩
  by_cases e : a = i
  · subst e
    rw [upd_same, rowI_set hj]
    congr 2
    apply rowI_congr
    intro c _
    simp
  · rw [upd_ne (fun q => e (h.inj _ _ ha hi q)), h.row a ha]
    congr 2
    apply rowI_congr
    intro c _
    simp [e]

theorem rowI_succ (n : Nat) (g : Nat → Int) : rowI (n + 1) g = rowI n g ++ [.int (g n)] := by
  unfold rowI; rw [List.range_succ, List.map_append]; rfl
theorem refs_succ {n : Nat} {as : Nat → Addr} {p : Addr} : refs (n + 1) (fun j => if j = n then p else as j) = refs n as ++ [.ref p] := by
  unfold refs
  rw [List.range_succ, List.map_append]
  congr 1
  · apply List.map_congr_left
    intro i hi
    have := List.mem_range.mp hi
    simp only [if_neg (show ¬ i = n by omega)]
  · simp
theorem Mt.nil {H : Hp} {R : Addr} {n : Nat} {G : Nat → Nat → Int} (h : H R = some (.lst [])) : Mt H R 0 n (fun _ => R) G := ⟨h, fun i hi => absurd hi (by omega), fun i j hi _ => absurd hi (by omega)⟩
theorem Mt.grow {H : Hp} {R D : Addr} {i n : Nat} {as : Nat → Addr} {G : Nat → Nat → Int} (h : Mt H R i n as G) (hn : 0 < n) (hD : H D = some (.lst (rowI n (G i)))) (hne : ∀ j, j < i → as j ≠ D) (hR : D ≠ R) :
    Mt (upd H R (.lst (refs i as ++ [.ref D]))) R (i + 1) n (fun j => if j = i then D else as j) G := by
  refine ⟨by rw [upd_same, refs_succ], fun j hj => ?_, fun a b ha hb e => ?_⟩
  · by_cases e : j = i
    · subst e
      simp only [if_true]
      rw [upd_ne hR]
      exact hD
    · rw [if_neg e, upd_ne (h.ne (i := j) (by omega) hn).symm]
      exact h.row j (by omega)
  · by_cases ea : a = i
    · by_cases eb : b = i
      · omega
      · simp only [if_pos ea, if_neg eb] at e
        exact absurd e.symm (hne b (by omega))
    · by_cases eb : b = i
      · simp only [if_neg ea, if_pos eb] at e
        exact absurd e (hne a (by omega))
      · simp only [if_neg ea, if_neg eb] at e
        exact h.inj a b (by omega) (by omega) e
theorem last_co {ns : List Int} (h : 0 < ns.length) : ns.getLast? = some (co ns (ns.length - 1)) := by
  rw [List.getLast?_eq_getElem?]
  unfold co
  rw [List.getD_eq_getElem?_getD, List.getElem?_eq_getElem (by omega)]; rfl
def tabG (f : Sq) : Nat → Nat → Int := Hz (up f) (lo f)
def spMinors (K : PySem.W.Frag) : Sp := fun vs H Q _ => ∃ (a : Addr) (ns : List Int), vs = [.ref a] ∧ SqT K H a (ns.map V.int) ∧ 0 < ns.length ∧ ns.length ≤ 13 ∧ BdA (2 ^ 15) ns ∧ ∀ H', Ex H H' → Q (.bl (minB ns)) H'
theorem ok_minors {f : Addr} {fd : FuncData} (F : Fun K "_law_minors" "_law_minors" s_u_law_minors f fd) (T : Txt mg tL tM) : FnOk P w K mg base CX0 1 f fd ["one"] (spMinors K) := by
  refine F.ok sc_u_law_minors (fun vs H Q E h => ?_) (fun cdv A outer s H vs Q E hr h => ?_)
  · obtain ⟨a, ns, rfl, _⟩ := h
    rfl
  · obtain ⟨a, ns, rfl, hS, h0, h13, hb, k⟩ := h
    refine ⟨_, (Evl.pss_cut (ps_if (pt_cmpR op_lt (pe_ix (r := rIxT K) ix_tup (pv 0) (pe_un un_neg pe_int) (fun _ _ => rfl)) pe_int (nomark _)) (pss_one (ps_set (i := 0) sc_u_law_minors.nd rfl (Or.inl rfl) (pe_callTy call_tuple_of (by rfl) T.b_tuple (by decide +kernel) (pa_cons (pe_lc (own := [("number", 11)]) (g := gName 11) (tt := tYes) rfl sc_u_law_minors.nd (pi_tup (pv 0)) (blkOk_by (own := [("number", 11)]) (N := ["one", "many", "down", "table", "at", "places", "rows", "shared", "place", "more", "told", "number"]) (sc := defScope s_u_law_minors) (by decide +kernel)) (fun _ _ _ _ _ => pg_name (i := 11) sc_u_law_minors.nd rfl (Or.inl rfl)) (fun _ _ _ _ _ => pts_nil) (fun _ _ _ _ _ => (pe_un un_neg (pv 11)))) pa_nil)))) pss_nil)
  (pss_cons (ps_set (i := 1) sc_u_law_minors.nd rfl (Or.inr rfl) (pe_op op_sub (pe_callB (r := Evl.rLenS K) call_len_seq (by rfl) T.b_len (by decide +kernel) (pa_cons (pv 0) pa_nil)) pe_int))
  (Evl.pss_cut (ps_set (i := 2) sc_u_law_minors.nd rfl (Or.inr rfl) (pe_revL (pe_callTy (r := Evl.rListS K) call_list_of (by rfl) T.b_list (by decide +kernel) (pa_cons (pv 0) pa_nil))))
  (pss_cons (ps_set (i := 3) sc_u_law_minors.nd rfl (Or.inl rfl) (pe_lst pa_nil))
  (Evl.pss_cut (ps_for PassesOwn.never rfl (pi_range2 rfl T.b_range (pa_cons pe_int (pa_cons (pe_op op_add (pv 1) pe_int) pa_nil))) (pg_name (i := 4) sc_u_law_minors.nd rfl (Or.inr rfl)) (pss_cons (ps_setLc (i := 5) (own := [("place", 8)]) (g := gName 8) (tt := tYes) rfl sc_u_law_minors.nd rfl rfl (sw_true rfl rfl rfl (by decide +kernel)) (pi_range2 rfl T.b_range (pa_cons pe_int (pa_cons (pe_op op_add (pv 1) pe_int) pa_nil))) (blkOk_by (own := [("place", 8)]) (N := ["one", "many", "down", "table", "at", "places", "rows", "shared", "place", "more", "told", "number"]) (sc := defScope s_u_law_minors) (by decide +kernel)) (fun _ _ _ _ _ => pg_name (i := 8) sc_u_law_minors.nd rfl (Or.inl rfl)) (fun _ _ _ _ _ => pts_nil) (fun _ _ _ _ _ => (pe_op op_sub (pe_op op_mulW pe_int (pv 8)) (pv 4))))
  (pss_one (ps_expr (pe_bm PySem.F.plainAttrs_list PySem.F.slot_list_append PySem.F.type_list_append mt_append (pv 3) (pa_cons (pe_lc (own := [("place", 8)]) (g := gName 8) (tt := tYes) rfl sc_u_law_minors.nd (pi_list (pv 5)) (blkOk_by (own := [("place", 8)]) (N := ["one", "many", "down", "table", "at", "places", "rows", "shared", "place", "more", "told", "number"]) (sc := defScope s_u_law_minors) (by decide +kernel)) (fun _ _ _ _ _ => pg_name (i := 8) sc_u_law_minors.nd rfl (Or.inl rfl)) (fun _ _ _ _ _ => pts_nil) (fun _ _ _ _ _ => (pe_ifExp (pt_chain op_le op_le pe_int (pv 8) (pv 1)) (pe_ix (r := rIxL K) ix_list (pv 2) (pv 8) (fun _ _ => rfl)) pe_int))) pa_nil))))))
  (Evl.pss_cut (ps_par (i := 6) (j := 7) rfl sc_u_law_minors.nd rfl rfl (by decide) rfl rfl (pa_cons (pe_lc (own := [("told", 10)]) (g := gName 10) (tt := tYes) rfl sc_u_law_minors.nd (pi_list (pv 3)) (blkOk_by (own := [("told", 10)]) (N := ["one", "many", "down", "table", "at", "places", "rows", "shared", "place", "more", "told", "number"]) (sc := defScope s_u_law_minors) (by decide +kernel)) (fun _ _ _ _ _ => pg_name (i := 10) sc_u_law_minors.nd rfl (Or.inl rfl)) (fun _ _ _ _ _ => pts_nil) (fun _ _ _ _ _ => (pe_callTy (r := Evl.rListS K) call_list_of (by rfl) T.b_list (by decide +kernel) (pa_cons (pv 10) pa_nil)))) (pa_cons pe_int pa_nil)) (by rfl))
  (pss_cons (ps_for PassesOwn.never rfl (pi_range1 rfl T.b_range (pa_cons (pv 1) pa_nil)) (pg_name (i := 4) sc_u_law_minors.nd rfl (Or.inr rfl)) (pss_cons (ps_if (pt_cmpR op_le (pe_ix (r := rIxL K) ix_list (pe_ix (r := rIxL K) ix_list (pv 6) (pv 4) (fun _ _ => rfl)) (pv 4) (fun _ _ => rfl)) pe_int (nomark _)) (pss_one (ps_ret pe_bl)) pss_nil)
  (pss_cons (ps_for PassesOwn.never rfl (pi_range2 rfl T.b_range (pa_cons (pe_op op_add (pv 4) pe_int) (pa_cons (pv 1) pa_nil))) (pg_name (i := 8) sc_u_law_minors.nd rfl (Or.inl rfl)) (pss_one (ps_for PassesOwn.never rfl (pi_range2 rfl T.b_range (pa_cons (pe_op op_add (pv 4) pe_int) (pa_cons (pv 1) pa_nil))) (pg_name (i := 9) sc_u_law_minors.nd rfl (Or.inl rfl)) (pss_cons (ps_asg (pe_op op_sub (pe_op op_mulW (pe_ix (r := rIxL K) ix_list (pe_ix (r := rIxL K) ix_list (pv 6) (pv 8) (fun _ _ => rfl)) (pv 9) (fun _ _ => rfl)) (pe_ix (r := rIxL K) ix_list (pe_ix (r := rIxL K) ix_list (pv 6) (pv 4) (fun _ _ => rfl)) (pv 4) (fun _ _ => rfl))) (pe_op op_mulW (pe_ix (r := rIxL K) ix_list (pe_ix (r := rIxL K) ix_list (pv 6) (pv 8) (fun _ _ => rfl)) (pv 4) (fun _ _ => rfl)) (pe_ix (r := rIxL K) ix_list (pe_ix (r := rIxL K) ix_list (pv 6) (pv 4) (fun _ _ => rfl)) (pv 9) (fun _ _ => rfl)))) (pg_sub (pe_ix (r := rIxL K) ix_list (pv 6) (pv 8) (fun _ _ => rfl)) (pv 9) set_list))
  (pss_one (ps_asg (pe_op op_fdivW (pe_ix (r := rIxL K) ix_list (pe_ix (r := rIxL K) ix_list (pv 6) (pv 8) (fun _ _ => rfl)) (pv 9) (fun _ _ => rfl)) (pv 7)) (pg_sub (pe_ix (r := rIxL K) ix_list (pv 6) (pv 8) (fun _ _ => rfl)) (pv 9) set_list)))))))
  (pss_one (ps_set (i := 7) sc_u_law_minors.nd rfl (Or.inl rfl) (pe_ix (r := rIxL K) ix_list (pe_ix (r := rIxL K) ix_list (pv 6) (pv 4) (fun _ _ => rfl)) (pv 4) (fun _ _ => rfl)))))))
  (pss_one (ps_ret pe_bl))))))))), ?_⟩
    refine ⟨fun σ' H' => ∃ (q : Addr) (nn : List Int) (v11 : Option V), σ' = [some (.ref q), none, none, none, none, none, none, none, none, none, none, v11] ∧ Ex H H' ∧ SqT K H' q (nn.map V.int) ∧ nn.reverse = fallN ns, ?_, ?_⟩
    · refine ⟨_, rfl, _, rfl, a, _, _, _, rfl, rfl, hS, emap_last (last_co h0), _, _, rfl, rfl, _, rfl, ?_⟩
      have e0 : ns.reverse.getD 0 0 = co ns (ns.length - 1) := by
        have := co_reverse ns 0
        rw [if_pos h0] at this
        exact this
      refine ite2 (fun q => ?_) (fun q => ?_)
      · have hneg : co ns (ns.length - 1) < 0 := of_decide_eq_true q
        refine ⟨_, rfl, a, rfl, ⟨_, hS⟩, fun D hD => lc_tup (K := K) (a := a) (xs := ns.map V.int) (fun i H' => Ex H H' ∧ H' D = some (.lst (((ns.take i).map fun z => -z).map V.int))) ⟨Ex.new hD, upd_same⟩ (fun i H' _ p => ex_t p.1 hS) ?_ ?_⟩
        · rintro i x H' hi ⟨e, hD'⟩
          obtain ⟨n, hn, rfl⟩ := map_int_get hi
          refine ⟨rfl, ?_⟩
          refine ⟨_, rfl, _, rfl, _, hD', ?_, Ex.mut e hD, ?_⟩
          · exact Nat.lt_of_le_of_lt (by simp; omega : _ ≤ 100) (by decide)
          · rw [upd_same, List.take_add_one, hn]
            simp
        · rintro H' ⟨e, hD'⟩
          rw [List.length_map, List.take_length] at hD'
          refine ⟨D, _, rfl, .inl ⟨SqL.of hD', fun l hl => ?_⟩⟩
          refine ⟨l, _, _, rfl, e.trans (Ex.new hl), SqT.of upd_same, ?_⟩
          unfold fallN
          rw [e0, if_pos hneg, List.map_reverse]
      · have hneg : ¬ co ns (ns.length - 1) < 0 := fun z => q (decide_eq_true z)
        refine ⟨a, ns, _, rfl, Ex.refl H, hS, ?_⟩
        unfold fallN
        rw [e0, if_neg hneg]
    rintro σ0 H1 ⟨q, nn, v11, rfl, e1, hq, hrev⟩
    have hlen : nn.length = ns.length := by
      have := congrArg List.length hrev
      rw [List.length_reverse, fallN_len] at this
      exact this
    refine ⟨_, rfl, q, _, rfl, .inr hq, _, _, rfl, rfl, ?_⟩
    rw [List.length_map, hlen]
    obtain ⟨n, hn⟩ : ∃ n : Nat, ns.length = n + 1 := ⟨ns.length - 1, by omega⟩
    have en : ((ns.length : Int) - 1) = ((n : Nat) : Int) := by omega
    -- down
    refine ⟨fun σ' H' => ∃ (pd : Addr), σ' = [some (.ref q), some (.int (n : Int)), some (.ref pd), none, none, none, none, none, none, none, none, v11] ∧ Ex H H' ∧ H' pd = some (.lst ((fallN ns).map V.int)), ?_, ?_⟩
    · refine ⟨_, rfl, q, _, rfl, .inr hq, fun p1 hp1 => ?_⟩
      refine ⟨p1, _, rfl, SqL.of upd_same, fun p2 hp2 => ?_⟩
      refine ⟨p2, by rw [← en]; rfl, (e1.trans (Ex.new hp1)).trans (Ex.new hp2), ?_⟩
      rw [upd_same, ← List.map_reverse, hrev]
    rintro σ1 H2 ⟨pd, rfl, e2, hd⟩
    have hfl : ∀ i, (fallN ns).getD i 0 = fs ns i := fun i => co_fallN h0 i
    have hfb : ∀ i j, (tabG (fs ns) i j).natAbs ≤ 2 ^ 15 := fun i j => Hz_bd (fun i => fs_bd hb.co _) (fun i => fs_bd hb.co _) i j
    have hsup : Sup n (fs ns) := by
      have := fs_sup ns h0
      rw [hn, Nat.add_sub_cancel] at this
      exact this
    have hfn : (fallN ns).length = n + 1 := by rw [fallN_len, hn]
    -- table = []
    refine ⟨by decide, fun pt hpt => ?_⟩
    have x2 : Ex H (upd H2 pt (.lst [])) := e2.trans (Ex.new hpt)
    have hd2 : upd H2 pt (.lst []) pd = some (.lst ((fallN ns).map V.int)) := (Ex.new hpt) _ _ hd
    have t0 : H pt = none := fresh_back e2 hpt
    refine ⟨fun σ' H' => ∃ (as : Nat → Addr) (v4 v5 v8 : Option V), σ' = [some (.ref q), some (.int (n : Int)), some (.ref pd), some (.ref pt), v4, v5, none, none, v8, none, none, v11] ∧ Ex H H' ∧ Mt H' pt n n as (tabG (fs ns)), ?_, ?_⟩
    · refine ⟨_, rfl, _, _, rfl, rfl, _, _, rfl, ⟨by decide, by decide, by omega, by omega⟩, ?_⟩
      have e9 : ((n : Int) + 1 - 1).toNat = n := by omega
      rw [e9]
      refine for_range (lo := 1) (n := n) (fun i σ' H' => ∃ (as : Nat → Addr) (v4 v5 v8 : Option V), σ' = [some (.ref q), some (.int (n : Int)), some (.ref pd), some (.ref pt), v4, v5, none, none, v8, none, none, v11] ∧ Ex H H' ∧ H' pd = some (.lst ((fallN ns).map V.int)) ∧ Mt H' pt i n as (tabG (fs ns))) ⟨fun _ => pt, none, none, none, rfl, x2, hd2, Mt.nil upd_same⟩ ?_ ?_
      · rintro i σ' H' hi ⟨as, v4, v5, v8, rfl, e, hd', hmt⟩
        -- places
        refine ⟨_, rfl, _, _, rfl, rfl, _, _, rfl, ⟨by decide, by decide, by omega, by omega⟩, fun D hD => ?_⟩
        rw [e9]
        refine lc_range (lo := 1) (n := n) (fun j H1 => Ex H' H1 ∧ H1 D = some (.lst (rowI j fun j => 2 * (1 + (j : Int)) - (1 + (i : Int))))) ⟨Ex.new hD, upd_same⟩ ?_ ?_
        · rintro j H1 hj ⟨e', hD'⟩
          refine ⟨rfl, ?_⟩
          refine ⟨_, rfl, _, _, rfl, rfl, wide_mul (a := 64) (b := 64) (by decide) (by omega) (by decide) (by decide) (by decide), _, rfl, _, _, rfl, rfl, _, hD', ?_, Ex.mut e' hD, ?_⟩
          · rw [rowI_len]; exact Nat.lt_of_le_of_lt (by omega : _ ≤ 100) (by decide)
          · rw [upd_same, rowI_succ]
        rintro H1 ⟨e', hD'⟩
        have hmt1 := hmt.ex e'
        refine ⟨_, rfl, .inl ⟨rfl, _, SqL.of hmt1.top⟩, _, rfl, D, rfl, ⟨_, SqL.of hD'⟩, fun D2 hD2 => lc_list (K := K) (a := D) (xs := rowI n fun j => 2 * (1 + (j : Int)) - (1 + (i : Int))) (fun j H2 => Ex H1 H2 ∧ H2 D2 = some (.lst (rowI j (tabG (fs ns) i)))) ⟨Ex.new hD2, upd_same⟩ (fun j H2 _ p => SqL.of (p.1 _ _ hD')) ?_ ?_⟩
        · rintro j x H2 hx ⟨e2', hD2'⟩
          have hj : j < n := by
            have := (List.getElem?_eq_some_iff.mp hx).1
            rw [rowI_len] at this
            exact this
          rw [rowI_at hj] at hx
          cases hx
          have hfin : ∀ y : Int, y = tabG (fs ns) i j → ∃ acc, H2 D2 = some (.lst acc) ∧ acc.length < sizeLine ∧ Ex H1 (upd H2 D2 (.lst (acc ++ [.int y]))) ∧ upd H2 D2 (.lst (acc ++ [.int y])) D2 = some (.lst (rowI (j + 1) (tabG (fs ns) i))) := by
            intro y hy
            refine ⟨_, hD2', ?_, Ex.mut e2' hD2, ?_⟩
            · rw [rowI_len]; exact Nat.lt_of_le_of_lt (by omega : _ ≤ 100) (by decide)
            · rw [upd_same, rowI_succ, hy]
          have hz := hz_entry hsup (i := i) hj
          refine ⟨rfl, ?_⟩
          refine ⟨_, rfl, _, _, rfl, rfl, _, rfl, ?_⟩
          by_cases c1 : (0 : Int) ≤ 2 * (1 + (j : Int)) - (1 + (i : Int))
          · rw [decide_eq_true c1]
            refine iteT ?_
            refine ⟨_, rfl, _, _, rfl, rfl, _, rfl, ?_⟩
            refine ite2 (fun c2 => ?_) (fun c2 => ?_)
            · have c2' : 2 * (1 + (j : Int)) - (1 + (i : Int)) ≤ (n : Int) := of_decide_eq_true c2
              have hd2' := e2' _ _ (e' _ _ hd')
              have ex : 2 * (1 + (j : Int)) - (1 + (i : Int)) = ((2 * j + 1 - i : Nat) : Int) := by omega
              refine ⟨_, rfl, _, rfl, pd, _, _, _, rfl, rfl, SqL.of hd2', (by rw [ex]; exact at_map (by omega)), hfin _ ?_⟩
              rw [hfl]
              show fs ns (2 * j + 1 - i) = Hz (up (fs ns)) (lo (fs ns)) i j
              rw [hz, if_pos ⟨by omega, by omega⟩]
            · have c2' : ¬ 2 * (1 + (j : Int)) - (1 + (i : Int)) ≤ (n : Int) := fun z => c2 (decide_eq_true z)
              refine hfin 0 ?_
              show 0 = Hz (up (fs ns)) (lo (fs ns)) i j
              rw [hz, if_neg (by omega)]
          · rw [decide_eq_false c1]
            refine iteF ⟨_, rfl, iteF (hfin 0 ?_)⟩
            show 0 = Hz (up (fs ns)) (lo (fs ns)) i j
            rw [hz, if_neg (by omega)]
        · rintro H2 ⟨e2', hD2'⟩
          rw [rowI_len] at hD2'
          have hmt2 := hmt1.ex e2'
          refine ⟨pt, _, _, rfl, rfl, hmt2.top, ?_, fun j => if j = i then D2 else as j, _, _, _, rfl, ?_, ?_, ?_⟩
          · rw [refs_len]; exact Nat.lt_of_le_of_lt (by omega : _ ≤ 100) (by decide)
          · exact Ex.mut ((e.trans e').trans e2') t0
          · have npd : pd ≠ pt := ne_of_none hd hpt
            rw [upd_ne npd]
            exact e2' _ _ (e' _ _ hd')
          · refine hmt2.grow (by omega) hD2' (fun j hj => ?_) ?_
            · exact ne_of_none (hmt1.row j hj) hD2
            · exact (ne_of_none hmt1.top hD2).symm
      · rintro σ' H' ⟨as, v4, v5, v8, rfl, e, _, hmt⟩
        exact ⟨as, v4, v5, v8, rfl, e, hmt⟩
    rintro σ2 H3 ⟨as, v4, v5, v8, rfl, e3, hmt⟩
    -- rows, shared
    refine ⟨fun σ' H' => ∃ (R : Addr) (bs : Nat → Addr) (v10 : Option V), σ' = [some (.ref q), some (.int (n : Int)), some (.ref pd), some (.ref pt), v4, v5, some (.ref R), some (.int 1), v8, none, v10, v11] ∧ Ex H H' ∧ (∀ i, i < n → H (bs i) = none) ∧ Mt H' R n n bs (tabG (fs ns)), ?_, ?_⟩
    · refine ⟨_, rfl, pt, rfl, ⟨_, SqL.of hmt.top⟩, fun D hD => lc_list (K := K) (a := pt) (xs := refs n as) (fun i H' => ∃ bs : Nat → Addr, Ex H3 H' ∧ (∀ j, j < i → H (bs j) = none) ∧ Mt H' D i n bs (tabG (fs ns))) ⟨fun _ => D, Ex.new hD, fun j hj => absurd hj (by omega), Mt.nil upd_same⟩ (fun i H' _ ⟨_, p, _⟩ => SqL.of (p _ _ hmt.top)) ?_ ?_⟩
      · rintro i x H' hx ⟨bs, e, hf, hm⟩
        have hi : i < n := by
          have := (List.getElem?_eq_some_iff.mp hx).1
          rw [refs_len] at this
          exact this
        rw [refs_at hi] at hx
        cases hx
        have hrow := e _ _ (hmt.row i hi)
        refine ⟨rfl, ?_⟩
        refine ⟨_, rfl, as i, _, rfl, .inl (SqL.of hrow), fun l hl => ?_⟩
        have y1 : Ex H' (upd H' l (.lst (rowI n (tabG (fs ns) i)))) := Ex.new hl
        have hm1 := hm.ex y1
        refine ⟨_, hm1.top, ?_, fun j => if j = i then l else bs j, ?_, ?_, ?_⟩
        · rw [refs_len]; exact Nat.lt_of_le_of_lt (by omega : _ ≤ 100) (by decide)
        · exact Ex.mut (e.trans y1) hD
        · intro j hj
          by_cases ej : j = i
          · simp only [if_pos ej]; exact fresh_back (e3.trans e) hl
          · simp only [if_neg ej]; exact hf j (by omega)
        · refine hm1.grow (by omega) upd_same (fun j hj => ?_) ?_
          · exact ne_of_none (hm.row j hj) hl
          · exact (ne_of_none hm.top hl).symm
      · rintro H' ⟨bs, e, hf, hm⟩
        rw [refs_len] at hf hm
        refine ⟨_, _, rfl, D, bs, none, rfl, e3.trans e, hf, hm⟩
    rintro σ3 H4 ⟨R, bs, v10, rfl, e4, hfree, hm4⟩
    -- the elimination
    generalize hM : tabG (fs ns) = M at hm4 hfb
    have hmin : ∀ b : Bool, (b = true ↔ ∀ j, j < n → 0 < Dl M (j + 1)) → minB ns = b := by
      intro b hb'
      unfold minB
      have eM : Hz (up (fs ns)) (lo (fs ns)) = M := hM
      rw [eM, show ns.length - 1 = n by omega]
      cases b with
      | true => exact decide_eq_true (hb'.mp rfl)
      | false => exact decide_eq_false (fun z => Bool.noConfusion (hb'.mpr z))
    have hn12 : n ≤ 12 := by omega
    have bsm : ∀ k i j, k < n + 1 → (Bm M k i j).natAbs < 2 ^ 250 := fun k i j hk => Bm_small hfb k i j (by omega)
    refine ⟨_, rfl, _, rfl, by omega, by omega, for_range (lo := 0) (n := n) (fun kk σ' H' => ∃ (G : Nat → Nat → Int) (v4 v8 v9 : Option V), σ' = [some (.ref q), some (.int (n : Int)), some (.ref pd), some (.ref pt), v4, v5, some (.ref R), some (.int (Dl M kk)), v8, v9, v10, v11] ∧ Ex H H' ∧ Mt H' R n n bs G ∧
      (∀ i j, kk ≤ i → kk ≤ j → i < n → j < n → G i j = Bm M kk i j) ∧ ∀ j, j < kk → 0 < Dl M (j + 1)) ⟨M, v4, v8, none, by rw [Dl_zero], e4, hm4, fun i j _ _ _ _ => (Bm_zero M i j).symm, fun j hj => absurd hj (by omega)⟩ ?_ ?_⟩
    · rintro kk σ' H5 hk ⟨G, w4, w8, w9, rfl, e5, hm5, hG, hpos⟩
      obtain ⟨hBI, hDk⟩ := BI_all kk hpos
      refine ⟨_, rfl, _, rfl, R, _, _, _, rfl, rfl, SqL.of hm5.top, at_of (by omega : (0 : Int) + (kk : Int) = (kk : Int)) (refs_at hk), _, rfl, bs kk, _, _, _, rfl, rfl, SqL.of (hm5.row kk hk), at_of (by omega : (0 : Int) + (kk : Int) = (kk : Int)) (rowI_at hk), _, _, rfl, rfl, _, rfl, ?_⟩
      have eGk : G kk kk = Dl M (kk + 1) := by rw [hG kk kk (by omega) (by omega) hk hk, Bm_pivot]
      rw [eGk]
      refine ite2 (fun c => ?_) (fun c => ?_)
      · have c' : Dl M (kk + 1) ≤ 0 := of_decide_eq_true c
        refine (show Q (.bl false) H5 from ?_)
        rw [← hmin false ⟨fun z => Bool.noConfusion z, fun z => by have := z kk hk; omega⟩]
        exact k _ e5
      have c' : 0 < Dl M (kk + 1) := by
        have : ¬ Dl M (kk + 1) ≤ 0 := fun z => c (decide_eq_true z)
        omega
      have hstep := fun i j => Bm_div hBI hDk c' i j
      have ekk : (0 : Int) + (kk : Int) = (kk : Int) := by omega
      refine ⟨_, rfl, _, _, rfl, rfl, _, rfl, _, _, rfl, ⟨by omega, by omega, by omega, by omega⟩, ?_⟩
      have e9 : ((n : Int) - ((0 : Int) + (kk : Int) + 1)).toNat = n - (kk + 1) := by omega
      rw [e9]
      refine for_range (lo := (0 : Int) + (kk : Int) + 1) (n := n - (kk + 1)) (fun ii σ' H' => ∃ (G : Nat → Nat → Int) (v8 v9 : Option V), σ' = [some (.ref q), some (.int (n : Int)), some (.ref pd), some (.ref pt), some (.int ((0 : Int) + (kk : Int))), v5, some (.ref R), some (.int (Dl M kk)), v8, v9, v10, v11] ∧ Ex H H' ∧ Mt H' R n n bs G ∧
        (∀ i j, kk ≤ i → kk ≤ j → i < n → j < n → G i j = if kk < i ∧ kk < j ∧ i < kk + 1 + ii then Bm M (kk + 1) i j else Bm M kk i j)) ⟨G, w8, w9, rfl, e5, hm5, fun i j a b c d => by rw [if_neg (by omega)]; exact hG i j a b c d⟩ ?_ ?_
      · rintro ii σ' H6 hii ⟨G6, x8, x9, rfl, e6, hm6, hG6⟩
        refine ⟨_, rfl, _, _, rfl, rfl, _, rfl, _, _, rfl, ⟨by omega, by omega, by omega, by omega⟩, ?_⟩
        rw [e9]
        have epl : (0 : Int) + (kk : Int) + 1 + (ii : Int) = ((kk + 1 + ii : Nat) : Int) := by omega
        have hpl : kk + 1 + ii < n := by omega
        refine for_range (lo := (0 : Int) + (kk : Int) + 1) (n := n - (kk + 1)) (fun jj σ' H' => ∃ (G : Nat → Nat → Int) (v9 : Option V), σ' = [some (.ref q), some (.int (n : Int)), some (.ref pd), some (.ref pt), some (.int ((0 : Int) + (kk : Int))), v5, some (.ref R), some (.int (Dl M kk)), some (.int ((0 : Int) + (kk : Int) + 1 + (ii : Int))), v9, v10, v11] ∧ Ex H H' ∧ Mt H' R n n bs G ∧
          (∀ i j, kk ≤ i → kk ≤ j → i < n → j < n → G i j = if kk < i ∧ kk < j ∧ (i < kk + 1 + ii ∨ (i = kk + 1 + ii ∧ j < kk + 1 + jj)) then Bm M (kk + 1) i j else Bm M kk i j)) ⟨G6, x9, rfl, e6, hm6, fun i j a b c d => by
            rw [hG6 i j a b c d]
            have : (kk < i ∧ kk < j ∧ i < kk + 1 + ii) ↔ (kk < i ∧ kk < j ∧ (i < kk + 1 + ii ∨ (i = kk + 1 + ii ∧ j < kk + 1 + 0))) := by omega
            simp only [this]⟩ ?_ ?_
        · rintro jj σ' H7 hjj ⟨G7, y9, rfl, e7, hm7, hG7⟩
          have emo : (0 : Int) + (kk : Int) + 1 + (jj : Int) = ((kk + 1 + jj : Nat) : Int) := by omega
          have hmo : kk + 1 + jj < n := by omega
          have g1 : G7 (kk + 1 + ii) (kk + 1 + jj) = Bm M kk (kk + 1 + ii) (kk + 1 + jj) := by rw [hG7 _ _ (by omega) (by omega) hpl hmo, if_neg (by omega)]
          have g2 : G7 kk kk = Bm M kk kk kk := by rw [hG7 _ _ (by omega) (by omega) hk hk, if_neg (by omega)]
          have g3 : G7 (kk + 1 + ii) kk = Bm M kk (kk + 1 + ii) kk := by rw [hG7 _ _ (by omega) (by omega) hpl hk, if_neg (by omega)]
          have g4 : G7 kk (kk + 1 + jj) = Bm M kk kk (kk + 1 + jj) := by rw [hG7 _ _ (by omega) (by omega) hk hmo, if_neg (by omega)]
          -- the product less the product
          refine ⟨_, rfl, _, rfl, R, _, _, _, rfl, rfl, SqL.of hm7.top, at_of epl (refs_at hpl), _, rfl, bs (kk + 1 + ii), _, _, _, rfl, rfl, SqL.of (hm7.row _ hpl), at_of emo (rowI_at hmo), ?_⟩
          refine ⟨_, rfl, _, rfl, R, _, _, _, rfl, rfl, SqL.of hm7.top, at_of ekk (refs_at hk), _, rfl, bs kk, _, _, _, rfl, rfl, SqL.of (hm7.row _ hk), at_of ekk (rowI_at hk), ?_⟩
          rw [g1, g2]
          refine ⟨_, _, rfl, rfl, wide_mul (bsm _ _ _ (by omega)) (bsm _ _ _ (by omega)) (by decide) (by decide) (by decide), ?_⟩
          refine ⟨_, rfl, _, rfl, R, _, _, _, rfl, rfl, SqL.of hm7.top, at_of epl (refs_at hpl), _, rfl, bs (kk + 1 + ii), _, _, _, rfl, rfl, SqL.of (hm7.row _ hpl), at_of ekk (rowI_at hk), ?_⟩
          refine ⟨_, rfl, _, rfl, R, _, _, _, rfl, rfl, SqL.of hm7.top, at_of ekk (refs_at hk), _, rfl, bs kk, _, _, _, rfl, rfl, SqL.of (hm7.row _ hk), at_of emo (rowI_at hmo), ?_⟩
          rw [g3, g4]
          refine ⟨_, _, rfl, rfl, wide_mul (bsm _ _ _ (by omega)) (bsm _ _ _ (by omega)) (by decide) (by decide) (by decide), ?_⟩
          refine ⟨_, _, rfl, rfl, ?_⟩
          refine ⟨_, rfl, _, rfl, R, _, _, _, rfl, rfl, SqL.of hm7.top, at_of epl (refs_at hpl), _, rfl, ?_⟩
          refine ⟨bs (kk + 1 + ii), _, _, kk + 1 + jj, rfl, rfl, hm7.row _ hpl, (by rw [emo]; exact ixN_nat (by rw [rowI_len]; exact hmo)), ?_⟩
          have hm8 := hm7.put hpl hmo (Bm M kk (kk + 1 + ii) (kk + 1 + jj) * Bm M kk kk kk - Bm M kk (kk + 1 + ii) kk * Bm M kk kk (kk + 1 + jj))
          have e8 : Ex H (upd H7 (bs (kk + 1 + ii)) (.lst ((rowI n (G7 (kk + 1 + ii))).set (kk + 1 + jj) (.int (Bm M kk (kk + 1 + ii) (kk + 1 + jj) * Bm M kk kk kk - Bm M kk (kk + 1 + ii) kk * Bm M kk kk (kk + 1 + jj)))))) := Ex.mut e7 (hfree _ hpl)
          refine ⟨_, rfl, _, rfl, R, _, _, _, rfl, rfl, SqL.of hm8.top, at_of epl (refs_at hpl), _, rfl, bs (kk + 1 + ii), _, _, _, rfl, rfl, SqL.of (hm8.row _ hpl), at_of emo (rowI_at hmo), ?_⟩
          rw [if_pos ⟨rfl, rfl⟩]
          refine ⟨_, rfl, _, _, rfl, rfl, wide_div (b := 250) hDk ?_ (by decide) (by decide), ?_⟩
          · cases kk with
            | zero => rw [Dl_zero]; decide
            | succ z => exact bsm z z z (by omega)
          refine ⟨_, rfl, _, rfl, R, _, _, _, rfl, rfl, SqL.of hm8.top, at_of epl (refs_at hpl), _, rfl, ?_⟩
          refine ⟨bs (kk + 1 + ii), _, _, kk + 1 + jj, rfl, rfl, hm8.row _ hpl, (by rw [emo]; exact ixN_nat (by rw [rowI_len]; exact hmo)), ?_⟩
          have hm9 := hm8.put hpl hmo ((Bm M kk (kk + 1 + ii) (kk + 1 + jj) * Bm M kk kk kk - Bm M kk (kk + 1 + ii) kk * Bm M kk kk (kk + 1 + jj)) / Dl M kk)
          refine ⟨_, some (.int ((0 : Int) + (kk : Int) + 1 + (jj : Int))), rfl, Ex.mut e8 (hfree _ hpl), hm9, fun i j a b c d => ?_⟩
          by_cases hij : i = kk + 1 + ii ∧ j = kk + 1 + jj
          · rw [if_pos hij, if_pos (by omega), hij.1, hij.2, hstep]
          · rw [if_neg hij, if_neg hij, hG7 i j a b c d]
            have : (kk < i ∧ kk < j ∧ (i < kk + 1 + ii ∨ (i = kk + 1 + ii ∧ j < kk + 1 + jj))) ↔ (kk < i ∧ kk < j ∧ (i < kk + 1 + ii ∨ (i = kk + 1 + ii ∧ j < kk + 1 + (jj + 1)))) := by omega
            simp only [this]
        · rintro σ' H7 ⟨G7, y9, rfl, e7, hm7, hG7⟩
          refine ⟨G7, _, y9, rfl, e7, hm7, fun i j a b c d => ?_⟩
          rw [hG7 i j a b c d]
          have : (kk < i ∧ kk < j ∧ (i < kk + 1 + ii ∨ (i = kk + 1 + ii ∧ j < kk + 1 + (n - (kk + 1))))) ↔ (kk < i ∧ kk < j ∧ i < kk + 1 + (ii + 1)) := by omega
          simp only [this]
      · rintro σ' H6 ⟨G6, x8, x9, rfl, e6, hm6, hG6⟩
        have g2 : G6 kk kk = Dl M (kk + 1) := by rw [hG6 _ _ (by omega) (by omega) hk hk, if_neg (by omega), Bm_pivot]
        refine ⟨_, rfl, _, rfl, R, _, _, _, rfl, rfl, SqL.of hm6.top, at_of ekk (refs_at hk), _, rfl, bs kk, _, _, _, rfl, rfl, SqL.of (hm6.row _ hk), at_of ekk (rowI_at hk), ?_⟩
        rw [g2]
        refine ⟨G6, _, x8, x9, rfl, e6, hm6, fun i j a b c d => ?_, fun j hj => ?_⟩
        · rw [hG6 i j (by omega) (by omega) c d, if_pos (by omega)]
        · by_cases ej : j = kk
          · subst ej; exact c'
          · exact hpos j (by omega)
    · rintro σ' H5 ⟨G, w4, w8, w9, rfl, e5, hm5, hG, hpos⟩
      refine (show Q (.bl true) H5 from ?_)
      rw [← hmin true ⟨fun _ => hpos, fun _ => rfl⟩]
      exact k _ e5
end
end Coil

set_option Elab.async false
set_option linter.all false
set_option maxRecDepth 100000
set_option maxHeartbeats 4000000
namespace Coil
open PySem L2 Evl
section
variable {P : Program} {w : World} {K : PySem.W.Frag} {mg : Str → Option Value} {base : Heap} {tL tM : Tok}
theorem pol_of {ns : List Int} (h : ns.length ≤ 13) (h0 : 0 < ns.length) (hb : BdA (2 ^ 15) ns) (hl : co ns (ns.length - 1) ≠ 0) : Pol ns := by
  refine ⟨h, fun n hn => Nat.le_trans (hb n hn) (by decide), ?_⟩
  rw [last_co h0]
  intro z
  exact hl (Option.some.inj z)
theorem bd_of {ns : List Int} {b : Nat} (hb : BdA b ns) (h : b < 2 ^ 15) : Bd 15 ns := fun n hn => Nat.lt_of_le_of_lt (hb n hn) h
def spLaw (K : PySem.W.Frag) : Sp := fun vs H Q _ => ∃ (a : Addr) (ns : List Int), vs = [.ref a] ∧ SqL K H a (ns.map V.int) ∧ ns.length ≤ 63 ∧ ∀ H', Q (.bl true) H'
theorem ok_law {f : Addr} {fd : FuncData} (F : Fun K "law" "law" s_law f fd) (T : Txt mg tL tM) (d_u_law_taken : Def P w K mg base "_law_taken" 1 ["row", "many"] (spTaken K)) (d_u_law_pick : Def P w K mg base "_law_pick" 2 ["row", "things"] (spPick K))
    (d_u_law_is : Def P w K mg base "_law_is" 1 ["found", "due"] spIs) (d_u_law_times : Def P w K mg base "_law_times" 2 ["one", "other"] (spTimes K)) (d_u_law_some : Def P w K mg base "_law_some" 3 ["row", "most", "size"] (spSome K))
    (d_u_law_minors : Def P w K mg base "_law_minors" 1 ["one"] (spMinors K)) (d_is_left : Def P w K mg base "is_left" 6 ["polynomial"] (spLeft K)) : FnOk P w K mg base CX0 7 f fd ["script"] (spLaw K) := by
  refine F.ok sc_law (fun vs H Q E h => ?_) (fun cdv A outer s H vs Q E hr h => ?_)
  · obtain ⟨a, sc, rfl, _⟩ := h
    rfl
  · obtain ⟨a, sc, rfl, hS, hlen, k⟩ := h
    refine ⟨_, (pss_cons (ps_set (i := 1) sc_law.nd rfl (Or.inl rfl) (pe_row (pa_cons (pv 0) (pa_cons pe_int (pa_cons pe_int (pa_cons pe_int pa_nil))))))
  (pss_cons (ps_par (i := 4) (j := 5) rfl sc_law.nd rfl rfl (by decide) rfl rfl (pa_cons (pe_tup (pa_cons (pe_callD d_u_law_pick (hr.mono (by decide)) (pa_cons (pv 1) (pa_cons (pe_lst (pa_cons pe_int (pa_cons pe_int (pa_cons (pe_un un_neg pe_int) pa_nil)))) pa_nil))) pa_nil)) (pa_cons pe_bl pa_nil)) (by rfl))
  (Evl.pss_cut (ps_for PassesOwn.never rfl (pi_range1 rfl T.b_range (pa_cons (pe_callD d_u_law_taken (hr.mono (by decide)) (pa_cons (pv 1) (pa_cons pe_int pa_nil))) pa_nil)) (pg_name (i := 2) sc_law.nd rfl (Or.inl rfl)) (pss_cons (ps_set (i := 6) sc_law.nd rfl (Or.inl rfl) (pe_callD d_u_law_taken (hr.mono (by decide)) (pa_cons (pv 1) (pa_cons pe_int pa_nil))))
  (pss_one (ps_if (pt_cmpR op_lt (pv 6) pe_int (nomark _)) (pss_one (ps_set (i := 4) sc_law.nd rfl (Or.inl rfl) (pe_callD d_u_law_times (hr.mono (by decide)) (pa_cons (pv 4) (pa_cons (pe_tup (pa_cons (pe_op op_add pe_int (pe_callD d_u_law_taken (hr.mono (by decide)) (pa_cons (pv 1) (pa_cons pe_int pa_nil)))) (pa_cons (pe_op op_add pe_int (pe_callD d_u_law_taken (hr.mono (by decide)) (pa_cons (pv 1) (pa_cons pe_int pa_nil)))) pa_nil))) pa_nil))))) (pss_one (ps_if (pt_cmpR op_lt (pv 6) pe_int (nomark _)) (pss_one (ps_set (i := 4) sc_law.nd rfl (Or.inl rfl) (pe_callD d_u_law_times (hr.mono (by decide)) (pa_cons (pv 4) (pa_cons (pe_tup (pa_cons (pe_op op_add pe_int (pe_callD d_u_law_taken (hr.mono (by decide)) (pa_cons (pv 1) (pa_cons pe_int pa_nil)))) (pa_cons (pe_op op_add pe_int (pe_callD d_u_law_taken (hr.mono (by decide)) (pa_cons (pv 1) (pa_cons pe_int pa_nil)))) (pa_cons (pe_op op_add pe_int (pe_callD d_u_law_taken (hr.mono (by decide)) (pa_cons (pv 1) (pa_cons pe_int pa_nil)))) pa_nil)))) pa_nil))))) (pss_cons (ps_set (i := 7) sc_law.nd rfl (Or.inl rfl) (pe_callD d_u_law_pick (hr.mono (by decide)) (pa_cons (pv 1) (pa_cons (pe_lst (pa_cons (pe_tup (pa_cons pe_int (pa_cons pe_int pa_nil))) (pa_cons (pe_tup (pa_cons pe_int (pa_cons pe_int (pa_cons pe_int pa_nil)))) (pa_cons (pe_tup (pa_cons (pe_un un_neg pe_int) (pa_cons pe_int pa_nil))) (pa_cons (pe_tup (pa_cons pe_int (pa_cons (pe_un un_neg pe_int) (pa_cons pe_int pa_nil)))) (pa_cons (pe_tup (pa_cons (pe_un un_neg pe_int) (pa_cons pe_int (pa_cons pe_int pa_nil)))) (pa_cons (pe_tup (pa_cons pe_int (pa_cons pe_int (pa_cons pe_int pa_nil)))) pa_nil))))))) pa_nil))))
  (pss_one (ps_par (i := 4) (j := 5) rfl sc_law.nd rfl rfl (by decide) rfl rfl (pa_cons (pe_callD d_u_law_times (hr.mono (by decide)) (pa_cons (pv 4) (pa_cons (pv 7) pa_nil))) (pa_cons pe_bl pa_nil)) (by rfl))))))))))
  (pss_cons (ps_if (PW.pt (pw_or (pt_not (pt_val (pe_callD d_u_law_is (hr.mono (by decide)) (pa_cons (pe_callD d_is_left (hr.mono (by decide)) (pa_cons (pv 4) pa_nil)) (pa_cons (pv 5) pa_nil))))) (pw_or1 (pt_cmpR op_ne (pe_callD d_u_law_minors (hr.mono (by decide)) (pa_cons (pv 4) pa_nil)) (pv 5) (nomark _))))) (pss_one (ps_ret pe_bl)) pss_nil)
  (pss_cons (ps_set (i := 3) sc_law.nd rfl (Or.inl rfl) (pe_callD d_u_law_some (hr.mono (by decide)) (pa_cons (pv 1) (pa_cons pe_int (pa_cons pe_int pa_nil)))))
  (pss_one (ps_ret (pe_callD d_u_law_is (hr.mono (by decide)) (pa_cons (pe_callD d_is_left (hr.mono (by decide)) (pa_cons (pv 3) pa_nil)) (pa_cons (pe_callD d_u_law_minors (hr.mono (by decide)) (pa_cons (pv 3) pa_nil)) pa_nil)))))))))), ?_⟩
    refine ⟨_, rfl, a, 3305, rfl, by decide, by decide, fun r hr0 => ?_⟩
    have x0 : Ex H (upd H r (RowO a r)) := Ex.new hr0
    have hR : upd H r (RowO a r) r = some (RowO a r) := upd_same
    have hS1 := ex_l x0 hS
    generalize upd H r (RowO a r) = H0 at x0 hR hS1
    -- one, due
    refine ⟨_, rfl, _, rfl, by show 3 ≤ sizeLine; decide, fun p1 hp1 => ?_⟩
    have x1 : Ex H0 (upd H0 p1 (.lst [.int 1, .int 2, .int (-1)])) := Ex.new hp1
    refine ⟨r, a, p1, sc, _, rfl, x1 _ _ hR, ex_l x1 hS1, SqL.of upd_same, by decide, by decide, fun i v hv => ?_⟩
    obtain ⟨c, rfl, hc⟩ : ∃ c : Int, v = .int c ∧ (c = 1 ∨ c = 2 ∨ c = -1) := by
      match i, hv with
      | 0, hv => cases hv; exact ⟨1, rfl, .inl rfl⟩
      | 1, hv => cases hv; exact ⟨2, rfl, .inr (.inl rfl)⟩
      | 2, hv => cases hv; exact ⟨-1, rfl, .inr (.inr rfl)⟩
    refine ⟨by show 1 ≤ sizeLine; decide, fun p2 hp2 => ?_⟩
    have x2 := x1.trans (Ex.new hp2 (o := .tup [.int c]))
    have ht2 : upd (upd H0 p1 (.lst [.int 1, .int 2, .int (-1)])) p2 (.tup [.int c]) p2 = some (.tup ([c].map V.int)) := upd_same
    generalize upd (upd H0 p1 (.lst [.int 1, .int 2, .int (-1)])) p2 (.tup [.int c]) = H2 at x2 ht2
    refine ⟨_, _, rfl, ?_⟩
    have hst := pst_start hc
    -- the factors
    refine ⟨fun σ' H' => ∃ (p : Addr) (ns : List Int) (d : Bool) (i : Nat) (v2 v6 v7 : Option V), σ' = [some (.ref a), some (.ref r), v2, none, some (.ref p), some (.bl d), v6, v7] ∧ Ex H0 H' ∧ H' p = some (.tup (ns.map V.int)) ∧ Pst i ns d ∧ i ≤ 4, ?_, ?_⟩
    · refine ⟨_, rfl, r, a, sc, 5, rfl, x2 _ _ hR, ex_l x2 hS1, by decide, by decide, fun m hm0 hm1 => ?_⟩
      refine ⟨_, rfl, by omega, by omega, for_range (lo := 0) (n := m.toNat) (fun i σ' H' => ∃ (p : Addr) (ns : List Int) (d : Bool) (v2 v6 v7 : Option V), σ' = [some (.ref a), some (.ref r), v2, none, some (.ref p), some (.bl d), v6, v7] ∧ Ex H0 H' ∧ H' p = some (.tup (ns.map V.int)) ∧ Pst i ns d) ⟨p2, [c], true, none, none, none, rfl, x2, ht2, hst⟩ ?_ ?_⟩
      · rintro i σ' H3 hi ⟨p, ns, d, v2, v6, v7, rfl, e3, hp, hst⟩
        have hi4 : i < 4 := by omega
        have hnl := hst.len
        have h11 : 2 * 11 ^ i ≤ 2 ^ 60 := Nat.le_trans (Nat.mul_le_mul_left 2 (Nat.pow_le_pow_right (by decide) (by omega : i ≤ 4))) (by decide)
        have hb60 : BdA (2 ^ 60) ns := hst.bd.mono h11
        refine ⟨_, rfl, r, a, sc, 8, rfl, e3 _ _ hR, ex_l e3 hS1, by decide, by decide, fun way hw0 hw1 => ?_⟩
        refine ⟨_, rfl, _, _, rfl, rfl, _, rfl, ?_⟩
        refine ite2 (fun _ => ?_) (fun _ => ⟨_, rfl, _, _, rfl, rfl, _, rfl, ite2 (fun _ => ?_) (fun _ => ?_)⟩)
        · -- a + b s
          refine ⟨_, rfl, _, rfl, r, a, sc, 5, rfl, e3 _ _ hR, ex_l e3 hS1, by decide, by decide, fun z1 z10 z11 => ⟨_, _, rfl, rfl, ?_⟩⟩
          refine ⟨_, rfl, r, a, sc, 3, rfl, e3 _ _ hR, ex_l e3 hS1, by decide, by decide, fun z2 z20 z21 => ⟨_, _, rfl, rfl, by show 2 ≤ sizeLine; decide, fun q hq => ?_⟩⟩
          have y1 := e3.trans (Ex.new hq (o := .tup [.int (1 + z1), .int (1 + z2)]))
          refine ⟨p, q, ns, [1 + z1, 1 + z2], rfl, SqT.of ((Ex.new hq) _ _ hp), SqT.of upd_same, by omega, by show 2 ≤ 100; decide, hb60, ?_, fun p' H' hp' e' h' => ?_⟩
          · intro y hy
            simp only [List.mem_cons, List.not_mem_nil, or_false] at hy
            rcases hy with rfl | rfl <;> omega
          · exact ⟨p', _, d, some (.int ((0 : Int) + (i : Int))), some (.int way), v7, rfl, y1.trans e', h', hst.lin (by omega) (by omega) (by omega)⟩
        · -- a + b s + c s s
          refine ⟨_, rfl, _, rfl, r, a, sc, 5, rfl, e3 _ _ hR, ex_l e3 hS1, by decide, by decide, fun z1 z10 z11 => ⟨_, _, rfl, rfl, ?_⟩⟩
          refine ⟨_, rfl, r, a, sc, 4, rfl, e3 _ _ hR, ex_l e3 hS1, by decide, by decide, fun z2 z20 z21 => ⟨_, _, rfl, rfl, ?_⟩⟩
          refine ⟨_, rfl, r, a, sc, 2, rfl, e3 _ _ hR, ex_l e3 hS1, by decide, by decide, fun z3 z30 z31 => ⟨_, _, rfl, rfl, by show 3 ≤ sizeLine; decide, fun q hq => ?_⟩⟩
          have y1 := e3.trans (Ex.new hq (o := .tup [.int (1 + z1), .int (1 + z2), .int (1 + z3)]))
          refine ⟨p, q, ns, [1 + z1, 1 + z2, 1 + z3], rfl, SqT.of ((Ex.new hq) _ _ hp), SqT.of upd_same, by omega, by show 3 ≤ 100; decide, hb60, ?_, fun p' H' hp' e' h' => ?_⟩
          · intro y hy
            simp only [List.mem_cons, List.not_mem_nil, or_false] at hy
            rcases hy with rfl | rfl | rfl <;> omega
          · exact ⟨p', _, d, some (.int ((0 : Int) + (i : Int))), some (.int way), v7, rfl, y1.trans e', h', hst.quad (by omega) (by omega) (by omega) (by omega)⟩
        · -- a factor that is not left
          refine ⟨_, rfl, by show 2 ≤ sizeLine; decide, fun q1 n1 => ?_⟩
          have f1 : Ex H3 (upd H3 q1 (.tup [.int 0, .int 1])) := Ex.new n1
          have t1 : upd H3 q1 (.tup [.int 0, .int 1]) q1 = some (.tup (([0, 1] : List Int).map V.int)) := upd_same
          generalize upd H3 q1 (.tup [.int 0, .int 1]) = G1 at f1 t1 ⊢
          refine ⟨by show 3 ≤ sizeLine; decide, fun q2 n2 => ?_⟩
          have f2 : Ex H3 (upd G1 q2 (.tup [.int 1, .int 0, .int 1])) := f1.trans (Ex.new n2)
          have t2 : upd G1 q2 (.tup [.int 1, .int 0, .int 1]) q2 = some (.tup (([1, 0, 1] : List Int).map V.int)) := upd_same
          have t1 := (Ex.new n2 (o := .tup [.int 1, .int 0, .int 1])) _ _ t1
          generalize upd G1 q2 (.tup [.int 1, .int 0, .int 1]) = G2 at f2 t1 t2 ⊢
          refine ⟨_, rfl, by show 2 ≤ sizeLine; decide, fun q3 n3 => ?_⟩
          have f3 : Ex H3 (upd G2 q3 (.tup [.int (-2), .int 1])) := f2.trans (Ex.new n3)
          have t3 : upd G2 q3 (.tup [.int (-2), .int 1]) q3 = some (.tup (([-2, 1] : List Int).map V.int)) := upd_same
          have t1 := (Ex.new n3 (o := .tup [.int (-2), .int 1])) _ _ t1
          have t2 := (Ex.new n3 (o := .tup [.int (-2), .int 1])) _ _ t2
          generalize upd G2 q3 (.tup [.int (-2), .int 1]) = G3 at f3 t1 t2 t3 ⊢
          refine ⟨_, rfl, by show 3 ≤ sizeLine; decide, fun q4 n4 => ?_⟩
          have f4 : Ex H3 (upd G3 q4 (.tup [.int 5, .int (-1), .int 1])) := f3.trans (Ex.new n4)
          have t4 : upd G3 q4 (.tup [.int 5, .int (-1), .int 1]) q4 = some (.tup (([5, -1, 1] : List Int).map V.int)) := upd_same
          have t1 := (Ex.new n4 (o := .tup [.int 5, .int (-1), .int 1])) _ _ t1
          have t2 := (Ex.new n4 (o := .tup [.int 5, .int (-1), .int 1])) _ _ t2
          have t3 := (Ex.new n4 (o := .tup [.int 5, .int (-1), .int 1])) _ _ t3
          generalize upd G3 q4 (.tup [.int 5, .int (-1), .int 1]) = G4 at f4 t1 t2 t3 t4 ⊢
          refine ⟨_, rfl, by show 3 ≤ sizeLine; decide, fun q5 n5 => ?_⟩
          have f5 : Ex H3 (upd G4 q5 (.tup [.int (-1), .int 0, .int 1])) := f4.trans (Ex.new n5)
          have t5 : upd G4 q5 (.tup [.int (-1), .int 0, .int 1]) q5 = some (.tup (([-1, 0, 1] : List Int).map V.int)) := upd_same
          have t1 := (Ex.new n5 (o := .tup [.int (-1), .int 0, .int 1])) _ _ t1
          have t2 := (Ex.new n5 (o := .tup [.int (-1), .int 0, .int 1])) _ _ t2
          have t3 := (Ex.new n5 (o := .tup [.int (-1), .int 0, .int 1])) _ _ t3
          have t4 := (Ex.new n5 (o := .tup [.int (-1), .int 0, .int 1])) _ _ t4
          generalize upd G4 q5 (.tup [.int (-1), .int 0, .int 1]) = G5 at f5 t1 t2 t3 t4 t5 ⊢
          refine ⟨by show 3 ≤ sizeLine; decide, fun q6 n6 => ?_⟩
          have f6 : Ex H3 (upd G5 q6 (.tup [.int 4, .int 0, .int 1])) := f5.trans (Ex.new n6)
          have t6 : upd G5 q6 (.tup [.int 4, .int 0, .int 1]) q6 = some (.tup (([4, 0, 1] : List Int).map V.int)) := upd_same
          have t1 := (Ex.new n6 (o := .tup [.int 4, .int 0, .int 1])) _ _ t1
          have t2 := (Ex.new n6 (o := .tup [.int 4, .int 0, .int 1])) _ _ t2
          have t3 := (Ex.new n6 (o := .tup [.int 4, .int 0, .int 1])) _ _ t3
          have t4 := (Ex.new n6 (o := .tup [.int 4, .int 0, .int 1])) _ _ t4
          have t5 := (Ex.new n6 (o := .tup [.int 4, .int 0, .int 1])) _ _ t5
          generalize upd G5 q6 (.tup [.int 4, .int 0, .int 1]) = G6 at f6 t1 t2 t3 t4 t5 t6 ⊢
          refine ⟨by show 6 ≤ sizeLine; decide, fun q7 n7 => ?_⟩
          have g7 : Ex G6 (upd G6 q7 (.lst [.ref q1, .ref q2, .ref q3, .ref q4, .ref q5, .ref q6])) := Ex.new n7
          have f7 := f6.trans g7
          have y7 := e3.trans f7
          refine ⟨r, a, q7, sc, _, rfl, y7 _ _ hR, ex_l y7 hS1, SqL.of upd_same, by show 0 < 6; decide, by show 6 ≤ 1000; decide, fun j v hv => ?_⟩
          generalize upd G6 q7 (.lst [.ref q1, .ref q2, .ref q3, .ref q4, .ref q5, .ref q6]) = G7 at g7 f7 y7 ⊢
          obtain ⟨q, ms, rfl, hq, hml, hms, hpst⟩ : ∃ (q : Addr) (ms : List Int), v = .ref q ∧ G7 q = some (.tup (ms.map V.int)) ∧ ms.length ≤ 100 ∧ BdA (2 ^ 60) ms ∧ Pst (i + 1) (mulL ns ms) false := by
            match j, hv with
            | 0, hv => cases hv; exact ⟨q1, [0, 1], rfl, g7 _ _ t1, by decide, (by decide : ∀ n ∈ ([0, 1] : List Int), n.natAbs ≤ 2 ^ 60), hst.rlin (x := 0) (by decide) (by decide)⟩
            | 1, hv => cases hv; exact ⟨q2, [1, 0, 1], rfl, g7 _ _ t2, by decide, (by decide : ∀ n ∈ ([1, 0, 1] : List Int), n.natAbs ≤ 2 ^ 60), hst.rquad (by decide) (.inr ⟨by decide, by decide⟩)⟩
            | 2, hv => cases hv; exact ⟨q3, [-2, 1], rfl, g7 _ _ t3, by decide, (by decide : ∀ n ∈ ([-2, 1] : List Int), n.natAbs ≤ 2 ^ 60), hst.rlin (x := 2) (by decide) (by decide)⟩
            | 3, hv => cases hv; exact ⟨q4, [5, -1, 1], rfl, g7 _ _ t4, by decide, (by decide : ∀ n ∈ ([5, -1, 1] : List Int), n.natAbs ≤ 2 ^ 60), hst.rquad (by decide) (.inr ⟨by decide, by decide⟩)⟩
            | 4, hv => cases hv; exact ⟨q5, [-1, 0, 1], rfl, g7 _ _ t5, by decide, (by decide : ∀ n ∈ ([-1, 0, 1] : List Int), n.natAbs ≤ 2 ^ 60), hst.rquad (by decide) (.inl ⟨1, by decide, by decide⟩)⟩
            | 5, hv => cases hv; exact ⟨q6, [4, 0, 1], rfl, g7 _ _ t6, by decide, (by decide : ∀ n ∈ ([4, 0, 1] : List Int), n.natAbs ≤ 2 ^ 60), hst.rquad (by decide) (.inr ⟨by decide, by decide⟩)⟩
          refine ⟨_, rfl, _, rfl, p, q, ns, ms, rfl, SqT.of (f7 _ _ hp), SqT.of hq, by omega, hml, hb60, hms, fun p' H' hp' e' h' => ?_⟩
          exact ⟨_, _, rfl, p', _, false, some (.int ((0 : Int) + (i : Int))), some (.int way), some (.ref q), rfl, y7.trans e', h', hpst⟩
      · rintro σ' H3 ⟨p, ns, d, v2, v6, v7, rfl, e3, hp, hst⟩
        exact ⟨p, ns, d, _, v2, v6, v7, rfl, e3, hp, hst, by omega⟩
    rintro σ' H3 ⟨p, ns, d, i, v2, v6, v7, rfl, e3, hp, hst, hi⟩
    obtain ⟨hleft, hmins⟩ := hst.end
    have hnl := hst.len
    have h11 : 2 * 11 ^ i < 2 ^ 15 := Nat.lt_of_le_of_lt (Nat.mul_le_mul_left 2 (Nat.pow_le_pow_right (by decide) hi)) (by decide)
    have hb15 : BdA (2 ^ 15) ns := hst.bd.mono (by omega)
    have hc : (15 + 1) * 2 ^ ns.length ≤ 9000 := Nat.le_trans (Nat.mul_le_mul_left 16 (Nat.pow_le_pow_right (by decide) (by omega : ns.length ≤ 9))) (by decide)
    refine ⟨_, rfl, p, ns, 15, rfl, SqT.of hp, pol_of (by omega) hst.pos hb15 hst.last, List.length_pos_iff.mp hst.pos, bd_of hst.bd h11, hc, fun H4 e4 => ?_⟩
    rw [hleft]
    refine ⟨_, rfl, d, d, rfl, _, rfl, ?_⟩
    rw [beq_self_eq_true]
    refine iteF ?_
    have e5 := e3.trans e4
    refine ⟨_, rfl, p, ns, rfl, SqT.of (e4 _ _ hp), hst.pos, by omega, hb15, fun H5 e6 => ?_⟩
    rw [hmins]
    refine ⟨_, rfl, rfl, _, rfl, ?_⟩
    have ed : (!decide (V.bl d = V.bl d)) = false := by rw [decide_eq_true rfl]; rfl
    rw [ed]
    refine iteF ?_
    have e7 := e5.trans e6
    -- another one
    refine ⟨_, rfl, r, a, sc, 4, 5, rfl, e7 _ _ hR, ex_l e7 hS1, by decide, by decide, by decide, by decide, fun po H6 qs e8 ho hq0 hql hqb hqn => ?_⟩
    have hql' : qs.length ≤ 5 := by omega
    have hqb5 : BdA 5 qs := hqb
    have hq15 : BdA (2 ^ 15) qs := hqb5.mono (by decide)
    have hc2 : (15 + 1) * 2 ^ qs.length ≤ 9000 := Nat.le_trans (Nat.mul_le_mul_left 16 (Nat.pow_le_pow_right (by decide) hql')) (by decide)
    refine ⟨_, rfl, po, qs, 15, rfl, SqT.of ho, pol_of (by omega) hq0 hq15 hqn, List.length_pos_iff.mp hq0, bd_of hqb5 (by decide), hc2, fun H7 e9 => ?_⟩
    refine ⟨_, rfl, po, qs, rfl, SqT.of (e9 _ _ ho), hq0, by omega, hq15, fun H8 e10 => ?_⟩
    refine ⟨leftB qs, minB qs, rfl, ?_⟩
    rw [minB_left hq0 hqn, beq_self_eq_true]
    exact k _
end
end Coil

set_option Elab.async false
set_option linter.all false
set_option maxRecDepth 100000
set_option maxHeartbeats 4000000
namespace Coil
open PySem L2 Evl
/-! ### what the top has written -/
theorem all_mk {l : PySem.W.OpenLaw} {w : World} {K : PySem.W.Frag} {h : Heap} {mg : Str → Option Value} {fa f0 f1 f2 f3 f4 f5 f6 f7 f8 f9 f10 f11 f12 f13 f14 f15 f16 f17 f18 : Addr} (X : K.In h) (G : h.Ns mainGlobals mg) (hfa : mg "law" = some (.ref fa))
    {od0 an0 : Option Addr} {sl0 : Array (Option Value)} {oc0 kV0 dc0 pm0 cd0 ct0 : Value}
    {od1 an1 : Option Addr} {sl1 : Array (Option Value)} {oc1 kV1 dc1 pm1 cd1 ct1 : Value}
    {od2 an2 : Option Addr} {sl2 : Array (Option Value)} {oc2 kV2 dc2 pm2 cd2 ct2 : Value}
    {od3 an3 : Option Addr} {sl3 : Array (Option Value)} {oc3 kV3 dc3 pm3 cd3 ct3 : Value}
    {od4 an4 : Option Addr} {sl4 : Array (Option Value)} {oc4 kV4 dc4 pm4 cd4 ct4 : Value}
    {od5 an5 : Option Addr} {sl5 : Array (Option Value)} {oc5 kV5 dc5 pm5 cd5 ct5 : Value}
    {od6 an6 : Option Addr} {sl6 : Array (Option Value)} {oc6 kV6 dc6 pm6 cd6 ct6 : Value}
    {od7 an7 : Option Addr} {sl7 : Array (Option Value)} {oc7 kV7 dc7 pm7 cd7 ct7 : Value}
    {od8 an8 : Option Addr} {sl8 : Array (Option Value)} {oc8 kV8 dc8 pm8 cd8 ct8 : Value}
    {od9 an9 : Option Addr} {sl9 : Array (Option Value)} {oc9 kV9 dc9 pm9 cd9 ct9 : Value}
    {od10 an10 : Option Addr} {sl10 : Array (Option Value)} {oc10 kV10 dc10 pm10 cd10 ct10 : Value}
    {od11 an11 : Option Addr} {sl11 : Array (Option Value)} {oc11 kV11 dc11 pm11 cd11 ct11 : Value}
    {od12 an12 : Option Addr} {sl12 : Array (Option Value)} {oc12 kV12 dc12 pm12 cd12 ct12 : Value}
    {od13 an13 : Option Addr} {sl13 : Array (Option Value)} {oc13 kV13 dc13 pm13 cd13 ct13 : Value}
    {od14 an14 : Option Addr} {sl14 : Array (Option Value)} {oc14 kV14 dc14 pm14 cd14 ct14 : Value}
    {od15 an15 : Option Addr} {sl15 : Array (Option Value)} {oc15 kV15 dc15 pm15 cd15 ct15 : Value}
    {od16 an16 : Option Addr} {sl16 : Array (Option Value)} {oc16 kV16 dc16 pm16 cd16 ct16 : Value}
    {od17 an17 : Option Addr} {sl17 : Array (Option Value)} {oc17 kV17 dc17 pm17 cd17 ct17 : Value}
    {od18 an18 : Option Addr} {sl18 : Array (Option Value)} {oc18 kV18 dc18 pm18 cd18 ct18 : Value}
    {tL tM : Tok}
    (a0 : PySem.W.nsIn K mainGlobals "content" = some (some (.ref f0)))
    (l0 : K.lookup f0 = some ⟨oc0, od0, .func (PySem.W.fnOf "content" "content" (defArgs s_content) (defBody s_content) (defScope s_content) .none kV0 dc0 pm0 an0 cd0 ct0), sl0⟩) (c0 : PySem.W.codeIn K cd0 "content" = true) (k0 : PySem.W.keepIn K (.ref f0) = true)
    (a1 : PySem.W.nsIn K mainGlobals "is_integer" = some (some (.ref f1)))
    (l1 : K.lookup f1 = some ⟨oc1, od1, .func (PySem.W.fnOf "is_integer" "is_integer" (defArgs s_is_integer) (defBody s_is_integer) (defScope s_is_integer) .none kV1 dc1 pm1 an1 cd1 ct1), sl1⟩) (c1 : PySem.W.codeIn K cd1 "is_integer" = true) (k1 : PySem.W.keepIn K (.ref f1) = true)
    (a2 : PySem.W.nsIn K mainGlobals "_is_limited_integer" = some (some (.ref f2)))
    (l2 : K.lookup f2 = some ⟨oc2, od2, .func (PySem.W.fnOf "_is_limited_integer" "_is_limited_integer" (defArgs s_u_is_limited_integer) (defBody s_u_is_limited_integer) (defScope s_u_is_limited_integer) .none kV2 dc2 pm2 an2 cd2 ct2), sl2⟩) (c2 : PySem.W.codeIn K cd2 "_is_limited_integer" = true) (k2 : PySem.W.keepIn K (.ref f2) = true)
    (a3 : PySem.W.nsIn K mainGlobals "is_polynomial" = some (some (.ref f3)))
    (l3 : K.lookup f3 = some ⟨oc3, od3, .func (PySem.W.fnOf "is_polynomial" "is_polynomial" (defArgs s_is_polynomial) (defBody s_is_polynomial) (defScope s_is_polynomial) .none kV3 dc3 pm3 an3 cd3 ct3), sl3⟩) (c3 : PySem.W.codeIn K cd3 "is_polynomial" = true) (k3 : PySem.W.keepIn K (.ref f3) = true)
    (a4 : PySem.W.nsIn K mainGlobals "check_polynomial" = some (some (.ref f4)))
    (l4 : K.lookup f4 = some ⟨oc4, od4, .func (PySem.W.fnOf "check_polynomial" "check_polynomial" (defArgs s_check_polynomial) (defBody s_check_polynomial) (defScope s_check_polynomial) .none kV4 dc4 pm4 an4 cd4 ct4), sl4⟩) (c4 : PySem.W.codeIn K cd4 "check_polynomial" = true) (k4 : PySem.W.keepIn K (.ref f4) = true)
    (a5 : PySem.W.nsIn K mainGlobals "_check_not_zero" = some (some (.ref f5)))
    (l5 : K.lookup f5 = some ⟨oc5, od5, .func (PySem.W.fnOf "_check_not_zero" "_check_not_zero" (defArgs s_u_check_not_zero) (defBody s_u_check_not_zero) (defScope s_u_check_not_zero) .none kV5 dc5 pm5 an5 cd5 ct5), sl5⟩) (c5 : PySem.W.codeIn K cd5 "_check_not_zero" = true) (k5 : PySem.W.keepIn K (.ref f5) = true)
    (a6 : PySem.W.nsIn K mainGlobals "_with_small_numbers" = some (some (.ref f6)))
    (l6 : K.lookup f6 = some ⟨oc6, od6, .func (PySem.W.fnOf "_with_small_numbers" "_with_small_numbers" (defArgs s_u_with_small_numbers) (defBody s_u_with_small_numbers) (defScope s_u_with_small_numbers) .none kV6 dc6 pm6 an6 cd6 ct6), sl6⟩) (c6 : PySem.W.codeIn K cd6 "_with_small_numbers" = true) (k6 : PySem.W.keepIn K (.ref f6) = true)
    (a7 : PySem.W.nsIn K mainGlobals "_is_routh_positive" = some (some (.ref f7)))
    (l7 : K.lookup f7 = some ⟨oc7, od7, .func (PySem.W.fnOf "_is_routh_positive" "_is_routh_positive" (defArgs s_u_is_routh_positive) (defBody s_u_is_routh_positive) (defScope s_u_is_routh_positive) .none kV7 dc7 pm7 an7 cd7 ct7), sl7⟩) (c7 : PySem.W.codeIn K cd7 "_is_routh_positive" = true) (k7 : PySem.W.keepIn K (.ref f7) = true)
    (a8 : PySem.W.nsIn K mainGlobals "has_left_roots" = some (some (.ref f8)))
    (l8 : K.lookup f8 = some ⟨oc8, od8, .func (PySem.W.fnOf "has_left_roots" "has_left_roots" (defArgs s_has_left_roots) (defBody s_has_left_roots) (defScope s_has_left_roots) .none kV8 dc8 pm8 an8 cd8 ct8), sl8⟩) (c8 : PySem.W.codeIn K cd8 "has_left_roots" = true) (k8 : PySem.W.keepIn K (.ref f8) = true)
    (a9 : PySem.W.nsIn K mainGlobals "is_left" = some (some (.ref f9)))
    (l9 : K.lookup f9 = some ⟨oc9, od9, .func (PySem.W.fnOf "is_left" "is_left" (defArgs s_is_left) (defBody s_is_left) (defScope s_is_left) .none kV9 dc9 pm9 an9 cd9 ct9), sl9⟩) (c9 : PySem.W.codeIn K cd9 "is_left" = true) (k9 : PySem.W.keepIn K (.ref f9) = true)
    (a10 : PySem.W.nsIn K mainGlobals "_law_taken" = some (some (.ref f10)))
    (l10 : K.lookup f10 = some ⟨oc10, od10, .func (PySem.W.fnOf "_law_taken" "_law_taken" (defArgs s_u_law_taken) (defBody s_u_law_taken) (defScope s_u_law_taken) .none kV10 dc10 pm10 an10 cd10 ct10), sl10⟩) (c10 : PySem.W.codeIn K cd10 "_law_taken" = true) (k10 : PySem.W.keepIn K (.ref f10) = true)
    (a11 : PySem.W.nsIn K mainGlobals "_law_pick" = some (some (.ref f11)))
    (l11 : K.lookup f11 = some ⟨oc11, od11, .func (PySem.W.fnOf "_law_pick" "_law_pick" (defArgs s_u_law_pick) (defBody s_u_law_pick) (defScope s_u_law_pick) .none kV11 dc11 pm11 an11 cd11 ct11), sl11⟩) (c11 : PySem.W.codeIn K cd11 "_law_pick" = true) (k11 : PySem.W.keepIn K (.ref f11) = true)
    (a12 : PySem.W.nsIn K mainGlobals "_law_is" = some (some (.ref f12)))
    (l12 : K.lookup f12 = some ⟨oc12, od12, .func (PySem.W.fnOf "_law_is" "_law_is" (defArgs s_u_law_is) (defBody s_u_law_is) (defScope s_u_law_is) .none kV12 dc12 pm12 an12 cd12 ct12), sl12⟩) (c12 : PySem.W.codeIn K cd12 "_law_is" = true) (k12 : PySem.W.keepIn K (.ref f12) = true)
    (a13 : PySem.W.nsIn K mainGlobals "_law_trim" = some (some (.ref f13)))
    (l13 : K.lookup f13 = some ⟨oc13, od13, .func (PySem.W.fnOf "_law_trim" "_law_trim" (defArgs s_u_law_trim) (defBody s_u_law_trim) (defScope s_u_law_trim) .none kV13 dc13 pm13 an13 cd13 ct13), sl13⟩) (c13 : PySem.W.codeIn K cd13 "_law_trim" = true) (k13 : PySem.W.keepIn K (.ref f13) = true)
    (a14 : PySem.W.nsIn K mainGlobals "_law_times" = some (some (.ref f14)))
    (l14 : K.lookup f14 = some ⟨oc14, od14, .func (PySem.W.fnOf "_law_times" "_law_times" (defArgs s_u_law_times) (defBody s_u_law_times) (defScope s_u_law_times) .none kV14 dc14 pm14 an14 cd14 ct14), sl14⟩) (c14 : PySem.W.codeIn K cd14 "_law_times" = true) (k14 : PySem.W.keepIn K (.ref f14) = true)
    (a15 : PySem.W.nsIn K mainGlobals "_law_poly" = some (some (.ref f15)))
    (l15 : K.lookup f15 = some ⟨oc15, od15, .func (PySem.W.fnOf "_law_poly" "_law_poly" (defArgs s_u_law_poly) (defBody s_u_law_poly) (defScope s_u_law_poly) .none kV15 dc15 pm15 an15 cd15 ct15), sl15⟩) (c15 : PySem.W.codeIn K cd15 "_law_poly" = true) (k15 : PySem.W.keepIn K (.ref f15) = true)
    (a16 : PySem.W.nsIn K mainGlobals "_law_some" = some (some (.ref f16)))
    (l16 : K.lookup f16 = some ⟨oc16, od16, .func (PySem.W.fnOf "_law_some" "_law_some" (defArgs s_u_law_some) (defBody s_u_law_some) (defScope s_u_law_some) .none kV16 dc16 pm16 an16 cd16 ct16), sl16⟩) (c16 : PySem.W.codeIn K cd16 "_law_some" = true) (k16 : PySem.W.keepIn K (.ref f16) = true)
    (a17 : PySem.W.nsIn K mainGlobals "_law_minors" = some (some (.ref f17)))
    (l17 : K.lookup f17 = some ⟨oc17, od17, .func (PySem.W.fnOf "_law_minors" "_law_minors" (defArgs s_u_law_minors) (defBody s_u_law_minors) (defScope s_u_law_minors) .none kV17 dc17 pm17 an17 cd17 ct17), sl17⟩) (c17 : PySem.W.codeIn K cd17 "_law_minors" = true) (k17 : PySem.W.keepIn K (.ref f17) = true)
    (a18 : PySem.W.nsIn K mainGlobals "law" = some (some (.ref f18)))
    (l18 : K.lookup f18 = some ⟨oc18, od18, .func (PySem.W.fnOf "law" "law" (defArgs s_law) (defBody s_law) (defScope s_law) .none kV18 dc18 pm18 an18 cd18 ct18), sl18⟩) (c18 : PySem.W.codeIn K cd18 "law" = true) (k18 : PySem.W.keepIn K (.ref f18) = true)
    (m_gcd : PySem.W.nsIn K mainGlobals "gcd" = some (some (.builtin "math.gcd")))
    (m_LARGEST : PySem.W.nsIn K mainGlobals "LARGEST" = some (some (.int 1000000000000000000000000000000000000000000000000000000000000 tL)))
    (m_MOST_COEFFICIENTS : PySem.W.nsIn K mainGlobals "MOST_COEFFICIENTS" = some (some (.int 13 tM)))
    (z_abs : PySem.W.nsIn K mainGlobals "abs" = some none)
    (z_all : PySem.W.nsIn K mainGlobals "all" = some none)
    (z_bool : PySem.W.nsIn K mainGlobals "bool" = some none)
    (z_int : PySem.W.nsIn K mainGlobals "int" = some none)
    (z_isinstance : PySem.W.nsIn K mainGlobals "isinstance" = some none)
    (z_len : PySem.W.nsIn K mainGlobals "len" = some none)
    (z_list : PySem.W.nsIn K mainGlobals "list" = some none)
    (z_max : PySem.W.nsIn K mainGlobals "max" = some none)
    (z_range : PySem.W.nsIn K mainGlobals "range" = some none)
    (z_tuple : PySem.W.nsIn K mainGlobals "tuple" = some none)
    : ∃ fd : FuncData, (∀ (s : Shared) (v : Value), BindsTo s fd ⟨[v], []⟩ [("script", v)]) ∧ ∀ base : Heap, K.In base → base.Ns mainGlobals mg → FnOk l.prog w K mg base CX0 7 fa fd ["script"] (spLaw K) := by
  have e := hfa.symm.trans (PySem.W.mg_of X G a18)
  cases e
  have T : Txt mg tL tM := ⟨PySem.W.mg_of X G m_gcd, PySem.W.mg_of X G m_LARGEST, PySem.W.mg_of X G m_MOST_COEFFICIENTS, PySem.W.mg_none_of X G z_abs, PySem.W.mg_none_of X G z_all, PySem.W.mg_none_of X G z_bool, PySem.W.mg_none_of X G z_int, PySem.W.mg_none_of X G z_isinstance, PySem.W.mg_none_of X G z_len, PySem.W.mg_none_of X G z_list, PySem.W.mg_none_of X G z_max, PySem.W.mg_none_of X G z_range, PySem.W.mg_none_of X G z_tuple⟩
  have F0 := fun_mk (st := s_content) l0 c0 k0
  have F1 := fun_mk (st := s_is_integer) l1 c1 k1
  have F2 := fun_mk (st := s_u_is_limited_integer) l2 c2 k2
  have F3 := fun_mk (st := s_is_polynomial) l3 c3 k3
  have F4 := fun_mk (st := s_check_polynomial) l4 c4 k4
  have F5 := fun_mk (st := s_u_check_not_zero) l5 c5 k5
  have F6 := fun_mk (st := s_u_with_small_numbers) l6 c6 k6
  have F7 := fun_mk (st := s_u_is_routh_positive) l7 c7 k7
  have F8 := fun_mk (st := s_has_left_roots) l8 c8 k8
  have F9 := fun_mk (st := s_is_left) l9 c9 k9
  have F10 := fun_mk (st := s_u_law_taken) l10 c10 k10
  have F11 := fun_mk (st := s_u_law_pick) l11 c11 k11
  have F12 := fun_mk (st := s_u_law_is) l12 c12 k12
  have F13 := fun_mk (st := s_u_law_trim) l13 c13 k13
  have F14 := fun_mk (st := s_u_law_times) l14 c14 k14
  have F15 := fun_mk (st := s_u_law_poly) l15 c15 k15
  have F16 := fun_mk (st := s_u_law_some) l16 c16 k16
  have F17 := fun_mk (st := s_u_law_minors) l17 c17 k17
  have F18 := fun_mk (st := s_law) l18 c18 k18
  have b0 := F0.binds (ps := ["polynomial"]) fun _ _ _ _ _ _ us hl => match us, hl with | [_], _ => rfl
  have b1 := F1.binds (ps := ["value"]) fun _ _ _ _ _ _ us hl => match us, hl with | [_], _ => rfl
  have b2 := F2.binds (ps := ["value"]) fun _ _ _ _ _ _ us hl => match us, hl with | [_], _ => rfl
  have b3 := F3.binds (ps := ["value"]) fun _ _ _ _ _ _ us hl => match us, hl with | [_], _ => rfl
  have b4 := F4.binds (ps := ["value"]) fun _ _ _ _ _ _ us hl => match us, hl with | [_], _ => rfl
  have b5 := F5.binds (ps := ["polynomial"]) fun _ _ _ _ _ _ us hl => match us, hl with | [_], _ => rfl
  have b6 := F6.binds (ps := ["row"]) fun _ _ _ _ _ _ us hl => match us, hl with | [_], _ => rfl
  have b7 := F7.binds (ps := ["upper", "lower"]) fun _ _ _ _ _ _ us hl => match us, hl with | [_, _], _ => rfl
  have b8 := F8.binds (ps := ["polynomial"]) fun _ _ _ _ _ _ us hl => match us, hl with | [_], _ => rfl
  have b9 := F9.binds (ps := ["polynomial"]) fun _ _ _ _ _ _ us hl => match us, hl with | [_], _ => rfl
  have b10 := F10.binds (ps := ["row", "many"]) fun _ _ _ _ _ _ us hl => match us, hl with | [_, _], _ => rfl
  have b11 := F11.binds (ps := ["row", "things"]) fun _ _ _ _ _ _ us hl => match us, hl with | [_, _], _ => rfl
  have b12 := F12.binds (ps := ["found", "due"]) fun _ _ _ _ _ _ us hl => match us, hl with | [_, _], _ => rfl
  have b13 := F13.binds (ps := ["some"]) fun _ _ _ _ _ _ us hl => match us, hl with | [_], _ => rfl
  have b14 := F14.binds (ps := ["one", "other"]) fun _ _ _ _ _ _ us hl => match us, hl with | [_, _], _ => rfl
  have b15 := F15.binds (ps := ["row", "most", "size"]) fun _ _ _ _ _ _ us hl => match us, hl with | [_, _, _], _ => rfl
  have b16 := F16.binds (ps := ["row", "most", "size"]) fun _ _ _ _ _ _ us hl => match us, hl with | [_, _, _], _ => rfl
  have b17 := F17.binds (ps := ["one"]) fun _ _ _ _ _ _ us hl => match us, hl with | [_], _ => rfl
  refine ⟨PySem.W.fnOf "law" "law" (defArgs s_law) (defBody s_law) (defScope s_law) .none kV18 dc18 pm18 an18 cd18 ct18, fun s v => .of_eq rfl, fun base _ _ => ?_⟩
  have d_content : Def l.prog w K mg base "content" 1 ["polynomial"] (spContent K) := ⟨f0, _, ok_content F0 T, PySem.W.mg_of X G a0, k0, b0⟩
  have d_is_integer : Def l.prog w K mg base "is_integer" 1 ["value"] (spIsInt) := ⟨f1, _, ok_is_integer F1 T, PySem.W.mg_of X G a1, k1, b1⟩
  have d_u_is_limited_integer : Def l.prog w K mg base "_is_limited_integer" 2 ["value"] (spLim) := ⟨f2, _, ok_lim F2 T d_is_integer, PySem.W.mg_of X G a2, k2, b2⟩
  have d_is_polynomial : Def l.prog w K mg base "is_polynomial" 3 ["value"] (spIsPoly K) := ⟨f3, _, ok_is_polynomial F3 T d_u_is_limited_integer, PySem.W.mg_of X G a3, k3, b3⟩
  have d_check_polynomial : Def l.prog w K mg base "check_polynomial" 4 ["value"] (spCheck K) := ⟨f4, _, ok_check_polynomial F4 d_is_polynomial, PySem.W.mg_of X G a4, k4, b4⟩
  have d_u_check_not_zero : Def l.prog w K mg base "_check_not_zero" 5 ["polynomial"] (spNotZero K) := ⟨f5, _, ok_check_not_zero F5 d_check_polynomial, PySem.W.mg_of X G a5, k5, b5⟩
  have d_u_with_small_numbers : Def l.prog w K mg base "_with_small_numbers" 2 ["row"] (spSmall K) := ⟨f6, _, ok_with_small F6 T d_content, PySem.W.mg_of X G a6, k6, b6⟩
  have d_u_is_routh_positive : Def l.prog w K mg base "_is_routh_positive" 3 ["upper", "lower"] (spRouth) := ⟨f7, _, ok_routh F7 T d_u_with_small_numbers, PySem.W.mg_of X G a7, k7, b7⟩
  have d_has_left_roots : Def l.prog w K mg base "has_left_roots" 4 ["polynomial"] (spLeft K) := ⟨f8, _, ok_has_left F8 T d_u_is_routh_positive, PySem.W.mg_of X G a8, k8, b8⟩
  have d_is_left : Def l.prog w K mg base "is_left" 6 ["polynomial"] (spLeft K) := ⟨f9, _, ok_is_left F9 d_u_check_not_zero d_has_left_roots, PySem.W.mg_of X G a9, k9, b9⟩
  have d_u_law_taken : Def l.prog w K mg base "_law_taken" 1 ["row", "many"] (spTaken K) := ⟨f10, _, ok_taken F10 T, PySem.W.mg_of X G a10, k10, b10⟩
  have d_u_law_pick : Def l.prog w K mg base "_law_pick" 2 ["row", "things"] (spPick K) := ⟨f11, _, ok_pick F11 T d_u_law_taken, PySem.W.mg_of X G a11, k11, b11⟩
  have d_u_law_is : Def l.prog w K mg base "_law_is" 1 ["found", "due"] (spIs) := ⟨f12, _, ok_is F12 T, PySem.W.mg_of X G a12, k12, b12⟩
  have d_u_law_trim : Def l.prog w K mg base "_law_trim" 1 ["some"] (spTrim K) := ⟨f13, _, ok_trim F13 T, PySem.W.mg_of X G a13, k13, b13⟩
  have d_u_law_times : Def l.prog w K mg base "_law_times" 2 ["one", "other"] (spTimes K) := ⟨f14, _, ok_times F14 T d_u_law_trim, PySem.W.mg_of X G a14, k14, b14⟩
  have d_u_law_poly : Def l.prog w K mg base "_law_poly" 2 ["row", "most", "size"] (spPoly K) := ⟨f15, _, ok_poly F15 T d_u_law_trim d_u_law_taken, PySem.W.mg_of X G a15, k15, b15⟩
  have d_u_law_some : Def l.prog w K mg base "_law_some" 3 ["row", "most", "size"] (spSome K) := ⟨f16, _, ok_some F16 T d_u_law_poly d_u_law_taken, PySem.W.mg_of X G a16, k16, b16⟩
  have d_u_law_minors : Def l.prog w K mg base "_law_minors" 1 ["one"] (spMinors K) := ⟨f17, _, ok_minors F17 T, PySem.W.mg_of X G a17, k17, b17⟩
  exact ok_law F18 T d_u_law_taken d_u_law_pick d_u_law_is d_u_law_times d_u_law_some d_u_law_minors d_is_left
theorem walk {l : PySem.W.OpenLaw} {q : Program} {loose : List Str} {XP : (Str → Option Value) → Heap → Prop} {YP : World → Heap → Prop} {d : DefRec} {K : Params → PySem.W.Frag} (hn : l.most = some 63) (hdf : d.params.defaults = [])
    (hY : ∀ (w : World) (h : Heap), YP w h → (K w.params).In h)
    (F : ∀ (w : World) (mg : Str → Option Value) (fa : Addr) (h : Heap), (K w.params).In h → h.Ns mainGlobals mg → mg d.name = some (.ref fa) →
      ∃ fd : FuncData, (∀ (s : Shared) (u : Value), BindsTo s fd ⟨[u], []⟩ [("script", u)]) ∧ ∀ base : Heap, (K w.params).In base → base.Ns mainGlobals mg → FnOk l.prog w (K w.params) mg base CX0 7 fa fd ["script"] (spLaw (K w.params))) :
    PySem.W.WalkO q loose XP YP l.row.toRowW d [] (fun f vs => PySem.call f vs) :=
  L2.walk_of (n := 63) (k := 7) (x := "script") (CX := fun _ => CX0) (sp := fun w => spLaw (K w.params)) hn (by decide) hdf ⟨rfl, by decide, by decide⟩ hY F (fun _ _ a ns hl _ hS => ⟨a, ns, rfl, hS, hl, fun _ => rfl⟩) fun _ _ _ _ _ z => z
end Coil

open PySem PySem.W PyProof.Rows in
set_option maxRecDepth 100000 in
set_option maxHeartbeats 0 in
theorem PySem.Challenge.cw_coilnets_k05_whole_roots_on_the_left_holds : PySem.Challenge.rw_coilnets_k05_whole_roots_on_the_left.Holds := by
  w_on; o_law; k_head; (case hw => w_witness2)
  k_fill
  refine Coil.walk (l := PySem.Challenge.rw_coilnets_k05_whole_roots_on_the_left) rfl rfl (fun w h Y => PySem.W.kIn_of Y) ?F
  case F =>
    intro w mg fa h KX G hmg
    refine' Coil.all_mk KX G hmg ?a0 ?l0 ?c0 ?k0 ?a1 ?l1 ?c1 ?k1 ?a2 ?l2 ?c2 ?k2 ?a3 ?l3 ?c3 ?k3 ?a4 ?l4 ?c4 ?k4 ?a5 ?l5 ?c5 ?k5 ?a6 ?l6 ?c6 ?k6 ?a7 ?l7 ?c7 ?k7 ?a8 ?l8 ?c8 ?k8 ?a9 ?l9 ?c9 ?k9 ?a10 ?l10 ?c10 ?k10 ?a11 ?l11 ?c11 ?k11 ?a12 ?l12 ?c12 ?k12 ?a13 ?l13 ?c13 ?k13 ?a14 ?l14 ?c14 ?k14 ?a15 ?l15 ?c15 ?k15 ?a16 ?l16 ?c16 ?k16 ?a17 ?l17 ?c17 ?k17 ?a18 ?l18 ?c18 ?k18 ?m_gcd ?m_LARGEST ?m_MOST_COEFFICIENTS ?z_abs ?z_all ?z_bool ?z_int ?z_isinstance ?z_len ?z_list ?z_max ?z_range ?z_tuple
    (case a0 => k_is)
    (case l0 => k_is)
    (case c0 => k_is)
    (case k0 => k_is)
    (case a1 => k_is)
    (case l1 => k_is)
    (case c1 => k_is)
    (case k1 => k_is)
    (case a2 => k_is)
    (case l2 => k_is)
    (case c2 => k_is)
    (case k2 => k_is)
    (case a3 => k_is)
    (case l3 => k_is)
    (case c3 => k_is)
    (case k3 => k_is)
    (case a4 => k_is)
    (case l4 => k_is)
    (case c4 => k_is)
    (case k4 => k_is)
    (case a5 => k_is)
    (case l5 => k_is)
    (case c5 => k_is)
    (case k5 => k_is)
    (case a6 => k_is)
    (case l6 => k_is)
    (case c6 => k_is)
    (case k6 => k_is)
    (case a7 => k_is)
    (case l7 => k_is)
    (case c7 => k_is)
    (case k7 => k_is)
    (case a8 => k_is)
    (case l8 => k_is)
    (case c8 => k_is)
    (case k8 => k_is)
    (case a9 => k_is)
    (case l9 => k_is)
    (case c9 => k_is)
    (case k9 => k_is)
    (case a10 => k_is)
    (case l10 => k_is)
    (case c10 => k_is)
    (case k10 => k_is)
    (case a11 => k_is)
    (case l11 => k_is)
    (case c11 => k_is)
    (case k11 => k_is)
    (case a12 => k_is)
    (case l12 => k_is)
    (case c12 => k_is)
    (case k12 => k_is)
    (case a13 => k_is)
    (case l13 => k_is)
    (case c13 => k_is)
    (case k13 => k_is)
    (case a14 => k_is)
    (case l14 => k_is)
    (case c14 => k_is)
    (case k14 => k_is)
    (case a15 => k_is)
    (case l15 => k_is)
    (case c15 => k_is)
    (case k15 => k_is)
    (case a16 => k_is)
    (case l16 => k_is)
    (case c16 => k_is)
    (case k16 => k_is)
    (case a17 => k_is)
    (case l17 => k_is)
    (case c17 => k_is)
    (case k17 => k_is)
    (case a18 => k_is)
    (case l18 => k_is)
    (case c18 => k_is)
    (case k18 => k_is)
    (case m_gcd => k_is)
    (case m_LARGEST => k_is)
    (case m_MOST_COEFFICIENTS => k_is)
    (case z_abs => k_is)
    (case z_all => k_is)
    (case z_bool => k_is)
    (case z_int => k_is)
    (case z_isinstance => k_is)
    (case z_len => k_is)
    (case z_list => k_is)
    (case z_max => k_is)
    (case z_range => k_is)
    (case z_tuple => k_is)
