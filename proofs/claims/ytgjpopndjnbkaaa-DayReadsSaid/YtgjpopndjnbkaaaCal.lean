/-
  Plain mathematics, no program: days, months and years of four hundred years that are all alike.
-/
namespace Cal
/-- the days of a month: y the year, m the month from 0 on -/
def leap (y : Int) : Bool := y % 4 == 0 && (!(y % 100 == 0) || y % 400 == 0)
def dm (y m : Int) : Int := if m = 1 then (if leap y then 29 else 28) else if m = 3 ∨ m = 5 ∨ m = 8 ∨ m = 10 then 30 else 31
/-- the k-th month from the beginning of the year 2000 on -/
def md (k : Nat) : Int := dm (2000 + ((k / 12 : Nat) : Int)) ((k % 12 : Nat) : Int)
theorem dm_bd (y m : Int) : 28 ≤ dm y m ∧ dm y m ≤ 31 := by unfold dm; repeat' split; all_goals omega
theorem md_bd (k : Nat) : 28 ≤ md k ∧ md k ≤ 31 := dm_bd _ _
theorem leap_cycle (y c : Int) : leap (y + 400 * c) = leap y := by
  unfold leap
  rw [show (y + 400 * c) % 4 = y % 4 from by omega, show (y + 400 * c) % 100 = y % 100 from by omega, show (y + 400 * c) % 400 = y % 400 from by omega]
theorem dm_cycle (y c m : Int) : dm (y + 400 * c) m = dm y m := by unfold dm; rw [leap_cycle]
/-- the days ahead of the k-th month -/
def sm : Nat → Int
  | 0 => 0
  | k + 1 => sm k + md k
theorem sm_mono (k : Nat) : sm k < sm (k + 1) := by have := md_bd k; simp only [sm]; omega
theorem sm_le : ∀ (j k : Nat), j ≤ k → sm j ≤ sm k
  | j, 0, h => by
    have : j = 0 := by omega
    subst this; exact Int.le_refl _
  | j, k + 1, h => by
    by_cases hj : j = k + 1
    · subst hj; exact Int.le_refl _
    · have h1 := sm_le j k (by omega)
      have h2 := sm_mono k
      omega
theorem sm_nonneg (k : Nat) : 0 ≤ sm k := sm_le 0 k (by omega)
theorem md_year (y m : Nat) (hm : m < 12) : md (12 * y + m) = dm (2000 + (y : Int)) (m : Int) := by
  unfold md
  rw [show (12 * y + m) / 12 = y from by omega, show (12 * y + m) % 12 = m from by omega]
theorem sm_year (y : Nat) : sm (12 * (y + 1)) = sm (12 * y) + 365 + if leap (2000 + (y : Int)) = true then 1 else 0 := by
  have h := fun m hm => md_year y m hm
  have h0 : md (12 * y) = dm (2000 + (y : Int)) 0 := h 0 (by omega)
  have e : 12 * (y + 1) = 12 * y + 0 + 1 + 1 + 1 + 1 + 1 + 1 + 1 + 1 + 1 + 1 + 1 + 1 := by omega
  rw [e]
  simp only [sm]
  rw [show 12 * y + 0 + 1 + 1 + 1 + 1 + 1 + 1 + 1 + 1 + 1 + 1 + 1 = 12 * y + 11 from rfl, show 12 * y + 0 + 1 + 1 + 1 + 1 + 1 + 1 + 1 + 1 + 1 + 1 = 12 * y + 10 from rfl,
    show 12 * y + 0 + 1 + 1 + 1 + 1 + 1 + 1 + 1 + 1 + 1 = 12 * y + 9 from rfl, show 12 * y + 0 + 1 + 1 + 1 + 1 + 1 + 1 + 1 + 1 = 12 * y + 8 from rfl,
    show 12 * y + 0 + 1 + 1 + 1 + 1 + 1 + 1 + 1 = 12 * y + 7 from rfl, show 12 * y + 0 + 1 + 1 + 1 + 1 + 1 + 1 = 12 * y + 6 from rfl,
    show 12 * y + 0 + 1 + 1 + 1 + 1 + 1 = 12 * y + 5 from rfl, show 12 * y + 0 + 1 + 1 + 1 + 1 = 12 * y + 4 from rfl,
    show 12 * y + 0 + 1 + 1 + 1 = 12 * y + 3 from rfl, show 12 * y + 0 + 1 + 1 = 12 * y + 2 from rfl, show 12 * y + 0 + 1 = 12 * y + 1 from rfl,
    h0, h 1 (by omega), h 2 (by omega), h 3 (by omega), h 4 (by omega), h 5 (by omega), h 6 (by omega), h 7 (by omega), h 8 (by omega), h 9 (by omega), h 10 (by omega), h 11 (by omega)]
  unfold dm
  cases leap (2000 + (y : Int)) <;> simp <;> omega
theorem leap_iff (y : Nat) : (leap (2000 + (y : Int)) = true) ↔ (y % 4 = 0 ∧ (y % 100 ≠ 0 ∨ y % 400 = 0)) := by
  unfold leap
  simp only [Bool.and_eq_true, Bool.or_eq_true, beq_iff_eq, Bool.not_eq_true', beq_eq_false_iff_ne]
  omega
theorem sm_years : ∀ y : Nat, sm (12 * y) = 365 * (y : Int) + ((y + 3) / 4 : Nat) - ((y + 99) / 100 : Nat) + ((y + 399) / 400 : Nat)
  | 0 => rfl
  | y + 1 => by
    rw [sm_year, sm_years y]
    have h := leap_iff y
    by_cases hl : leap (2000 + (y : Int)) = true
    · rw [if_pos hl]
      have := h.1 hl
      omega
    · rw [if_neg hl]
      have h' : ¬ (y % 4 = 0 ∧ (y % 100 ≠ 0 ∨ y % 400 = 0)) := fun x => hl (h.2 x)
      omega
theorem sm_cycle : sm 4800 = 146097 := sm_years 400
/-- the month in which the r-th day stands: j months are left to be looked at, from the k-th on -/
def ko : Nat → Nat → Int → Nat
  | 0, k, _ => k
  | j + 1, k, r => if sm (k + 1) ≤ r then ko j (k + 1) r else k
theorem ko_step {j k : Nat} {r : Int} (h : sm (k + 1) ≤ r) : ko (j + 1) k r = ko j (k + 1) r := by rw [ko, if_pos h]
theorem ko_end {j k : Nat} {r : Int} (h : ¬ sm (k + 1) ≤ r) : ko (j + 1) k r = k := by rw [ko, if_neg h]
def mo (r : Int) : Nat := ko 4800 0 r
theorem ko_spec : ∀ (j k : Nat) (r : Int), j + k = 4800 → sm k ≤ r → r < 146097 → sm (ko j k r) ≤ r ∧ r < sm (ko j k r + 1) ∧ ko j k r < 4800
  | 0, k, r, h, h1, h2 => by
    have : k = 4800 := by omega
    subst this
    rw [sm_cycle] at h1
    omega
  | j + 1, k, r, h, h1, h2 => by
    by_cases hs : sm (k + 1) ≤ r
    · rw [ko_step hs]; exact ko_spec j (k + 1) r (by omega) hs h2
    · rw [ko_end hs]; exact ⟨h1, by omega, by omega⟩
theorem mo_spec {r : Int} (h0 : 0 ≤ r) (h1 : r < 146097) : sm (mo r) ≤ r ∧ r < sm (mo r + 1) ∧ mo r < 4800 := ko_spec 4800 0 r rfl h0 h1
theorem mo_unique {r : Int} {k : Nat} (h0 : 0 ≤ r) (h1 : r < 146097) (h2 : sm k ≤ r) (h3 : r < sm (k + 1)) : k = mo r := by
  obtain ⟨a, b, _⟩ := mo_spec h0 h1
  rcases Nat.lt_trichotomy k (mo r) with h | h | h
  · have := sm_le (k + 1) (mo r) h; omega
  · exact h
  · have := sm_le (mo r + 1) k h; omega
theorem mo_mono {r s : Int} (h0 : 0 ≤ r) (h : r ≤ s) (h1 : s < 146097) : mo r ≤ mo s := by
  obtain ⟨a, b, _⟩ := mo_spec h0 (by omega : r < 146097)
  obtain ⟨c, d, _⟩ := mo_spec (by omega : 0 ≤ s) h1
  rcases Nat.lt_or_ge (mo s) (mo r) with h' | h'
  · have := sm_le (mo s + 1) (mo r) h'; omega
  · exact h'
/-- the day's number, the week's, the month's from the beginning of 2000 on, the year -/
def day (n : Int) : Int := n / 1440
def week (n : Int) : Int := (day n + 5) / 7
def month (n : Int) : Int := 4800 * (day n / 146097) + (mo (day n % 146097) : Int)
def year (n : Int) : Int := 2000 + 400 * (day n / 146097) + ((mo (day n % 146097) / 12 : Nat) : Int)
theorem week_later (n : Int) : week (n + 10080) = week n + 1 ∧ day (n + 10080) = day n + 7 := by unfold week day; omega
theorem year_later (n : Int) : year (n + 210379680) = year n + 400 ∧ month (n + 210379680) = month n + 4800 := by
  have e : day (n + 210379680) = day n + 146097 := by unfold day; omega
  have e1 : (day n + 146097) / 146097 = day n / 146097 + 1 := by omega
  have e2 : (day n + 146097) % 146097 = day n % 146097 := by omega
  unfold year month
  rw [e, e1, e2]
  omega
theorem month_mono {a b : Int} (h : a ≤ b) : month a ≤ month b := by
  have hd : day a ≤ day b := by unfold day; omega
  have ha := mo_spec (r := day a % 146097) (by omega) (by omega)
  have hb := mo_spec (r := day b % 146097) (by omega) (by omega)
  unfold month
  by_cases hc : day a / 146097 = day b / 146097
  · have := mo_mono (r := day a % 146097) (s := day b % 146097) (by omega) (by omega) (by omega)
    omega
  · omega
theorem year_month (n : Int) : year n = 2000 + month n / 12 := by
  unfold year month
  have h : (4800 * (day n / 146097) + (mo (day n % 146097) : Int)) / 12 = 400 * (day n / 146097) + ((mo (day n % 146097) / 12 : Nat) : Int) := by omega
  rw [h]
  omega
theorem year_mono {a b : Int} (h : a ≤ b) : year a ≤ year b := by
  have := month_mono h
  rw [year_month, year_month]
  omega
end Cal
