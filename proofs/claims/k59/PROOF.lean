import PyProof.Rows.All
import Wide.All
import OpenK.AllK
import Wide.FinOn
import PySem.Challenge.RW_poolmarks_k59_changes_refused
import HandS.ForMost
import HandS.Wide
import HandS.NoneIn
import HandS.Style
import PyProof.ReprReads
import HandS.IsInst
import HandS.Zip
import HandS.Walk
import PyProof.ReprLen
import PyProof.ReprRoads
import PyProof.Rows.RegStrFacts
import HandS.TupAny
import HandS.TupMul
import HandS.Star
import HandS.Rev
import HandS.RevRange
import HandS.Conv
import KE.GoesNew
import HandS.SortInts
import HandS.ForExc
import HandS.ExcIs
import PyProof.FactsAll.tuple_2
import HandS.SortRule
import HandS.List
import HandS.Dict
import HandS.More
import HandS.DictComp
import PyProof.NeKinds
import HandS.Lambda
import HandS.EndTab
import KE.Datum
set_option Elab.async false
set_option linter.all false
set_option maxRecDepth 100000
namespace Fr
/-! fractions as pairs of ints in lowest terms; their values as rationals -/
def IsF (x : Int × Int) : Prop := 0 < x.2 ∧ Int.gcd x.1 x.2 = 1
def val (x : Int × Int) : Rat := (x.1 : Rat) / (x.2 : Rat)
def red (n d : Int) : Int × Int := (n / (Int.gcd n d : Int), d / (Int.gcd n d : Int))
theorem gcd_pos {n d : Int} (hd : d ≠ 0) : 0 < (Int.gcd n d : Int) := by
  have := Int.gcd_pos_of_ne_zero_right n hd
  omega
theorem red_isF {n d : Int} (hd : 0 < d) : IsF (red n d) := by
  have hg := Int.gcd_pos_of_ne_zero_right n (show d ≠ 0 by omega)
  refine ⟨?_, ?_⟩
  · exact Int.ediv_pos_of_pos_of_dvd hd (by omega) (Int.gcd_dvd_right _ _)
  · show Int.gcd (n / (Int.gcd n d : Int)) (d / (Int.gcd n d : Int)) = 1
    have e := Int.gcd_ediv (a := n) (b := d) (c := (Int.gcd n d : Int)) (Int.gcd_dvd_left _ _) (Int.gcd_dvd_right _ _)
    rw [e, Int.natAbs_natCast]
    exact Nat.div_self hg
theorem cast_ne {d : Int} (h : d ≠ 0) : (d : Rat) ≠ 0 := fun e => h (Rat.intCast_inj.mp (by rw [e]; rfl))
theorem cast_pos {d : Int} (h : 0 < d) : (0 : Rat) < (d : Rat) := Rat.intCast_lt_intCast.mpr h
theorem red_mul1 (n d : Int) : (red n d).1 * (Int.gcd n d : Int) = n := Int.ediv_mul_cancel (Int.gcd_dvd_left _ _)
theorem red_mul2 (n d : Int) : (red n d).2 * (Int.gcd n d : Int) = d := Int.ediv_mul_cancel (Int.gcd_dvd_right _ _)
theorem div_cancel {a b c : Rat} (hb : b ≠ 0) (hc : c ≠ 0) : (a * c) / (b * c) = a / b := by grind
theorem red_val {n d : Int} (hd : d ≠ 0) : val (red n d) = (n : Rat) / (d : Rat) := by
  have g0 : (Int.gcd n d : Int) ≠ 0 := by have := gcd_pos (n := n) hd; omega
  have e1 := red_mul1 n d
  have e2 := red_mul2 n d
  have h2 : (red n d).2 ≠ 0 := fun e => by rw [e, Int.zero_mul] at e2; exact hd e2.symm
  have c1 : ((red n d).1 : Rat) * ((Int.gcd n d : Int) : Rat) = (n : Rat) := by rw [← Rat.intCast_mul, e1]
  have c2 : ((red n d).2 : Rat) * ((Int.gcd n d : Int) : Rat) = (d : Rat) := by rw [← Rat.intCast_mul, e2]
  rw [← c1, ← c2, div_cancel (cast_ne h2) (cast_ne g0)]
  rfl
theorem cross {x y : Int × Int} (hx : x.2 ≠ 0) (hy : y.2 ≠ 0) : val x = val y ↔ x.1 * y.2 = y.1 * x.2 := by
  have a := cast_ne hx
  have b := cast_ne hy
  unfold val
  constructor
  · intro h
    refine Rat.intCast_inj.mp ?_
    rw [Rat.intCast_mul, Rat.intCast_mul]
    grind
  · intro h
    have h := Rat.intCast_inj.mpr h
    rw [Rat.intCast_mul, Rat.intCast_mul] at h
    grind
theorem dvd_cop {k m n : Int} (h : Int.gcd k m = 1) (d : k ∣ m * n) : k ∣ n := by
  have d' := Int.natAbs_dvd_natAbs.mpr d
  rw [Int.natAbs_mul] at d'
  exact Int.natAbs_dvd_natAbs.mp (Nat.Coprime.dvd_of_dvd_mul_left h d')
theorem val_inj {x y : Int × Int} (hx : IsF x) (hy : IsF y) (h : val x = val y) : x = y := by
  obtain ⟨x1, x2⟩ := x
  obtain ⟨y1, y2⟩ := y
  obtain ⟨px, gx⟩ := hx
  obtain ⟨py, gy⟩ := hy
  simp only at px gx py gy
  have h := (cross (x := (x1, x2)) (y := (y1, y2)) (by show x2 ≠ 0; omega) (by show y2 ≠ 0; omega)).mp h
  simp only at h
  have d1 : x2 ∣ x1 * y2 := ⟨y1, by rw [h, Int.mul_comm]⟩
  have d2 : y2 ∣ y1 * x2 := ⟨x1, by rw [← h, Int.mul_comm]⟩
  have e1 : x2 ∣ y2 := dvd_cop (by rw [Int.gcd_comm]; exact gx) d1
  have e2 : y2 ∣ x2 := dvd_cop (by rw [Int.gcd_comm]; exact gy) d2
  have e : x2 = y2 := Int.dvd_antisymm (by omega) (by omega) e1 e2
  subst e
  have e3 : x1 = y1 := Int.eq_of_mul_eq_mul_right (show x2 ≠ 0 by omega) h
  rw [e3]
theorem red_self {x : Int × Int} (hx : IsF x) : red x.1 x.2 = x := by
  unfold red
  rw [hx.2]
  simp
theorem red_eq {n d n' d' : Int} (hd : 0 < d) (hd' : 0 < d') : red n d = red n' d' ↔ n * d' = n' * d := by
  have c := cross (x := (n, d)) (y := (n', d')) (by show d ≠ 0; omega) (by show d' ≠ 0; omega)
  have v1 := red_val (n := n) (d := d) (by omega)
  have v2 := red_val (n := n') (d := d') (by omega)
  constructor
  · intro h
    refine c.mp ?_
    show (n : Rat) / (d : Rat) = (n' : Rat) / (d' : Rat)
    rw [← v1, ← v2, h]
  · intro h
    refine val_inj (red_isF hd) (red_isF hd') ?_
    rw [v1, v2]
    exact c.mpr h
def add (x y : Int × Int) : Int × Int := red (x.1 * y.2 + y.1 * x.2) (x.2 * y.2)
def sub (x y : Int × Int) : Int × Int := red (x.1 * y.2 - y.1 * x.2) (x.2 * y.2)
def mul (x y : Int × Int) : Int × Int := red (x.1 * y.1) (x.2 * y.2)
def cmp (x y : Int × Int) : Int := if x.1 * y.2 < y.1 * x.2 then -1 else if y.1 * x.2 < x.1 * y.2 then 1 else 0
theorem add_isF {x y : Int × Int} (hx : IsF x) (hy : IsF y) : IsF (add x y) := red_isF (Int.mul_pos hx.1 hy.1)
theorem sub_isF {x y : Int × Int} (hx : IsF x) (hy : IsF y) : IsF (sub x y) := red_isF (Int.mul_pos hx.1 hy.1)
theorem mul_isF {x y : Int × Int} (hx : IsF x) (hy : IsF y) : IsF (mul x y) := red_isF (Int.mul_pos hx.1 hy.1)
theorem IsF.ne {x : Int × Int} (hx : IsF x) : (x.2 : Rat) ≠ 0 := cast_ne (by have := hx.1; omega)
theorem add_val {x y : Int × Int} (hx : IsF x) (hy : IsF y) : val (add x y) = val x + val y := by
  have a := hx.ne
  have b := hy.ne
  have p := Int.mul_pos hx.1 hy.1
  unfold add
  rw [red_val (by omega)]
  unfold val
  simp only [Rat.intCast_mul, Rat.intCast_add]
  grind
theorem sub_val {x y : Int × Int} (hx : IsF x) (hy : IsF y) : val (sub x y) = val x - val y := by
  have a := hx.ne
  have b := hy.ne
  have p := Int.mul_pos hx.1 hy.1
  unfold sub
  rw [red_val (by omega)]
  unfold val
  simp only [Rat.intCast_mul, Rat.intCast_sub]
  grind
theorem mul_val {x y : Int × Int} (hx : IsF x) (hy : IsF y) : val (mul x y) = val x * val y := by
  have a := hx.ne
  have b := hy.ne
  have p := Int.mul_pos hx.1 hy.1
  unfold mul
  rw [red_val (by omega)]
  unfold val
  simp only [Rat.intCast_mul]
  grind
theorem lt_iff {x y : Int × Int} (hx : 0 < x.2) (hy : 0 < y.2) : x.1 * y.2 < y.1 * x.2 ↔ val x < val y := by
  have a := cast_pos hx
  have b := cast_pos hy
  have a' : (x.2 : Rat) ≠ 0 := by grind
  have b' : (y.2 : Rat) ≠ 0 := by grind
  unfold val
  rw [Rat.lt_div_iff b]
  have e : (x.1 : Rat) / (x.2 : Rat) * (y.2 : Rat) = ((x.1 * y.2 : Int) : Rat) / (x.2 : Rat) := by
    rw [Rat.intCast_mul]
    grind
  rw [e, Rat.div_lt_iff a, ← Rat.intCast_mul, Rat.intCast_lt_intCast]
def sgn (r : Rat) : Int := if r < 0 then -1 else if 0 < r then 1 else 0
theorem sgn_neg {r : Rat} (h : r < 0) : sgn r = -1 := if_pos h
theorem sgn_pos {r : Rat} (h : 0 < r) : sgn r = 1 := by
  unfold sgn
  rw [if_neg (by grind), if_pos h]
theorem sgn_zero : sgn 0 = 0 := by decide
theorem cmp_val {x y : Int × Int} (hx : IsF x) (hy : IsF y) : cmp x y = sgn (val x - val y) := by
  have l1 := lt_iff hx.1 hy.1
  have l2 := lt_iff hy.1 hx.1
  unfold cmp
  by_cases h1 : x.1 * y.2 < y.1 * x.2
  · have h := l1.mp h1
    rw [if_pos h1, sgn_neg (by grind)]
  · rw [if_neg h1]
    have n1 : ¬ val x < val y := fun h => h1 (l1.mpr h)
    by_cases h2 : y.1 * x.2 < x.1 * y.2
    · have h := l2.mp h2
      rw [if_pos h2, sgn_pos (by grind)]
    · have n2 : ¬ val y < val x := fun h => h2 (l2.mpr h)
      rw [if_neg h2]
      have e : val x - val y = 0 := by grind
      rw [e, sgn_zero]
/-! sizes -/
def Sz (b : Nat) (x : Int × Int) : Prop := x.1.natAbs < 2 ^ b ∧ x.2.natAbs < 2 ^ b
theorem Sz.mono {b c : Nat} {x : Int × Int} (h : Sz b x) (hc : b ≤ c) : Sz c x :=
  ⟨Nat.lt_of_lt_of_le h.1 (Nat.pow_le_pow_right (by decide) hc), Nat.lt_of_lt_of_le h.2 (Nat.pow_le_pow_right (by decide) hc)⟩
theorem red_sz {n d : Int} {b : Nat} (hn : n.natAbs < 2 ^ b) (hd : d.natAbs < 2 ^ b) : Sz b (red n d) := by
  refine ⟨Nat.lt_of_le_of_lt ?_ hn, Nat.lt_of_le_of_lt ?_ hd⟩
  · show (n / ((Int.gcd n d : Nat) : Int)).natAbs ≤ n.natAbs
    rw [Int.natAbs_ediv_of_dvd (Int.gcd_dvd_left _ _)]
    exact Nat.div_le_self _ _
  · show (d / ((Int.gcd n d : Nat) : Int)).natAbs ≤ d.natAbs
    rw [Int.natAbs_ediv_of_dvd (Int.gcd_dvd_right _ _)]
    exact Nat.div_le_self _ _
theorem mul_lt2 {i j : Int} {a b : Nat} (ha : i.natAbs < 2 ^ a) (hb : j.natAbs < 2 ^ b) : (i * j).natAbs < 2 ^ (a + b) := by
  rw [Int.natAbs_mul, Nat.pow_add]
  exact Nat.mul_lt_mul'' ha hb
theorem add_lt2 {i j : Int} {a : Nat} (ha : i.natAbs < 2 ^ a) (hb : j.natAbs < 2 ^ a) : (i + j).natAbs < 2 ^ (a + 1) := by
  rw [Nat.pow_succ]
  omega
theorem sub_lt2 {i j : Int} {a : Nat} (ha : i.natAbs < 2 ^ a) (hb : j.natAbs < 2 ^ a) : (i - j).natAbs < 2 ^ (a + 1) := by
  rw [Nat.pow_succ]
  omega
theorem lt_up {i : Int} {a b : Nat} (h : i.natAbs < 2 ^ a) (hb : a ≤ b) : i.natAbs < 2 ^ b := Nat.lt_of_lt_of_le h (Nat.pow_le_pow_right (by decide) hb)
theorem add_sz {x y : Int × Int} {a b : Nat} (hx : Sz a x) (hy : Sz b y) : Sz (a + b + 1) (add x y) :=
  red_sz (add_lt2 (mul_lt2 hx.1 hy.2) (lt_up (mul_lt2 hy.1 hx.2) (by omega))) (lt_up (mul_lt2 hx.2 hy.2) (by omega))
theorem sub_sz {x y : Int × Int} {a b : Nat} (hx : Sz a x) (hy : Sz b y) : Sz (a + b + 1) (sub x y) :=
  red_sz (sub_lt2 (mul_lt2 hx.1 hy.2) (lt_up (mul_lt2 hy.1 hx.2) (by omega))) (lt_up (mul_lt2 hx.2 hy.2) (by omega))
theorem mul_sz {x y : Int × Int} {a b : Nat} (hx : Sz a x) (hy : Sz b y) : Sz (a + b) (mul x y) :=
  red_sz (mul_lt2 hx.1 hy.1) (mul_lt2 hx.2 hy.2)
/-! Euclid's loop over ints -/
theorem gcd_step {a b : Int} (ha : 0 ≤ a) (hb : 0 ≤ b) : Int.gcd b (a % b) = Int.gcd a b := by
  obtain ⟨m, rfl⟩ := Int.eq_ofNat_of_zero_le ha
  obtain ⟨n, rfl⟩ := Int.eq_ofNat_of_zero_le hb
  rw [← Int.natCast_emod]
  show Nat.gcd n (m % n) = Nat.gcd m n
  rw [Nat.gcd_comm m n, Nat.gcd_comm n (m % n), ← Nat.gcd_rec]
theorem gcd_zero {a : Int} (ha : 0 ≤ a) : (Int.gcd a 0 : Int) = a := by
  rw [Int.gcd_zero_right]
  omega
/-! the order and sums of fractions by their values -/
theorem sgn_sub (r : Rat) : sgn (-r) = - sgn r := by
  unfold sgn
  by_cases h1 : r < 0
  · rw [if_pos h1, if_neg (by grind), if_pos (by grind)]
    rfl
  · rw [if_neg h1]
    by_cases h2 : 0 < r
    · rw [if_pos h2, if_pos (by grind)]
    · rw [if_neg h2, if_neg (by grind), if_neg (by grind)]
      rfl
theorem sgn_eq0 {r : Rat} : sgn r = 0 ↔ r = 0 := by
  unfold sgn
  by_cases h1 : r < 0
  · rw [if_pos h1]
    constructor
    · intro h; omega
    · intro h; grind
  · rw [if_neg h1]
    by_cases h2 : 0 < r
    · rw [if_pos h2]
      constructor
      · intro h; omega
      · intro h; grind
    · rw [if_neg h2]
      constructor
      · intro h; grind
      · intro h; rfl
theorem sgn_le {r : Rat} : sgn r ≤ 0 ↔ r ≤ 0 := by
  unfold sgn
  by_cases h1 : r < 0
  · rw [if_pos h1]
    constructor
    · intro h; grind
    · intro h; omega
  · rw [if_neg h1]
    by_cases h2 : 0 < r
    · rw [if_pos h2]
      constructor
      · intro h; omega
      · intro h; grind
    · rw [if_neg h2]
      constructor
      · intro h; grind
      · intro h; omega
theorem sgn_mul (r s : Rat) : sgn (r * s) = sgn r * sgn s := by
  have key : ∀ a b : Rat, 0 < a → 0 < b → 0 < a * b := fun a b ha hb => Rat.mul_pos ha hb
  by_cases r1 : r < 0
  · rw [sgn_neg r1]
    by_cases s1 : s < 0
    · rw [sgn_neg s1, sgn_pos (by have := key (-r) (-s) (by grind) (by grind); grind)]
      rfl
    · by_cases s2 : 0 < s
      · rw [sgn_pos s2, sgn_neg (by have := key (-r) s (by grind) s2; grind)]
        rfl
      · have e : s = 0 := by grind
        rw [e, Rat.mul_zero, sgn_zero]
        rfl
  · by_cases r2 : 0 < r
    · rw [sgn_pos r2]
      by_cases s1 : s < 0
      · rw [sgn_neg s1, sgn_neg (by have := key r (-s) r2 (by grind); grind)]
        rfl
      · by_cases s2 : 0 < s
        · rw [sgn_pos s2, sgn_pos (key r s r2 s2)]
          rfl
        · have e : s = 0 := by grind
          rw [e, Rat.mul_zero, sgn_zero]
          rfl
    · have e : r = 0 := by grind
      rw [e, Rat.zero_mul, sgn_zero]
      omega
/-! what the laws of fractions ask -/
theorem m_comm {x y : Int × Int} (hx : IsF x) (hy : IsF y) : add y x = add x y := val_inj (add_isF hy hx) (add_isF hx hy) (by rw [add_val hy hx, add_val hx hy]; grind)
theorem m_back {x y : Int × Int} (hx : IsF x) (hy : IsF y) : sub (add x y) y = x := val_inj (sub_isF (add_isF hx hy) hy) hx (by rw [sub_val (add_isF hx hy) hy, add_val hx hy]; grind)
theorem m_assoc {x y z : Int × Int} (hx : IsF x) (hy : IsF y) (hz : IsF z) : add (add x y) z = add x (add y z) :=
  val_inj (add_isF (add_isF hx hy) hz) (add_isF hx (add_isF hy hz)) (by rw [add_val (add_isF hx hy) hz, add_val hx hy, add_val hx (add_isF hy hz), add_val hy hz]; grind)
theorem p_comm {x y : Int × Int} (hx : IsF x) (hy : IsF y) : mul y x = mul x y := val_inj (mul_isF hy hx) (mul_isF hx hy) (by rw [mul_val hy hx, mul_val hx hy]; grind)
theorem p_assoc {x y z : Int × Int} (hx : IsF x) (hy : IsF y) (hz : IsF z) : mul (mul x y) z = mul x (mul y z) :=
  val_inj (mul_isF (mul_isF hx hy) hz) (mul_isF hx (mul_isF hy hz)) (by rw [mul_val (mul_isF hx hy) hz, mul_val hx hy, mul_val hx (mul_isF hy hz), mul_val hy hz]; grind)
theorem p_dist {x y z : Int × Int} (hx : IsF x) (hy : IsF y) (hz : IsF z) : mul (add x y) z = add (mul x z) (mul y z) :=
  val_inj (mul_isF (add_isF hx hy) hz) (add_isF (mul_isF hx hz) (mul_isF hy hz)) (by rw [mul_val (add_isF hx hy) hz, add_val hx hy, add_val (mul_isF hx hz) (mul_isF hy hz), mul_val hx hz, mul_val hy hz]; grind)
theorem c_opp {x y : Int × Int} (hx : IsF x) (hy : IsF y) : cmp y x = 0 - cmp x y := by
  rw [cmp_val hy hx, cmp_val hx hy, show val y - val x = -(val x - val y) by grind, sgn_sub]
  omega
theorem c_zero {x y : Int × Int} (hx : IsF x) (hy : IsF y) : cmp x y = 0 ↔ x = y := by
  rw [cmp_val hx hy, sgn_eq0]
  constructor
  · intro h
    exact val_inj hx hy (by grind)
  · intro h
    rw [h]
    grind
theorem c_add {x y z : Int × Int} (hx : IsF x) (hy : IsF y) (hz : IsF z) : cmp (add x z) (add y z) = cmp x y := by
  rw [cmp_val (add_isF hx hz) (add_isF hy hz), cmp_val hx hy, add_val hx hz, add_val hy hz, show val x + val z - (val y + val z) = val x - val y by grind]
theorem zero_isF : IsF (0, 1) := ⟨by decide, by decide⟩
theorem zero_val : val (0, 1) = 0 := by
  unfold val
  show ((0 : Int) : Rat) / ((1 : Int) : Rat) = 0
  grind
theorem c_mul {x y z : Int × Int} (hx : IsF x) (hy : IsF y) (hz : IsF z) : cmp (mul x z) (mul y z) = cmp x y * cmp z (0, 1) := by
  rw [cmp_val (mul_isF hx hz) (mul_isF hy hz), cmp_val hx hy, cmp_val hz zero_isF, mul_val hx hz, mul_val hy hz, zero_val, ← sgn_mul, show (val x - val y) * (val z - 0) = val x * val z - val y * val z by grind]
theorem c_trans {x y z : Int × Int} (hx : IsF x) (hy : IsF y) (hz : IsF z) (h1 : cmp x y ≤ 0) (h2 : cmp y z ≤ 0) : cmp x z ≤ 0 := by
  rw [cmp_val hx hy, sgn_le] at h1
  rw [cmp_val hy hz, sgn_le] at h2
  rw [cmp_val hx hz, sgn_le]
  grind
theorem c_bound (x y : Int × Int) : -1 ≤ cmp x y ∧ cmp x y ≤ 1 := by
  unfold cmp
  split
  · omega
  · split <;> omega
/-! any denominator but 0 -/
def mk (n d : Int) : Int × Int := if d < 0 then red (-n) (-d) else red n d
theorem mk_isF {n d : Int} (h : d ≠ 0) : IsF (mk n d) := by
  unfold mk
  split
  · exact red_isF (by omega)
  · exact red_isF (by omega)
theorem mk_val {n d : Int} (h : d ≠ 0) : val (mk n d) = (n : Rat) / (d : Rat) := by
  have hd := cast_ne h
  unfold mk
  split
  · rw [red_val (by omega), Rat.intCast_neg, Rat.intCast_neg]
    grind
  · exact red_val h
theorem mk_cross {n d : Int} (h : d ≠ 0) : (mk n d).1 * d = n * (mk n d).2 :=
  (cross (x := mk n d) (y := (n, d)) (by have := (mk_isF (n := n) h).1; omega) h).mp (mk_val h)
theorem mk_many {n d m : Int} (h : d ≠ 0) (hm : m ≠ 0) : mk (n * m) (d * m) = mk n d := by
  have h2 : d * m ≠ 0 := Int.mul_ne_zero h hm
  have a := cast_ne h
  have b := cast_ne hm
  refine val_inj (mk_isF h2) (mk_isF h) ?_
  rw [mk_val h2, mk_val h, Rat.intCast_mul, Rat.intCast_mul, div_cancel a b]
theorem mk_neg {n d : Int} (h : d ≠ 0) : mk (0 - n) (0 - d) = mk n d := by
  have := mk_many (n := n) (m := -1) h (by decide)
  rw [show 0 - n = n * -1 by omega, show 0 - d = d * -1 by omega]
  exact this
theorem mk_sz {n d : Int} {b : Nat} (hn : n.natAbs < 2 ^ b) (hd : d.natAbs < 2 ^ b) : Sz b (mk n d) := by
  unfold mk
  split
  · exact red_sz (by omega) (by omega)
  · exact red_sz hn hd
/-- the floor division by the divisor with its sign -/
theorem mk_fdiv {n d : Int} (h : d ≠ 0) : mk n d = (n.fdiv (if d < 0 then -(Int.gcd n d : Int) else (Int.gcd n d : Int)), d.fdiv (if d < 0 then -(Int.gcd n d : Int) else (Int.gcd n d : Int))) := by
  have g := gcd_pos (n := n) h
  unfold mk red
  split
  · rename_i hd
    rw [Int.neg_gcd, Int.gcd_neg]
    have key : ∀ i : Int, i.fdiv (-(Int.gcd n d : Int)) = -i / (Int.gcd n d : Int) := fun i => by
      rw [← Int.neg_neg i, Int.neg_fdiv_neg, Int.neg_neg, Int.fdiv_eq_ediv_of_nonneg _ (by omega)]
    rw [key, key]
  · rw [Int.fdiv_eq_ediv_of_nonneg _ (by omega), Int.fdiv_eq_ediv_of_nonneg _ (by omega)]
end Fr

namespace PM
open PySem PySem.Spec PyProof.Rows L2
/-! ### heaps -/
theorem same_upd {Hh : Hp} {new : Addr} {ob : HO} (hnew : Hh new = none) : Same Hh (upd Hh new ob) := fun b x hx => by
  rw [upd_ne (ne_of_none hx hnew)]
  exact hx
/-- what stood stands, but at a and r -/
def Keep (a r : Addr) (H H' : Hp) : Prop := ∀ b o, b ≠ a → b ≠ r → H b = some o → H' b = some o
theorem Keep.refl (a r : Addr) (H : Hp) : Keep a r H H := fun _ _ _ _ h => h
theorem Keep.trans {a r : Addr} {H H1 H2 : Hp} (x : Keep a r H H1) (y : Keep a r H1 H2) : Keep a r H H2 := fun b o h1 h2 h => y b o h1 h2 (x b o h1 h2 h)
theorem Keep.same {a r : Addr} {H H' : Hp} (h : Same H H') : Keep a r H H' := fun b o _ _ e => h b o e
theorem seqT {K : PySem.W.Frag} {H H' : Hp} {a : Addr} {xs : List V} (e : Same H H') (h : H a = some (.tup xs)) : SqT K H' a xs := .inl (.inl (e _ _ h))
/-! ### the drawn numbers: a the list, c its cells, r its rests; at most n turns so far -/
structure Drw (H : Hp) (a c r : Addr) (n : Nat) : Prop where
  ex : ∃ (cells rests : List Int) (t : Int), H a = some (.lst [.ref c, .int t, .ref r]) ∧ H c = some (.lst (cells.map V.int)) ∧ H r = some (.lst (rests.map V.int)) ∧
    rests.length = cells.length ∧ 0 < cells.length ∧ cells.length ≤ 64 ∧ 0 ≤ t ∧ t ≤ n
  ac : a ≠ c
  ar : a ≠ r
  cr : c ≠ r
theorem Drw.same {H H' : Hp} {a c r : Addr} {n : Nat} (h : Drw H a c r n) (s : Same H H') : Drw H' a c r n := by
  obtain ⟨⟨cells, rests, t, h1, h2, h3, q⟩, x, y, z⟩ := h
  exact ⟨⟨cells, rests, t, s _ _ h1, s _ _ h2, s _ _ h3, q⟩, x, y, z⟩
theorem Drw.new {H : Hp} {a c r p : Addr} {n : Nat} {o : HO} (h : Drw H a c r n) (e : H p = none) : Drw (L2.upd H p o) a c r n := h.same (same_upd e)
theorem Drw.ne_tup {H : Hp} {a c r p : Addr} {n : Nat} {xs : List V} (h : Drw H a c r n) (e : H p = some (.tup xs)) : p ≠ a ∧ p ≠ r := by
  obtain ⟨⟨cells, rests, t, h1, h2, h3, _⟩, _⟩ := h
  exact ⟨fun z => (by rw [z, h1] at e; cases e), fun z => (by rw [z, h3] at e; cases e)⟩
theorem Drw.ne_new {H : Hp} {a c r p : Addr} {n : Nat} (h : Drw H a c r n) (e : H p = none) : p ≠ a ∧ p ≠ c ∧ p ≠ r := by
  obtain ⟨⟨cells, rests, t, h1, h2, h3, _⟩, _⟩ := h
  exact ⟨fun z => (by rw [z, h1] at e; cases e), fun z => (by rw [z, h2] at e; cases e), fun z => (by rw [z, h3] at e; cases e)⟩
theorem Keep.tup {H H' : Hp} {a c r p : Addr} {n : Nat} {xs : List V} (k : Keep a r H H') (d : Drw H a c r n) (e : H p = some (.tup xs)) : H' p = some (.tup xs) :=
  k _ _ (d.ne_tup e).1 (d.ne_tup e).2 e
/-! ### defs -/
structure Def1 (K : PySem.W.Frag) (mg : Str → Option Value) (x : Str) (st : Stmt) (ps : List Str) (f : Addr) (fd : FuncData) : Prop where
  F : Fun K x x st f fd
  b : Binds K fd ps []
  g : mg x = some (.ref f)
def IsDef (K : PySem.W.Frag) (mg : Str → Option Value) (x : Str) (st : Stmt) (ps : List Str) : Prop := ∃ f fd, Def1 K mg x st ps f fd
def Ok (P : Program) (w : World) (K : PySem.W.Frag) (mg : Str → Option Value) (base : Heap) (k : Nat) (x : Str) (st : Stmt) (ps : List Str) (sp : Sp) : Prop :=
  ∃ f fd, Def1 K mg x st ps f fd ∧ FnOk P w K mg base CX0 k f fd ps sp
section
variable {X : Cx}
theorem op_fdivZ : OpR X (binaryOp .FloorDiv) (rI (fun _ j => j ≠ 0 ∧ j.natAbs.log2 < 9000) fun i j => .int (i.fdiv j)) :=
  opI fun i j _ _ _ _ _ hc q => floordiv_int hc.1 q (.inl (PyProof.noPylong_of_log2 hc.2))
end
theorem place_ok {len at_ : Nat} (h : at_ < len) : ixN len (at_ : Int) = some at_ := by
  unfold ixN
  rw [if_pos (by omega), if_pos (by omega), Int.toNat_natCast]
theorem toks {n : Nat} (h : n ≤ 1000) : n ≤ sizeLine := Nat.le_of_lt (small1000 h)
theorem cut63 {xs : List V} (h : xs.length ≤ 63) : cutV xs none (some 63) = xs := by
  unfold cutV
  rw [show HT.sIx xs.length xs.length (some 63) = min 63 xs.length from HT.sIx_nat xs.length xs.length 63, HT.sIx_none, Nat.min_eq_right h]
  show List.take (xs.length - 0) (List.drop 0 xs) = xs
  rw [Nat.sub_zero, List.drop_zero, List.take_length]
/-- a fraction that stands at p -/
def FrAt (H : Hp) (p : Addr) (x : Int × Int) : Prop := H p = some (.tup [.int x.1, .int x.2])
theorem FrAt.same {H H' : Hp} {p : Addr} {x : Int × Int} (h : FrAt H p x) (s : Same H H') : FrAt H' p x := s _ _ h
theorem FrAt.keep {H H' : Hp} {a c r p : Addr} {n : Nat} {x : Int × Int} (h : FrAt H p x) (d : Drw H a c r n) (k : Keep a r H H') : FrAt H' p x := k.tup d h
/-- a fraction as data -/
abbrev fd (x : Int × Int) : PyData := .tuple [.int x.1, .int x.2]
theorem frD {K : PySem.W.Frag} {H : Hp} {p : Addr} {x : Int × Int} (h : FrAt H p x) : Dp K H (.ref p) (fd x) := .tup (.inl (.inl h)) (.cons (.int _) (.cons (.int _) .nil))
theorem eqv_fd (x y : Int × Int) : PyData.eqv (fd x) (fd y) = decide (x = y) := by
  have e : PyData.eqv (fd x) (fd y) = ((x.1 == y.1) && ((x.2 == y.2) && true)) := by
    simp only [PyData.eqv, PyData.eqvAll]
  rw [e]
  by_cases h : x = y
  · subst h
    simp
  · rw [decide_eq_false h]
    have : ¬ (x.1 = y.1 ∧ x.2 = y.2) := fun z => h (Prod.ext z.1 z.2)
    by_cases h1 : x.1 = y.1
    · have h2 : x.2 ≠ y.2 := fun z => this ⟨h1, z⟩
      simp [h2]
    · simp [h1]
theorem eqT {x y : Int × Int} (h : x = y) : PyData.eqv (fd x) (fd y) = true := by rw [eqv_fd, decide_eq_true h]
theorem neF {x y : Int × Int} {A B : Prop} (h : x = y) (k : B) : if (!PyData.eqv (fd x) (fd y)) = true then A else B := by
  rw [eqT h]
  exact k
theorem neI {i j : Int} {A B : Prop} (h : i = j) (k : B) : if (!decide (V.int i = V.int j)) = true then A else B := by
  rw [h, decide_eq_true rfl]
  exact k
theorem Drw.mono {H : Hp} {a c r : Addr} {n m : Nat} (h : Drw H a c r n) (e : n ≤ m) : Drw H a c r m := by
  obtain ⟨⟨cells, rests, t, h1, h2, h3, e1, e2, e3, e4, e5⟩, x, y, z⟩ := h
  exact ⟨⟨cells, rests, t, h1, h2, h3, e1, e2, e3, e4, by omega⟩, x, y, z⟩
theorem Drw.off {H : Hp} {a c r p : Addr} {n : Nat} {o : HO} (h : Drw H a c r n) (e : p ≠ a ∧ p ≠ c ∧ p ≠ r) : Drw (L2.upd H p o) a c r n := by
  obtain ⟨⟨cells, rests, t, h1, h2, h3, q⟩, x, y, z⟩ := h
  refine ⟨⟨cells, rests, t, ?_, ?_, ?_, q⟩, x, y, z⟩
  · rw [L2.upd_ne (Ne.symm e.1)]
    exact h1
  · rw [L2.upd_ne (Ne.symm e.2.1)]
    exact h2
  · rw [L2.upd_ne (Ne.symm e.2.2)]
    exact h3
theorem FrAt.upd_lst {H : Hp} {p D : Addr} {x : Int × Int} {xs ys : List V} (h : FrAt H p x) (e : H D = some (.lst xs)) : FrAt (upd H D (.lst ys)) p x := by
  show (upd H D (.lst ys)) p = _
  rw [L2.upd_ne (show p ≠ D from fun z => by rw [z] at h; rw [show H D = _ from h] at e; cases e)]
  exact h
end PM

namespace PM
open PySem PySem.Spec PyProof.Rows L2 RZ
/-! ### data that stands in the heap -/
mutual
inductive Da (H : Hp) : V → PyData → Prop
  | non : Da H .non .none
  | bl (b : Bool) : Da H (.bl b) (.bool b)
  | int (i : Int) : Da H (.int i) (.int i)
  | str (x : Str) : Da H (.str x) (.str x)
  | lst {a : Addr} {xs : List V} {ds : List PyData} : H a = some (.lst xs) → DaL H xs ds → Da H (.ref a) (.list ds)
  | tup {a : Addr} {xs : List V} {ds : List PyData} : H a = some (.tup xs) → DaL H xs ds → Da H (.ref a) (.tuple ds)
  | dic {a : Addr} : H a = some (.dK []) → Da H (.ref a) (.dict [])
inductive DaL (H : Hp) : List V → List PyData → Prop
  | nil : DaL H [] []
  | cons {v : V} {vs : List V} {d : PyData} {ds : List PyData} : Da H v d → DaL H vs ds → DaL H (v :: vs) (d :: ds)
end
mutual
theorem Da.same {H H' : Hp} (s : Same H H') : ∀ {v : V} {d : PyData}, Da H v d → Da H' v d
  | _, _, .non => .non
  | _, _, .bl b => .bl b
  | _, _, .int i => .int i
  | _, _, .str x => .str x
  | _, _, .lst e h => .lst (s _ _ e) (DaL.same s h)
  | _, _, .tup e h => .tup (s _ _ e) (DaL.same s h)
  | _, _, .dic e => .dic (s _ _ e)
theorem DaL.same {H H' : Hp} (s : Same H H') : ∀ {vs : List V} {ds : List PyData}, DaL H vs ds → DaL H' vs ds
  | _, _, .nil => .nil
  | _, _, .cons h t => .cons (Da.same s h) (DaL.same s t)
end
mutual
theorem Da.dp {K : PySem.W.Frag} {H : Hp} : ∀ {v : V} {d : PyData}, Da H v d → d.hasDict = false → Dp K H v d
  | _, _, .non, _ => .non
  | _, _, .bl b, _ => .bl b
  | _, _, .int i, _ => .int i
  | _, _, .str x, _ => .str x
  | _, _, .lst e h, z => .lst (.inl (.inl e)) (DaL.dp h (by unfold PyData.hasDict at z; exact z))
  | _, _, .tup e h, z => .tup (.inl (.inl e)) (DaL.dp h (by unfold PyData.hasDict at z; exact z))
  | _, _, .dic e, z => by
    unfold PyData.hasDict at z
    cases z
theorem DaL.dp {K : PySem.W.Frag} {H : Hp} : ∀ {vs : List V} {ds : List PyData}, DaL H vs ds → PyData.hasDictAll ds = false → DpAll K H vs ds
  | _, _, .nil, _ => .nil
  | _, _, .cons h t, z => by
    unfold PyData.hasDictAll at z
    have z := Bool.or_eq_false_iff.mp z
    exact .cons (Da.dp h z.1) (DaL.dp t z.2)
end
theorem DaL.length {H : Hp} : ∀ {vs : List V} {ds : List PyData}, DaL H vs ds → vs.length = ds.length
  | _, _, .nil => rfl
  | _, _, .cons _ t => by
    rw [List.length_cons, List.length_cons, DaL.length t]
theorem DaL.get {H : Hp} : ∀ {vs : List V} {ds : List PyData} (i : Nat) {v : V}, DaL H vs ds → vs[i]? = some v → ∃ d, ds[i]? = some d ∧ Da H v d
  | _, _, i, _, .nil, e => by simp at e
  | _, _, 0, _, .cons h t, e => by
    have e := Option.some.inj e
    subst e
    exact ⟨_, rfl, h⟩
  | _, _, i + 1, _, .cons h t, e => DaL.get i t e
/-- equal as values of the same kinds: None, bools, ints, texts, tuples of these -/
def plainD : PyData → Bool
  | .none | .bool _ | .int _ => true
  | .str x => PyData.strOk x
  | .tuple ds => decide (ds.length ≤ 1000) && plainL ds
  | _ => false
where plainL : List PyData → Bool
  | [] => true
  | d :: ds => plainD d && plainL ds
def deq : PyData → PyData → Bool
  | .none, .none => true
  | .bool a, .bool b => a == b
  | .int i, .int j => i == j
  | .str x, .str y => x == y
  | .tuple xs, .tuple ys => deqL xs ys
  | _, _ => false
where deqL : List PyData → List PyData → Bool
  | [], [] => true
  | x :: xs, y :: ys => deq x y && deqL xs ys
  | _, _ => false
def dep : PyData → Nat
  | .tuple ds => depL ds + 1
  | .list ds => depL ds + 1
  | _ => 0
where depL : List PyData → Nat
  | [] => 0
  | d :: ds => max (dep d) (depL ds)
theorem plain_get : ∀ {ds : List PyData} {i : Nat} {d : PyData}, plainD.plainL ds = true → ds[i]? = some d → plainD d = true
  | [], i, d, _, e => by simp at e
  | x :: xs, 0, d, h, e => by
    have e := Option.some.inj e
    subst e
    unfold plainD.plainL at h
    exact (Bool.and_eq_true_iff.mp h).1
  | x :: xs, i + 1, d, h, e => by
    unfold plainD.plainL at h
    exact plain_get (Bool.and_eq_true_iff.mp h).2 e
theorem plain_tup {ds : List PyData} (h : plainD (.tuple ds) = true) : ds.length ≤ 1000 ∧ plainD.plainL ds = true := by
  unfold plainD at h
  have h := Bool.and_eq_true_iff.mp h
  exact ⟨of_decide_eq_true h.1, h.2⟩
theorem dep_get : ∀ {ds : List PyData} {i : Nat} {d : PyData}, ds[i]? = some d → dep d ≤ dep.depL ds
  | [], i, d, e => by simp at e
  | x :: xs, 0, d, e => by
    have e := Option.some.inj e
    subst e
    unfold dep.depL
    exact Nat.le_max_left _ _
  | x :: xs, i + 1, d, e => by
    unfold dep.depL
    exact Nat.le_trans (dep_get (i := i) e) (Nat.le_max_right _ _)
theorem deqL_len : ∀ {xs ys : List PyData}, xs.length ≠ ys.length → deq.deqL xs ys = false
  | [], [], h => absurd rfl h
  | [], _ :: _, _ => rfl
  | _ :: _, [], _ => rfl
  | x :: xs, y :: ys, h => by
    unfold deq.deqL
    rw [deqL_len (xs := xs) (ys := ys) (fun e => h (by rw [List.length_cons, List.length_cons, e])), Bool.and_false]
theorem deqL_all : ∀ {xs ys : List PyData}, xs.length = ys.length → deq.deqL xs ys = (((List.zip xs ys).map fun p => deq p.1 p.2).all id)
  | [], [], _ => rfl
  | [], _ :: _, h => by simp at h
  | _ :: _, [], h => by simp at h
  | x :: xs, y :: ys, h => by
    have ih := deqL_all (xs := xs) (ys := ys) (by simpa using h)
    unfold deq.deqL
    rw [ih]
    rfl
/-- a kind's name -/
def tn : PyData → String
  | .none => "NoneType"
  | .bool _ => "bool"
  | .int _ => "int"
  | .str _ => "str"
  | .list _ => "list"
  | .tuple _ => "tuple"
  | .dict _ => "dict"
theorem Da.ty {K : PySem.W.Frag} {H : Hp} : ∀ {v : V} {d : PyData}, Da H v d → TyX K H v (.type (tn d))
  | _, _, .non => .base .non
  | _, _, .bl b => .base (.bl b)
  | _, _, .int i => .base (.int i)
  | _, _, .str x => .base (.str x)
  | _, _, .lst e h => .base (.lst e)
  | _, _, .tup e h => .base (.tup e)
  | _, _, .dic e => .base (.dK e)
def isT : PyData → Bool | .tuple _ => true | _ => false
def isB : PyData → Bool | .bool _ => true | _ => false
def isI : PyData → Bool | .bool _ => true | .int _ => true | _ => false
def isS : PyData → Bool | .str _ => true | _ => false
def isL : PyData → Bool | .list _ => true | _ => false
theorem kitT {K : PySem.W.Frag} {H : Hp} {v : V} {d : PyData} (h : Da H v d) : PySem.W.kitOne K (.type (tn d)) (.type "tuple") = some (isT d) := by
  cases h <;> first | exact kit_ty (show kitB "NoneType" "tuple" = some false by decide +kernel) | exact kit_ty (show kitB "bool" "tuple" = some false by decide +kernel) | exact kit_ty (show kitB "int" "tuple" = some false by decide +kernel) | exact kit_ty (show kitB "str" "tuple" = some false by decide +kernel) | exact kit_ty (show kitB "list" "tuple" = some false by decide +kernel) | exact kit_ty (show kitB "tuple" "tuple" = some true by decide +kernel) | exact kit_ty (show kitB "dict" "tuple" = some false by decide +kernel)
theorem kitBo {K : PySem.W.Frag} {H : Hp} {v : V} {d : PyData} (h : Da H v d) : PySem.W.kitOne K (.type (tn d)) (.type "bool") = some (isB d) := by
  cases h <;> first | exact kit_ty (show kitB "NoneType" "bool" = some false by decide +kernel) | exact kit_ty (show kitB "bool" "bool" = some true by decide +kernel) | exact kit_ty (show kitB "int" "bool" = some false by decide +kernel) | exact kit_ty (show kitB "str" "bool" = some false by decide +kernel) | exact kit_ty (show kitB "list" "bool" = some false by decide +kernel) | exact kit_ty (show kitB "tuple" "bool" = some false by decide +kernel) | exact kit_ty (show kitB "dict" "bool" = some false by decide +kernel)
theorem kitI {K : PySem.W.Frag} {H : Hp} {v : V} {d : PyData} (h : Da H v d) : PySem.W.kitOne K (.type (tn d)) (.type "int") = some (isI d) := by
  cases h <;> first | exact kit_ty (show kitB "NoneType" "int" = some false by decide +kernel) | exact kit_ty (show kitB "bool" "int" = some true by decide +kernel) | exact kit_ty (show kitB "int" "int" = some true by decide +kernel) | exact kit_ty (show kitB "str" "int" = some false by decide +kernel) | exact kit_ty (show kitB "list" "int" = some false by decide +kernel) | exact kit_ty (show kitB "tuple" "int" = some false by decide +kernel) | exact kit_ty (show kitB "dict" "int" = some false by decide +kernel)
theorem kitS {K : PySem.W.Frag} {H : Hp} {v : V} {d : PyData} (h : Da H v d) : PySem.W.kitOne K (.type (tn d)) (.type "str") = some (isS d) := by
  cases h <;> first | exact kit_ty (show kitB "NoneType" "str" = some false by decide +kernel) | exact kit_ty (show kitB "bool" "str" = some false by decide +kernel) | exact kit_ty (show kitB "int" "str" = some false by decide +kernel) | exact kit_ty (show kitB "str" "str" = some true by decide +kernel) | exact kit_ty (show kitB "list" "str" = some false by decide +kernel) | exact kit_ty (show kitB "tuple" "str" = some false by decide +kernel) | exact kit_ty (show kitB "dict" "str" = some false by decide +kernel)
mutual
theorem plain_nd : ∀ {d : PyData}, plainD d = true → d.hasDict = false
  | .none, _ => rfl
  | .bool _, _ => rfl
  | .int _, _ => rfl
  | .str _, _ => rfl
  | .list _, h => by cases h
  | .tuple ds, h => by
    unfold PyData.hasDict
    exact plain_ndL (plain_tup h).2
  | .dict _, h => by cases h
theorem plain_ndL : ∀ {ds : List PyData}, plainD.plainL ds = true → PyData.hasDictAll ds = false
  | [], _ => rfl
  | d :: ds, h => by
    unfold plainD.plainL at h
    unfold PyData.hasDictAll
    rw [plain_nd (Bool.and_eq_true_iff.mp h).1, plain_ndL (Bool.and_eq_true_iff.mp h).2]
    rfl
end
theorem shaped_flat {d : PyData} (h : plainD d = true) (t : isT d = false) : SeqAt.shaped d = true := by
  cases d with
  | none => rfl
  | bool b => rfl
  | int i => rfl
  | str x =>
    unfold plainD at h
    unfold SeqAt.shaped PyData.canLay0
    rw [h]
    rfl
  | list ds => cases h
  | tuple ds => cases t
  | dict ds => cases h
theorem deq_bb {d d' : PyData} (h : isB d = true) (h' : isB d' = true) : PyData.eqv d d' = deq d d' := by
  cases d <;> cases h
  cases d' <;> cases h'
  simp only [PyData.eqv, deq]
theorem deq_nb {d d' : PyData} (h : isB d ≠ isB d') : deq d d' = false := by
  cases d <;> cases d' <;> first | rfl | exact absurd rfl h
theorem deq_nt {d d' : PyData} (h : isT d ≠ isT d') : deq d d' = false := by
  cases d <;> cases d' <;> first | rfl | exact absurd rfl h
theorem deq_ni {d d' : PyData} (h : isI d ≠ isI d') : deq d d' = false := by
  cases d <;> cases d' <;> first | rfl | exact absurd rfl h
theorem deq_ns {d d' : PyData} (h : isS d ≠ isS d') : deq d d' = false := by
  cases d <;> cases d' <;> first | rfl | exact absurd rfl h
theorem deq_rest {d d' : PyData} (p : plainD d = true) (p' : plainD d' = true) (b : isB d = false) (b' : isB d' = false) (t : isT d = false) (t' : isT d' = false) (i : isI d = isI d') (s : isS d = isS d') : PyData.eqv d d' = deq d d' := by
  cases d <;> cases d' <;> first | exact absurd p Bool.false_ne_true | exact absurd p' Bool.false_ne_true | exact absurd i Bool.false_ne_true | exact absurd s Bool.false_ne_true | (cases b; done) | (cases b'; done) | (cases t; done) | (cases t'; done) | (cases i; done) | (cases s; done) | simp only [PyData.eqv, deq]
theorem walk_zipT {K : PySem.W.Frag} {a b : Addr} {xs ys : List V} {n : Nat} (hx : n = xs.length) (hy : n = ys.length) : Walk (ItzT K a b) n (fun H => SqT K H a xs ∧ SqT K H b ys) (YPair (fun i => xs[i]?) (fun i => ys[i]?)) where
  goes := fun i H hi g => ⟨xs, ys, _, _, g.1, g.2, List.getElem?_eq_getElem (by omega), List.getElem?_eq_getElem (by omega)⟩
  stops := fun H g => ⟨xs, ys, g.1, g.2, .inl (by omega)⟩
  yields := fun i H x H' hi g y => by
    obtain ⟨T, x', y', e, hT, eH, f1, f2⟩ := y
    exact ⟨T, x', y', e, hT, eH, f1 xs g.1, f2 ys g.2⟩
/-- nothing is promised -/
theorem fn_none {P : Program} {w : World} {K : PySem.W.Frag} {mg : Str → Option Value} {base : Heap} {CX : CXT} {k : Nat} {f : Addr} {fd : FuncData} {ps : List Str} {sp : Sp} (h : ∀ vs H Q E, ¬ sp vs H Q E) : FnOk P w K mg base CX k f fd ps sp :=
  ⟨fun vs H Q E z => absurd z (h vs H Q E), fun A outer s H args us vs Q E _ _ _ _ z => absurd z (h vs H Q E)⟩
end PM

namespace PM
open PySem PySem.Spec PyProof.Rows L2 RZ
/-! ### a def entered from one given place (so that what stands around it is known) -/
section
variable {P : Program} {w : World} {K : PySem.W.Frag} {mg : Str → Option Value} {base : Heap}
theorem enter_at {kk : Nat} {fn : Addr} {nm ql : Str} {pa : Arguments} {bd : List Stmt} {sco : Scope} {v1 v2 v3 v4 cv v5 v6 : Value} {an od : Option Addr} {sl : Array (Option Value)} {N ps : List Str} {Ar : Around} {out : List Env} {sh : Shared} {H : Hp} {args : Args} {us : List Value} {vs : List V} {Q : VK}
    (look : K.lookup fn = some ⟨v6, od, .func (PySem.W.fnOf nm ql pa bd sco v1 v2 v3 v4 an cv v5), sl⟩) (code : PySem.W.codeIn K cv ql = true) (S : FnScope N ps sco) (len : vs.length = ps.length) (room : Room (kk + 1) Ar)
    (env0 : Env0 P w K mg base Ar out sh H) (bnd : BindsTo sh (PySem.W.fnOf nm ql pa bd sco v1 v2 v3 v4 an cv v5) args (ps.zip us)) (vals : Vals vs us)
    (walk : ∃ t, PSs (cxOf CX0 P w K mg base N ql sco fn cv Ar out sh H E0) bd t ∧ t { nx := fun _ H' => Q .non H', rt := Q } (start N vs) H) :
    codeAny (model P w) Ar (.call (.ref fn) args) (CR CX0 out P w H sh Q E0) sh := by
  obtain ⟨t, der, rd⟩ := walk
  have old := fun b o (z : base.get? b = some o) => (env0.bs b o z).1
  have inK : K.In sh.heap := env0.mod.kin.keeps old
  refine codeAny_call_function room.depth (inK _ _ look) rfl S.co S.gen rfl (PySem.W.codeRec_of inK code) (bnd _ _ _ _ ?_)
  refine wpAny_newFunctionEnv_cells S.kind (fun y mem => ?_) fun en same sh1 x => ?_
  · obtain ⟨name, val⟩ := y
    exact (S.par name (List.of_mem_zip mem).1).imp id fun c => ⟨c, PySem.W.cellsFrom_some _ _ _ (.inl c)⟩
  · cases same
    refine ⟨(env0.mod.nolimit.keeps old).keeps x.toInCall.keep, codeAny_func (wpAny_mono (der.run [] sh1 (start N vs) H _ (inv_start S room.hd env0 len vals x) rd) (fun flow sh2 z => ?_) fun _ _ z => z)⟩
    match flow, z with
    | .ret u, ⟨v, _, H2, J, rv, q⟩ => exact ⟨v, H2, J.os, J.bare, J.base, J.hok, rv, q⟩
    | .next, ⟨_, H2, J, q⟩ => exact ⟨V.non, H2, J.os, J.bare, J.base, J.hok, rfl, q⟩
    | .brk, ⟨_, _, _, q⟩ => exact q.elim
    | .cont, ⟨_, _, _, q⟩ => exact q.elim
/-- the tracked part that the law starts with: the script (locked), or nothing where it is one of the written objects -/
structure Lone (K : PySem.W.Frag) (H : Hp) (scr : Addr) : Prop where
  at_ : ∀ b, H b = none ∨ (b = scr ∧ K.lookup scr = none ∧ ∃ o xs, H b = some (.frz o (.lst xs)))
theorem lone_env {mb : Str → Option Value} {H : Hp} {scr : Addr} {sh : Shared} {vs : List Value} (L : Lone K H scr) (inK : K.In sh.heap) (glob : sh.heap.Ns mainGlobals mg) (blt : sh.heap.Ns builtinsNs mb) (boot : ∀ x : Str, x ≠ "__name__" → mb x = bootBuiltins x)
    (lim : sh.heap.NoLimit) (gens : sh.gens = #[]) (obj : sh.heap.get? scr = some { cls := .type "list", data := .seq vs.toArray }) (hok : HOk P w H sh.heap) :
    K.In (hidT sh.heap H) ∧ (hidT sh.heap H).Ns mainGlobals mg ∧ Env0 P w K mg (hidT sh.heap H) callerA [] sh H := by
  have names : ∀ {b : Addr} {m : Str → Option Value}, sh.heap.Ns b m → (hidT sh.heap H).Ns b m := by
    rintro b m ⟨o, es, ep, get, isD, rest⟩
    refine ⟨o, es, ep, hidT_get get ?_, isD, rest⟩
    rcases L.at_ b with z | ⟨rfl, _⟩
    · exact z
    · cases obj.symm.trans get
      cases (show Data.seq vs.toArray _ = Data.dict es ep from isD)
  have inB : K.In (hidT sh.heap H) := by
    intro b o z
    refine hidT_get (inK b o z) ?_
    rcases L.at_ b with y | ⟨rfl, non, _⟩
    · exact y
    · cases non.symm.trans z
  obtain ⟨mc, l1, l2⟩ := lim
  exact ⟨inB, names glob, ⟨rfl, ⟨inB, names glob, ⟨mb, names blt, boot⟩, ⟨mc, names l1, l2⟩⟩, fun b o z => of_hidT z, Nat.le_of_eq (hidT_size _ _), trivial, fun b z => (List.not_mem_nil (show b ∈ ([] : List Addr) from z)).elim, hok, .of_eq gens⟩⟩
theorem lone_law {H : Hp} {scr fn : Addr} {sh : Shared} (L : Lone K H scr) (hok : HOk P w H sh.heap)
    (run : codeAny (model P w) callerA (.call (.ref fn) ⟨[.ref scr], []⟩) (CR CX0 [] P w H sh (fun v _ => v = .bl true) E0) sh) :
    codeAny (model P w) callerA (.call (.ref fn) ⟨[.ref scr], []⟩) (fun r sh' => r = .ok (.ret (.bool true)) ∧ OldK sh.heap sh'.heap ∧ sh'.os = sh.os ∧ AllBare sh'.gens) sh := by
  refine codeAny_mono run fun r sh' z => ?_
  match r, z with
  | .error _, z => exact (show False from z).elim
  | .ok .next, z => exact (show False from z).elim
  | .ok .brk, z => exact (show False from z).elim
  | .ok .cont, z => exact (show False from z).elim
  | .ok (.ret u), ⟨v, H2, hos, bare, un, hok2, rv, (q : v = .bl true)⟩ =>
    subst q
    cases (show u = Value.bool true from rv)
    refine ⟨rfl, OldK.of_keep fun b o get => ?_, hos, bare⟩
    rcases L.at_ b with no | ⟨_, _, ob, xs, is⟩
    · exact un.keep b o get no (fun z => (List.not_mem_nil (show b ∈ ([] : List Addr) from z)).elim) (by simp)
    · obtain ⟨g1, _⟩ := hok b _ is
      obtain ⟨g2, _⟩ := hok2 b _ (un.frzs b ob _ is)
      cases get.symm.trans g1
      exact g2
theorem law_at {mb : Str → Option Value} {fn scr : Addr} {sh : Shared} {vs : List Value} {ns : List Int} (inK : K.In sh.heap) (glob : sh.heap.Ns mainGlobals mg) (blt : sh.heap.Ns builtinsNs mb) (boot : ∀ x : Str, x ≠ "__name__" → mb x = bootBuiltins x)
    (lim : sh.heap.NoLimit) (gens : sh.gens = #[]) (obj : sh.heap.get? scr = some { cls := .type "list", data := .seq vs.toArray }) (areI : IntsAre vs ns) (few : ns.length ≤ sizeLine)
    (run : ∀ (base : Heap) (H : Hp), K.In base → base.Ns mainGlobals mg → SqL K H scr (ns.map V.int) → Env0 P w K mg base callerA [] sh H →
      codeAny (model P w) callerA (.call (.ref fn) ⟨[.ref scr], []⟩) (CR CX0 [] P w H sh (fun v _ => v = .bl true) E0) sh) :
    codeAny (model P w) callerA (.call (.ref fn) ⟨[.ref scr], []⟩) (fun r sh' => r = .ok (.ret (.bool true)) ∧ OldK sh.heap sh'.heap ∧ sh'.os = sh.os ∧ AllBare sh'.gens) sh := by
  have rel : Vals (ns.map V.int) vs := vals_ints areI
  have go : ∀ H : Hp, Lone K H scr → HOk P w H sh.heap → SqL K H scr (ns.map V.int) → codeAny (model P w) callerA (.call (.ref fn) ⟨[.ref scr], []⟩) (fun r sh' => r = .ok (.ret (.bool true)) ∧ OldK sh.heap sh'.heap ∧ sh'.os = sh.os ∧ AllBare sh'.gens) sh :=
    fun H L hok seq => by
      obtain ⟨h1, h2, h3⟩ := lone_env L inK glob blt boot lim gens obj hok
      exact lone_law L hok (run _ H h1 h2 seq h3)
  cases written : K.lookup scr with
  | some o =>
    cases obj.symm.trans (inK scr o written)
    refine go (fun _ => none) ⟨fun _ => .inl rfl⟩ (fun b u z => nomatch (show (none : Option HO) = some u from z)) (.inr ⟨_, vs.toArray, _, written, rfl, rfl, rfl, ?_, rel⟩)
    rw [List.size_toArray, areI.length]
    exact few
  | none =>
    let H : Hp := fun b => if b = scr then some (.frz { cls := .type "list", data := .seq vs.toArray } (.lst (ns.map V.int))) else none
    have yes : H scr = some (.frz { cls := .type "list", data := .seq vs.toArray } (.lst (ns.map V.int))) := if_pos rfl
    have no : ∀ b, b ≠ scr → H b = none := fun b z => if_neg z
    refine go H ⟨fun b => ?_⟩ (fun b u z => ?_) (.inl (.inr ⟨_, yes⟩))
    · by_cases e : b = scr
      · exact .inr ⟨e, written, _, _, by rw [e]; exact yes⟩
      · exact .inl (no b e)
    · by_cases e : b = scr
      · subst e
        cases yes.symm.trans z
        exact ⟨obj, by rw [List.length_map]; exact few, vs, _, rel, obj⟩
      · cases (no b e).symm.trans z
end
/-- the end of a law whose body leans on what stands around it -/
theorem walk_at {l : PySem.W.OpenLaw} {n : Nat} {q : Program} {loose : List Str} {XP : (Str → Option Value) → Heap → Prop} {YP : World → Heap → Prop} {d : DefRec} {K : Params → PySem.W.Frag}
    (most : l.most = some n) (few : n ≤ sizeLine) (dfl : d.params.defaults = []) (inY : ∀ (w : World) (h : Heap), YP w h → (K w.params).In h)
    (F : ∀ (w : World) (mg : Str → Option Value) (fa : Addr) (h : Heap), (K w.params).In h → h.Ns mainGlobals mg → mg d.name = some (.ref fa) →
      ∀ (base : Heap) (H : Hp) (sh : Shared) (scr : Addr) (ns : List Int), ns.length ≤ n → (K w.params).In base → base.Ns mainGlobals mg → SqL (K w.params) H scr (ns.map V.int) → Env0 l.prog w (K w.params) mg base callerA [] sh H →
        codeAny (model l.prog w) callerA (.call (.ref fa) ⟨[.ref scr], []⟩) (CR CX0 [] l.prog w H sh (fun v _ => v = .bl true) E0) sh) :
    PySem.W.WalkO q loose XP YP l.row.toRowW d [] (fun f vs => PySem.call f vs) := by
  refine Att.attach_call most dfl fun w s0 s1 mg mb fa o pm cd doc a vs ns G Y ho hd hcd hmg hobj hints hlen hg => ?_
  have KX := inY w _ Y
  exact law_at KX G.T.g G.T.b G.T.builtins G.T.nolimit hg hobj hints (Nat.le_trans hlen few) fun base H inB glob seq e0 => F w mg fa _ KX G.T.g hmg base H s1 a ns hlen inB glob seq e0
end PM

namespace PM
open PySem PySem.Spec PyProof.Rows L2 RZ
section
variable {X : Cx} {pins : List (Addr × Obj)} {σ : L2.St} {H : Hp} {s : Shared}
theorem dict_reads (I : L2.Inv X pins σ H s) {a : Addr} (e : H a = some (.dK [])) : ∃ as, Reads s.heap (.ref a) (.dict []) as ∧ sysModules ∉ as := by
  obtain ⟨_, sys, vs, kv, o, es, ep, get, ex, dat, _, prs, _⟩ := (show ObjOk X.prog X.w H s.heap a (.dK []) from I.hok a _ e)
  cases kv
  have none : es.toList = [] := by cases h : es.toList with
    | nil => rfl
    | cons x y => rw [h] at prs; cases prs
  refine ⟨a :: [] ++ [], Reads.dict (kvs := []) get ex.1 dat ?_ ?_, fun z => ?_⟩
  · rw [none]
    exact .nil
  · rw [none]
    exact .nil
  · have z : sysModules = a := by simpa using z
    rw [← z] at sys
    exact absurd sys (by simp)
mutual
theorem Da.showsK (I : L2.Inv X pins σ H s) : ∀ {v : V} {d : PyData} {u : Value}, Da H v d → RelV v u → d.showable = true → d.shown.length ≤ sizeLine →
    (∃ as, Reads s.heap u d as) ∧ ∃ bs, ReadAtMost s.heap d.depth bs ∧ ReprK X.prog X.w bs s.heap d.depth u d.shown
  | _, _, u, .non, r, sh, sz => by
    cases (show u = Value.none from r)
    exact ⟨⟨_, .none⟩, ReprK.of_reads .none sh (fun z => nomatch z) sz⟩
  | _, _, u, .bl b, r, sh, sz => by
    cases (show u = Value.bool b from r)
    exact ⟨⟨_, .bool b⟩, ReprK.of_reads (.bool b) sh (fun z => nomatch z) sz⟩
  | _, _, u, .int i, r, sh, sz => by
    obtain ⟨t, e⟩ := (show ∃ t, u = Value.int i t from r)
    cases e
    exact ⟨⟨_, .int i t⟩, ReprK.of_reads (.int i t) sh (fun z => nomatch z) sz⟩
  | _, _, u, .str x, r, sh, sz => by
    obtain ⟨t, e⟩ := (show ∃ t, u = Value.str x t from r)
    cases e
    exact ⟨⟨_, .str x t⟩, ReprK.of_reads (.str x t) sh (fun z => nomatch z) sz⟩
  | _, _, u, .lst (a := a) (ds := ds) e h, r, sh, sz => by
    cases (show u = Value.ref a from r)
    obtain ⟨its, rv, ⟨o, n, ho, hc, _, hd⟩, _⟩ := I.list (.inl (.inl e))
    have sz' : (listText (PyData.shownAll ds)).length ≤ sizeLine := sz
    obtain ⟨⟨as, rds⟩, bs, hb, hk⟩ := DaL.showsK I h rv (by unfold PyData.showable at sh; exact sh) (fun t ht => Nat.le_trans (listText_mem_le ht) sz')
    have rd : Reads s.heap (.ref a) (.list ds) (a :: as) := .list ho hc hd rds
    have less : PyData.depthAll ds < (PyData.list ds).depth := by
      simp only [PyData.depth]
      omega
    have hna : a ∉ bs := not_mem_of_deeper rd less hb
    refine ⟨⟨_, rd⟩, a :: bs, ReadAtMost.cons rd (Nat.le_of_lt less) hb, ?_⟩
    simp only [PyData.depth, PyData.shown]
    cases its with
    | nil =>
      cases rv
      cases h
      simp only [PyData.shownAll, listText_nil]
      exact ReprK.listEmpty ho hc hd
    | cons y ys => exact ReprK.list ho hc hd hna (by simpa using hk.length_eq) (fun i z e => hk.item i z (by simpa using e))
  | _, _, u, .dic (a := a) e, r, sh, sz => by
    cases (show u = Value.ref a from r)
    obtain ⟨as, rd, no⟩ := dict_reads I e
    exact ⟨⟨as, rd⟩, ReprK.of_reads rd sh (fun _ => no) sz⟩
  | _, _, u, .tup (a := a) (ds := ds) e h, r, sh, sz => by
    cases (show u = Value.ref a from r)
    obtain ⟨its, rv, ⟨o, ho, hc, n, hd⟩, _⟩ := I.tuple (.inl (.inl e))
    have sz' : (tupleText (PyData.shownAll ds)).length ≤ sizeLine := sz
    obtain ⟨⟨as, rds⟩, bs, hb, hk⟩ := DaL.showsK I h rv (by unfold PyData.showable at sh; exact sh) (fun t ht => Nat.le_trans (tupleText_mem_le ht) sz')
    have rd : Reads s.heap (.ref a) (.tuple ds) as := .tuple ho hc hd rds
    have less : PyData.depthAll ds < (PyData.tuple ds).depth := by
      simp only [PyData.depth]
      omega
    have hna : a ∉ bs := not_mem_of_deeper rd less hb
    refine ⟨⟨as, rd⟩, a :: bs, ReadAtMost.cons rd (Nat.le_of_lt less) hb, ?_⟩
    simp only [PyData.depth, PyData.shown]
    exact ReprK.tuple ho hc hd hna hk
theorem DaL.showsK (I : L2.Inv X pins σ H s) : ∀ {vs : List V} {ds : List PyData} {us : List Value}, DaL H vs ds → Vals vs us → PyData.showableAll ds = true → (∀ t ∈ PyData.shownAll ds, t.length ≤ sizeLine) →
    (∃ as, ReadsAll s.heap us ds as) ∧ ∃ bs, ReadAtMost s.heap (PyData.depthAll ds) bs ∧ ReprAllK X.prog X.w bs s.heap (PyData.depthAll ds) us (PyData.shownAll ds)
  | _, _, _, .nil, .nil, _, _ => ⟨⟨_, .nil⟩, [], (fun _ h => nomatch h), by simp only [PyData.shownAll]; exact .nil⟩
  | _, _, _, .cons (d := d) (ds := ds) h t, .cons r rs, sh, sz => by
    unfold PyData.showableAll at sh
    have sh := Bool.and_eq_true_iff.mp sh
    simp only [PyData.shownAll] at sz
    obtain ⟨⟨a1, r1⟩, b1, hb1, k1⟩ := Da.showsK I h r sh.1 (sz _ List.mem_cons_self)
    obtain ⟨⟨a2, r2⟩, b2, hb2, k2⟩ := DaL.showsK I t rs sh.2 (fun t ht => sz t (List.mem_cons_of_mem _ ht))
    refine ⟨⟨_, .cons r1 r2⟩, b1 ++ b2, ?_, ?_⟩
    · simp only [PyData.depthAll]
      exact (hb1.mono (Nat.le_max_left _ _)).append (hb2.mono (Nat.le_max_right _ _))
    · simp only [PyData.depthAll, PyData.shownAll]
      exact .cons ((k1.more fun b hb => List.mem_append_left _ hb).level_le (Nat.le_max_left _ _)) (k2.more_le (fun b hb => List.mem_append_right _ hb) (Nat.le_max_right _ _))
end
end
/-- repr of data, where nothing is being shown around it -/
def rRepr : List V → Hp → VK → Prop := fun xs H Q => ∃ (v : V) (d : PyData), xs = [v] ∧ Da H v d ∧ d.showable = true ∧ d.depth ≤ 60 ∧ d.shown.length ≤ sizeLine ∧ Q (.str d.shown) H
section
variable {X : Cx}
theorem call_repr (quiet : X.A.guards = some []) (hu : X.A.units + 64 < cLine) : CallR X (.builtin "repr") rRepr := by
  intro pins s σ H xs us Q I r h
  obtain ⟨v, d, rfl, hd, sh, dp, sz, q⟩ := h
  cases r with
  | cons r0 rr =>
    cases rr
    rename_i u
    have all : ∀ (a : Addr) (as : List Addr), u = .ref a → Reads s.heap u d as → (d.hasDict = true → sysModules ∉ as) → wpAny (model X.prog X.w) X.A (call (.builtin "repr") [u]) (EP X pins σ Q) X.xe s := fun a as e rd no => by
      subst e
      exact repr_of_reads' rd sh no quiet (by omega) (fun _ _ z => z) (fun h' t tk k => ⟨.str d.shown, H, I.kept k, ⟨t, rfl⟩, q⟩) sz
    cases hd with
    | non =>
      cases (show u = Value.none from r0)
      exact PySem.P.repr_of_none ⟨.str _, H, I.tok _, ⟨_, rfl⟩, q⟩
    | bl b =>
      cases (show u = Value.bool b from r0)
      exact PySem.P.repr_of_bool ⟨.str _, H, I.tok _, ⟨_, rfl⟩, by cases b <;> exact q⟩
    | int i =>
      obtain ⟨t, e⟩ := (show ∃ t, u = Value.int i t from r0)
      cases e
      exact PySem.P.repr_of_int (of_decide_eq_true sh) ⟨.str _, H, I.tok _, ⟨_, rfl⟩, q⟩
    | str y =>
      obtain ⟨t, e⟩ := (show ∃ t, u = Value.str y t from r0)
      cases e
      exact PySem.P.repr_of_str ⟨.str _, H, I.tok _, ⟨_, rfl⟩, q⟩ sz
    | @lst a xs ds e h =>
      cases (show u = Value.ref a from r0)
      obtain ⟨its, rv, ⟨o, n, ho, hc, _, hdt⟩, _⟩ := I.list (.inl (.inl e))
      have sz' : (listText (PyData.shownAll ds)).length ≤ sizeLine := sz
      obtain ⟨⟨as, rds⟩, bs, hb, hk⟩ := DaL.showsK I h rv (by unfold PyData.showable at sh; exact sh) (fun t ht => Nat.le_trans (listText_mem_le ht) sz')
      have less : PyData.depthAll ds < (PyData.list ds).depth := by
        simp only [PyData.depth]
        omega
      have dp' : PyData.depthAll ds + 1 ≤ 60 := by
        simp only [PyData.depth] at dp
        omega
      have hna : a ∉ bs := not_mem_of_deeper (.list ho hc hdt rds) less hb
      refine call_repr_slot (by omega) ⟨o, ho, hc⟩ PySem.F.slot_list_repr.toG ?_
      cases its with
      | nil =>
        cases rv
        cases h
        simp only [PyData.shown, PyData.shownAll, listText_nil] at q
        exact call_list_repr_empty ⟨o, ho, hc⟩ ho hdt ⟨_, _, rfl, ⟨.str _, H, I.tok _, ⟨_, rfl⟩, q⟩⟩
      | cons y ys =>
        exact call_list_reprK (A := X.A.in1) ho hc hdt hna (by simpa using hk.length_eq) (fun i z e => hk.item i z (by simpa using e)) quiet (fun b _ => Clear.nil b) (by show X.A.units + 1 + (PyData.depthAll ds + 1) < cLine; omega) (fun _ _ z => z) (fun h' t tk k => ⟨_, _, rfl, ⟨.str _, H, I.kept k, ⟨t, rfl⟩, q⟩⟩) sz'
    | @dic a e =>
      cases (show u = Value.ref a from r0)
      obtain ⟨as, rd, no⟩ := dict_reads I e
      exact all a as rfl rd fun _ => no
    | @tup a xs ds e h =>
      cases (show u = Value.ref a from r0)
      obtain ⟨its, rv, ⟨o, ho, hc, n, hdt⟩, _⟩ := I.tuple (.inl (.inl e))
      have sz' : (tupleText (PyData.shownAll ds)).length ≤ sizeLine := sz
      obtain ⟨⟨as, rds⟩, bs, hb, hk⟩ := DaL.showsK I h rv (by unfold PyData.showable at sh; exact sh) (fun t ht => Nat.le_trans (tupleText_mem_le ht) sz')
      have less : PyData.depthAll ds < (PyData.tuple ds).depth := by
        simp only [PyData.depth]
        omega
      have dp' : PyData.depthAll ds + 1 ≤ 60 := by
        simp only [PyData.depth] at dp
        omega
      have hna : a ∉ bs := not_mem_of_deeper (.tuple ho hc hdt rds) less hb
      refine call_repr_slot (by omega) ⟨o, ho, hc⟩ PySem.F.slot_tuple_repr (call_tuple_reprK (A := X.A.in1) ho hc hdt hna hk quiet (fun b _ => Clear.nil b) (by show X.A.units + 1 + (PyData.depthAll ds + 1) < cLine; omega) (fun _ _ z => z) (fun h' t tk k => ⟨_, _, rfl, ⟨.str _, H, I.kept k, ⟨t, rfl⟩, q⟩⟩) sz')
end
/-! ### what is shown, and how long it is -/
structure Shw (d : PyData) (n m : Nat) : Prop where
  sh : d.showable = true
  dp : d.depth ≤ m
  ln : d.shown.length ≤ n
structure ShwL (ds : List PyData) (n m : Nat) : Prop where
  sh : PyData.showableAll ds = true
  dp : PyData.depthAll ds ≤ m
  ln : ((PyData.shownAll ds).map (·.length)).sum + 2 * ds.length ≤ n
theorem Shw.non : Shw .none 4 0 := ⟨rfl, by decide, by decide⟩
theorem Shw.bool (b : Bool) : Shw (.bool b) 5 0 := ⟨rfl, Nat.le_of_eq rfl, by cases b <;> decide⟩
theorem Shw.int {i : Int} {b : Nat} (h : i.natAbs < 2 ^ b) (h0 : 0 < b) (h9 : b ≤ 1920) : Shw (.int i) 1921 0 := by
  have l := Nat.lt_of_lt_of_le (PySem.Flt.log2_lt_of h0 h) h9
  exact ⟨decide_eq_true l, Nat.le_of_eq rfl, int_text_len_1921 l⟩
theorem Shw.str {x : Str} {n : Nat} (h : (reprText x).length ≤ n) : Shw (.str x) n 0 := ⟨rfl, Nat.le_of_eq rfl, h⟩
theorem Shw.dict : Shw (.dict []) 2 1 := ⟨rfl, by decide, by decide⟩
theorem ShwL.nil (m : Nat) : ShwL [] 0 m := ⟨rfl, Nat.zero_le _, Nat.le_refl _⟩
theorem ShwL.cons {d : PyData} {ds : List PyData} {n k m : Nat} (h : Shw d n m) (t : ShwL ds k m) : ShwL (d :: ds) (n + 2 + k) m := by
  refine ⟨?_, ?_, ?_⟩
  · unfold PyData.showableAll
    rw [h.sh, t.sh]
    rfl
  · unfold PyData.depthAll
    exact Nat.max_le.mpr ⟨h.dp, t.dp⟩
  · unfold PyData.shownAll
    rw [List.map_cons, List.sum_cons, List.length_cons]
    have := h.ln
    have := t.ln
    omega
theorem Shw.tup {ds : List PyData} {n m : Nat} (h : ShwL ds n m) : Shw (.tuple ds) (n + 3) (m + 1) := by
  refine ⟨h.sh, ?_, ?_⟩
  · unfold PyData.depth
    have := h.dp
    omega
  · have a := tupleText_len_le (PyData.shownAll ds)
    have b := PyData.shownAll_length ds
    have c := h.ln
    unfold PyData.shown
    omega
theorem Shw.lst {ds : List PyData} {n m : Nat} (h : ShwL ds n m) : Shw (.list ds) (n + 3) (m + 1) := by
  refine ⟨h.sh, ?_, ?_⟩
  · unfold PyData.depth
    have := h.dp
    omega
  · have a := listText_len_le (PyData.shownAll ds)
    have b := PyData.shownAll_length ds
    have c := h.ln
    unfold PyData.shown
    omega
theorem Shw.mono {d : PyData} {n m n' m' : Nat} (h : Shw d n m) (a : n ≤ n') (b : m ≤ m') : Shw d n' m' := ⟨h.sh, Nat.le_trans h.dp b, Nat.le_trans h.ln a⟩
theorem Shw.fit {d : PyData} {n m : Nat} (h : Shw d n m) (hn : n ≤ 1000000) : d.shown.length ≤ sizeLine := Nat.le_trans h.ln (Nat.le_trans hn (by rw [sizeLine_eq]; decide))
theorem Shw.deep {d : PyData} {n m : Nat} (h : Shw d n m) (hm : m ≤ 60) : d.depth ≤ 60 := Nat.le_trans h.dp hm
theorem Shw.fd {x : Int × Int} {b : Nat} (h : Fr.Sz b x) (h0 : 0 < b) (h9 : b ≤ 1920) : Shw (fd x) 3849 1 :=
  (Shw.tup (.cons (.int h.1 h0 h9) (.cons (.int h.2 h0 h9) (.nil 0)))).mono (by decide) (by decide)
theorem neS {x : Str} {A B : Prop} (k : B) : if (!decide (V.str x = V.str x)) = true then A else B := by
  rw [decide_eq_true rfl]
  exact k
mutual
theorem deq_refl : ∀ {d : PyData}, plainD d = true → deq d d = true
  | .none, _ => rfl
  | .bool b, _ => by simp [deq]
  | .int i, _ => by simp [deq]
  | .str x, _ => by simp [deq]
  | .tuple ds, h => deqL_refl (plain_tup h).2
  | .list _, h => by cases h
  | .dict _, h => by cases h
theorem deqL_refl : ∀ {ds : List PyData}, plainD.plainL ds = true → deq.deqL ds ds = true
  | [], _ => rfl
  | d :: ds, h => by
    unfold plainD.plainL at h
    unfold deq.deqL
    rw [deq_refl (Bool.and_eq_true_iff.mp h).1, deqL_refl (Bool.and_eq_true_iff.mp h).2]
    rfl
end
end PM

/-! data-level readings: values are data (PyData), what a frame changes is numbered -/
namespace PM
open PySem PySem.Spec PyProof.Rows L2 RZ
structure Pl where
  a : Addr
  c : Addr
  r : Addr
/-- a kind of thing that is known, and changes no more -/
structure Fzn where
  ok : Hp → V → Prop
  same : ∀ {G G' : Hp} {v : V}, Same G G' → ok G v → ok G' v
  ref : ∀ {G : Hp} {v : V}, ok G v → ∃ a, v = .ref a
/-- a kind of thing that changes: where it stands, what is true of it, what becomes of it once it changes no more -/
structure Knd where
  ft : Pl → List Addr
  ok : Hp → Hp → Pl → Prop
  stand : ∀ {G H : Hp} {q : Pl} {b : Addr}, ok G H q → b ∈ ft q → H b ≠ none
  keep : ∀ {G G' H H' : Hp} {q : Pl}, Same G G' → ok G H q → (∀ b x, b ∈ ft q → H b = some x → H' b = some x) → ok G' H' q
  fr : Option Fzn
  frz : ∀ f, fr = some f → (∀ q, ft q = [q.a]) ∧ ∀ {G H : Hp} {q : Pl}, ok G H q → G q.a = none → ∃ ob, H q.a = some ob ∧ f.ok (upd G q.a ob) (.ref q.a)
inductive DV where
  | d (x : PyData)
  | dic (kvs : List (Int × PyData))
  | p (i : Nat)
  | any (f : Fzn)
inductive MO where
  | no
  | lst (ds : List PyData)
  | dic (kvs : List (Int × PyData))
  | drw (n : Nat)
  | any (k : Knd)
abbrev DEnv := List (Option DV)
abbrev Mu := List MO
inductive DaK (G : Hp) : List (Key × V) → List (Int × PyData) → Prop
  | nil : DaK G [] []
  | cons {k : Int} {v : V} {d : PyData} {kxs : List (Key × V)} {kvs : List (Int × PyData)} : Da G v d → DaK G kxs kvs → DaK G ((.inl k, v) :: kxs) ((k, d) :: kvs)
theorem DaK.same {G G' : Hp} (s : Same G G') : ∀ {kxs : List (Key × V)} {kvs : List (Int × PyData)}, DaK G kxs kvs → DaK G' kxs kvs
  | _, _, .nil => .nil
  | _, _, .cons h t => .cons (h.same s) (DaK.same s t)
def RV (G : Hp) (pl : Nat → Pl) (n : Nat) (v : V) : DV → Prop
  | .d x => Da G v x
  | .dic kvs => ∃ a kxs, v = .ref a ∧ G a = some (.dK kxs) ∧ DaK G kxs kvs
  | .p i => i < n ∧ v = .ref (pl i).a
  | .any f => f.ok G v
def MOk (G H : Hp) (q : Pl) : MO → Prop
  | .no => True
  | .lst ds => ∃ xs, H q.a = some (.lst xs) ∧ DaL G xs ds
  | .dic kvs => ∃ kxs, H q.a = some (.dK kxs) ∧ DaK G kxs kvs
  | .drw n => Drw H q.a q.c q.r n
  | .any k => k.ok G H q
def foot (q : Pl) : MO → List Addr
  | .no => []
  | .lst _ => [q.a]
  | .dic _ => [q.a]
  | .drw _ => [q.a, q.c, q.r]
  | .any k => k.ft q
def isDrw : MO → Bool
  | .drw _ => true
  | _ => false
/-- what stood at the entry; F, L: what may be changed of it (drawn numbers; others) -/
structure Fr0 where
  G : Hp
  H : Hp
  F : Addr → Prop
  L : Addr → Prop
structure HR (c : Fr0) (G : Hp) (pl : Nat → Pl) (H : Hp) (m : Mu) : Prop where
  sub : Same G H
  mo : ∀ i o, m[i]? = some o → MOk G H (pl i) o
  out : ∀ i o b, m[i]? = some o → b ∈ foot (pl i) o → G b = none
  own : ∀ i o b, m[i]? = some o → b ∈ foot (pl i) o → (if isDrw o = true then c.F b else c.L b) ∨ c.H b = none
  dj : ∀ i j o o' b, i ≠ j → m[i]? = some o → m[j]? = some o' → b ∈ foot (pl i) o → b ∈ foot (pl j) o' → False
  g0 : Same c.G G
  h0 : ∀ b o, ¬ c.F b → ¬ c.L b → c.H b = some o → H b = some o
  up : ∀ b, c.H b ≠ none → H b ≠ none
  nw : ∀ b, G b ≠ none → c.G b ≠ none ∨ c.H b = none
/-- the slots -/
def lk : DEnv → Nat → Option DV
  | [], _ => none
  | x :: _, 0 => x
  | _ :: xs, i + 1 => lk xs i
def stt : DEnv → Nat → Option DV → DEnv
  | [], _, _ => []
  | _ :: xs, 0, v => v :: xs
  | x :: xs, i + 1, v => x :: stt xs i v
def wp (e : DEnv) : List Nat → DEnv
  | [] => e
  | v :: vs => stt (wp e vs) v none
structure ER (G : Hp) (pl : Nat → Pl) (n : Nat) (σ : L2.St) (e : DEnv) : Prop where
  len : σ.length = e.length
  get : ∀ i dv, lk e i = some dv → ∃ v, σ[i]? = some (some v) ∧ RV G pl n v dv
structure SR (c : Fr0) (G : Hp) (pl : Nat → Pl) (σ : L2.St) (H : Hp) (e : DEnv) (m : Mu) : Prop where
  env : ER G pl m.length σ e
  hp : HR c G pl H m
structure Le (G : Hp) (pl : Nat → Pl) (n : Nat) (G' : Hp) (pl' : Nat → Pl) (n' : Nat) : Prop where
  g : Same G G'
  p : ∀ i, i < n → pl' i = pl i
  n : n ≤ n'
theorem Le.refl (G : Hp) (pl : Nat → Pl) (n : Nat) : Le G pl n G pl n := ⟨.refl G, fun _ _ => rfl, Nat.le_refl _⟩
theorem Le.trans {G G1 G2 : Hp} {pl pl1 pl2 : Nat → Pl} {n n1 n2 : Nat} (a : Le G pl n G1 pl1 n1) (b : Le G1 pl1 n1 G2 pl2 n2) : Le G pl n G2 pl2 n2 :=
  ⟨a.g.trans b.g, fun i hi => (b.p i (Nat.lt_of_lt_of_le hi a.n)).trans (a.p i hi), Nat.le_trans a.n b.n⟩
theorem RV.le {G G' : Hp} {pl pl' : Nat → Pl} {n n' : Nat} {v : V} {dv : DV} (l : Le G pl n G' pl' n') (h : RV G pl n v dv) : RV G' pl' n' v dv := by
  cases dv with
  | d x => exact Da.same l.g h
  | dic kvs =>
    obtain ⟨a, kxs, e, h1, h2⟩ := h
    exact ⟨a, kxs, e, l.g _ _ h1, h2.same l.g⟩
  | p i => exact ⟨Nat.lt_of_lt_of_le h.1 l.n, by rw [l.p i h.1]; exact h.2⟩
  | any f => exact f.same l.g h
theorem ER.le {G G' : Hp} {pl pl' : Nat → Pl} {n n' : Nat} {σ : L2.St} {e : DEnv} (l : Le G pl n G' pl' n') (h : ER G pl n σ e) : ER G' pl' n' σ e :=
  ⟨h.len, fun i dv x => by
    obtain ⟨v, h1, h2⟩ := h.get i dv x
    exact ⟨v, h1, h2.le l⟩⟩
theorem lk_stt : ∀ (e : DEnv) (i j : Nat) (v : Option DV), lk (stt e i v) j = if i = j then (if i < e.length then v else none) else lk e j
  | [], i, j, v => by
    simp [stt, lk]
  | x :: xs, 0, 0, v => by simp [stt, lk]
  | x :: xs, 0, j + 1, v => by simp [stt, lk]
  | x :: xs, i + 1, 0, v => by simp [stt, lk]
  | x :: xs, i + 1, j + 1, v => by
    simp only [stt, lk, lk_stt xs i j v, List.length_cons, Nat.add_lt_add_iff_right, Nat.add_right_cancel_iff]
theorem stt_len : ∀ (e : DEnv) (i : Nat) (v : Option DV), (stt e i v).length = e.length
  | [], _, _ => rfl
  | _ :: _, 0, _ => rfl
  | _ :: xs, i + 1, v => by simp only [stt, List.length_cons, stt_len xs i v]
theorem ER.set {G : Hp} {pl : Nat → Pl} {n : Nat} {σ : L2.St} {e : DEnv} {v : V} {dv : DV} (h : ER G pl n σ e) (i : Nat) (r : RV G pl n v dv) : ER G pl n (σ.set i (some v)) (stt e i (some dv)) :=
  ⟨by rw [List.length_set, stt_len, h.len], fun j dw x => by
    rw [lk_stt] at x
    by_cases e1 : i = j
    · subst e1
      rw [if_pos rfl] at x
      by_cases e2 : i < e.length
      · rw [if_pos e2] at x
        cases x
        exact ⟨v, List.getElem?_set_self (by rw [h.len]; exact e2), r⟩
      · rw [if_neg e2] at x
        cases x
    · rw [if_neg e1] at x
      obtain ⟨u, h1, h2⟩ := h.get j dw x
      exact ⟨u, by rw [List.getElem?_set_ne e1]; exact h1, h2⟩⟩
theorem ER.unset {G : Hp} {pl : Nat → Pl} {n : Nat} {σ : L2.St} {e : DEnv} (h : ER G pl n σ e) (i : Nat) : ER G pl n (σ.set i none) (stt e i none) :=
  ⟨by rw [List.length_set, stt_len, h.len], fun j dw x => by
    rw [lk_stt] at x
    by_cases e1 : i = j
    · subst e1
      rw [if_pos rfl] at x
      by_cases e2 : i < e.length
      · rw [if_pos e2] at x
        cases x
      · rw [if_neg e2] at x
        cases x
    · rw [if_neg e1] at x
      obtain ⟨u, h1, h2⟩ := h.get j dw x
      exact ⟨u, by rw [List.getElem?_set_ne e1]; exact h1, h2⟩⟩
theorem ER.forget {G : Hp} {pl : Nat → Pl} {n : Nat} {σ : L2.St} {e : DEnv} (h : ER G pl n σ e) (i : Nat) : ER G pl n σ (stt e i none) :=
  ⟨by rw [stt_len, h.len], fun j dw x => by
    rw [lk_stt] at x
    by_cases e1 : i = j
    · subst e1
      rw [if_pos rfl] at x
      by_cases e2 : i < e.length
      · rw [if_pos e2] at x
        cases x
      · rw [if_neg e2] at x
        cases x
    · rw [if_neg e1] at x
      exact h.get j dw x⟩
theorem ER.wipe {G : Hp} {pl : Nat → Pl} {n : Nat} {σ : L2.St} {e : DEnv} (h : ER G pl n σ e) : ∀ vs : List Nat, ER G pl n (wipe σ vs) (wp e vs)
  | [] => h
  | v :: vs => (ER.wipe h vs).unset v
/-! ### heaps -/
section
variable {c : Fr0} {G H : Hp} {pl : Nat → Pl} {m : Mu}
theorem HR.standF (h : HR c G pl H m) {i : Nat} {o : MO} {b : Addr} (e : m[i]? = some o) (f : b ∈ foot (pl i) o) : H b ≠ none := by
  have q := h.mo i o e
  cases o with
  | no => cases f
  | lst ds =>
    obtain ⟨xs, h1, _⟩ := q
    cases List.mem_singleton.mp f
    rw [h1]; exact fun z => nomatch z
  | dic kvs =>
    obtain ⟨xs, h1, _⟩ := q
    cases List.mem_singleton.mp f
    rw [h1]; exact fun z => nomatch z
  | drw n =>
    obtain ⟨⟨cells, rests, t, h1, h2, h3, _⟩, _⟩ := q
    simp only [foot, List.mem_cons, List.not_mem_nil, or_false] at f
    rcases f with e | e | e <;> subst e
    · rw [h1]; exact fun z => nomatch z
    · rw [h2]; exact fun z => nomatch z
    · rw [h3]; exact fun z => nomatch z
  | any k => exact k.stand q f
theorem MOk.keep {G' H' : Hp} {q : Pl} {o : MO} (g : Same G G') (h : MOk G H q o) (k : ∀ b x, b ∈ foot q o → H b = some x → H' b = some x) : MOk G' H' q o := by
  cases o with
  | no => trivial
  | lst ds =>
    obtain ⟨xs, h1, h2⟩ := h
    exact ⟨xs, k _ _ (List.mem_singleton.mpr rfl) h1, h2.same g⟩
  | dic kvs =>
    obtain ⟨xs, h1, h2⟩ := h
    exact ⟨xs, k _ _ (List.mem_singleton.mpr rfl) h1, h2.same g⟩
  | drw n =>
    obtain ⟨⟨cells, rests, t, h1, h2, h3, q⟩, x, y, z⟩ := h
    exact ⟨⟨cells, rests, t, k _ _ (by simp [foot]) h1, k _ _ (by simp [foot]) h2, k _ _ (by simp [foot]) h3, q⟩, x, y, z⟩
  | any kd => exact kd.keep g h k
theorem HR.fresh (h : HR c G pl H m) {b : Addr} (e : H b = none) : G b = none ∧ c.H b = none ∧ ∀ i o, m[i]? = some o → b ∉ foot (pl i) o := by
  refine ⟨?_, ?_, fun i o x f => h.standF x f e⟩
  · cases q : G b with
    | none => rfl
    | some o => rw [h.sub _ _ q] at e; cases e
  · cases q : c.H b with
    | none => rfl
    | some o => exact absurd e (h.up b (by rw [q]; exact fun z => nomatch z))
/-- the heap grows (or changes off what is known) -/
theorem HR.grow {H' : Hp} (h : HR c G pl H m) (k : ∀ b x, (G b ≠ none ∨ (∃ i o, m[i]? = some o ∧ b ∈ foot (pl i) o) ∨ c.H b ≠ none) → H b = some x → H' b = some x) : HR c G pl H' m where
  sub := fun b x e => k b x (.inl (by rw [e]; exact fun z => nomatch z)) (h.sub _ _ e)
  mo := fun i o e => (h.mo i o e).keep (.refl G) fun b x f => k b x (.inr (.inl ⟨i, o, e, f⟩))
  out := h.out
  own := h.own
  dj := h.dj
  g0 := h.g0
  h0 := fun b o n1 n2 e => k b o (.inr (.inr (by rw [e]; exact fun z => nomatch z))) (h.h0 b o n1 n2 e)
  up := fun b e => by
    have q := h.up b e
    cases r : H b with
    | none => exact absurd r q
    | some x => rw [k b x (.inr (.inr e)) r]; exact fun z => nomatch z
  nw := h.nw
/-- what stands in the heap, and nobody changes, is known from now on -/
theorem HR.adopt {p : Addr} {o : HO} (h : HR c G pl H m) (hp : H p = some o) (hg : G p = none) (hf : ∀ i o, m[i]? = some o → p ∉ foot (pl i) o) (hc : c.H p = none) : HR c (upd G p o) pl H m where
  sub := fun b x e => by
    by_cases z : b = p
    · subst z; rw [upd_same] at e; cases e; exact hp
    · rw [upd_ne z] at e; exact h.sub _ _ e
  mo := fun i o e => (h.mo i o e).keep (same_upd hg) fun b x _ q => q
  out := fun i o b e f => by
    by_cases z : b = p
    · subst z; exact absurd f (hf i o e)
    · rw [upd_ne z]; exact h.out i o b e f
  own := h.own
  dj := h.dj
  g0 := h.g0.trans (same_upd hg)
  h0 := h.h0
  up := h.up
  nw := fun b e => by
    by_cases z : b = p
    · subst z; exact .inr hc
    · rw [upd_ne z] at e; exact h.nw b e
/-- a new object, known from now on -/
theorem HR.new {p : Addr} {o : HO} (h : HR c G pl H m) (hp : H p = none) : HR c (upd G p o) pl (upd H p o) m := by
  obtain ⟨h1, h2, h3⟩ := h.fresh hp
  exact (h.grow fun b x _ e => by rw [upd_ne (ne_of_none e hp)]; exact e).adopt upd_same h1 h3 h2
/-- the number of changing objects grows -/
def plus (pl : Nat → Pl) (n : Nat) (p : Addr) : Nat → Pl := fun i => if i = n then ⟨p, p, p⟩ else pl i
theorem plus_old (pl : Nat → Pl) {n i : Nat} (p : Addr) (h : i < n) : plus pl n p i = pl i := if_neg (Nat.ne_of_lt h)
theorem plus_new (pl : Nat → Pl) (n : Nat) (p : Addr) : plus pl n p n = ⟨p, p, p⟩ := if_pos rfl
theorem Le.plus (G : Hp) (pl : Nat → Pl) (m : Mu) (p : Addr) (o : MO) : Le G pl m.length G (plus pl m.length p) (m ++ [o]).length :=
  ⟨.refl G, fun i hi => plus_old pl p hi, by simp⟩
theorem HR.push {p : Addr} {o : MO} (h : HR c G pl H m) (ho : MOk G H ⟨p, p, p⟩ o) (hd : isDrw o = false) (hg : G p = none) (hf : ∀ i o, m[i]? = some o → p ∉ foot (pl i) o) (hc : c.H p = none) (ha : ∀ k, o = .any k → ∀ b, b ∈ k.ft ⟨p, p, p⟩ → b = p := by intro k h; cases h) : HR c G (plus pl m.length p) H (m ++ [o]) := by
  have old : ∀ i x, (m ++ [o])[i]? = some x → (i < m.length ∧ m[i]? = some x ∧ plus pl m.length p i = pl i) ∨ (i = m.length ∧ x = o ∧ plus pl m.length p i = ⟨p, p, p⟩) := fun i x e => by
    by_cases hi : i < m.length
    · rw [List.getElem?_append_left hi] at e
      exact .inl ⟨hi, e, plus_old pl p hi⟩
    · rw [List.getElem?_append_right (by omega)] at e
      have z : i - m.length = 0 := by
        cases q : i - m.length with
        | zero => rfl
        | succ k => rw [q] at e; simp at e
      have z2 : i = m.length := by omega
      rw [z] at e
      cases e
      exact .inr ⟨z2, rfl, by rw [z2]; exact plus_new pl _ p⟩
  have ft : ∀ b, b ∈ foot ⟨p, p, p⟩ o → b = p := fun b f => by
    cases o with
    | no => cases f
    | lst ds => exact List.mem_singleton.mp f
    | dic kvs => exact List.mem_singleton.mp f
    | drw n => cases hd
    | any k => exact ha k rfl b f
  refine ⟨h.sub, fun i x e => ?_, fun i x b e f => ?_, fun i x b e f => ?_, fun i j x y b ne e1 e2 f1 f2 => ?_, h.g0, h.h0, h.up, h.nw⟩
  · rcases old i x e with ⟨_, e, z⟩ | ⟨_, rfl, z⟩ <;> rw [z]
    · exact h.mo i x e
    · exact ho
  · rcases old i x e with ⟨_, e, z⟩ | ⟨_, rfl, z⟩ <;> rw [z] at f
    · exact h.out i x b e f
    · rw [ft b f]; exact hg
  · rcases old i x e with ⟨_, e, z⟩ | ⟨_, rfl, z⟩ <;> rw [z] at f
    · exact h.own i x b e f
    · rw [ft b f]; exact .inr hc
  · rcases old i x e1 with ⟨_, g1, z1⟩ | ⟨n1, w1, z1⟩ <;> rcases old j y e2 with ⟨_, g2, z2⟩ | ⟨n2, w2, z2⟩ <;> rw [z1] at f1 <;> rw [z2] at f2
    · exact h.dj i j x y b ne g1 g2 f1 f2
    · subst w2; rw [ft b f2] at f1; exact hf i x g1 f1
    · subst w1; rw [ft b f1] at f2; exact hf j y g2 f2
    · exact ne (n1.trans n2.symm)
/-- an object that changes, changed -/
theorem HR.put {i : Nat} {o o' : MO} {ob : HO} (h : HR c G pl H m) (e : m[i]? = some o) (hd : isDrw o = false) (hn : foot (pl i) o = [(pl i).a]) (hn' : foot (pl i) o' = [(pl i).a]) (hd' : isDrw o' = false) (ho : MOk G (upd H (pl i).a ob) (pl i) o') : HR c G pl (upd H (pl i).a ob) (m.set i o') := by
  have mem : (pl i).a ∈ foot (pl i) o := by rw [hn]; exact List.mem_singleton.mpr rfl
  have hi : i < m.length := by
    rcases Nat.lt_or_ge i m.length with z | z
    · exact z
    · rw [List.getElem?_eq_none z] at e; cases e
  have hg := h.out i o _ e mem
  have old : ∀ j x, (m.set i o')[j]? = some x → (j ≠ i ∧ m[j]? = some x) ∨ (j = i ∧ x = o') := fun j x q => by
    by_cases z : j = i
    · subst z
      rw [List.getElem?_set_self hi] at q
      cases q
      exact .inr ⟨rfl, rfl⟩
    · rw [List.getElem?_set_ne (Ne.symm z)] at q
      exact .inl ⟨z, q⟩
  refine ⟨fun b x q => ?_, fun j x q => ?_, fun j x b q f => ?_, fun j x b q f => ?_, fun j k x y b ne q1 q2 f1 f2 => ?_, h.g0, fun b x n1 n2 q => ?_, fun b q => ?_, h.nw⟩
  · rw [upd_ne (fun z => by rw [z, hg] at q; cases q)]
    exact h.sub _ _ q
  · rcases old j x q with ⟨ne, q⟩ | ⟨rfl, rfl⟩
    · exact (h.mo j x q).keep (.refl G) fun b y f r => by
        rw [upd_ne (fun z => h.dj i j o x b (Ne.symm ne) e q (by rw [z]; exact mem) f)]
        exact r
    · exact ho
  · rcases old j x q with ⟨ne, q⟩ | ⟨rfl, rfl⟩
    · exact h.out j x b q f
    · rw [hn'] at f
      rw [List.mem_singleton.mp f]; exact hg
  · rcases old j x q with ⟨ne, q⟩ | ⟨rfl, rfl⟩
    · exact h.own j x b q f
    · rw [hn'] at f
      have := h.own j o b e (by rw [hn]; exact f)
      rw [hd] at this
      rw [hd']
      exact this
  · rcases old j x q1 with ⟨n1, g1⟩ | ⟨w1, v1⟩ <;> rcases old k y q2 with ⟨n2, g2⟩ | ⟨w2, v2⟩
    · exact h.dj j k x y b ne g1 g2 f1 f2
    · subst w2 v2
      rw [hn'] at f2
      exact h.dj j k x o b ne g1 e f1 (by rw [hn]; exact f2)
    · subst w1 v1
      rw [hn'] at f1
      exact h.dj j k o y b ne e g2 (by rw [hn]; exact f1) f2
    · exact ne (w1.trans w2.symm)
  · rw [upd_ne]
    · exact h.h0 b x n1 n2 q
    · intro z
      have := h.own i o _ e mem
      rw [hd, ← z] at this
      rcases this with w | w
      · exact n2 w
      · rw [q] at w; cases w
  · by_cases z : b = (pl i).a
    · rw [z, upd_same]; exact fun w => nomatch w
    · rw [upd_ne z]; exact h.up b q
/-- an object that changed, and changes no more -/
theorem HR.freeze {i : Nat} {o : MO} {ob : HO} (h : HR c G pl H m) (e : m[i]? = some o) (hd : isDrw o = false) (hn : foot (pl i) o = [(pl i).a]) (hp : H (pl i).a = some ob) (hL : ∀ b, ¬ c.L b) : HR c (upd G (pl i).a ob) pl H (m.set i .no) := by
  have mem : (pl i).a ∈ foot (pl i) o := by rw [hn]; exact List.mem_singleton.mpr rfl
  have hi : i < m.length := by
    rcases Nat.lt_or_ge i m.length with z | z
    · exact z
    · rw [List.getElem?_eq_none z] at e; cases e
  have old : ∀ j x, (m.set i .no)[j]? = some x → (j ≠ i ∧ m[j]? = some x) ∨ (j = i ∧ x = .no) := fun j x q => by
    by_cases z : j = i
    · subst z
      rw [List.getElem?_set_self hi] at q
      cases q
      exact .inr ⟨rfl, rfl⟩
    · rw [List.getElem?_set_ne (Ne.symm z)] at q
      exact .inl ⟨z, q⟩
  have h2 : HR c G pl H (m.set i .no) := by
    refine ⟨h.sub, fun j x q => ?_, fun j x b q f => ?_, fun j x b q f => ?_, fun j k x y b ne q1 q2 f1 f2 => ?_, h.g0, h.h0, h.up, h.nw⟩
    · rcases old j x q with ⟨ne, q⟩ | ⟨rfl, rfl⟩
      · exact h.mo j x q
      · trivial
    · rcases old j x q with ⟨ne, q⟩ | ⟨rfl, rfl⟩
      · exact h.out j x b q f
      · cases f
    · rcases old j x q with ⟨ne, q⟩ | ⟨rfl, rfl⟩
      · exact h.own j x b q f
      · cases f
    · rcases old j x q1 with ⟨n1, q1⟩ | ⟨rfl, rfl⟩
      · rcases old k y q2 with ⟨n2, q2⟩ | ⟨rfl, rfl⟩
        · exact h.dj j k x y b ne q1 q2 f1 f2
        · cases f2
      · cases f1
  refine h2.adopt hp (h.out i o _ e mem) (fun j x q f => ?_) ?_
  · rcases old j x q with ⟨ne, q⟩ | ⟨rfl, rfl⟩
    · exact h.dj i j o x _ (Ne.symm ne) e q mem f
    · cases f
  · have := h.own i o _ e mem
    rw [hd] at this
    rcases this with w | w
    · exact absurd w (hL _)
    · exact w
/-- what changes, of those that draw; of the others -/
def fF (pl : Nat → Pl) (m : Mu) : Addr → Prop := fun b => ∃ i o, m[i]? = some o ∧ isDrw o = true ∧ b ∈ foot (pl i) o
def fL (pl : Nat → Pl) (m : Mu) : Addr → Prop := fun b => ∃ i o, m[i]? = some o ∧ isDrw o = false ∧ b ∈ foot (pl i) o
/-- from here on -/
theorem HR.here (h : HR c G pl H m) : HR ⟨G, H, fF pl m, fL pl m⟩ G pl H m where
  sub := h.sub
  mo := h.mo
  out := h.out
  own := fun i o b e f => by
    cases q : isDrw o with
    | true => rw [if_pos rfl]; exact .inl ⟨i, o, e, q, f⟩
    | false => rw [if_neg Bool.false_ne_true]; exact .inl ⟨i, o, e, q, f⟩
  dj := h.dj
  g0 := .refl G
  h0 := fun b o _ _ e => e
  up := fun b e => e
  nw := fun b e => .inl e
/-- .. and back -/
theorem HR.back {G' H' : Hp} {pl' : Nat → Pl} {m' : Mu} (h : HR c G pl H m) (k : HR ⟨G, H, fF pl m, fL pl m⟩ G' pl' H' m') : HR c G' pl' H' m' where
  sub := k.sub
  mo := k.mo
  out := k.out
  own := fun i o b e f => by
    rcases k.own i o b e f with z | z
    · cases q : isDrw o with
      | true =>
        rw [q, if_pos rfl] at z
        obtain ⟨j, x, e2, d2, f2⟩ := z
        have := h.own j x b e2 f2
        rw [d2, if_pos rfl] at this
        rw [if_pos rfl]; exact this
      | false =>
        rw [q, if_neg Bool.false_ne_true] at z
        obtain ⟨j, x, e2, d2, f2⟩ := z
        have := h.own j x b e2 f2
        rw [d2, if_neg Bool.false_ne_true] at this
        rw [if_neg Bool.false_ne_true]; exact this
    · refine .inr ?_
      cases q : c.H b with
      | none => rfl
      | some x => exact absurd (show H b = none from z) (h.up b (by rw [q]; exact fun w => nomatch w))
  dj := k.dj
  g0 := h.g0.trans k.g0
  h0 := fun b o n1 n2 e => by
    refine k.h0 b o (fun z => ?_) (fun z => ?_) (h.h0 b o n1 n2 e)
    · obtain ⟨i, x, e2, d2, f2⟩ := z
      have := h.own i x b e2 f2
      rw [d2, if_pos rfl, e] at this
      rcases this with w | w
      · exact n1 w
      · cases w
    · obtain ⟨i, x, e2, d2, f2⟩ := z
      have := h.own i x b e2 f2
      rw [d2, if_neg Bool.false_ne_true, e] at this
      rcases this with w | w
      · exact n2 w
      · cases w
  up := fun b e => k.up b (h.up b e)
  nw := fun b e => by
    rcases k.nw b e with z | z
    · exact h.nw b z
    · refine .inr ?_
      cases q : c.H b with
      | none => rfl
      | some x => exact absurd (show H b = none from z) (h.up b (by rw [q]; exact fun w => nomatch w))
end
end PM

namespace PM
open PySem PySem.Spec PyProof.Rows L2 RZ
/-! ### a reading and its data-level reading -/
abbrev Rl (α β : Type) := Hp → (Nat → Pl) → Nat → α → β → Prop
def Kn {α β : Type} (ρ : Rl α β) (c : Fr0) (G : Hp) (pl : Nat → Pl) (σ : L2.St) (e : DEnv) (n : Nat) (k : β → Mu → Prop) (Q : α → Hp → Prop) : Prop :=
  ∀ b m' G' pl' H' a, k b m' → Le G pl n G' pl' m'.length → SR c G' pl' σ H' e m' → ρ G' pl' m'.length a b → Q a H'
def Sg {α β : Type} (ρ : Rl α β) (t : L2.St → Hp → (α → Hp → Prop) → Prop) (d : DEnv → Mu → (β → Mu → Prop) → Prop) : Prop :=
  ∀ c G pl σ H e m k Q, SR c G pl σ H e m → d e m k → Kn ρ c G pl σ e m.length k Q → t σ H Q
inductive RVs (G : Hp) (pl : Nat → Pl) (n : Nat) : List V → List DV → Prop
  | nil : RVs G pl n [] []
  | cons {v : V} {vs : List V} {d : DV} {ds : List DV} : RV G pl n v d → RVs G pl n vs ds → RVs G pl n (v :: vs) (d :: ds)
theorem RVs.le {G G' : Hp} {pl pl' : Nat → Pl} {n n' : Nat} (l : Le G pl n G' pl' n') : ∀ {vs : List V} {ds : List DV}, RVs G pl n vs ds → RVs G' pl' n' vs ds
  | _, _, .nil => .nil
  | _, _, .cons h t => .cons (h.le l) (RVs.le l t)
theorem RVs.length {G : Hp} {pl : Nat → Pl} {n : Nat} : ∀ {vs : List V} {ds : List DV}, RVs G pl n vs ds → vs.length = ds.length
  | _, _, .nil => rfl
  | _, _, .cons _ t => by rw [List.length_cons, List.length_cons, RVs.length t]
theorem RVs.append {G : Hp} {pl : Nat → Pl} {n : Nat} : ∀ {vs ws : List V} {ds es : List DV}, RVs G pl n vs ds → RVs G pl n ws es → RVs G pl n (vs ++ ws) (ds ++ es)
  | _, _, _, _, .nil, k => k
  | _, _, _, _, .cons h t, k => .cons h (RVs.append t k)
theorem RVs.ofL {G : Hp} {pl : Nat → Pl} {n : Nat} : ∀ {vs : List V} {ds : List PyData}, DaL G vs ds → RVs G pl n vs (ds.map DV.d)
  | _, _, .nil => .nil
  | _, _, .cons h t => .cons h (RVs.ofL t)
abbrev DE := DEnv → Mu → (DV → Mu → Prop) → Prop
abbrev DT := DEnv → Mu → (Bool → Mu → Prop) → Prop
abbrev DA := DEnv → Mu → (List DV → Mu → Prop) → Prop
abbrev DO := DEnv → Mu → (Option Int → Mu → Prop) → Prop
abbrev SE (t : TE) (d : DE) : Prop := Sg RV t d
abbrev ST (t : TT) (d : DT) : Prop := Sg (fun _ _ _ (a b : Bool) => a = b) t d
abbrev SA (t : TA) (d : DA) : Prop := Sg RVs t d
abbrev SO (t : TO) (d : DO) : Prop := Sg (fun _ _ _ (a b : Option Int) => a = b) t d
theorem Kn.le {α β : Type} {ρ : Rl α β} {c : Fr0} {G G' : Hp} {pl pl' : Nat → Pl} {σ : L2.St} {e : DEnv} {n n' : Nat} {k : β → Mu → Prop} {Q : α → Hp → Prop} (h : Kn ρ c G pl σ e n k Q) (l : Le G pl n G' pl' n') : Kn ρ c G' pl' σ e n' k Q :=
  fun b m' G2 pl2 H2 a q l2 => h b m' G2 pl2 H2 a q (l.trans l2)
section
variable {c : Fr0} {G H : Hp} {pl : Nat → Pl} {σ : L2.St} {e : DEnv} {m : Mu} {k : DV → Mu → Prop} {Q : VK}
theorem SR.le {G' H' : Hp} {pl' : Nat → Pl} {m' : Mu} (sr : SR c G pl σ H e m) (l : Le G pl m.length G' pl' m'.length) (h : HR c G' pl' H' m') : SR c G' pl' σ H' e m' := ⟨sr.env.le l, h⟩
/-- a value, nothing laid -/
theorem Kn.val {α β : Type} {ρ : Rl α β} {k : β → Mu → Prop} {Q : α → Hp → Prop} {a : α} {b : β} (K : Kn ρ c G pl σ e m.length k Q) (sr : SR c G pl σ H e m) (h : k b m) (r : ρ G pl m.length a b) : Q a H :=
  K b m G pl H a h (.refl _ _ _) sr r
/-- a new object, known from now on -/
theorem Kn.new {p : Addr} {o : HO} {dv : DV} (K : Kn RV c G pl σ e m.length k Q) (sr : SR c G pl σ H e m) (hp : H p = none) (h : k dv m) (r : RV (upd G p o) pl m.length (.ref p) dv) : Q (.ref p) (upd H p o) :=
  have l : Le G pl m.length (upd G p o) pl m.length := ⟨same_upd (sr.hp.fresh hp).1, fun _ _ => rfl, Nat.le_refl _⟩
  K dv m (upd G p o) pl (upd H p o) _ h l (sr.le l (sr.hp.new hp)) r
theorem Kn.tup {p : Addr} {xs : List V} {ds : List PyData} (K : Kn RV c G pl σ e m.length k Q) (sr : SR c G pl σ H e m) (hp : H p = none) (h : k (.d (.tuple ds)) m) (r : DaL G xs ds) : Q (.ref p) (upd H p (.tup xs)) :=
  K.new sr hp h (.tup upd_same (r.same (same_upd (sr.hp.fresh hp).1)))
theorem Kn.lst {p : Addr} {xs : List V} {ds : List PyData} (K : Kn RV c G pl σ e m.length k Q) (sr : SR c G pl σ H e m) (hp : H p = none) (h : k (.d (.list ds)) m) (r : DaL G xs ds) : Q (.ref p) (upd H p (.lst xs)) :=
  K.new sr hp h (.lst upd_same (r.same (same_upd (sr.hp.fresh hp).1)))
end
/-! ### names and constants -/
def dVar (i : Nat) : DE := fun e m k => match lk e i with
  | some v => k v m
  | none => False
theorem se_var (i : Nat) : SE (tVar i) (dVar i) := fun c G pl σ H e m k Q sr d K => by
  unfold dVar at d
  cases h : lk e i with
  | none => rw [h] at d; exact d.elim
  | some dv =>
    rw [h] at d
    obtain ⟨v, h1, h2⟩ := sr.env.get i dv h
    exact ⟨v, h1, K.val sr d h2⟩
def dC (v : PyData) : DE := fun _ m k => k (.d v) m
theorem se_int (i : Int) : SE (tC (.int i)) (dC (.int i)) := fun c G pl σ H e m k Q sr d K => K.val sr d (show RV G pl m.length (.int i) (.d (.int i)) from .int i)
theorem se_bl (b : Bool) : SE (tC (.bl b)) (dC (.bool b)) := fun c G pl σ H e m k Q sr d K => K.val sr d (show RV G pl m.length (.bl b) (.d (.bool b)) from .bl b)
theorem se_str (x : Str) : SE (tC (.str x)) (dC (.str x)) := fun c G pl σ H e m k Q sr d K => K.val sr d (show RV G pl m.length (.str x) (.d (.str x)) from .str x)
theorem se_non : SE (tC .non) (dC .none) := fun c G pl σ H e m k Q sr d K => K.val sr d (show RV G pl m.length .non (.d .none) from .non)
/-! ### operators by values -/
def OpS (r : R2) (f : Mu → DV → DV → (DV → Prop) → Prop) : Prop := ∀ c G pl σ H e m x y dx dy k Q, SR c G pl σ H e m → RV G pl m.length x dx → RV G pl m.length y dy → f m dx dy (fun z => k z m) → Kn RV c G pl σ e m.length k Q → r x y H Q
def UnS (r : V → Hp → VK → Prop) (f : Mu → DV → (DV → Prop) → Prop) : Prop := ∀ c G pl σ H e m x dx k Q, SR c G pl σ H e m → RV G pl m.length x dx → f m dx (fun z => k z m) → Kn RV c G pl σ e m.length k Q → r x H Q
def CaS (r : List V → Hp → VK → Prop) (f : Mu → List DV → (DV → Prop) → Prop) : Prop := ∀ c G pl σ H e m xs ds k Q, SR c G pl σ H e m → RVs G pl m.length xs ds → f m ds (fun z => k z m) → Kn RV c G pl σ e m.length k Q → r xs H Q
def dOp (f : Mu → DV → DV → (DV → Prop) → Prop) (da db : DE) : DE := fun e m k => da e m fun x m1 => db e m1 fun y m2 => f m2 x y fun z => k z m2
def dUn (f : Mu → DV → (DV → Prop) → Prop) (da : DE) : DE := fun e m k => da e m fun x m1 => f m1 x fun z => k z m1
def dCB (f : Mu → List DV → (DV → Prop) → Prop) (da : DA) : DE := fun e m k => da e m fun xs m1 => f m1 xs fun z => k z m1
theorem se_op {r : R2} {f : Mu → DV → DV → (DV → Prop) → Prop} {ta tb : TE} {da db : DE} (h : OpS r f) (ha : SE ta da) (hb : SE tb db) : SE (tOp r ta tb) (dOp f da db) :=
  fun c G pl σ H e m k Q sr d K => ha _ _ _ _ _ _ _ _ _ sr d fun x m1 G1 pl1 H1 v1 d1 l1 sr1 r1 => hb _ _ _ _ _ _ _ _ _ sr1 d1 fun y m2 G2 pl2 H2 v2 d2 l2 sr2 r2 =>
    h _ _ _ _ _ _ _ _ _ _ _ _ _ sr2 (r1.le l2) r2 d2 (K.le (l1.trans l2))
theorem se_un {r : V → Hp → VK → Prop} {f : Mu → DV → (DV → Prop) → Prop} {ta : TE} {da : DE} (h : UnS r f) (ha : SE ta da) : SE (tUn r ta) (dUn f da) :=
  fun c G pl σ H e m k Q sr d K => ha _ _ _ _ _ _ _ _ _ sr d fun x m1 G1 pl1 H1 v1 d1 l1 sr1 r1 => h _ _ _ _ _ _ _ _ _ _ _ sr1 r1 d1 (K.le l1)
theorem se_cb {r : List V → Hp → VK → Prop} {f : Mu → List DV → (DV → Prop) → Prop} {ta : TA} {da : DA} (h : CaS r f) (ha : SA ta da) : SE (tCB r ta) (dCB f da) :=
  fun c G pl σ H e m k Q sr d K => ha _ _ _ _ _ _ _ _ _ sr d fun x m1 G1 pl1 H1 v1 d1 l1 sr1 r1 => h _ _ _ _ _ _ _ _ _ _ _ sr1 r1 d1 (K.le l1)
def dNil : DA := fun _ m k => k [] m
def dCons (da : DE) (dr : DA) : DA := fun e m k => da e m fun x m1 => dr e m1 fun xs m2 => k (x :: xs) m2
theorem sa_nil : SA tNil dNil := fun c G pl σ H e m k Q sr d K => K.val sr d .nil
theorem sa_cons {ta : TE} {tr : TA} {da : DE} {dr : DA} (ha : SE ta da) (hr : SA tr dr) : SA (tCons ta tr) (dCons da dr) :=
  fun c G pl σ H e m k Q sr d K => ha _ _ _ _ _ _ _ _ _ sr d fun x m1 G1 pl1 H1 v1 d1 l1 sr1 r1 => hr _ _ _ _ _ _ _ _ _ sr1 d1 fun xs m2 G2 pl2 H2 vs d2 l2 sr2 r2 =>
    K _ _ _ _ _ _ d2 (l1.trans l2) sr2 (.cons (r1.le l2) r2)
theorem OpS.or {r r' : R2} {f : Mu → DV → DV → (DV → Prop) → Prop} {f' : Mu → DV → DV → (DV → Prop) → Prop} (h : OpS r f) (h' : OpS r' f') : OpS (fun x y H Q => r x y H Q ∨ r' x y H Q) (fun m x y k => f m x y k ∨ f' m x y k) :=
  fun c G pl σ H e m x y dx dy k Q sr rx ry d K => d.imp (fun z => h _ _ _ _ _ _ _ _ _ _ _ _ _ sr rx ry z K) fun z => h' _ _ _ _ _ _ _ _ _ _ _ _ _ sr rx ry z K
/-- by the kind of the first value -/
theorem OpS.sel {r r' : R2} {f : Mu → DV → DV → (DV → Prop) → Prop} {f' : Mu → DV → DV → (DV → Prop) → Prop} {g : Mu → DV → DV → (DV → Prop) → Prop} (h : OpS r f) (h' : OpS r' f') (s : ∀ m x y k, g m x y k → f m x y k ∨ f' m x y k) : OpS (fun x y H Q => r x y H Q ∨ r' x y H Q) g :=
  fun c G pl σ H e m x y dx dy k Q sr rx ry d K => (s _ _ _ _ d).imp (fun z => h _ _ _ _ _ _ _ _ _ _ _ _ _ sr rx ry z K) fun z => h' _ _ _ _ _ _ _ _ _ _ _ _ _ sr rx ry z K
/-! ### ints -/
def fI (g : Int → Int → PyData) : Mu → DV → DV → (DV → Prop) → Prop
  | _, .d (.int i), .d (.int j), k => k (.d (g i j))
  | _, _, _, _ => False
def fIC (C : Int → Int → Prop) (g : Int → Int → PyData) : Mu → DV → DV → (DV → Prop) → Prop
  | _, .d (.int i), .d (.int j), k => C i j ∧ k (.d (g i j))
  | _, _, _, _ => False
theorem fI_inv {g : Int → Int → PyData} {m : Mu} {x y : DV} {k : DV → Prop} (h : fI g m x y k) : ∃ i j, x = .d (.int i) ∧ y = .d (.int j) ∧ k (.d (g i j)) := by
  unfold fI at h
  split at h
  · exact ⟨_, _, rfl, rfl, h⟩
  · exact h.elim
theorem fIC_inv {C : Int → Int → Prop} {g : Int → Int → PyData} {m : Mu} {x y : DV} {k : DV → Prop} (h : fIC C g m x y k) : ∃ i j, x = .d (.int i) ∧ y = .d (.int j) ∧ C i j ∧ k (.d (g i j)) := by
  unfold fIC at h
  split at h
  · exact ⟨_, _, rfl, rfl, h⟩
  · exact h.elim
theorem RV.int_inv {G : Hp} {pl : Nat → Pl} {n : Nat} {v : V} {i : Int} (h : RV G pl n v (.d (.int i))) : v = .int i := by
  cases (show Da G v (.int i) from h)
  rfl
theorem RV.bl_inv {G : Hp} {pl : Nat → Pl} {n : Nat} {v : V} {b : Bool} (h : RV G pl n v (.d (.bool b))) : v = .bl b := by
  cases (show Da G v (.bool b) from h)
  rfl
theorem os_i0 {gv : Int → Int → V} {g : Int → Int → PyData} (hg : ∀ G i j, Da G (gv i j) (g i j)) : OpS (rI0 gv) (fI g) := fun c G pl σ H e m x y dx dy k Q sr rx ry d K => by
  obtain ⟨i, j, rfl, rfl, d⟩ := fI_inv d
  exact ⟨i, j, rx.int_inv, ry.int_inv, K.val sr d (show RV G pl m.length (gv i j) (.d (g i j)) from hg G i j)⟩
theorem os_ic {C : Int → Int → Prop} {gv : Int → Int → V} {g : Int → Int → PyData} (hg : ∀ G i j, Da G (gv i j) (g i j)) : OpS (rI C gv) (fIC C g) := fun c G pl σ H e m x y dx dy k Q sr rx ry d K => by
  obtain ⟨i, j, rfl, rfl, hc, d⟩ := fIC_inv d
  exact ⟨i, j, rx.int_inv, ry.int_inv, hc, K.val sr d (show RV G pl m.length (gv i j) (.d (g i j)) from hg G i j)⟩
abbrev fAdd := fI fun i j => .int (i + j)
abbrev fSub := fI fun i j => .int (i - j)
abbrev fLt := fI fun i j => .bool (decide (i < j))
abbrev fLe := fI fun i j => .bool (decide (i ≤ j))
abbrev fGt := fI fun i j => .bool (decide (j < i))
abbrev fGe := fI fun i j => .bool (decide (j ≤ i))
abbrev fMul := fIC CMulW fun i j => .int (i * j)
abbrev fMod := fIC (fun _ j => 0 < j) fun i j => .int (i % j)
abbrev fDiv := fIC (fun _ j => j ≠ 0 ∧ j.natAbs.log2 < 9000) fun i j => .int (i.fdiv j)
abbrev fPow := fIC CPow fun i j => .int (i ^ j.toNat)
theorem os_add : OpS (rI0 fun i j => .int (i + j)) fAdd := os_i0 fun _ _ _ => .int _
theorem os_sub : OpS (rI0 fun i j => .int (i - j)) fSub := os_i0 fun _ _ _ => .int _
theorem os_lt : OpS (rI0 fun i j => .bl (decide (i < j))) fLt := os_i0 fun _ _ _ => .bl _
theorem os_le : OpS (rI0 fun i j => .bl (decide (i ≤ j))) fLe := os_i0 fun _ _ _ => .bl _
theorem os_gt : OpS (rI0 fun i j => .bl (decide (j < i))) fGt := os_i0 fun _ _ _ => .bl _
theorem os_ge : OpS (rI0 fun i j => .bl (decide (j ≤ i))) fGe := os_i0 fun _ _ _ => .bl _
theorem os_mul : OpS (rI CMulW fun i j => .int (i * j)) fMul := os_ic fun _ _ _ => .int _
theorem os_mod : OpS (rI (fun _ j => 0 < j) fun i j => .int (i % j)) fMod := os_ic fun _ _ _ => .int _
theorem os_div : OpS (rI (fun _ j => j ≠ 0 ∧ j.natAbs.log2 < 9000) fun i j => .int (i.fdiv j)) fDiv := os_ic fun _ _ _ => .int _
theorem os_pow : OpS (rI CPow fun i j => .int (i ^ j.toNat)) fPow := os_ic fun _ _ _ => .int _
def fNeg : Mu → DV → (DV → Prop) → Prop
  | _, .d (.int i), k => k (.d (.int (-i)))
  | _, _, _ => False
theorem us_neg : UnS (rU fun i => .int (-i)) fNeg := fun c G pl σ H e m x dx k Q sr rx d K => by
  unfold fNeg at d
  split at d
  · exact ⟨_, rx.int_inv, K.val sr d (show RV G pl _ _ (.d (.int _)) from .int _)⟩
  · exact d.elim
/-! ### reading lists and tuples -/
def rdL : Mu → DV → Option (List PyData)
  | _, .d (.list ds) => some ds
  | m, .p i => match m[i]? with
    | some (.lst ds) => some ds
    | _ => none
  | _, _ => none
def rdT : DV → Option (List PyData)
  | .d (.tuple ds) => some ds
  | _ => none
def rdS (m : Mu) (x : DV) : Option (List PyData) := match rdT x with
  | some ds => some ds
  | none => rdL m x
section
variable {c : Fr0} {G H : Hp} {pl : Nat → Pl} {σ : L2.St} {e : DEnv} {m : Mu}
theorem SR.list (sr : SR c G pl σ H e m) {v : V} {dv : DV} {ds : List PyData} (r : RV G pl m.length v dv) (h : rdL m dv = some ds) : ∃ a xs, v = .ref a ∧ H a = some (.lst xs) ∧ DaL G xs ds := by
  unfold rdL at h
  split at h
  · cases h
    cases (show Da G v _ from r) with
    | lst e1 e2 => exact ⟨_, _, rfl, sr.hp.sub _ _ e1, e2⟩
  · split at h
    · rename_i e1
      cases h
      obtain ⟨xs, h1, h2⟩ := sr.hp.mo _ _ e1
      exact ⟨_, xs, r.2, h1, h2⟩
    · cases h
  · cases h
theorem SR.tup (sr : SR c G pl σ H e m) {v : V} {dv : DV} {ds : List PyData} (r : RV G pl m.length v dv) (h : rdT dv = some ds) : ∃ a xs, v = .ref a ∧ H a = some (.tup xs) ∧ DaL G xs ds := by
  unfold rdT at h
  split at h
  · cases h
    cases (show Da G v _ from r) with
    | tup e1 e2 => exact ⟨_, _, rfl, sr.hp.sub _ _ e1, e2⟩
  · cases h
theorem SR.seq (K : PySem.W.Frag) (sr : SR c G pl σ H e m) {v : V} {dv : DV} {ds : List PyData} (r : RV G pl m.length v dv) (h : rdS m dv = some ds) : ∃ a xs, v = .ref a ∧ (SqL K H a xs ∨ SqT K H a xs) ∧ DaL G xs ds := by
  unfold rdS at h
  split at h
  · rename_i z
    cases h
    obtain ⟨a, xs, h1, h2, h3⟩ := sr.tup r z
    exact ⟨a, xs, h1, .inr (.inl (.inl h2)), h3⟩
  · obtain ⟨a, xs, h1, h2, h3⟩ := sr.list r h
    exact ⟨a, xs, h1, .inl (.inl (.inl h2)), h3⟩
end
theorem DaL.at {G : Hp} {xs : List V} {ds : List PyData} {i : Int} {d : PyData} (h : DaL G xs ds) (e : atI ds i = some d) : ∃ v, atI xs i = some v ∧ Da G v d := by
  unfold atI at *
  rw [← h.length] at e
  cases q : ixN xs.length i with
  | none => rw [q] at e; cases e
  | some j =>
    rw [q] at e
    have e : ds[j]? = some d := e
    have hj : j < xs.length := by
      rw [h.length]
      rcases Nat.lt_or_ge j ds.length with z | z
      · exact z
      · rw [List.getElem?_eq_none z] at e; cases e
    obtain ⟨d', h1, h2⟩ := h.get j (List.getElem?_eq_getElem hj)
    rw [e] at h1
    cases h1
    exact ⟨xs[j], List.getElem?_eq_getElem hj, h2⟩
/-- x[i] -/
def fIx (m : Mu) (x y : DV) (k : DV → Prop) : Prop := match y with
  | .d (.int i) => ∃ ds d, rdS m x = some ds ∧ atI ds i = some d ∧ k (.d d)
  | _ => False
theorem os_ix (K : PySem.W.Frag) : OpS (rIx K) fIx := fun c G pl σ H e m x y dx dy k Q sr rx ry d KK => by
  unfold fIx at d
  split at d
  · obtain ⟨ds, d', h1, h2, q⟩ := d
    obtain ⟨a, xs, e1, e2, e3⟩ := sr.seq K rx h1
    obtain ⟨v, g1, g2⟩ := e3.at h2
    have q' : Q v H := KK.val sr q (show RV G pl m.length v (.d d') from g2)
    rcases e2 with e2 | e2
    · exact .inl ⟨a, xs, _, v, e1, ry.int_inv, e2, g1, q'⟩
    · exact .inr (.inl ⟨a, xs, _, v, e1, ry.int_inv, e2, g1, q'⟩)
  · exact d.elim
/-- x in y of ints -/
def intsOf : List PyData → Option (List Int)
  | [] => some []
  | .int i :: ds => (intsOf ds).map (i :: ·)
  | _ :: _ => none
def fIn (neg : Bool) (m : Mu) (x y : DV) (k : DV → Prop) : Prop := match x with
  | .d (.int i) => ∃ (ds : List PyData) (is : List Int), rdS m y = some ds ∧ ds = is.map PyData.int ∧ k (.d (.bool (if neg then !decide (i ∈ is) else decide (i ∈ is))))
  | _ => False
theorem DaL.ints {G : Hp} : ∀ {is : List Int} {xs : List V}, DaL G xs (is.map PyData.int) → xs = is.map V.int
  | [], _, .nil => rfl
  | i :: is, _, .cons h t => by
    cases h
    rw [DaL.ints t]
    rfl
theorem inV_ints (i : Int) : ∀ is : List Int, inV (.int i) (is.map V.int) = decide (i ∈ is)
  | [] => by simp [inV]
  | j :: is => by
    have ih := inV_ints i is
    unfold inV at *
    rw [List.map_cons, List.any_cons, ih]
    have : eqV (V.int j) (V.int i) = decide (i = j) := by
      show (j == i) = decide (i = j)
      by_cases e : i = j
      · subst e; simp
      · rw [decide_eq_false e]
        exact beq_eq_false_iff_ne.mpr (Ne.symm e)
    rw [this]
    by_cases e : i = j
    · subst e; simp
    · simp [e]
theorem os_in (K : PySem.W.Frag) (neg : Bool) : OpS (rIn K neg) (fIn neg) := fun c G pl σ H e m x y dx dy k Q sr rx ry d KK => by
  unfold fIn at d
  split at d
  · obtain ⟨ds, is, h1, rfl, q⟩ := d
    obtain ⟨a, xs, e1, e2, e3⟩ := sr.seq K ry h1
    cases DaL.ints e3
    cases rx.int_inv
    refine ⟨a, _, e1, e2, rfl, ?_, ?_⟩
    · rw [List.all_map]
      exact List.all_eq_true.mpr fun _ _ => rfl
    · rw [inV_ints]
      exact KK.val sr q (show RV G pl m.length _ (.d (.bool _)) from .bl _)
  · exact d.elim
/-! ### tests -/
def br (b : Bool) (A B : Prop) : Prop := (b = true → A) ∧ (b = false → B)
theorem br_ite {b : Bool} {A B : Prop} (h : br b A B) : if b = true then A else B := by
  cases b with
  | true => rw [if_pos rfl]; exact h.1 rfl
  | false => rw [if_neg Bool.false_ne_true]; exact h.2 rfl
def dTest (da : DE) : DT := fun e m k => da e m fun x m1 => match x with
  | .d (.bool b) => k b m1
  | _ => False
theorem st_test {ta : TE} {da : DE} (ha : SE ta da) : ST (tTest ta) (dTest da) := fun c G pl σ H e m k Q sr d K => ha _ _ _ _ _ _ _ _ _ sr d fun x m1 G1 pl1 H1 v1 d1 l1 sr1 r1 => by
  split at d1
  · exact ⟨_, r1.bl_inv, K _ _ _ _ _ _ d1 l1 sr1 rfl⟩
  · exact d1.elim
theorem st_b {ta : TE} {da : DE} (ha : SE ta da) : ST (tB ta) (dTest da) := st_test ha
def dAnd (a b : DT) : DT := fun e m k => a e m fun x m1 => br x (b e m1 k) (k false m1)
def dOr (a b : DT) : DT := fun e m k => a e m fun x m1 => br x (k true m1) (b e m1 k)
def dNot (a : DT) : DT := fun e m k => a e m fun x m1 => k (!x) m1
theorem st_and {ta tb : TT} {da db : DT} (ha : ST ta da) (hb : ST tb db) : ST (tAnd ta tb) (dAnd da db) := fun c G pl σ H e m k Q sr d K => ha _ _ _ _ _ _ _ _ _ sr d fun x m1 G1 pl1 H1 v1 d1 l1 sr1 r1 => by
  subst r1
  exact br_ite ⟨fun z => hb _ _ _ _ _ _ _ _ _ sr1 (d1.1 z) (K.le l1), fun z => K _ _ _ _ _ _ (d1.2 z) l1 sr1 rfl⟩
theorem st_or {ta tb : TT} {da db : DT} (ha : ST ta da) (hb : ST tb db) : ST (tOr ta tb) (dOr da db) := fun c G pl σ H e m k Q sr d K => ha _ _ _ _ _ _ _ _ _ sr d fun x m1 G1 pl1 H1 v1 d1 l1 sr1 r1 => by
  subst r1
  exact br_ite ⟨fun z => K _ _ _ _ _ _ (d1.1 z) l1 sr1 rfl, fun z => hb _ _ _ _ _ _ _ _ _ sr1 (d1.2 z) (K.le l1)⟩
theorem st_not {ta : TT} {da : DT} (ha : ST ta da) : ST (tNot ta) (dNot da) := fun c G pl σ H e m k Q sr d K => ha _ _ _ _ _ _ _ _ _ sr d fun x m1 G1 pl1 H1 v1 d1 l1 sr1 r1 => by
  subst r1
  exact K _ _ _ _ _ _ d1 l1 sr1 rfl
def tYesD : DT := fun _ m k => k true m
theorem st_yes : ST tYes tYesD := fun c G pl σ H e m k Q sr d K => K.val sr d rfl
/-! ### and, or, not as values; if as a value; chains -/
def dAndV (a b : DE) : DE := fun e m k => a e m fun x m1 => match x with
  | .d (.bool z) => br z (b e m1 k) (k (.d (.bool false)) m1)
  | _ => False
def dOrV (a b : DE) : DE := fun e m k => a e m fun x m1 => match x with
  | .d (.bool z) => br z (k (.d (.bool true)) m1) (b e m1 k)
  | _ => False
def dNotV (a : DE) : DE := fun e m k => a e m fun x m1 => match x with
  | .d (.bool z) => k (.d (.bool (!z))) m1
  | _ => False
theorem se_and {ta tb : TE} {da db : DE} (ha : SE ta da) (hb : SE tb db) : SE (tAndV ta tb) (dAndV da db) := fun c G pl σ H e m k Q sr d K => ha _ _ _ _ _ _ _ _ _ sr d fun x m1 G1 pl1 H1 v1 d1 l1 sr1 r1 => by
  split at d1
  · exact ⟨_, r1.bl_inv, br_ite ⟨fun z => hb _ _ _ _ _ _ _ _ _ sr1 (d1.1 z) (K.le l1), fun z => K _ _ _ _ _ _ (d1.2 z) l1 sr1 (show RV G1 pl1 m1.length _ (.d (.bool _)) from .bl _)⟩⟩
  · exact d1.elim
theorem se_or {ta tb : TE} {da db : DE} (ha : SE ta da) (hb : SE tb db) : SE (tOrV ta tb) (dOrV da db) := fun c G pl σ H e m k Q sr d K => ha _ _ _ _ _ _ _ _ _ sr d fun x m1 G1 pl1 H1 v1 d1 l1 sr1 r1 => by
  split at d1
  · exact ⟨_, r1.bl_inv, br_ite ⟨fun z => K _ _ _ _ _ _ (d1.1 z) l1 sr1 (show RV G1 pl1 m1.length _ (.d (.bool _)) from .bl _), fun z => hb _ _ _ _ _ _ _ _ _ sr1 (d1.2 z) (K.le l1)⟩⟩
  · exact d1.elim
theorem se_not {ta : TE} {da : DE} (ha : SE ta da) : SE (tNotV ta) (dNotV da) := fun c G pl σ H e m k Q sr d K => ha _ _ _ _ _ _ _ _ _ sr d fun x m1 G1 pl1 H1 v1 d1 l1 sr1 r1 => by
  split at d1
  · exact ⟨_, r1.bl_inv, K _ _ _ _ _ _ d1 l1 sr1 (show RV G1 pl1 m1.length _ (.d (.bool _)) from .bl _)⟩
  · exact d1.elim
def dIfE (t : DT) (a b : DE) : DE := fun e m k => t e m fun x m1 => br x (a e m1 k) (b e m1 k)
theorem se_if {tc : TT} {ta tb : TE} {dc : DT} {da db : DE} (hc : ST tc dc) (ha : SE ta da) (hb : SE tb db) : SE (tIf tc ta tb) (dIfE dc da db) := fun c G pl σ H e m k Q sr d K => hc _ _ _ _ _ _ _ _ _ sr d fun x m1 G1 pl1 H1 v1 d1 l1 sr1 r1 => by
  subst r1
  exact br_ite ⟨fun z => ha _ _ _ _ _ _ _ _ _ sr1 (d1.1 z) (K.le l1), fun z => hb _ _ _ _ _ _ _ _ _ sr1 (d1.2 z) (K.le l1)⟩
def dChain (f g : Mu → DV → DV → (DV → Prop) → Prop) (da db dc : DE) : DE := fun e m k => da e m fun x m1 => db e m1 fun y m2 => f m2 x y fun z => match z with
  | .d (.bool b) => br b (dc e m2 fun w m3 => g m3 y w fun u => k u m3) (k (.d (.bool false)) m2)
  | _ => False
theorem se_chain {r r' : R2} {f g : Mu → DV → DV → (DV → Prop) → Prop} {ta tb tc : TE} {da db dc : DE} (h : OpS r f) (h' : OpS r' g) (ha : SE ta da) (hb : SE tb db) (hc : SE tc dc) : SE (tChain r r' ta tb tc) (dChain f g da db dc) :=
  fun c G pl σ H e m k Q sr d K => ha _ _ _ _ _ _ _ _ _ sr d fun x m1 G1 pl1 H1 v1 d1 l1 sr1 r1 => hb _ _ _ _ _ _ _ _ _ sr1 d1 fun y m2 G2 pl2 H2 v2 d2 l2 sr2 r2 =>
    h _ _ _ _ _ _ _ _ _ _ _ (fun z m' => m' = m2 ∧ _) _ sr2 (r1.le l2) r2 (by
      have := d2
      exact (show f m2 x y fun z => m2 = m2 ∧ (match z with
        | .d (.bool b) => br b (dc e m2 fun w m3 => g m3 y w fun u => k u m3) (k (.d (.bool false)) m2)
        | _ => False) by
          simp only [true_and]
          exact this)) fun z m3 G3 pl3 H3 v3 d3 l3 sr3 r3 => by
      obtain ⟨rfl, d3⟩ := d3
      split at d3
      · exact ⟨_, r3.bl_inv, br_ite ⟨fun z => hc _ _ _ _ _ _ _ _ _ sr3 (d3.1 z) fun w m4 G4 pl4 H4 v4 d4 l4 sr4 r4 => h' _ _ _ _ _ _ _ _ _ _ _ _ _ sr4 (r2.le (l3.trans l4)) r4 d4 (K.le ((l1.trans l2).trans (l3.trans l4))), fun z => K _ _ _ _ _ _ (d3.2 z) ((l1.trans l2).trans l3) sr3 (show RV G3 pl3 _ _ (.d (.bool _)) from .bl _)⟩⟩
      · exact d3.elim
/-! ### displays -/
def plains : List DV → Option (List PyData)
  | [] => some []
  | .d x :: ds => match plains ds with
    | some r => some (x :: r)
    | none => none
  | _ :: _ => none
theorem RVs.plain {G : Hp} {pl : Nat → Pl} {n : Nat} : ∀ {vs : List V} {ds : List DV} {xs : List PyData}, RVs G pl n vs ds → plains ds = some xs → DaL G vs xs
  | _, _, _, .nil, h => by
    cases h
    exact .nil
  | _, _, _, .cons (d := d) (ds := ds) h t, e => by
    cases d with
    | d x =>
      unfold plains at e
      cases q : plains ds with
      | none => rw [q] at e; cases e
      | some r =>
        rw [q] at e
        cases e
        exact .cons h (RVs.plain t q)
    | dic kvs => cases e
    | p i => cases e
    | any f => cases e
def dTup (da : DA) : DE := fun e m k => da e m fun xs m1 => match plains xs with
  | some ds => ds.length ≤ 1000000 ∧ k (.d (.tuple ds)) m1
  | none => False
theorem bigS {n : Nat} (h : n ≤ 1000000) : n ≤ sizeLine := Nat.le_trans h (by rw [sizeLine_eq]; decide)
theorem se_tup {ta : TA} {da : DA} (ha : SA ta da) : SE (tTup ta) (dTup da) := fun c G pl σ H e m k Q sr d K => ha _ _ _ _ _ _ _ _ _ sr d fun xs m1 G1 pl1 H1 vs d1 l1 sr1 r1 => by
  split at d1
  · rename_i ds q
    have h := r1.plain q
    exact ⟨by rw [h.length]; exact bigS d1.1, fun p hp => (K.le l1).tup sr1 hp d1.2 h⟩
  · exact d1.elim
/-! ### a new list, not yet known -/
def Kl (c : Fr0) (G : Hp) (pl : Nat → Pl) (σ : L2.St) (e : DEnv) (n : Nat) (k : List PyData → Mu → Prop) (Q : VK) : Prop :=
  ∀ ds m' G' pl' H' p xs, k ds m' → Le G pl n G' pl' m'.length → SR c G' pl' σ H' e m' → H' p = some (.lst xs) → DaL G' xs ds → G' p = none → (∀ i o, m'[i]? = some o → p ∉ foot (pl' i) o) → c.H p = none → Q (.ref p) H'
abbrev DL := DEnv → Mu → (List PyData → Mu → Prop) → Prop
def SL (t : TE) (d : DL) : Prop := ∀ c G pl σ H e m k Q, SR c G pl σ H e m → d e m k → Kl c G pl σ e m.length k Q → t σ H Q
theorem Kl.le {c : Fr0} {G G' : Hp} {pl pl' : Nat → Pl} {σ : L2.St} {e : DEnv} {n n' : Nat} {k : List PyData → Mu → Prop} {Q : VK} (h : Kl c G pl σ e n k Q) (l : Le G pl n G' pl' n') : Kl c G' pl' σ e n' k Q :=
  fun ds m' G2 pl2 H2 p xs q l2 => h ds m' G2 pl2 H2 p xs q (l.trans l2)
theorem Kl.new {c : Fr0} {G H : Hp} {pl : Nat → Pl} {σ : L2.St} {e : DEnv} {m : Mu} {k : List PyData → Mu → Prop} {Q : VK} {p : Addr} {xs : List V} {ds : List PyData} (K : Kl c G pl σ e m.length k Q) (sr : SR c G pl σ H e m) (hp : H p = none) (h : k ds m) (r : DaL G xs ds) : Q (.ref p) (upd H p (.lst xs)) := by
  obtain ⟨h1, h2, h3⟩ := sr.hp.fresh hp
  exact K ds m G pl (upd H p (.lst xs)) p xs h (.refl _ _ _) ⟨sr.env, sr.hp.grow fun b x _ e => by rw [upd_ne (ne_of_none e hp)]; exact e⟩ upd_same r h1 h3 h2
def dL (d : DL) : DE := fun e m k => d e m fun ds m' => k (.d (.list ds)) m'
theorem SL.se {t : TE} {d : DL} (h : SL t d) : SE t (dL d) := fun c G pl σ H e m k Q sr d K => h _ _ _ _ _ _ _ _ _ sr d fun ds m1 G1 pl1 H1 p xs d1 l1 sr1 hp hx hg hf hc => by
  have l2 : Le G1 pl1 m1.length (upd G1 p (.lst xs)) pl1 m1.length := ⟨same_upd hg, fun _ _ => rfl, Nat.le_refl _⟩
  exact K _ _ _ _ _ _ d1 (l1.trans l2) (sr1.le l2 (sr1.hp.adopt hp hg hf hc)) (show Da (upd G1 p (.lst xs)) (.ref p) (.list ds) from .lst upd_same (hx.same l2.g))
def dLst (da : DA) : DL := fun e m k => da e m fun xs m1 => match plains xs with
  | some ds => ds.length ≤ 1000000 ∧ k ds m1
  | none => False
theorem sl_lst {ta : TA} {da : DA} (ha : SA ta da) : SL (tLst ta) (dLst da) := fun c G pl σ H e m k Q sr d K => ha _ _ _ _ _ _ _ _ _ sr d fun xs m1 G1 pl1 H1 vs d1 l1 sr1 r1 => by
  split at d1
  · rename_i ds q
    have h := r1.plain q
    exact ⟨by rw [h.length]; exact bigS d1.1, fun p hp => (K.le l1).new sr1 hp d1.2 h⟩
  · exact d1.elim
/-- *x ahead of others -/
def dStar (da : DE) (dr : DA) : DA := fun e m k => da e m fun x m1 => ∃ ds, rdS m1 x = some ds ∧ dr e m1 fun ys m2 => k (ds.map DV.d ++ ys) m2
theorem sa_star (K : PySem.W.Frag) {ta : TE} {tr : TA} {da : DE} {dr : DA} (ha : SE ta da) (hr : SA tr dr) : SA (StX.tStar K ta tr) (dStar da dr) := fun c G pl σ H e m k Q sr d KK => ha _ _ _ _ _ _ _ _ _ sr d fun x m1 G1 pl1 H1 v1 d1 l1 sr1 r1 => by
  obtain ⟨ds, h1, d1⟩ := d1
  obtain ⟨a, xs, e1, e2, e3⟩ := sr1.seq K r1 h1
  exact ⟨a, xs, e1, e2.symm, hr _ _ _ _ _ _ _ _ _ sr1 d1 fun ys m2 G2 pl2 H2 vs d2 l2 sr2 r2 => KK _ _ _ _ _ _ d2 (l1.trans l2) sr2 ((RVs.ofL (e3.same l2.g)).append r2)⟩
end PM

namespace PM
open PySem PySem.Spec PyProof.Rows L2 RZ
theorem DaL.append {H : Hp} : ∀ {xs ys : List V} {ds es : List PyData}, DaL H xs ds → DaL H ys es → DaL H (xs ++ ys) (ds ++ es)
  | _, _, _, _, .nil, k => k
  | _, _, _, _, .cons h t, k => .cons h (DaL.append t k)
theorem DaL.take {H : Hp} : ∀ {xs : List V} {ds : List PyData} (n : Nat), DaL H xs ds → DaL H (xs.take n) (ds.take n)
  | _, _, 0, _ => by simp only [List.take_zero]; exact .nil
  | _, _, n + 1, .nil => by simp only [List.take_nil]; exact .nil
  | _, _, n + 1, .cons h t => .cons h (DaL.take n t)
theorem DaL.drop {H : Hp} : ∀ {xs : List V} {ds : List PyData} (n : Nat), DaL H xs ds → DaL H (xs.drop n) (ds.drop n)
  | _, _, 0, h => h
  | _, _, n + 1, .nil => by simp only [List.drop_nil]; exact .nil
  | _, _, n + 1, .cons h t => DaL.drop n t
theorem DaL.reverse {H : Hp} : ∀ {xs : List V} {ds : List PyData}, DaL H xs ds → DaL H xs.reverse ds.reverse
  | _, _, .nil => .nil
  | _, _, .cons h t => by
    rw [List.reverse_cons, List.reverse_cons]
    exact DaL.append (DaL.reverse t) (.cons h .nil)
/-! ### statements -/
structure DEnds where
  nx : DEnv → Mu → Prop
  rt : DV → Option Nat → Prop
  bk : DEnv → Mu → Prop
  ct : DEnv → Mu → Prop
/-- how many numbers were drawn -/
def dN : Mu → Option Nat
  | .drw n :: _ => some n
  | _ => none
theorem dN_inv {m : Mu} {n : Nat} (h : dN m = some n) : ∃ ms, m = .drw n :: ms := by
  unfold dN at h
  split at h
  · cases h
    exact ⟨_, rfl⟩
  · cases h
theorem dN_set {m : Mu} {i : Nat} {o : MO} (e : m[i]? = some o) (h : isDrw o = false) : dN (m.set i .no) = dN m := by
  cases m with
  | nil => rfl
  | cons x r =>
    cases i with
    | zero =>
      cases e
      cases o <;> first | rfl | cases h
    | succ j => cases x <;> rfl
abbrev DS := DEnds → DEnv → Mu → Prop
structure ED (c : Fr0) (G : Hp) (pl : Nat → Pl) (n : Nat) (D : Ends) (E : DEnds) : Prop where
  nx : ∀ G' pl' σ' H' e' m', E.nx e' m' → Le G pl n G' pl' m'.length → SR c G' pl' σ' H' e' m' → D.nx σ' H'
  rt : ∀ dv m' G' pl' H' v, E.rt dv (dN m') → Le G pl n G' pl' m'.length → HR c G' pl' H' m' → RV G' pl' m'.length v dv → D.rt v H'
  bk : ∀ G' pl' σ' H' e' m', E.bk e' m' → Le G pl n G' pl' m'.length → SR c G' pl' σ' H' e' m' → D.bk σ' H'
  ct : ∀ G' pl' σ' H' e' m', E.ct e' m' → Le G pl n G' pl' m'.length → SR c G' pl' σ' H' e' m' → D.ct σ' H'
theorem ED.le {c : Fr0} {G G' : Hp} {pl pl' : Nat → Pl} {n n' : Nat} {D : Ends} {E : DEnds} (h : ED c G pl n D E) (l : Le G pl n G' pl' n') : ED c G' pl' n' D E :=
  ⟨fun G2 pl2 σ' H' e' m' q l2 => h.nx G2 pl2 σ' H' e' m' q (l.trans l2), fun dv m' G2 pl2 H' v q l2 => h.rt dv m' G2 pl2 H' v q (l.trans l2), fun G2 pl2 σ' H' e' m' q l2 => h.bk G2 pl2 σ' H' e' m' q (l.trans l2), fun G2 pl2 σ' H' e' m' q l2 => h.ct G2 pl2 σ' H' e' m' q (l.trans l2)⟩
def SS (t : TS) (d : DS) : Prop := ∀ c G pl σ H e m D E, (∀ b, ¬ c.L b) → SR c G pl σ H e m → d E e m → ED c G pl m.length D E → t D σ H
def dNext : DS := fun E e m => E.nx e m
theorem ss_nil : SS tNext dNext := fun c G pl σ H e m D E hL sr d K => K.nx _ _ _ _ _ _ d (.refl _ _ _) sr
def dSeq (d f : DS) : DS := fun E e m => d { E with nx := f E } e m
theorem ss_seq {t u : TS} {d f : DS} (h1 : SS t d) (h2 : SS u f) : SS (tSeq t u) (dSeq d f) := fun c G pl σ H e m D E hL sr d K =>
  h1 _ _ _ _ _ _ _ _ _ hL sr d ⟨fun G' pl' σ' H' e' m' q l sr' => h2 _ _ _ _ _ _ _ _ _ hL sr' q (K.le l), K.rt, K.bk, K.ct⟩
def dBrk : DS := fun E e m => E.bk e m
def dCnt : DS := fun E e m => E.ct e m
theorem ss_brk : SS tBreak dBrk := fun c G pl σ H e m D E hL sr d K => K.bk _ _ _ _ _ _ d (.refl _ _ _) sr
theorem ss_cnt : SS tCont dCnt := fun c G pl σ H e m D E hL sr d K => K.ct _ _ _ _ _ _ d (.refl _ _ _) sr
def dNever : DS := fun _ _ _ => False
theorem ss_never {t : TS} : SS t dNever := fun c G pl σ H e m D E hL sr d K => d.elim
def dIf (t : DT) (a b : DS) : DS := fun E e m => t e m fun x m1 => br x (a E e m1) (b E e m1)
theorem ss_if {tc : TT} {t u : TS} {dc : DT} {d f : DS} (hc : ST tc dc) (ha : SS t d) (hb : SS u f) : SS (tIfS tc t u) (dIf dc d f) := fun c G pl σ H e m D E hL sr d K =>
  hc _ _ _ _ _ _ _ _ _ sr d fun x m1 G1 pl1 H1 v1 d1 l1 sr1 r1 => by
    subst r1
    exact br_ite ⟨fun z => ha _ _ _ _ _ _ _ _ _ hL sr1 (d1.1 z) (K.le l1), fun z => hb _ _ _ _ _ _ _ _ _ hL sr1 (d1.2 z) (K.le l1)⟩
def dDrop (a : DE) : DS := fun E e m => a e m fun _ m1 => E.nx e m1
theorem ss_expr {te : TE} {de : DE} (h : SE te de) : SS (tDrop te) (dDrop de) := fun c G pl σ H e m D E hL sr d K =>
  h _ _ _ _ _ _ _ _ _ sr d fun x m1 G1 pl1 H1 v1 d1 l1 sr1 r1 => K.nx _ _ _ _ _ _ d1 l1 sr1
/-- what is handed back changes no more -/
def fz (m : Mu) : DV → DV
  | .p i => match m[i]? with
    | some (.lst ds) => .d (.list ds)
    | some (.dic kvs) => .dic kvs
    | some (.any k) => match k.fr with
      | some f => .any f
      | none => .p i
    | _ => .p i
  | x => x
theorem frozen {c : Fr0} {G H : Hp} {pl : Nat → Pl} {m : Mu} {v : V} {dv : DV} (hL : ∀ b, ¬ c.L b) (h : HR c G pl H m) (r : RV G pl m.length v dv) :
    ∃ (G' : Hp) (m' : Mu), Le G pl m.length G' pl m'.length ∧ HR c G' pl H m' ∧ RV G' pl m'.length v (fz m dv) ∧ dN m' = dN m := by
  have same : ∃ (G' : Hp) (m' : Mu), Le G pl m.length G' pl m'.length ∧ HR c G' pl H m' ∧ RV G' pl m'.length v dv ∧ dN m' = dN m := ⟨G, m, .refl _ _ _, h, r, rfl⟩
  cases dv with
  | d x => exact same
  | dic kvs => exact same
  | any f => exact same
  | p i =>
    cases q : m[i]? with
    | none => simp only [fz, q]; exact same
    | some o =>
      cases o with
      | no => simp only [fz, q]; exact same
      | drw n => simp only [fz, q]; exact same
      | lst ds =>
        obtain ⟨xs, h1, h2⟩ := h.mo _ _ q
        have hg := h.out _ _ _ q (List.mem_singleton.mpr rfl)
        have l : Le G pl m.length (upd G (pl i).a (.lst xs)) pl (m.set i .no).length := ⟨same_upd hg, fun _ _ => rfl, by simp⟩
        refine ⟨_, _, l, h.freeze q rfl rfl h1 hL, ?_, dN_set q rfl⟩
        simp only [fz, q]
        rw [r.2]
        exact .lst upd_same (h2.same l.g)
      | dic kvs =>
        obtain ⟨xs, h1, h2⟩ := h.mo _ _ q
        have hg := h.out _ _ _ q (List.mem_singleton.mpr rfl)
        have l : Le G pl m.length (upd G (pl i).a (.dK xs)) pl (m.set i .no).length := ⟨same_upd hg, fun _ _ => rfl, by simp⟩
        refine ⟨_, _, l, h.freeze q rfl rfl h1 hL, ?_, dN_set q rfl⟩
        simp only [fz, q]
        exact ⟨_, _, r.2, upd_same, h2.same l.g⟩
      | any k =>
        cases w : k.fr with
        | none => simp only [fz, q, w]; exact same
        | some f =>
          obtain ⟨one, z⟩ := k.frz f w
          have mem : (pl i).a ∈ foot (pl i) (.any k) := by show _ ∈ k.ft (pl i); rw [one]; exact List.mem_singleton.mpr rfl
          have hg := h.out _ _ _ q mem
          obtain ⟨ob, h1, h2⟩ := z (h.mo _ _ q) hg
          have l : Le G pl m.length (upd G (pl i).a ob) pl (m.set i .no).length := ⟨same_upd hg, fun _ _ => rfl, by simp⟩
          refine ⟨_, _, l, h.freeze q rfl (one _) h1 hL, ?_, dN_set q rfl⟩
          simp only [fz, q, w]
          rw [r.2]
          exact h2
def dRet (a : DE) : DS := fun E e m => a e m fun x m1 => E.rt (fz m1 x) (dN m1)
theorem ss_ret {te : TE} {de : DE} (h : SE te de) : SS (tRet te) (dRet de) := fun c G pl σ H e m D E hL sr d K =>
  h _ _ _ _ _ _ _ _ _ sr d fun x m1 G1 pl1 H1 v1 d1 l1 sr1 r1 => by
    obtain ⟨G2, m2, l2, h2, r2, e2⟩ := frozen hL sr1.hp r1
    exact K.rt _ m2 G2 pl1 H1 v1 (by rw [e2]; exact d1) (l1.trans l2) h2 r2
def dRetN : DS := fun E e m => E.rt (.d .none) (dN m)
theorem ss_retN : SS tRetN dRetN := fun c G pl σ H e m D E hL sr d K => K.rt _ _ _ _ _ _ d (.refl _ _ _) sr.hp (show RV G pl m.length .non (.d .none) from .non)
/-- from now on slot i's object changes no more -/
def dFrz (i : Nat) (d : DS) : DS := fun E e m => match lk e i with
  | some (.p j) => match m[j]? with
    | some (.lst ds) => d E (stt e i (some (.d (.list ds)))) (m.set j .no)
    | _ => False
  | _ => False
theorem lk_some_lt : ∀ {e : DEnv} {i : Nat} {v : DV}, lk e i = some v → i < e.length
  | [], _, _, h => by cases h
  | _ :: _, 0, _, _ => Nat.zero_lt_succ _
  | _ :: xs, i + 1, v, h => Nat.succ_lt_succ (lk_some_lt (e := xs) h)
theorem ER.known {G : Hp} {pl : Nat → Pl} {n : Nat} {σ : L2.St} {e : DEnv} {v : V} {dv : DV} {i : Nat} (h : ER G pl n σ e) (hs : σ[i]? = some (some v)) (r : RV G pl n v dv) : ER G pl n σ (stt e i (some dv)) :=
  ⟨by rw [stt_len, h.len], fun j dw x => by
    rw [lk_stt] at x
    by_cases e1 : i = j
    · subst e1
      rw [if_pos rfl] at x
      by_cases e2 : i < e.length
      · rw [if_pos e2] at x
        cases x
        exact ⟨v, hs, r⟩
      · rw [if_neg e2] at x
        cases x
    · rw [if_neg e1] at x
      exact h.get j dw x⟩
theorem ss_frz {t : TS} {d : DS} (i : Nat) (h : SS t d) : SS t (dFrz i d) := fun c G pl σ H e m D E hL sr d K => by
  unfold dFrz at d
  split at d
  · rename_i j q
    split at d
    · rename_i ds qm
      obtain ⟨v, hs, hv⟩ := sr.env.get i _ q
      obtain ⟨xs, h1, h2⟩ := sr.hp.mo _ _ qm
      have hg := sr.hp.out _ _ _ qm (List.mem_singleton.mpr rfl)
      have l : Le G pl m.length (upd G (pl j).a (.lst xs)) pl (m.set j .no).length := ⟨same_upd hg, fun _ _ => rfl, by simp⟩
      refine h _ _ _ _ _ _ _ _ _ hL ⟨(sr.env.le l).known hs ?_, sr.hp.freeze qm rfl rfl h1 hL⟩ d (K.le l)
      rw [hv.2]
      exact .lst upd_same (h2.same l.g)
    · exact d.elim
  · exact d.elim
/-! ### targets -/
abbrev DG := DV → DEnv → Mu → (DEnv → Mu → Prop) → Prop
abbrev DGs := List DV → DEnv → Mu → (DEnv → Mu → Prop) → Prop
def SG (g : TG) (d : DG) : Prop := ∀ c G pl σ H e m v dv k Q, SR c G pl σ H e m → RV G pl m.length v dv → d dv e m k →
  (∀ e' σ' G' pl' H' m', k e' m' → Le G pl m.length G' pl' m'.length → SR c G' pl' σ' H' e' m' → Q σ' H') → g v σ H Q
def SGs (g : TGs) (d : DGs) : Prop := ∀ c G pl σ H e m vs dvs k Q, SR c G pl σ H e m → RVs G pl m.length vs dvs → d dvs e m k →
  (∀ e' σ' G' pl' H' m', k e' m' → Le G pl m.length G' pl' m'.length → SR c G' pl' σ' H' e' m' → Q σ' H') → g vs σ H Q
def dgName (i : Nat) : DG := fun v e m k => k (stt e i (some v)) m
theorem sg_name (i : Nat) : SG (gName i) (dgName i) := fun c G pl σ H e m v dv k Q sr r d K => K _ _ _ _ _ _ d (.refl _ _ _) ⟨sr.env.set i r, sr.hp⟩
def dgNil : DGs := fun vs e m k => match vs with
  | [] => k e m
  | _ => False
def dgCons (a : DG) (b : DGs) : DGs := fun vs e m k => match vs with
  | x :: r => a x e m fun e' m' => b r e' m' k
  | [] => False
theorem sg_nil : SGs gNil dgNil := fun c G pl σ H e m vs dvs k Q sr r d K => by
  unfold dgNil at d
  split at d
  · cases r
    exact ⟨rfl, K _ _ _ _ _ _ d (.refl _ _ _) sr⟩
  · exact d.elim
theorem sg_cons {g : TG} {gs : TGs} {a : DG} {b : DGs} (ha : SG g a) (hb : SGs gs b) : SGs (gCons g gs) (dgCons a b) := fun c G pl σ H e m vs dvs k Q sr r d K => by
  unfold dgCons at d
  split at d
  · cases r with
    | cons h t =>
      exact ⟨_, _, rfl, ha _ _ _ _ _ _ _ _ _ _ _ sr h d fun e' σ' G' pl' H' m' d' l sr' => hb _ _ _ _ _ _ _ _ _ _ _ sr' (t.le l) d' fun e2 σ2 G2 pl2 H2 m2 d2 l2 => K _ _ _ _ _ _ d2 (l.trans l2)⟩
  · exact d.elim
def dgTup (n : Nat) (b : DGs) : DG := fun v e m k => ∃ ds, rdT v = some ds ∧ ds.length = n ∧ b (ds.map DV.d) e m k
theorem sg_tup (K : PySem.W.Frag) {n : Nat} {gs : TGs} {b : DGs} (hb : SGs gs b) : SG (gTup K n gs) (dgTup n b) := fun c G pl σ H e m v dv k Q sr r d KK => by
  obtain ⟨ds, h1, h2, d⟩ := d
  obtain ⟨a, xs, e1, e2, e3⟩ := sr.tup r h1
  exact ⟨a, xs, e1, .inl (.inl e2), by rw [e3.length]; exact h2, hb _ _ _ _ _ _ _ _ _ _ _ sr (.ofL e3) d KK⟩
def dgUnl (n : Nat) (b : DGs) : DG := fun v e m k => ∃ ds, rdL m v = some ds ∧ ds.length = n ∧ b (ds.map DV.d) e m k
theorem sg_unl (K : PySem.W.Frag) {n : Nat} {gs : TGs} {b : DGs} (hb : SGs gs b) : SG (gUnl K n gs) (dgUnl n b) := fun c G pl σ H e m v dv k Q sr r d KK => by
  obtain ⟨ds, h1, h2, d⟩ := d
  obtain ⟨a, xs, e1, e2, e3⟩ := sr.list r h1
  exact ⟨a, xs, e1, .inl (.inl e2), by rw [e3.length]; exact h2, hb _ _ _ _ _ _ _ _ _ _ _ sr (.ofL e3) d KK⟩
def dAsg (a : DE) (g : DG) : DS := fun E e m => a e m fun x m1 => g x e m1 E.nx
theorem ss_asg {te : TE} {g : TG} {de : DE} {dg : DG} (h : SE te de) (hg : SG g dg) : SS (tAsg te g) (dAsg de dg) := fun c G pl σ H e m D E hL sr d K =>
  h _ _ _ _ _ _ _ _ _ sr d fun x m1 G1 pl1 H1 v1 d1 l1 sr1 r1 => hg _ _ _ _ _ _ _ _ _ _ _ sr1 r1 d1 fun e' σ' G' pl' H' m' d' l => K.nx _ _ _ _ _ _ d' (l1.trans l)
/-- x = a new list that the def goes on to change -/
def dOwn (i : Nat) (a : DL) : DS := fun E e m => a e m fun ds m1 => E.nx (stt e i (some (.p m1.length))) (m1 ++ [.lst ds])
theorem ss_own {te : TE} {dl : DL} (i : Nat) (h : SL te dl) : SS (tAsg te (gName i)) (dOwn i dl) := fun c G pl σ H e m D E hL sr d K =>
  h _ _ _ _ _ _ _ _ _ sr d fun ds m1 G1 pl1 H1 p xs d1 l1 sr1 hp hx hg hf hc => by
    have l2 := Le.plus G1 pl1 m1 p (.lst ds)
    have h2 : HR c G1 (plus pl1 m1.length p) H1 (m1 ++ [.lst ds]) := sr1.hp.push (o := .lst ds) ⟨xs, hp, hx⟩ rfl hg hf hc
    exact K.nx _ _ _ _ _ _ d1 (l1.trans l2) ⟨(sr1.env.le l2).set i ⟨by simp, by rw [plus_new]⟩, h2⟩
def dAug (i : Nat) (f : Mu → DV → DV → (DV → Prop) → Prop) (a : DE) : DS := fun E e m => match lk e i with
  | some x => a e m fun y m1 => f m1 x y fun z => E.nx (stt e i (some z)) m1
  | none => False
theorem ss_aug {te : TE} {de : DE} {r : R2} {f : Mu → DV → DV → (DV → Prop) → Prop} (i : Nat) (hr : OpS r f) (h : SE te de) : SS (tAug i te r) (dAug i f de) := fun c G pl σ H e m D E hL sr d K => by
  unfold dAug at d
  split at d
  · rename_i x q
    obtain ⟨v, h1, h2⟩ := sr.env.get i x q
    refine ⟨v, h1, h _ _ _ _ _ _ _ _ _ sr d fun y m1 G1 pl1 H1 v1 d1 l1 sr1 r1 => ?_⟩
    exact hr _ _ _ _ _ _ _ _ _ _ _ (fun z m' => E.nx (stt e i (some z)) m') _ sr1 (h2.le l1) r1 d1 fun z m2 G2 pl2 H2 v2 d2 l2 sr2 r2 => K.nx _ _ _ _ _ _ d2 (l1.trans l2) ⟨sr2.env.set i r2, sr2.hp⟩
  · exact d.elim
def dPar (i j : Nat) (a : DA) : DS := fun E e m => a e m fun xs m1 => match xs with
  | [x, y] => E.nx (stt (stt e i (some x)) j (some y)) m1
  | _ => False
theorem ss_par {ta : TA} {da : DA} (i j : Nat) (h : SA ta da) : SS (tPar i j ta) (dPar i j da) := fun c G pl σ H e m D E hL sr d K =>
  h _ _ _ _ _ _ _ _ _ sr d fun xs m1 G1 pl1 H1 vs d1 l1 sr1 r1 => by
    split at d1
    · cases r1 with
      | cons ha t =>
        cases t with
        | cons hb t =>
          cases t
          exact ⟨_, _, rfl, K.nx _ _ _ _ _ _ d1 l1 ⟨(sr1.env.set i ha).set j hb, sr1.hp⟩⟩
    · exact d1.elim
def dPar3 (i j l : Nat) (a : DA) : DS := fun E e m => a e m fun xs m1 => match xs with
  | [x, y, z] => E.nx (stt (stt (stt e i (some x)) j (some y)) l (some z)) m1
  | _ => False
theorem ss_par3 {ta : TA} {da : DA} (i j l : Nat) (h : SA ta da) : SS (tPar3 i j l ta) (dPar3 i j l da) := fun c G pl σ H e m D E hL sr d K =>
  h _ _ _ _ _ _ _ _ _ sr d fun xs m1 G1 pl1 H1 vs d1 l1 sr1 r1 => by
    split at d1
    · cases r1 with
      | cons ha t =>
        cases t with
        | cons hb t =>
          cases t with
          | cons hc t =>
            cases t
            exact ⟨_, _, _, rfl, K.nx _ _ _ _ _ _ d1 l1 ⟨((sr1.env.set i ha).set j hb).set l hc, sr1.hp⟩⟩
    · exact d1.elim
/-! ### xs.append(x), xs += ys -/
def dApp (i : Nat) (a : DE) : DS := fun E e m => match lk e i with
  | some (.p j) => (∃ ds, m[j]? = some (.lst ds)) ∧ a e m fun x m1 => match x with
    | .d y => ∃ ds, m1[j]? = some (.lst ds) ∧ ds.length < 1000000 ∧ E.nx e (m1.set j (.lst (ds ++ [y])))
    | _ => False
  | _ => False
theorem ss_app (K : PySem.W.Frag) {te : TE} {de : DE} (i : Nat) (h : SE te de) : SS (tDrop (tBM K "list" rAppend (tVar i) (tCons te tNil))) (dApp i de) := fun c G pl σ H e m D E hL sr d KK => by
  unfold dApp at d
  split at d
  · rename_i j q
    obtain ⟨v, h1, h2⟩ := sr.env.get i _ q
    obtain ⟨hj, rfl⟩ := h2
    obtain ⟨⟨ds0, q0⟩, d⟩ := d
    refine ⟨_, h1, ?_, ?_⟩
    · obtain ⟨xs, hx, _⟩ := sr.hp.mo _ _ q0
      exact .inl ⟨rfl, xs, .inl (.inl hx)⟩
    · refine h _ _ _ _ _ _ _ _ _ sr d fun x m1 G1 pl1 H1 v1 d1 l1 sr1 r1 => ?_
      split at d1
      · obtain ⟨ds, q1, hz, d1⟩ := d1
        obtain ⟨xs, hx, hd⟩ := sr1.hp.mo _ _ q1
        rw [l1.p j hj] at hx
        have hy : Da G1 v1 _ := r1
        refine ⟨_, xs, v1, rfl, rfl, hx, ?_, ?_⟩
        · rw [hd.length]
          exact Nat.lt_of_lt_of_le hz (bigS (Nat.le_refl _))
        · have hp := sr1.hp.put (o' := .lst (ds ++ [_])) (ob := .lst (xs ++ [v1])) q1 rfl rfl rfl rfl ⟨xs ++ [v1], upd_same, DaL.append hd (.cons hy .nil)⟩
          rw [l1.p j hj] at hp
          have l2 : ∀ o, Le G1 pl1 m1.length G1 pl1 (m1.set j o).length := fun o => ⟨.refl _, fun _ _ => rfl, by simp⟩
          exact KK.nx _ _ _ _ _ _ d1 (l1.trans (l2 _)) ⟨sr1.env.le (l2 _), hp⟩
      · exact d1.elim
  · exact d.elim
end PM

namespace PM
open PySem PySem.Spec PyProof.Rows L2 RZ
/-! ### what is walked -/
def YD (G H : Hp) (x : V) (H' : Hp) (d : PyData) : Prop := (H' = H ∧ Da G x d) ∨ ∃ T us ds, x = .ref T ∧ H T = none ∧ H' = upd H T (.tup us) ∧ DaL G us ds ∧ d = .tuple ds
structure WK (J : It) (G : Hp) (xs : List PyData) : Prop where
  goes : ∀ i H, i < xs.length → Same G H → J.go i H
  stops : ∀ H, Same G H → J.stop xs.length H
  yields : ∀ i H x H', i < xs.length → Same G H → J.yld i H x H' → ∃ d, xs[i]? = some d ∧ YD G H x H' d
abbrev DI := DEnv → Mu → (List PyData → Mu → Prop) → Prop
def SI (wi : TI) (d : DI) : Prop := ∀ c G pl σ H e m k R, SR c G pl σ H e m → d e m k →
  (∀ xs m' G' pl' H' J, k xs m' → Le G pl m.length G' pl' m'.length → SR c G' pl' σ H' e m' → WK J G' xs → R J H') → wi σ H R
theorem WK.walk {J : It} {G : Hp} {xs : List PyData} (w : WK J G xs) : Walk J xs.length (fun H => Same G H) (fun i H x H' => ∃ d, xs[i]? = some d ∧ YD G H x H' d) :=
  ⟨w.goes, w.stops, w.yields⟩
theorem YD.sr {c : Fr0} {G0 G H H' : Hp} {pl : Nat → Pl} {σ : L2.St} {e : DEnv} {m : Mu} {x : V} {d : PyData} (g : Same G0 G) (sr : SR c G pl σ H e m) (y : YD G0 H x H' d) : ∃ G', Le G pl m.length G' pl m.length ∧ SR c G' pl σ H' e m ∧ RV G' pl m.length x (.d d) := by
  rcases y with ⟨rfl, h⟩ | ⟨T, us, ds, rfl, hT, rfl, h, rfl⟩
  · exact ⟨G, .refl _ _ _, sr, h.same g⟩
  · have l : Le G pl m.length (upd G T (.tup us)) pl m.length := ⟨same_upd (sr.hp.fresh hT).1, fun _ _ => rfl, Nat.le_refl _⟩
    exact ⟨_, l, sr.le l (sr.hp.new hT), .tup upd_same (h.same (g.trans l.g))⟩
/-! ### for -/
def dFor (di : DI) (g : DG) (b : DS) : DS := fun E e m => di e m fun xs m1 => ∃ I : List PyData → DEnv → Mu → Prop, I xs e m1 ∧
  (∀ x r e m, I (x :: r) e m → g (.d x) e m fun e' m' => b { nx := I r, rt := E.rt, bk := E.nx, ct := I r } e' m') ∧ ∀ e m, I [] e m → E.nx e m
theorem ss_for {wi : TI} {g : TG} {tb : TS} {di : DI} {dg : DG} {db : DS} (hi : SI wi di) (hg : SG g dg) (hb : SS tb db) : SS (tFor wi g tb) (dFor di dg db) := fun c G pl σ H e m D E hL sr d K => by
  refine hi _ _ _ _ _ _ _ _ _ sr d fun xs m1 G1 pl1 H1 J d1 l1 sr1 wk => ?_
  obtain ⟨I, i0, step, done⟩ := d1
  refine for_it wk.walk (fun i σ' H' => ∃ G' pl' e' m', Le G1 pl1 m1.length G' pl' m'.length ∧ SR c G' pl' σ' H' e' m' ∧ I (xs.drop i) e' m') ⟨G1, pl1, e, m1, .refl _ _ _, sr1, i0⟩ (fun i σ' H' _ p => ?_) (fun i x σ' H' H'' hi p y => ?_) (fun σ' H' p => ?_)
  · obtain ⟨G', pl', e', m', l, s', _⟩ := p
    exact l.g.trans s'.hp.sub
  · obtain ⟨G', pl', e', m', l, s', iv⟩ := p
    obtain ⟨dx, hx, y⟩ := y
    obtain ⟨G2, l2, s2, r2⟩ := y.sr l.g s'
    have ex : xs.drop i = dx :: xs.drop (i + 1) := by
      rw [List.drop_eq_getElem_cons hi]
      rw [List.getElem?_eq_getElem hi] at hx
      rw [Option.some.inj hx]
    rw [ex] at iv
    refine hg _ _ _ _ _ _ _ _ _ _ _ s2 r2 (step dx _ e' m' iv) fun e3 σ3 G3 pl3 H3 m3 d3 l3 s3 => ?_
    have lw := (l.trans l2).trans l3
    refine hb _ _ _ _ _ _ _ _ _ hL s3 d3 ⟨fun G4 pl4 σ4 H4 e4 m4 q4 l4 s4 => ⟨G4, pl4, e4, m4, lw.trans l4, s4, q4⟩, ?_, ?_, fun G4 pl4 σ4 H4 e4 m4 q4 l4 s4 => ⟨G4, pl4, e4, m4, lw.trans l4, s4, q4⟩⟩
    · exact (K.le (l1.trans lw)).rt
    · exact (K.le (l1.trans lw)).nx
  · obtain ⟨G', pl', e', m', l, s', iv⟩ := p
    rw [List.drop_length] at iv
    exact K.nx _ _ _ _ _ _ (done _ _ iv) (l1.trans l) s'
def dWhile (t : DT) (b : DS) : DS := fun E e m => ∃ W : Nat → DEnv → Mu → Prop, (∃ n, W n e m) ∧ ∀ n e m, W n e m →
  t e m fun x m1 => br x (b { nx := fun e m => ∃ n', n' < n ∧ W n' e m, rt := E.rt, bk := E.nx, ct := fun e m => ∃ n', n' < n ∧ W n' e m } e m1) (E.nx e m1)
theorem ss_while {tt : TT} {tb : TS} {dt : DT} {db : DS} (ht : ST tt dt) (hb : SS tb db) : SS (tWhile tt tb) (dWhile dt db) := fun c G pl σ H e m D E hL sr d K => by
  obtain ⟨W, ⟨n0, w0⟩, turn⟩ := d
  refine ⟨fun n σ' H' => ∃ G' pl' e' m', Le G pl m.length G' pl' m'.length ∧ SR c G' pl' σ' H' e' m' ∧ W n e' m', ⟨n0, G, pl, e, m, .refl _ _ _, sr, w0⟩, ?_⟩
  rintro n σ' H' ⟨G', pl', e', m', l, s', w⟩
  refine ht _ _ _ _ _ _ _ _ _ s' (turn n e' m' w) fun x m1 G1 pl1 H1 v1 d1 l1 sr1 r1 => ?_
  subst r1
  refine br_ite ⟨fun z => ⟨fun σ2 H2 => ∃ G' pl' e' m', Le G pl m.length G' pl' m'.length ∧ SR c G' pl' σ2 H2 e' m' ∧ ∃ n', n' < n ∧ W n' e' m', ?_, ?_⟩, fun z => K.nx _ _ _ _ _ _ (d1.2 z) (l.trans l1) sr1⟩
  · rintro σ2 H2 ⟨G2, pl2, e2, m2, l2, s2, n', hn, w'⟩
    exact ⟨n', hn, G2, pl2, e2, m2, l2, s2, w'⟩
  · have lw := l.trans l1
    refine hb _ _ _ _ _ _ _ _ _ hL sr1 (d1.1 z) ⟨fun G4 pl4 σ4 H4 e4 m4 q4 l4 s4 => ⟨G4, pl4, e4, m4, lw.trans l4, s4, q4⟩, ?_, ?_, fun G4 pl4 σ4 H4 e4 m4 q4 l4 s4 => ⟨G4, pl4, e4, m4, lw.trans l4, s4, q4⟩⟩
    · exact (K.le lw).rt
    · exact (K.le lw).nx
/-! ### what a block makes and changes is forgotten behind it -/
def kil1 (n : Nat) : Option DV → Option DV
  | some (.p i) => if i < n then some (.p i) else none
  | x => x
def kil (n : Nat) : DEnv → DEnv
  | [] => []
  | x :: xs => kil1 n x :: kil n xs
theorem kil_len (n : Nat) : ∀ e : DEnv, (kil n e).length = e.length
  | [] => rfl
  | _ :: xs => by simp only [kil, List.length_cons, kil_len n xs]
theorem kil_lk (n : Nat) : ∀ (e : DEnv) (i : Nat), lk (kil n e) i = kil1 n (lk e i)
  | [], _ => rfl
  | _ :: _, 0 => rfl
  | _ :: xs, i + 1 => kil_lk n xs i
theorem HR.take {c : Fr0} {G H : Hp} {pl : Nat → Pl} {m : Mu} (h : HR c G pl H m) (n : Nat) : HR c G pl H (m.take n) := by
  have old : ∀ i o, (m.take n)[i]? = some o → m[i]? = some o := fun i o e => by
    rw [List.getElem?_take] at e
    split at e
    · exact e
    · cases e
  exact ⟨h.sub, fun i o e => h.mo i o (old i o e), fun i o b e => h.out i o b (old i o e), fun i o b e => h.own i o b (old i o e), fun i j o o' b ne e1 e2 => h.dj i j o o' b ne (old i o e1) (old j o' e2), h.g0, h.h0, h.up, h.nw⟩
def dScope (d : DS) : DS := fun E e m => d { nx := fun e' m' => E.nx (kil m.length e') (m'.take m.length), rt := E.rt, bk := fun e' m' => E.bk (kil m.length e') (m'.take m.length), ct := fun e' m' => E.ct (kil m.length e') (m'.take m.length) } e m
theorem ss_scope {t : TS} {d : DS} (h : SS t d) : SS t (dScope d) := fun c G pl σ H e m D E hL sr d K => by
  have cut : ∀ {G' pl' σ' H' e' m'}, Le G pl m.length G' pl' m'.length → SR c G' pl' σ' H' e' m' → Le G pl m.length G' pl' (m'.take m.length).length ∧ SR c G' pl' σ' H' (kil m.length e') (m'.take m.length) := fun {G' pl' σ' H' e' m'} l s => by
    have len : (m'.take m.length).length = m.length := by rw [List.length_take]; exact Nat.min_eq_left l.n
    refine ⟨⟨l.g, l.p, by rw [len]; exact Nat.le_refl _⟩, ⟨by rw [kil_len]; exact s.env.len, fun i dv x => ?_⟩, s.hp.take _⟩
    rw [kil_lk] at x
    cases q : lk e' i with
    | none => rw [q] at x; cases x
    | some dw =>
      obtain ⟨v, h1, h2⟩ := s.env.get i dw q
      rw [q] at x
      refine ⟨v, h1, ?_⟩
      cases dw with
      | d y => cases x; exact h2
      | dic y => cases x; exact h2
      | any y => cases x; exact h2
      | p k =>
        simp only [kil1] at x
        split at x
        · cases x
          rename_i hk
          exact ⟨by rw [len]; exact hk, h2.2⟩
        · cases x
  refine h _ _ _ _ _ _ _ _ _ hL sr d ⟨fun G' pl' σ' H' e' m' q l s => ?_, K.rt, fun G' pl' σ' H' e' m' q l s => ?_, fun G' pl' σ' H' e' m' q l s => ?_⟩
  · exact K.nx _ _ _ _ _ _ q (cut l s).1 (cut l s).2
  · exact K.bk _ _ _ _ _ _ q (cut l s).1 (cut l s).2
  · exact K.ct _ _ _ _ _ _ q (cut l s).1 (cut l s).2
/-! ### comprehensions -/
/-- a target that stores only to the slots vs -/
def GW (g : TG) (vs : List Nat) : Prop := ∀ x σ H Q, g x σ H Q → g x σ H fun σ2 H2 => wipe σ2 vs = wipe σ vs ∧ Q σ2 H2
def GWs (g : TGs) (vs : List Nat) : Prop := ∀ x σ H Q, g x σ H Q → g x σ H fun σ2 H2 => wipe σ2 vs = wipe σ vs ∧ Q σ2 H2
theorem wipe_get (σ : L2.St) (i : Nat) : ∀ vs : List Nat, (wipe σ vs)[i]? = if i ∈ vs then (if i < σ.length then some none else none) else σ[i]?
  | [] => by simp [wipe]
  | v :: vs => by
    have ih := wipe_get σ i vs
    have hl := wipe_length σ vs
    unfold wipe
    by_cases e : v = i
    · subst e
      rw [if_pos List.mem_cons_self]
      by_cases hv : v < σ.length
      · rw [List.getElem?_set_self (by rw [hl]; exact hv), if_pos hv]
      · rw [List.getElem?_eq_none (by rw [List.length_set, hl]; omega), if_neg hv]
    · rw [List.getElem?_set_ne e, ih]
      by_cases h : i ∈ vs
      · rw [if_pos h, if_pos (List.mem_cons_of_mem _ h)]
      · rw [if_neg h, if_neg]
        simp only [List.mem_cons, not_or]
        exact ⟨Ne.symm e, h⟩
theorem wipe_set {σ : L2.St} {i : Nat} {vs : List Nat} (h : i ∈ vs) (x : Option V) : wipe (σ.set i x) vs = wipe σ vs := by
  apply List.ext_getElem?
  intro j
  rw [wipe_get, wipe_get, List.length_set]
  by_cases hj : j ∈ vs
  · rw [if_pos hj, if_pos hj]
  · rw [if_neg hj, if_neg hj, List.getElem?_set_ne (fun z : i = j => hj (z ▸ h))]
theorem wipe_wipe (σ : L2.St) (vs : List Nat) : wipe (wipe σ vs) vs = wipe σ vs := by
  apply List.ext_getElem?
  intro j
  rw [wipe_get, wipe_length]
  by_cases hj : j ∈ vs
  · rw [if_pos hj, wipe_get, if_pos hj]
  · rw [if_neg hj]
theorem gw_name {i : Nat} {vs : List Nat} (h : i ∈ vs) : GW (gName i) vs := fun x σ H Q q => ⟨wipe_set h _, q⟩
theorem gw_at {g : TG} {vs : List Nat} (h : GW g vs) {x : V} {σ : L2.St} {H : Hp} {Q : L2.St → Hp → Prop} (q : g x (wipe σ vs) H Q) : g x (wipe σ vs) H fun σ2 H2 => wipe σ2 vs = wipe σ vs ∧ Q σ2 H2 := by
  have := h _ _ _ _ q
  rw [wipe_wipe] at this
  exact this
theorem gw_nil {vs : List Nat} : GWs gNil vs := fun x σ H Q q => ⟨q.1, rfl, q.2⟩
theorem GW.mono' {g : TG} {vs : List Nat} (h : GW g vs) : GW g vs := h
/-- targets go on alike whatever follows -/
def GM (g : TG) : Prop := ∀ x σ H Q Q', (∀ σ' H', Q σ' H' → Q' σ' H') → g x σ H Q → g x σ H Q'
def GMs (g : TGs) : Prop := ∀ x σ H Q Q', (∀ σ' H', Q σ' H' → Q' σ' H') → g x σ H Q → g x σ H Q'
theorem gm_name (i : Nat) : GM (gName i) := fun x σ H Q Q' f q => f _ _ q
theorem gm_nil : GMs gNil := fun x σ H Q Q' f q => ⟨q.1, f _ _ q.2⟩
theorem gm_cons {g : TG} {gs : TGs} (h : GM g) (t : GMs gs) : GMs (gCons g gs) := fun x σ H Q Q' f q => by
  obtain ⟨v, r, e, q⟩ := q
  exact ⟨v, r, e, h _ _ _ _ _ (fun σ' H' z => t _ _ _ _ _ f z) q⟩
theorem gm_tup {K : PySem.W.Frag} {n : Nat} {gs : TGs} (t : GMs gs) : GM (gTup K n gs) := fun x σ H Q Q' f q => by
  obtain ⟨a, xs, e1, e2, e3, q⟩ := q
  exact ⟨a, xs, e1, e2, e3, t _ _ _ _ _ f q⟩
theorem gw_cons {g : TG} {gs : TGs} {vs : List Nat} (h : GW g vs) (m : GM g) (m2 : GMs gs) (t : GWs gs vs) : GWs (gCons g gs) vs := fun x σ H Q q => by
  obtain ⟨v, r, e, q⟩ := q
  refine ⟨v, r, e, m _ _ _ _ _ (fun σ' H' z => ?_) (h _ _ _ _ q)⟩
  obtain ⟨z1, z2⟩ := z
  exact m2 _ _ _ _ _ (fun σ2 H2 y => ⟨y.1.trans z1, y.2⟩) (t _ _ _ _ z2)
theorem gw_tup {K : PySem.W.Frag} {n : Nat} {gs : TGs} {vs : List Nat} (t : GWs gs vs) : GW (gTup K n gs) vs := fun x σ H Q q => by
  obtain ⟨a, xs, e1, e2, e3, q⟩ := q
  exact ⟨a, xs, e1, e2, e3, t _ _ _ _ q⟩
/-- plain data -/
def plD (C : PyData → Mu → Prop) (y : DV) (m : Mu) : Prop := match y with
  | .d z => C z m
  | _ => False
def dLc (di : DI) (g : DG) (t : DT) (a : DE) (vs : List Nat) : DL := fun e m k => di e m fun xs m1 => xs.length ≤ 1000000 ∧ ∃ I : List PyData → List PyData → Mu → Prop, I xs [] m1 ∧
  (∀ x r acc m, I (x :: r) acc m → g (.d x) (wp e vs) m fun e' m' => t e' m' fun b m2 => br b (a e' m2 (plD fun z m3 => I r (acc ++ [z]) m3)) (I r acc m2)) ∧ ∀ acc m, I [] acc m → k acc m
theorem sl_lc {wi : TI} {g : TG} {tt : TT} {te : TE} {vs : List Nat} {di : DI} {dg : DG} {dt : DT} {de : DE} (hi : SI wi di) (hg : SG g dg) (hw : GW g vs) (ht : ST tt dt) (he : SE te de) : SL (tLc wi g tt te vs) (dLc di dg dt de vs) := fun c G pl σ H e m k Q sr d K => by
  refine hi _ _ _ _ _ _ _ _ _ sr d fun xs m1 G1 pl1 H1 J d1 l1 sr1 wk => ?_
  obtain ⟨big, I, i0, step, done⟩ := d1
  intro L hL
  obtain ⟨f1, f2, f3⟩ := sr1.hp.fresh hL
  refine lc_it wk.walk (fun i H' => ∃ G' pl' m' vals acc, Le G1 pl1 m1.length G' pl' m'.length ∧ SR c G' pl' (wipe σ vs) H' (wp e vs) m' ∧ SR c G' pl' σ H' e m' ∧ H' L = some (.lst vals) ∧ DaL G' vals acc ∧ G' L = none ∧ (∀ j o, m'[j]? = some o → L ∉ foot (pl' j) o) ∧ acc.length ≤ i ∧ I (xs.drop i) acc m') ?_ (fun i H' _ p => ?_) (fun i x H' H'' hi p y => ?_) (fun H' p => ?_)
  · have h1 : HR c G1 pl1 (upd H1 L (.lst [])) m1 := sr1.hp.grow fun b x _ e => by rw [upd_ne (ne_of_none e hL)]; exact e
    exact ⟨G1, pl1, m1, [], [], .refl _ _ _, ⟨sr1.env.wipe vs, h1⟩, ⟨sr1.env, h1⟩, upd_same, .nil, f1, f3, Nat.le_refl _, i0⟩
  · obtain ⟨G', pl', m', vals, acc, l, _, s', _⟩ := p
    exact l.g.trans s'.hp.sub
  · obtain ⟨G', pl', m', vals, acc, l, sw, s', hl, ha, hg0, hf0, hn, iv⟩ := p
    obtain ⟨dx, hx, y⟩ := y
    have ex : xs.drop i = dx :: xs.drop (i + 1) := by
      rw [List.drop_eq_getElem_cons hi]
      rw [List.getElem?_eq_getElem hi] at hx
      rw [Option.some.inj hx]
    rw [ex] at iv
    -- from here on
    have here : SR ⟨G', H', fF pl' m', fL pl' m'⟩ G' pl' (wipe σ vs) H' (wp e vs) m' := ⟨sw.env, sw.hp.here⟩
    have nfF : ¬ fF pl' m' L := fun z => by
      obtain ⟨j, o, e1, _, e2⟩ := z
      exact hf0 j o e1 e2
    have nfL : ¬ fL pl' m' L := fun z => by
      obtain ⟨j, o, e1, _, e2⟩ := z
      exact hf0 j o e1 e2
    -- what holds of the new list wherever one comes to
    have safe : ∀ {G3 pl3 H3 m3}, HR ⟨G', H', fF pl' m', fL pl' m'⟩ G3 pl3 H3 m3 → H3 L = some (.lst vals) ∧ G3 L = none ∧ ∀ j o, m3[j]? = some o → L ∉ foot (pl3 j) o := fun {G3 pl3 H3 m3} h => by
      refine ⟨h.h0 L _ nfF nfL hl, ?_, fun j o e1 e2 => ?_⟩
      · cases q : G3 L with
        | none => rfl
        | some o =>
          rcases h.nw L (by rw [q]; exact fun z => nomatch z) with z | z
          · exact absurd hg0 z
          · rw [show H' L = none from z] at hl; cases hl
      · rcases h.own j o L e1 e2 with z | z
        · cases qd : isDrw o with
          | true => rw [qd, if_pos rfl] at z; exact nfF z
          | false => rw [qd, if_neg Bool.false_ne_true] at z; exact nfL z
        · rw [show H' L = none from z] at hl; cases hl
    obtain ⟨G2, l2, s2, r2⟩ := y.sr l.g here
    refine gw_at hw (hg _ _ _ _ _ _ _ _ _ _ _ s2 r2 (step dx _ acc m' iv) fun e3 σ3 G3 pl3 H3 m3 d3 l3 s3 => ?_)
    · refine ht _ _ _ _ _ _ _ _ _ s3 d3 fun b m4 G4 pl4 H4 v4 d4 l4 s4 r4 => ?_
      subst r4
      have lw := (l2.trans l3).trans l4
      refine br_ite ⟨fun z => he _ _ _ _ _ _ _ _ _ s4 (d4.1 z) fun yv m5 G5 pl5 H5 v5 d5 l5 s5 r5 => ?_, fun z => ?_⟩
      · unfold plD at d5
        split at d5
        · rename_i z5
          obtain ⟨h5, g5, n5⟩ := safe s5.hp
          have lt := lw.trans l5
          have hb : HR c G5 pl5 H5 m5 := s'.hp.back s5.hp
          have ho : HR c G5 pl5 (upd H5 L (.lst (vals ++ [v5]))) m5 := hb.grow fun b x hk ex => by
            rw [upd_ne]
            · exact ex
            · intro zb
              subst zb
              rcases hk with hk | hk | hk
              · exact hk g5
              · obtain ⟨j, o, e1, e2⟩ := hk
                exact n5 j o e1 e2
              · exact hk f2
          refine ⟨vals, h5, ?_, G5, pl5, m5, vals ++ [v5], acc ++ [z5], l.trans lt, ⟨(sw.env.le lt), ho⟩, ⟨s'.env.le lt, ho⟩, upd_same, DaL.append (ha.same lt.g) (.cons r5 .nil), g5, n5, ?_, d5⟩
          · rw [ha.length]
            exact Nat.lt_of_le_of_lt hn (Nat.lt_of_lt_of_le hi (bigS big))
          · simp only [List.length_append, List.length_cons, List.length_nil]; omega
        · exact d5.elim
      · obtain ⟨h5, g5, n5⟩ := safe s4.hp
        have hb : HR c G4 pl4 H4 m4 := s'.hp.back s4.hp
        exact ⟨G4, pl4, m4, vals, acc, l.trans lw, ⟨sw.env.le lw, hb⟩, ⟨s'.env.le lw, hb⟩, h5, ha.same lw.g, g5, n5, by omega, d4.2 z⟩
  · obtain ⟨G', pl', m', vals, acc, l, sw, s', hl, ha, hg0, hf0, hn, iv⟩ := p
    rw [List.drop_length] at iv
    exact K acc m' G' pl' H' L vals (done _ _ iv) (l1.trans l) s' hl ha hg0 hf0 f2
/-! ### loops over a list's image -/
theorem map_inv {α : Type} {f : α → PyData} {x : PyData} {r : List PyData} : ∀ {l : List α}, x :: r = l.map f → ∃ a l', l = a :: l' ∧ x = f a ∧ r = l'.map f
  | [], h => by cases h
  | a :: l, h => by
    rw [List.map_cons] at h
    injection h with h1 h2
    exact ⟨a, l, rfl, h1, h2⟩
theorem forL {α : Type} (f : α → PyData) {g : DG} {b : DS} {E : DEnds} {e : DEnv} {m : Mu} (xs : List α) (J : List α → DEnv → Mu → Prop) (h0 : J [] e m)
    (hs : ∀ done x r e m, xs = done ++ x :: r → J done e m → ∀ C : DEnv → Mu → Prop, (∀ e m, J (done ++ [x]) e m → C e m) → g (.d (f x)) e m fun e' m' => b { nx := C, rt := E.rt, bk := E.nx, ct := C } e' m') (hd : ∀ e m, J xs e m → E.nx e m) :
    ∃ I : List PyData → DEnv → Mu → Prop, I (xs.map f) e m ∧ (∀ x r e m, I (x :: r) e m → g (.d x) e m fun e' m' => b { nx := I r, rt := E.rt, bk := E.nx, ct := I r } e' m') ∧ ∀ e m, I [] e m → E.nx e m := by
  refine ⟨fun rest e m => ∃ done r, rest = r.map f ∧ xs = done ++ r ∧ J done e m, ⟨[], xs, rfl, rfl, h0⟩, ?_, ?_⟩
  · rintro x r e m ⟨done, l, h1, h2, hj⟩
    obtain ⟨a, l', rfl, rfl, rfl⟩ := map_inv h1
    exact hs done a l' e m h2 hj _ fun e' m' j => ⟨done ++ [a], l', rfl, by rw [h2, List.append_assoc]; rfl, j⟩
  · rintro e m ⟨done, l, h1, h2, hj⟩
    cases l with
    | nil =>
      rw [List.append_nil] at h2
      subst h2
      exact hd e m hj
    | cons a l => cases h1
/-- a comprehension that draws nothing -/
theorem lcFM {α : Type} (f g : α → PyData) (p : α → Bool) {dg : DG} {dt : DT} {de : DE} {vs : List Nat} {e : DEnv} {m : Mu} {k : List PyData → Mu → Prop} (xs : List α) (hz : xs.length ≤ 1000000)
    (h : ∀ x ∈ xs, ∀ (C : PyData → Mu → Prop) (C0 : Mu → Prop), (p x = true → C (g x) m) → (p x = false → C0 m) → dg (.d (f x)) (wp e vs) m fun e' m' => dt e' m' fun b m2 => br b (de e' m2 (plD C)) (C0 m2)) (hk : k ((xs.filter p).map g) m) :
    (xs.map f).length ≤ 1000000 ∧ ∃ I : List PyData → List PyData → Mu → Prop, I (xs.map f) [] m ∧
      (∀ x r acc m, I (x :: r) acc m → dg (.d x) (wp e vs) m fun e' m' => dt e' m' fun b m2 => br b (de e' m2 (plD fun z m3 => I r (acc ++ [z]) m3)) (I r acc m2)) ∧ ∀ acc m, I [] acc m → k acc m := by
  refine ⟨by rw [List.length_map]; exact hz, fun rest acc m' => m' = m ∧ ∃ done r, rest = r.map f ∧ xs = done ++ r ∧ acc = (done.filter p).map g, ⟨rfl, [], xs, rfl, rfl, rfl⟩, ?_, ?_⟩
  · rintro x r acc m' ⟨rfl, done, l, h1, h2, rfl⟩
    obtain ⟨a, l', rfl, rfl, rfl⟩ := map_inv h1
    refine h a (by rw [h2]; simp) _ _ (fun z => ⟨rfl, done ++ [a], l', rfl, by rw [h2, List.append_assoc]; rfl, ?_⟩) (fun z => ⟨rfl, done ++ [a], l', rfl, by rw [h2, List.append_assoc]; rfl, ?_⟩)
    · rw [List.filter_append, List.filter_cons, if_pos z, List.filter_nil, List.map_append]
      rfl
    · rw [List.filter_append, List.filter_cons, if_neg (by rw [z]; exact Bool.false_ne_true), List.filter_nil, List.append_nil]
  · rintro acc m' ⟨rfl, done, l, h1, h2, rfl⟩
    cases l with
    | nil =>
      rw [List.append_nil] at h2
      subst h2
      exact hk
    | cons a l => cases h1
theorem lcM {α : Type} (f g : α → PyData) {dg : DG} {dt : DT} {de : DE} {vs : List Nat} {e : DEnv} {m : Mu} {k : List PyData → Mu → Prop} (xs : List α) (hz : xs.length ≤ 1000000)
    (h : ∀ x ∈ xs, ∀ (C : PyData → Mu → Prop) (C0 : Mu → Prop), C (g x) m → dg (.d (f x)) (wp e vs) m fun e' m' => dt e' m' fun b m2 => br b (de e' m2 (plD C)) (C0 m2)) (hk : k (xs.map g) m) :
    (xs.map f).length ≤ 1000000 ∧ ∃ I : List PyData → List PyData → Mu → Prop, I (xs.map f) [] m ∧
      (∀ x r acc m, I (x :: r) acc m → dg (.d x) (wp e vs) m fun e' m' => dt e' m' fun b m2 => br b (de e' m2 (plD fun z m3 => I r (acc ++ [z]) m3)) (I r acc m2)) ∧ ∀ acc m, I [] acc m → k acc m :=
  lcFM f g (fun _ => true) xs hz (fun x hx C C0 h1 _ => h x hx C C0 (h1 rfl)) (by rw [List.filter_eq_self.mpr (fun _ _ => rfl)]; exact hk)
end PM

namespace PM
open PySem PySem.Spec PyProof.Rows L2 RZ
/-! ### a list or a tuple, walked -/
def iSeq (K : PySem.W.Frag) (tl : TE) : TI := fun σ H R => tl σ H fun x H1 => ∃ a, x = .ref a ∧ (((∃ xs, SqL K H1 a xs) ∧ R (Itl K a) H1) ∨ ((∃ xs, SqT K H1 a xs) ∧ R (Itt K a) H1))
theorem pi_seq {X : Cx} {tg l : Expr} {tl : TE} (hl : PE X l tl) : PI X tg l (iSeq X.K tl) :=
  ⟨fun pins s σ H R I h => thn (hl.run pins s σ H _ I h) fun v s1 hv => by
    obtain ⟨x, H1, I1, r1, a, rfl, q⟩ := hv
    cases r1
    have new : FpOk X pins H1 s1.heap.objs.size := I1.fpOk (Nat.le_refl _) (I1.hok.fresh (Nat.le_refl _))
    have one : ∀ b ∈ [s1.heap.objs.size], FpOk X pins H1 b := fun b hb => by rw [List.mem_singleton.mp hb]; exact new
    rcases q with ⟨⟨xs, hq⟩, q⟩ | ⟨⟨xs, hq⟩, q⟩
    · obtain ⟨its, rv, il, _⟩ := I1.list hq
      exact wpAny_pyIter_list il.isList ⟨_, [s1.heap.objs.size], _, _, H1, rfl, I1.kept (t' := s1.toks) (fun b o e => Heap.get?_push_of_some _ e), turn_list a _, ⟨_, Heap.get?_push_size _ rfl, rfl, rfl⟩, one, q⟩
    · obtain ⟨its, rv, it, _⟩ := I1.tuple hq
      exact wpAny_pyIter_tuple (items := its.toArray) it ⟨_, [s1.heap.objs.size], _, _, H1, rfl, I1.kept (t' := s1.toks) (fun b o e => Heap.get?_push_of_some _ e), turn_tuple a _, ⟨_, Heap.get?_push_size _ rfl, rfl, rfl⟩, one, q⟩⟩
def diSeq (a : DE) : DI := fun e m k => a e m fun x m1 => match x with
  | .d (.list ds) => k ds m1
  | .d (.tuple ds) => k ds m1
  | _ => False
theorem wk_list {K : PySem.W.Frag} {G : Hp} {a : Addr} {xs : List V} {ds : List PyData} (h : G a = some (.lst xs)) (r : DaL G xs ds) : WK (Itl K a) G ds := by
  have at_ : ∀ {H}, Same G H → SqL K H a xs := fun s => .inl (.inl (s _ _ h))
  refine ⟨fun i H hi s => ⟨xs, xs[i]'(by rw [r.length]; exact hi), at_ s, List.getElem?_eq_getElem _⟩, fun H s => ⟨xs, at_ s, Nat.le_of_eq r.length⟩, fun i H x H' hi s y => ?_⟩
  obtain ⟨d, h1, h2⟩ := r.get i (y.2 xs (at_ s))
  exact ⟨d, h1, .inl ⟨y.1, h2⟩⟩
theorem wk_tup {K : PySem.W.Frag} {G : Hp} {a : Addr} {xs : List V} {ds : List PyData} (h : G a = some (.tup xs)) (r : DaL G xs ds) : WK (Itt K a) G ds := by
  have at_ : ∀ {H}, Same G H → SqT K H a xs := fun s => .inl (.inl (s _ _ h))
  refine ⟨fun i H hi s => ⟨xs, xs[i]'(by rw [r.length]; exact hi), at_ s, List.getElem?_eq_getElem _⟩, fun H s => ⟨xs, at_ s, Nat.le_of_eq r.length⟩, fun i H x H' hi s y => ?_⟩
  obtain ⟨d, h1, h2⟩ := r.get i (y.2 xs (at_ s))
  exact ⟨d, h1, .inl ⟨y.1, h2⟩⟩
theorem si_seq (K : PySem.W.Frag) {te : TE} {de : DE} (h : SE te de) : SI (iSeq K te) (diSeq de) := fun c G pl σ H e m k R sr d KK => h _ _ _ _ _ _ _ _ _ sr d fun x m1 G1 pl1 H1 v1 d1 l1 sr1 r1 => by
  split at d1
  · cases (show Da G1 v1 _ from r1) with
    | lst e1 e2 => exact ⟨_, rfl, .inl ⟨⟨_, .inl (.inl (sr1.hp.sub _ _ e1))⟩, KK _ _ _ _ _ _ d1 l1 sr1 (wk_list e1 e2)⟩⟩
  · cases (show Da G1 v1 _ from r1) with
    | tup e1 e2 => exact ⟨_, rfl, .inr ⟨⟨_, .inl (.inl (sr1.hp.sub _ _ e1))⟩, KK _ _ _ _ _ _ d1 l1 sr1 (wk_tup e1 e2)⟩⟩
  · exact d1.elim
/-! ### ranges -/
def rgD (lo : Int) (n : Nat) : List PyData := (List.range n).map fun i => .int (lo + (i : Nat))
theorem rgD_len (lo : Int) (n : Nat) : (rgD lo n).length = n := by unfold rgD; rw [List.length_map, List.length_range]
theorem wk_range {G : Hp} {lo : Int} {n : Nat} : WK (Itr lo n) G (rgD lo n) := by
  refine ⟨fun i H hi s => by rw [rgD_len] at hi; exact hi, fun H s => by rw [rgD_len]; exact Nat.le_refl _, fun i H x H' hi s y => ?_⟩
  rw [rgD_len] at hi
  obtain ⟨e1, e2⟩ := y
  refine ⟨.int (lo + (i : Nat)), ?_, .inl ⟨e1, by rw [e2]; exact .int _⟩⟩
  unfold rgD
  rw [List.getElem?_map, List.getElem?_range hi]
  rfl
def diRng1 (a : DA) : DI := fun e m k => a e m fun xs m1 => match xs with
  | [.d (.int j)] => (-(2 ^ 62) ≤ j ∧ j < 2 ^ 62) ∧ k (rgD 0 j.toNat) m1
  | _ => False
theorem si_rng1 {ta : TA} {da : DA} (h : SA ta da) : SI (iRng1 ta) (diRng1 da) := fun c G pl σ H e m k R sr d KK => h _ _ _ _ _ _ _ _ _ sr d fun xs m1 G1 pl1 H1 vs d1 l1 sr1 r1 => by
  split at d1
  · cases r1 with
    | cons ra t =>
      cases t
      cases ra.int_inv
      exact ⟨_, rfl, d1.1.1, d1.1.2, KK _ _ _ _ _ _ d1.2 l1 sr1 wk_range⟩
  · exact d1.elim
def diRng2 (a : DA) : DI := fun e m k => a e m fun xs m1 => match xs with
  | [.d (.int i), .d (.int j)] => (-(2 ^ 62) ≤ i ∧ i < 2 ^ 62 ∧ -(2 ^ 62) ≤ j ∧ j < 2 ^ 62) ∧ k (rgD i (j - i).toNat) m1
  | _ => False
theorem si_rng2 {ta : TA} {da : DA} (h : SA ta da) : SI (iRng2 ta) (diRng2 da) := fun c G pl σ H e m k R sr d KK => h _ _ _ _ _ _ _ _ _ sr d fun xs m1 G1 pl1 H1 vs d1 l1 sr1 r1 => by
  split at d1
  · cases r1 with
    | cons ra t =>
      cases t with
      | cons rb t =>
        cases t
        cases ra.int_inv
        cases rb.int_inv
        exact ⟨_, _, rfl, d1.1, KK _ _ _ _ _ _ d1.2 l1 sr1 wk_range⟩
  · exact d1.elim
/-- reversed(range(n)) -/
def rgR (n : Nat) : List PyData := (List.range n).map fun i => .int ((n : Int) - 1 - (i : Nat))
def diRevR (a : DE) : DI := fun e m k => a e m fun x m1 => match x with
  | .d (.int j) => (0 ≤ j ∧ j < 2 ^ 62) ∧ k (rgR j.toNat) m1
  | _ => False
theorem si_revR {ta : TE} {da : DE} (h : SE ta da) : SI (iRevR (tRg1 ta)) (diRevR da) := fun c G pl σ H e m k R sr d KK => h _ _ _ _ _ _ _ _ _ sr d fun x m1 G1 pl1 H1 v1 d1 l1 sr1 r1 => by
  split at d1
  · rename_i j
    cases r1.int_inv
    obtain ⟨⟨j0, j1⟩, d1⟩ := d1
    refine ⟨j, rfl, by decide, by decide, by omega, j1, KK _ _ _ _ _ _ d1 l1 sr1 ?_⟩
    have len : (rgR j.toNat).length = (j - 0).toNat := by unfold rgR; rw [List.length_map, List.length_range]; omega
    refine ⟨fun i H hi s => by rw [len] at hi; exact hi, fun H s => by rw [len]; exact Nat.le_refl _, fun i H x H' hi s y => ?_⟩
    rw [len] at hi
    obtain ⟨e1, e2⟩ := y
    refine ⟨.int ((j.toNat : Int) - 1 - (i : Nat)), ?_, .inl ⟨e1, ?_⟩⟩
    · unfold rgR
      rw [List.getElem?_map, List.getElem?_range (by omega)]
      rfl
    · rw [e2]
      have : 0 + (((j - 0).toNat : Nat) : Int) - 1 + (i : Nat) * (-1) = (j.toNat : Int) - 1 - (i : Nat) := by omega
      rw [this]
      exact .int _
  · exact d1.elim
/-! ### pairs -/
def pairs (xs ys : List PyData) : List PyData := (List.zip xs ys).map fun p => .tuple [p.1, p.2]
def diZip (a : DA) : DI := fun e m k => a e m fun xs m1 => match xs with
  | [.d (.tuple ds), .d (.tuple es)] => ds.length = es.length ∧ k (pairs ds es) m1
  | [.d (.list ds), .d (.list es)] => k (pairs ds es) m1
  | _ => False
theorem pairs_get {ds es : List PyData} {i : Nat} {d d' : PyData} (h1 : ds[i]? = some d) (h2 : es[i]? = some d') : (pairs ds es)[i]? = some (.tuple [d, d']) := by
  unfold pairs
  have hz : (List.zip ds es)[i]? = some (d, d') := by
    rw [List.getElem?_zip_eq_some]
    exact ⟨h1, h2⟩
  rw [List.getElem?_map, hz]
  rfl
theorem pairs_len (ds es : List PyData) : (pairs ds es).length = min ds.length es.length := by
  unfold pairs
  rw [List.length_map, List.length_zip]
theorem si_zip (K : PySem.W.Frag) {ta : TA} {da : DA} (h : SA ta da) : SI (iZipA K ta) (diZip da) := fun c G pl σ H e m k R sr d KK => h _ _ _ _ _ _ _ _ _ sr d fun xs m1 G1 pl1 H1 vs d1 l1 sr1 r1 => by
  split at d1
  · rename_i ds es
    cases r1 with
    | cons ra t =>
      cases t with
      | cons rb t =>
        cases t
        obtain ⟨hz, d1⟩ := d1
        cases (show Da G1 _ (.tuple ds) from ra) with
        | @tup a xs _ e1 e2 =>
          cases (show Da G1 _ (.tuple es) from rb) with
          | @tup b ys _ g1 g2 =>
            refine ⟨_, _, _, _, rfl, .inr ⟨.inl (.inl (sr1.hp.sub _ _ e1)), .inl (.inl (sr1.hp.sub _ _ g1)), KK _ _ _ _ _ _ d1 l1 sr1 ?_⟩⟩
            have w := walk_zipT (K := K) (a := a) (b := b) (xs := xs) (ys := ys) (n := (pairs ds es).length) (by rw [pairs_len, e2.length]; omega) (by rw [pairs_len, g2.length]; omega)
            have st : ∀ {H}, Same G1 H → SqT K H a xs ∧ SqT K H b ys := fun s => ⟨.inl (.inl (s _ _ e1)), .inl (.inl (s _ _ g1))⟩
            refine ⟨fun i H hi s => w.goes i H hi (st s), fun H s => w.stops H (st s), fun i H x H' hi s y => ?_⟩
            obtain ⟨T, x1, y1, q1, q2, q3, q4, q5⟩ := w.yields i H x H' hi (st s) y
            obtain ⟨d, u1, u2⟩ := e2.get i q4
            obtain ⟨d', v1, v2⟩ := g2.get i q5
            exact ⟨_, pairs_get u1 v1, .inr ⟨T, _, _, q1, q2, q3, .cons u2 (.cons v2 .nil), rfl⟩⟩
  · rename_i ds es
    cases r1 with
    | cons ra t =>
      cases t with
      | cons rb t =>
        cases t
        cases (show Da G1 _ (.list ds) from ra) with
        | @lst a xs _ e1 e2 =>
          cases (show Da G1 _ (.list es) from rb) with
          | @lst b ys _ g1 g2 =>
            refine ⟨_, _, _, _, rfl, .inl ⟨.inl (.inl (sr1.hp.sub _ _ e1)), .inl (.inl (sr1.hp.sub _ _ g1)), KK _ _ _ _ _ _ d1 l1 sr1 ?_⟩⟩
            have w := walk_zip (K := K) (a := a) (b := b) (xs := xs) (ys := ys) (n := (pairs ds es).length) (by rw [pairs_len, e2.length, g2.length])
            have st : ∀ {H}, Same G1 H → SqL K H a xs ∧ SqL K H b ys := fun s => ⟨.inl (.inl (s _ _ e1)), .inl (.inl (s _ _ g1))⟩
            refine ⟨fun i H hi s => w.goes i H hi (st s), fun H s => w.stops H (st s), fun i H x H' hi s y => ?_⟩
            obtain ⟨T, x1, y1, q1, q2, q3, q4, q5⟩ := w.yields i H x H' hi (st s) y
            obtain ⟨d, u1, u2⟩ := e2.get i q4
            obtain ⟨d', v1, v2⟩ := g2.get i q5
            exact ⟨_, pairs_get u1 v1, .inr ⟨T, _, _, q1, q2, q3, .cons u2 (.cons v2 .nil), rfl⟩⟩
  · exact d1.elim
def enumD (n : Nat) : List PyData → List PyData
  | [] => []
  | x :: xs => .tuple [.int (n : Nat), x] :: enumD (n + 1) xs
theorem enumD_len : ∀ (n : Nat) (xs : List PyData), (enumD n xs).length = xs.length
  | _, [] => rfl
  | n, _ :: xs => by simp only [enumD, List.length_cons, enumD_len (n + 1) xs]
theorem enumD_get : ∀ (n : Nat) {xs : List PyData} {i : Nat} {d : PyData}, xs[i]? = some d → (enumD n xs)[i]? = some (.tuple [.int ((n + i : Nat) : Int), d])
  | n, [], i, d, h => by simp at h
  | n, x :: xs, 0, d, h => by
    cases h
    rfl
  | n, x :: xs, i + 1, d, h => by
    have := enumD_get (n + 1) (xs := xs) (i := i) (d := d) h
    simp only [enumD, List.getElem?_cons_succ, this]
    rw [show n + 1 + i = n + (i + 1) by omega]
/-! ### calls of built-ins -/
abbrev rLenK (K : PySem.W.Frag) : List V → Hp → VK → Prop := fun xs H Q => ∃ p ys, xs = [.ref p] ∧ (SqL K H p ys ∨ SqT K H p ys) ∧ Q (.int (ys.length : Nat)) H
theorem call_lenK {X : Cx} : CallR X (.builtin "len") (rLenK X.K) := call_len_seq
abbrev rTupK (K : PySem.W.Frag) : List V → Hp → VK → Prop := fun xs H Q => ∃ p ys, xs = [.ref p] ∧ ((SqL K H p ys ∧ ∀ l, H l = none → Q (.ref l) (upd H l (.tup ys))) ∨ (SqT K H p ys ∧ Q (.ref p) H))
theorem call_tupK {X : Cx} : CallR X (.type "tuple") (rTupK X.K) := call_tuple_of
abbrev rListK (K : PySem.W.Frag) : List V → Hp → VK → Prop := fun xs H Q => ∃ p ys, xs = [.ref p] ∧ (SqL K H p ys ∨ SqT K H p ys) ∧ ∀ l, H l = none → Q (.ref l) (upd H l (.lst ys))
theorem call_listK {X : Cx} : CallR X (.type "list") (rListK X.K) := call_list_of
def fLen (m : Mu) (xs : List DV) (k : DV → Prop) : Prop := match xs with
  | [x] => ∃ ds, rdS m x = some ds ∧ k (.d (.int (ds.length : Nat)))
  | _ => False
theorem cs_len (K : PySem.W.Frag) : CaS (rLenK K) fLen := fun c G pl σ H e m xs ds k Q sr r d KK => by
  unfold fLen at d
  split at d
  · cases r with
    | cons ra t =>
      cases t
      obtain ⟨ds, h1, d⟩ := d
      obtain ⟨a, ys, e1, e2, e3⟩ := sr.seq K ra h1
      refine ⟨a, ys, by rw [e1], e2, KK.val sr d ?_⟩
      rw [e3.length]
      exact .int _
  · exact d.elim
def fAbs (m : Mu) (xs : List DV) (k : DV → Prop) : Prop := match xs with
  | [.d (.int i)] => k (.d (.int (if i < 0 then -i else i)))
  | _ => False
theorem cs_abs : CaS (fun xs H Q => ∃ i, xs = [.int i] ∧ Q (.int (if i < 0 then -i else i)) H) fAbs := fun c G pl σ H e m xs ds k Q sr r d KK => by
  unfold fAbs at d
  split at d
  · cases r with
    | cons ra t =>
      cases t
      cases ra.int_inv
      exact ⟨_, rfl, KK.val sr d (show Da G _ _ from .int _)⟩
  · exact d.elim
def fMax2 (m : Mu) (xs : List DV) (k : DV → Prop) : Prop := match xs with
  | [.d (.int i), .d (.int j)] => k (.d (.int (if j > i then j else i)))
  | _ => False
theorem cs_max2 : CaS (fun xs H Q => ∃ i j, xs = [.int i, .int j] ∧ Q (.int (if j > i then j else i)) H) fMax2 := fun c G pl σ H e m xs ds k Q sr r d KK => by
  unfold fMax2 at d
  split at d
  · cases r with
    | cons ra t =>
      cases t with
      | cons rb t =>
        cases t
        cases ra.int_inv
        cases rb.int_inv
        exact ⟨_, _, rfl, KK.val sr d (show Da G _ _ from .int _)⟩
  · exact d.elim
def fMin2 (m : Mu) (xs : List DV) (k : DV → Prop) : Prop := match xs with
  | [.d (.int i), .d (.int j)] => k (.d (.int (if j < i then j else i)))
  | _ => False
theorem cs_min2 : CaS (fun xs H Q => ∃ i j, xs = [.int i, .int j] ∧ Q (.int (if j < i then j else i)) H) fMin2 := fun c G pl σ H e m xs ds k Q sr r d KK => by
  unfold fMin2 at d
  split at d
  · cases r with
    | cons ra t =>
      cases t with
      | cons rb t =>
        cases t
        cases ra.int_inv
        cases rb.int_inv
        exact ⟨_, _, rfl, KK.val sr d (show Da G _ _ from .int _)⟩
  · exact d.elim
/-- int(x) of an int or a bool -/
def fInt1 (m : Mu) (xs : List DV) (k : DV → Prop) : Prop := match xs with
  | [.d (.int i)] => k (.d (.int i))
  | [.d (.bool b)] => k (.d (.int (if b then 1 else 0)))
  | _ => False
theorem cs_int1 : CaS (fun xs H Q => (∃ i, xs = [.int i] ∧ Q (.int i) H) ∨ ∃ k, xs = [.bl k] ∧ Q (.int (if k then 1 else 0)) H) fInt1 := fun c G pl σ H e m xs ds k Q sr r d KK => by
  unfold fInt1 at d
  split at d
  · cases r with
    | cons ra t =>
      cases t
      cases ra.int_inv
      exact .inl ⟨_, rfl, KK.val sr d (show Da G _ _ from .int _)⟩
  · cases r with
    | cons ra t =>
      cases t
      cases ra.bl_inv
      exact .inr ⟨_, rfl, KK.val sr d (show Da G _ _ from .int _)⟩
  · exact d.elim
def fTup (m : Mu) (xs : List DV) (k : DV → Prop) : Prop := match xs with
  | [x] => ∃ ds, rdS m x = some ds ∧ k (.d (.tuple ds))
  | _ => False
theorem cs_tup (K : PySem.W.Frag) : CaS (rTupK K) fTup := fun c G pl σ H e m xs ds k Q sr r d KK => by
  unfold fTup at d
  split at d
  · rename_i x
    cases r with
    | cons ra t =>
      cases t
      obtain ⟨ds, h1, d⟩ := d
      unfold rdS at h1
      split at h1
      · rename_i hz
        cases h1
        unfold rdT at hz
        split at hz
        · cases hz
          cases (show Da G _ (.tuple ds) from ra) with
          | tup e1 e2 => exact ⟨_, _, rfl, .inr ⟨.inl (.inl (sr.hp.sub _ _ e1)), KK.val sr d (show Da G _ _ from .tup e1 e2)⟩⟩
        · cases hz
      · obtain ⟨a, ys, e1, e2, e3⟩ := sr.list ra h1
        exact ⟨a, ys, by rw [e1], .inl ⟨.inl (.inl e2), fun l hl => KK.tup sr hl d e3⟩⟩
  · exact d.elim
/-- list(x) -/
def dListOf (a : DA) : DL := fun e m k => a e m fun xs m1 => match xs with
  | [x] => ∃ ds, rdS m1 x = some ds ∧ k ds m1
  | _ => False
theorem sl_list_of (K : PySem.W.Frag) {ta : TA} {da : DA} (h : SA ta da) : SL (tCB (rListK K) ta) (dListOf da) := fun c G pl σ H e m k Q sr d KK => h _ _ _ _ _ _ _ _ _ sr d fun xs m1 G1 pl1 H1 vs d1 l1 sr1 r1 => by
  split at d1
  · cases r1 with
    | cons ra t =>
      cases t
      obtain ⟨ds, h1, d1⟩ := d1
      obtain ⟨a, ys, e1, e2, e3⟩ := sr1.seq K ra h1
      exact ⟨a, ys, by rw [e1], e2, fun l hl => (KK.le l1).new sr1 hl d1 e3⟩
  · exact d1.elim
/-- list(range(n)) -/
def dListRg (a : DE) : DL := fun e m k => a e m fun x m1 => match x with
  | .d (.int n) => (0 ≤ n ∧ n ≤ 1000000) ∧ k (rgD 0 n.toNat) m1
  | _ => False
theorem DaL_rg (G : Hp) (n : Int) : DaL G (rgV 0 n) (rgD 0 n.toNat) := by
  unfold rgV rgD
  rw [show (n - 0).toNat = n.toNat by omega]
  induction List.range n.toNat with
  | nil => exact .nil
  | cons i l ih => exact .cons (.int _) ih
theorem sl_listRg {ta : TE} {da : DE} (h : SE ta da) : SL (tLstRg (tRg1 ta)) (dListRg da) := fun c G pl σ H e m k Q sr d KK => h _ _ _ _ _ _ _ _ _ sr d fun x m1 G1 pl1 H1 v1 d1 l1 sr1 r1 => by
  split at d1
  · rename_i n
    cases r1.int_inv
    obtain ⟨⟨n0, n1⟩, d1⟩ := d1
    exact ⟨n, rfl, ⟨by decide, by decide, by omega, by omega, by omega⟩, fun q hq => (KK.le l1).new sr1 hq d1 (DaL_rg G1 n)⟩
  · exact d1.elim
/-- isinstance(x, T) -/
def isD : DV → Option PyData
  | .d x => some x
  | .p _ => none
  | .dic _ => none
  | .any _ => none
def dIsi (q : PyData → Bool) (a : DE) : DE := fun e m k => a e m fun x m1 => match x with
  | .d y => k (.d (.bool (q y))) m1
  | _ => False
theorem se_isi (K : PySem.W.Frag) {T : String} {q : PyData → Bool} (kit : ∀ {H : Hp} {v : V} {d : PyData}, Da H v d → PySem.W.kitOne K (.type (tn d)) (.type T) = some (q d)) {ta : TE} {da : DE} (h : SE ta da) : SE (tCB (rIsi K) (tCons ta (tCons (tC (.ty T)) tNil))) (dIsi q da) :=
  fun c G pl σ H e m k Q sr d KK => h _ _ _ _ _ _ _ _ _ sr d fun x m1 G1 pl1 H1 v1 d1 l1 sr1 r1 => by
    split at d1
    · have hv := Da.same sr1.hp.sub (show Da G1 v1 _ from r1)
      exact ⟨v1, .ty T, _, _, _, rfl, .ty T, hv.ty, kit hv, (KK.le l1).val sr1 d1 (show Da G1 _ _ from .bl _)⟩
    · exact d1.elim
theorem se_isT (K : PySem.W.Frag) {ta : TE} {da : DE} (h : SE ta da) : SE (tCB (rIsi K) (tCons ta (tCons (tC (.ty "tuple")) tNil))) (dIsi isT da) := se_isi K kitT h
theorem se_isB (K : PySem.W.Frag) {ta : TE} {da : DE} (h : SE ta da) : SE (tCB (rIsi K) (tCons ta (tCons (tC (.ty "bool")) tNil))) (dIsi isB da) := se_isi K kitBo h
theorem se_isI (K : PySem.W.Frag) {ta : TE} {da : DE} (h : SE ta da) : SE (tCB (rIsi K) (tCons ta (tCons (tC (.ty "int")) tNil))) (dIsi isI da) := se_isi K kitI h
theorem se_isS (K : PySem.W.Frag) {ta : TE} {da : DE} (h : SE ta da) : SE (tCB (rIsi K) (tCons ta (tCons (tC (.ty "str")) tNil))) (dIsi isS da) := se_isi K kitS h
/-- sum of a list of ints -/
def fSum (m : Mu) (xs : List DV) (k : DV → Prop) : Prop := match xs with
  | [x] => ∃ is : List Int, rdL m x = some (is.map PyData.int) ∧ k (.d (.int is.sum))
  | _ => False
theorem cs_sum (K : PySem.W.Frag) : CaS (rSum K) fSum := fun c G pl σ H e m xs ds k Q sr r d KK => by
  unfold fSum at d
  split at d
  · cases r with
    | cons ra t =>
      cases t
      obtain ⟨is, h1, d⟩ := d
      obtain ⟨a, ys, e1, e2, e3⟩ := sr.list ra h1
      cases e3.ints
      exact ⟨a, is, by rw [e1], .inl (.inl e2), KK.val sr d (show Da G _ _ from .int _)⟩
  · exact d.elim
/-- all, any of a list of bools -/
theorem DaL.bools {G : Hp} : ∀ {bs : List Bool} {xs : List V}, DaL G xs (bs.map PyData.bool) → xs = bs.map V.bl
  | [], _, .nil => rfl
  | b :: bs, _, .cons h t => by
    cases h
    rw [DaL.bools t]
    rfl
def fAll (m : Mu) (xs : List DV) (k : DV → Prop) : Prop := match xs with
  | [x] => ∃ bs : List Bool, rdL m x = some (bs.map PyData.bool) ∧ k (.d (.bool (bs.all id)))
  | _ => False
theorem cs_all (K : PySem.W.Frag) : CaS (rAll K) fAll := fun c G pl σ H e m xs ds k Q sr r d KK => by
  unfold fAll at d
  split at d
  · cases r with
    | cons ra t =>
      cases t
      obtain ⟨bs, h1, d⟩ := d
      obtain ⟨a, ys, e1, e2, e3⟩ := sr.list ra h1
      cases e3.bools
      exact ⟨a, bs, by rw [e1], .inl (.inl e2), KK.val sr d (show Da G _ _ from .bl _)⟩
  · exact d.elim
end PM

namespace PM
open PySem PySem.Spec PyProof.Rows L2 RZ
/-! ### promises of defs -/
def noPl : Nat → Pl := fun _ => ⟨0, 0, 0⟩
def Frs (G H G' : Hp) : Prop := ∀ b, G' b ≠ none → G b ≠ none ∨ H b = none
abbrev SpP := List PyData → (DV → Prop) → Prop
abbrev SpN := Nat → List PyData → (DV → Nat → Prop) → Prop
/-- a def that draws no numbers -/
def prP (S : SpP) : Sp := fun vs H Q _ => ∃ G ds k, Same G H ∧ DaL G vs ds ∧ S ds k ∧
  ∀ dv G' H' v, k dv → Same G G' → Same G' H' → Same H H' → Frs G H G' → RV G' noPl 0 v dv → Q v H'
/-- a def whose first argument are the drawn numbers -/
def prN (S : SpN) : Sp := fun vs H Q _ => ∃ G a c r j ws ds k, vs = .ref a :: ws ∧ Drw H a c r j ∧ G a = none ∧ G c = none ∧ G r = none ∧ Same G H ∧ DaL G ws ds ∧ S j ds k ∧
  ∀ dv j' G' H' v, k dv j' → Same G G' → Same G' H' → (∀ b o, b ≠ a → b ≠ c → b ≠ r → H b = some o → H' b = some o) → (∀ b, H b ≠ none → H' b ≠ none) → Frs G H G' → Drw H' a c r j' → RV G' noPl 0 v dv → Q v H'
theorem RV.any {G : Hp} {pl : Nat → Pl} {n : Nat} {v : V} {dv : DV} (h : RV G noPl 0 v dv) : RV G pl n v dv := h.le ⟨.refl G, fun i hi => absurd hi (Nat.not_lt_zero i), Nat.zero_le n⟩
theorem RV.none {G : Hp} {pl : Nat → Pl} {n : Nat} {v : V} {dv : DV} (h : RV G pl n v dv) (np : ∀ i, dv ≠ .p i) : RV G noPl 0 v dv := by
  cases dv with
  | d x => exact h
  | dic kvs => exact h
  | any f => exact h
  | p i => exact absurd rfl (np i)
/-! ### calls -/
def dCallP (S : SpP) (a : DA) : DE := fun e m k => a e m fun xs m1 => match plains xs with
  | some ds => S ds fun z => k z m1
  | none => False
theorem HR.pure {c : Fr0} {G H G' H' : Hp} {pl : Nat → Pl} {m : Mu} (h : HR c G pl H m) (g : Same G G') (s : Same G' H') (hh : Same H H') (f : Frs G H G') : HR c G' pl H' m where
  sub := s
  mo := fun i o e => (h.mo i o e).keep g fun b x _ q => hh _ _ q
  out := fun i o b e q => by
    cases z : G' b with
    | none => rfl
    | some x =>
      rcases f b (by rw [z]; exact fun w => nomatch w) with w | w
      · exact absurd (h.out i o b e q) w
      · exact absurd w (h.standF e q)
  own := h.own
  dj := h.dj
  g0 := h.g0.trans g
  h0 := fun b o n1 n2 e => hh _ _ (h.h0 b o n1 n2 e)
  up := fun b e => by
    have q := h.up b e
    cases z : H b with
    | none => exact absurd z q
    | some x => rw [hh _ _ z]; exact fun w => nomatch w
  nw := fun b e => by
    rcases f b e with w | w
    · exact h.nw b w
    · refine .inr ?_
      cases z : c.H b with
      | none => rfl
      | some x => exact absurd w (h.up b (by rw [z]; exact fun w => nomatch w))
theorem se_callP {S : SpP} {E : XK} {ta : TA} {da : DA} (h : SA ta da) : SE (tCall (prP S) [] E ta) (dCallP S da) := fun c G pl σ H e m k Q sr d K => h _ _ _ _ _ _ _ _ _ sr d fun xs m1 G1 pl1 H1 vs d1 l1 sr1 r1 => by
  split at d1
  · rename_i ds q
    refine ⟨G1, ds, _, sr1.hp.sub, ?_, d1, fun dv G' H' v hk g s hh f r => ?_⟩
    · rw [List.append_nil]
      exact r1.plain q
    · have l2 : Le G1 pl1 m1.length G' pl1 m1.length := ⟨g, fun _ _ => rfl, Nat.le_refl _⟩
      exact K _ _ _ _ _ _ hk (l1.trans l2) ⟨sr1.env.le l2, sr1.hp.pure g s hh f⟩ r.any
  · exact d1.elim
def dCallN (S : SpN) (a : DA) : DE := fun e m k => a e m fun xs m1 => match xs, m1 with
  | .p 0 :: r, .drw j :: ms => match plains r with
    | some ds => S j ds fun z j' => k z (.drw j' :: ms)
    | none => False
  | _, _ => False
theorem HR.drawn {c : Fr0} {G H G' H' : Hp} {pl : Nat → Pl} {j j' : Nat} {ms : Mu} (h : HR c G pl H (.drw j :: ms)) (g : Same G G') (s : Same G' H') (hh : ∀ b o, b ≠ (pl 0).a → b ≠ (pl 0).c → b ≠ (pl 0).r → H b = some o → H' b = some o) (hu : ∀ b, H b ≠ none → H' b ≠ none) (f : Frs G H G')
    (dr : Drw H' (pl 0).a (pl 0).c (pl 0).r j') : HR c G' pl H' (.drw j' :: ms) := by
  have e0 : (MO.drw j :: ms)[0]? = some (.drw j) := rfl
  have mem : ∀ b, b ∈ foot (pl 0) (.drw j) ↔ b = (pl 0).a ∨ b = (pl 0).c ∨ b = (pl 0).r := fun b => by simp [foot]
  have old : ∀ i o, (MO.drw j' :: ms)[i]? = some o → (i = 0 ∧ o = .drw j') ∨ (i ≠ 0 ∧ (MO.drw j :: ms)[i]? = some o) := fun i o e => by
    cases i with
    | zero => cases e; exact .inl ⟨rfl, rfl⟩
    | succ i => exact .inr ⟨Nat.succ_ne_zero _, e⟩
  have gone : ∀ i o b, (MO.drw j :: ms)[i]? = some o → b ∈ foot (pl i) o → G' b = none := fun i o b e q => by
    cases z : G' b with
    | none => rfl
    | some x =>
      rcases f b (by rw [z]; exact fun w => nomatch w) with w | w
      · exact absurd (h.out i o b e q) w
      · exact absurd w (h.standF e q)
  refine ⟨s, fun i o e => ?_, fun i o b e q => ?_, fun i o b e q => ?_, fun i i' o o' b ne e1 e2 q1 q2 => ?_, h.g0.trans g, fun b o n1 n2 e => ?_, fun b e => hu b (h.up b e), fun b e => ?_⟩
  · rcases old i o e with ⟨rfl, rfl⟩ | ⟨ne, e⟩
    · exact dr
    · refine (h.mo i o e).keep g fun b x q e' => hh b x (fun z => ?_) (fun z => ?_) (fun z => ?_) e'
      · exact h.dj 0 i _ o b (Ne.symm ne) e0 e ((mem b).mpr (.inl z)) q
      · exact h.dj 0 i _ o b (Ne.symm ne) e0 e ((mem b).mpr (.inr (.inl z))) q
      · exact h.dj 0 i _ o b (Ne.symm ne) e0 e ((mem b).mpr (.inr (.inr z))) q
  · rcases old i o e with ⟨rfl, rfl⟩ | ⟨ne, e⟩
    · exact gone 0 _ b e0 q
    · exact gone i o b e q
  · rcases old i o e with ⟨rfl, rfl⟩ | ⟨ne, e⟩
    · exact h.own 0 (.drw j) b e0 q
    · exact h.own i o b e q
  · rcases old i o e1 with ⟨z1, w1⟩ | ⟨n1, g1⟩ <;> rcases old i' o' e2 with ⟨z2, w2⟩ | ⟨n2, g2⟩
    · exact ne (z1.trans z2.symm)
    · subst z1 w1
      exact h.dj 0 i' _ o' b ne e0 g2 q1 q2
    · subst z2 w2
      exact h.dj i 0 o _ b ne g1 e0 q1 q2
    · exact h.dj i i' o o' b ne g1 g2 q1 q2
  · have q := h.h0 b o n1 n2 e
    have no : b ∉ foot (pl 0) (.drw j) := fun z => by
      have := h.own 0 _ b e0 z
      rw [show isDrw (.drw j) = true from rfl, if_pos rfl, e] at this
      rcases this with w | w
      · exact n1 w
      · cases w
    exact hh b o (fun z => no ((mem b).mpr (.inl z))) (fun z => no ((mem b).mpr (.inr (.inl z)))) (fun z => no ((mem b).mpr (.inr (.inr z)))) q
  · rcases f b e with w | w
    · exact h.nw b w
    · refine .inr ?_
      cases z : c.H b with
      | none => rfl
      | some x => exact absurd w (h.up b (by rw [z]; exact fun w => nomatch w))
theorem se_callN {S : SpN} {E : XK} {ta : TA} {da : DA} (h : SA ta da) : SE (tCall (prN S) [] E ta) (dCallN S da) := fun c G pl σ H e m k Q sr d K => h _ _ _ _ _ _ _ _ _ sr d fun xs m1 G1 pl1 H1 vs d1 l1 sr1 r1 => by
  split at d1
  · rename_i r j ms
    cases r1 with
    | cons rp rr =>
      split at d1
      · rename_i ds q
        rw [List.append_nil]
        have e0 : (MO.drw j :: ms)[0]? = some (.drw j) := rfl
        refine ⟨G1, (pl1 0).a, (pl1 0).c, (pl1 0).r, j, _, ds, _, by rw [rp.2], sr1.hp.mo 0 _ e0, sr1.hp.out 0 _ _ e0 (by simp [foot]), sr1.hp.out 0 _ _ e0 (by simp [foot]), sr1.hp.out 0 _ _ e0 (by simp [foot]), sr1.hp.sub, rr.plain q, d1, fun dv j' G' H' v hk g s hh hu f dr r => ?_⟩
        have l2 : Le G1 pl1 (MO.drw j :: ms).length G' pl1 (MO.drw j' :: ms).length := ⟨g, fun _ _ => rfl, Nat.le_refl _⟩
        exact K _ _ _ _ _ _ hk (l1.trans l2) ⟨sr1.env.le l2, sr1.hp.drawn g s hh hu f dr⟩ r.any
      · exact d1.elim
  · exact d1.elim
/-! ### a def's body -/
def dStart (n : Nat) (ds : List DV) : DEnv := ds.map some ++ List.replicate (n - ds.length) none
theorem lk_append : ∀ (xs ys : DEnv) (i : Nat), lk (xs ++ ys) i = if i < xs.length then lk xs i else lk ys (i - xs.length)
  | [], ys, i => by simp
  | x :: xs, ys, 0 => by simp [lk]
  | x :: xs, ys, i + 1 => by simp [lk, lk_append xs ys i]
theorem lk_none : ∀ (n i : Nat), lk (List.replicate n none) i = none
  | 0, i => rfl
  | n + 1, 0 => rfl
  | n + 1, i + 1 => lk_none n i
theorem lk_map : ∀ (ds : List DV) (i : Nat) (dv : DV), lk (ds.map some) i = some dv → ds[i]? = some dv
  | [], i, dv, h => by cases h
  | x :: xs, 0, dv, h => by cases h; rfl
  | x :: xs, i + 1, dv, h => lk_map xs i dv h
theorem RVs.get {G : Hp} {pl : Nat → Pl} {n : Nat} : ∀ {vs : List V} {ds : List DV} {i : Nat} {dv : DV}, RVs G pl n vs ds → ds[i]? = some dv → ∃ v, vs[i]? = some v ∧ RV G pl n v dv
  | _, _, i, _, .nil, e => by simp at e
  | _, _, 0, _, .cons h t, e => by
    cases e
    exact ⟨_, rfl, h⟩
  | _, _, i + 1, _, .cons h t, e => RVs.get (i := i) t e
theorem ER.start {G : Hp} {pl : Nat → Pl} {n : Nat} {N : List Str} {vs : List V} {ds : List DV} (r : RVs G pl n vs ds) : ER G pl n (L2.start N vs) (dStart N.length ds) := by
  refine ⟨?_, fun i dv h => ?_⟩
  · unfold L2.start dStart
    simp only [List.length_append, List.length_map, List.length_replicate, r.length]
  · unfold dStart at h
    rw [lk_append] at h
    split at h
    · obtain ⟨v, h1, h2⟩ := r.get (lk_map _ _ _ h)
      refine ⟨v, ?_, h2⟩
      unfold L2.start
      have hi : i < vs.length := by
        rcases Nat.lt_or_ge i vs.length with z | z
        · exact z
        · rw [List.getElem?_eq_none z] at h1; cases h1
      rw [List.getElem?_append_left (by rw [List.length_map]; exact hi), List.getElem?_map, h1]
      rfl
    · rw [lk_none] at h
      cases h
/-- what a def hands back is no object that it still changes -/
def rtP (k : DV → Prop) : DV → Option Nat → Prop := fun x _ => match x with
  | .p _ => False
  | .d y => k (.d y)
  | .dic y => k (.dic y)
  | .any y => k (.any y)
def rtN (k : DV → Nat → Prop) : DV → Option Nat → Prop := fun x o => match x, o with
  | .p _, _ => False
  | _, none => False
  | .d y, some n => k (.d y) n
  | .dic y, some n => k (.dic y) n
  | .any y, some n => k (.any y) n
theorem rtP_inv {k : DV → Prop} {x : DV} {o : Option Nat} (h : rtP k x o) : (∀ i, x ≠ .p i) ∧ k x := by
  cases x with
  | p i => exact h.elim
  | d y => exact ⟨(fun i z => by cases z), h⟩
  | dic y => exact ⟨(fun i z => by cases z), h⟩
  | any y => exact ⟨(fun i z => by cases z), h⟩
theorem rtN_inv {k : DV → Nat → Prop} {x : DV} {o : Option Nat} (h : rtN k x o) : (∀ i, x ≠ .p i) ∧ ∃ n, o = some n ∧ k x n := by
  cases x with
  | p i => exact h.elim
  | d y =>
    cases o with
    | none => exact h.elim
    | some n => exact ⟨(fun i z => by cases z), n, rfl, h⟩
  | dic y =>
    cases o with
    | none => exact h.elim
    | some n => exact ⟨(fun i z => by cases z), n, rfl, h⟩
  | any y =>
    cases o with
    | none => exact h.elim
    | some n => exact ⟨(fun i z => by cases z), n, rfl, h⟩
/-- the ends of a def that draws no numbers -/
def eP (k : DV → Prop) : DEnds := { nx := fun _ _ => k (.d .none), rt := rtP k, bk := fun _ _ => False, ct := fun _ _ => False }
theorem runP {t : TS} {d : DS} {N : List Str} {vs : List V} {ds : List PyData} {k : DV → Prop} {G H : Hp} {Q : VK} (h : SS t d) (sub : Same G H) (r : DaL G vs ds)
    (K : ∀ dv G' H' v, k dv → Same G G' → Same G' H' → Same H H' → Frs G H G' → RV G' noPl 0 v dv → Q v H')
    (hd : d (eP k) (dStart N.length (ds.map DV.d)) []) : t { nx := fun _ H' => Q .non H', rt := Q } (L2.start N vs) H := by
  have hr : HR ⟨G, H, fun _ => False, fun _ => False⟩ G noPl H [] := ⟨sub, fun i o e => by simp at e, fun i o b e => by simp at e, fun i o b e => by simp at e, fun i j o o' b _ e => by simp at e, .refl G, fun b o _ _ e => e, fun b e => e, fun b e => .inl e⟩
  refine h _ _ _ _ _ _ _ _ _ (fun b z => z) ⟨ER.start (.ofL r), hr⟩ hd ⟨fun G' pl' σ' H' e' m' q l sr => ?_, fun dv m' G' pl' H' v q l hr' rv => ?_, fun _ _ _ _ _ _ q => q.elim, fun _ _ _ _ _ _ q => q.elim⟩
  · exact K (.d .none) G' H' .non q l.g sr.hp.sub (fun b o e => sr.hp.h0 b o id id e) sr.hp.nw (show Da G' .non .none from .non)
  · obtain ⟨np, q⟩ := rtP_inv (k := k) (o := dN m') q
    exact K dv G' H' v q l.g hr'.sub (fun b o e => hr'.h0 b o id id e) hr'.nw (rv.none np)
/-- the ends of a def that draws -/
def eN (k : DV → Nat → Prop) : DEnds := { nx := fun _ m => rtN k (.d .none) (dN m), rt := rtN k, bk := fun _ _ => False, ct := fun _ _ => False }
theorem runN {t : TS} {d : DS} {N : List Str} {a c r : Addr} {j : Nat} {ws : List V} {ds : List PyData} {k : DV → Nat → Prop} {G H : Hp} {Q : VK} (h : SS t d) (dr : Drw H a c r j) (ga : G a = none) (gc : G c = none) (gr : G r = none) (sub : Same G H) (rs : DaL G ws ds)
    (K : ∀ dv j' G' H' v, k dv j' → Same G G' → Same G' H' → (∀ b o, b ≠ a → b ≠ c → b ≠ r → H b = some o → H' b = some o) → (∀ b, H b ≠ none → H' b ≠ none) → Frs G H G' → Drw H' a c r j' → RV G' noPl 0 v dv → Q v H')
    (hd : d (eN k) (dStart N.length (.p 0 :: ds.map DV.d)) [.drw j]) : t { nx := fun _ H' => Q .non H', rt := Q } (L2.start N (.ref a :: ws)) H := by
  have one : ∀ i o, ([MO.drw j] : Mu)[i]? = some o → i = 0 ∧ o = .drw j := fun i o e => by
    cases i with
    | zero => cases e; exact ⟨rfl, rfl⟩
    | succ i => simp at e
  have mem : ∀ b, b ∈ foot ⟨a, c, r⟩ (.drw j) ↔ b = a ∨ b = c ∨ b = r := fun b => by simp [foot]
  have hr : HR ⟨G, H, fun b => b = a ∨ b = c ∨ b = r, fun _ => False⟩ G (fun _ => ⟨a, c, r⟩) H [.drw j] := by
    refine ⟨sub, fun i o e => ?_, fun i o b e f => ?_, fun i o b e f => ?_, fun i i' o o' b ne e e' => ?_, .refl G, fun b o _ _ e => e, fun b e => e, fun b e => .inl e⟩
    · obtain ⟨rfl, rfl⟩ := one i o e
      exact dr
    · obtain ⟨rfl, rfl⟩ := one i o e
      rcases (mem b).mp f with z | z | z <;> rw [z]
      · exact ga
      · exact gc
      · exact gr
    · obtain ⟨rfl, rfl⟩ := one i o e
      exact .inl ((mem b).mp f)
    · obtain ⟨rfl, _⟩ := one i o e
      obtain ⟨rfl, _⟩ := one i' o' e'
      exact absurd rfl ne
  have fin : ∀ {dv : DV} {m' : Mu} {G' : Hp} {pl' : Nat → Pl} {H' : Hp} {v : V}, rtN k dv (dN m') → Le G (fun _ => ⟨a, c, r⟩) ([MO.drw j] : Mu).length G' pl' m'.length → HR ⟨G, H, fun b => b = a ∨ b = c ∨ b = r, fun _ => False⟩ G' pl' H' m' → RV G' pl' m'.length v dv → Q v H' := fun {dv m' G' pl' H' v} q l hr' rv => by
    obtain ⟨np, j', ej, q2⟩ := rtN_inv q
    obtain ⟨ms, rfl⟩ := dN_inv ej
    have d' := hr'.mo 0 (.drw j') rfl
    rw [l.p 0 (Nat.zero_lt_one)] at d'
    exact K dv j' G' H' v q2 l.g hr'.sub (fun b o n1 n2 n3 e => hr'.h0 b o (fun z => by rcases z with z | z | z; exact n1 z; exact n2 z; exact n3 z) id e) hr'.up hr'.nw d' (rv.none np)
  refine h _ _ _ _ _ _ _ _ _ (fun b z => z) ⟨ER.start (.cons (show RV G (fun _ => ⟨a, c, r⟩) ([MO.drw j] : Mu).length (.ref a) (.p 0) from ⟨Nat.zero_lt_one, rfl⟩) (.ofL rs)), hr⟩ hd ⟨fun G' pl' σ' H' e' m' q l sr => ?_, fun dv m' G' pl' H' v q l hr' rv => fin q l hr' rv, fun _ _ _ _ _ _ q => q.elim, fun _ _ _ _ _ _ q => q.elim⟩
  exact fin q l sr.hp (show RV G' pl' m'.length .non (.d .none) from .non)
end PM

namespace PM
open PySem PySem.Spec PyProof.Rows L2 RZ
section
variable {X : Cx}
/-! ### + and * of any kind -/
def rAddA (K : PySem.W.Frag) : R2 := fun x y H Q => rI0 (fun i j => .int (i + j)) x y H Q ∨ rCat x y H Q ∨ rCatA K x y H Q
theorem op_addA : OpR X (binaryOp .Add) (rAddA X.K) := op_add.or (op_cat.or op_catA)
def rMulA (K : PySem.W.Frag) : R2 := fun x y H Q => rI CMulW (fun i j => .int (i * j)) x y H Q ∨ rRep x y H Q
theorem op_mulA : OpR X (binaryOp .Mult) (rMulA X.K) := op_mulW.or op_rep
def rEqA (K : PySem.W.Frag) : R2 := fun x y H Q => rEq x y H Q ∨ rEqD K x y H Q
def rNeA (K : PySem.W.Frag) : R2 := fun x y H Q => rNe x y H Q ∨ rNeD K x y H Q
theorem op_eqA (hu : X.A.units + 64 < cLine) : OpR X (compareOp .Eq) (rEqA X.K) := op_eq.or (op_eqD hu)
theorem op_neA (hu : X.A.units + 64 < cLine) : OpR X (compareOp .NotEq) (rNeA X.K) := op_ne.or (op_neD hu)
def rSlS (K : PySem.W.Frag) : V → Option Int → Option Int → Hp → VK → Prop := fun x lo hi H Q => rSlL K x lo hi H Q ∨ rSlA K x lo hi H Q
theorem sl_seq : SlR X (rSlS X.K) := sl_list.or sl_tupA
end
def fAddA (m : Mu) (x y : DV) (k : DV → Prop) : Prop := match x, y with
  | .d (.int i), .d (.int j) => k (.d (.int (i + j)))
  | .d (.tuple xs), .d (.tuple ys) => xs.length + ys.length ≤ 1000000 ∧ k (.d (.tuple (xs ++ ys)))
  | x, y => ∃ xs ys, rdL m x = some xs ∧ rdL m y = some ys ∧ xs.length + ys.length ≤ 1000000 ∧ k (.d (.list (xs ++ ys)))
theorem DaL.nil_iff {G : Hp} {xs : List V} {ds : List PyData} (h : DaL G xs ds) : xs = [] ↔ ds = [] := by
  cases h <;> simp
theorem os_addA (K : PySem.W.Frag) : OpS (rAddA K) fAddA := fun c G pl σ H e m x y dx dy k Q sr rx ry d KK => by
  unfold fAddA at d
  split at d
  · exact .inl ⟨_, _, rx.int_inv, ry.int_inv, KK.val sr d (show Da G _ _ from .int _)⟩
  · obtain ⟨hz, d⟩ := d
    cases (show Da G x _ from rx) with
    | @tup a xs' _ e1 e2 =>
      cases (show Da G y _ from ry) with
      | @tup b ys' _ g1 g2 =>
        refine .inr (.inr ⟨a, b, _, _, rfl, rfl, .inl (.inl (sr.hp.sub _ _ e1)), .inl (.inl (sr.hp.sub _ _ g1)), by rw [e2.length, g2.length]; exact bigS hz, fun z => ?_, fun z1 z2 => ?_, fun _ _ p hp => ?_⟩)
        · have := e2.nil_iff.mp z
          subst this
          exact KK.val sr d (show Da G _ _ from .tup g1 g2)
        · have := g2.nil_iff.mp z2
          subst this
          rw [List.append_nil] at d
          exact KK.val sr d (show Da G _ _ from .tup e1 e2)
        · exact KK.tup sr hp d (DaL.append e2 g2)
  · obtain ⟨xs, ys, h1, h2, hz, d⟩ := d
    obtain ⟨a, us, e1, e2, e3⟩ := sr.list rx h1
    obtain ⟨b, ws, g1, g2, g3⟩ := sr.list ry h2
    exact .inr (.inl ⟨a, b, us, ws, e1, g1, e2, g2, by rw [e3.length, g3.length]; exact bigS hz, fun p hp => KK.lst sr hp d (DaL.append e3 g3)⟩)
theorem DaL.rep {G : Hp} {xs : List V} {ds : List PyData} (h : DaL G xs ds) : ∀ n : Nat, DaL G (List.replicate n xs).flatten (List.replicate n ds).flatten
  | 0 => .nil
  | n + 1 => by
    rw [List.replicate_succ, List.replicate_succ, List.flatten_cons, List.flatten_cons]
    exact DaL.append h (DaL.rep h n)
def fMulA (m : Mu) (x y : DV) (k : DV → Prop) : Prop := match x, y with
  | .d (.int i), .d (.int j) => CMulW i j ∧ k (.d (.int (i * j)))
  | x, .d (.int j) => ∃ xs, rdL m x = some xs ∧ (-(2 ^ 63) ≤ j ∧ j < 2 ^ 63) ∧ xs.length * j.toNat ≤ 1000000 ∧ k (.d (.list (List.replicate j.toNat xs).flatten))
  | _, _ => False
theorem os_mulA (K : PySem.W.Frag) : OpS (rMulA K) fMulA := fun c G pl σ H e m x y dx dy k Q sr rx ry d KK => by
  unfold fMulA at d
  split at d
  · exact .inl ⟨_, _, rx.int_inv, ry.int_inv, d.1, KK.val sr d.2 (show Da G _ _ from .int _)⟩
  · obtain ⟨xs, h1, hj, hz, d⟩ := d
    obtain ⟨a, us, e1, e2, e3⟩ := sr.list rx h1
    exact .inr ⟨a, _, us, e1, ry.int_inv, e2, hj.1, hj.2, by rw [e3.length]; exact bigS hz, fun p hp => KK.lst sr hp d (e3.rep _)⟩
  · exact d.elim
/-! ### a value as data -/
def rdV (m : Mu) : DV → Option PyData
  | .d x => some x
  | .p i => match m[i]? with
    | some (.lst ds) => some (.list ds)
    | _ => none
  | .dic _ => none
  | .any _ => none
theorem SR.data {c : Fr0} {G H : Hp} {pl : Nat → Pl} {σ : L2.St} {e : DEnv} {m : Mu} (sr : SR c G pl σ H e m) {v : V} {dv : DV} {d : PyData} (r : RV G pl m.length v dv) (h : rdV m dv = some d) : Da H v d := by
  cases dv with
  | d x => cases h; exact Da.same sr.hp.sub r
  | dic kvs => cases h
  | any f => cases h
  | p i =>
    simp only [rdV] at h
    split at h
    · rename_i ds q
      cases h
      obtain ⟨xs, h1, h2⟩ := sr.hp.mo _ _ q
      rw [r.2]
      exact .lst h1 (h2.same sr.hp.sub)
    · cases h
def eqB : PyData → PyData → Bool
  | .int i, .int j => decide (i = j)
  | .str x, .str y => decide (x = y)
  | x, y => PyData.eqv x y
def eqOk : PyData → PyData → Prop
  | .int _, .int _ => True
  | .str _, .str _ => True
  | x, y => SeqAt.shaped x = true ∧ SeqAt.shaped y = true
def fEq (m : Mu) (x y : DV) (k : DV → Prop) : Prop := match rdV m x, rdV m y with
  | some a, some b => eqOk a b ∧ k (.d (.bool (eqB a b)))
  | _, _ => False
def fNe (m : Mu) (x y : DV) (k : DV → Prop) : Prop := match rdV m x, rdV m y with
  | some a, some b => eqOk a b ∧ k (.d (.bool (!eqB a b)))
  | _, _ => False
theorem shaped_nd {d : PyData} (h : SeqAt.shaped d = true) : d.hasDict = false := by
  have h1 : d.canLay0 = true := (Bool.and_eq_true_iff.mp h).1
  exact canLay0_nd h1
where
  canLay0_nd : ∀ {d : PyData}, d.canLay0 = true → d.hasDict = false
    | .none, _ => rfl
    | .bool _, _ => rfl
    | .int _, _ => rfl
    | .str _, _ => rfl
    | .list ds, h => by
      unfold PyData.canLay0 at h
      unfold PyData.hasDict
      exact canLayAll0_nd h
    | .tuple ds, h => by
      unfold PyData.canLay0 at h
      unfold PyData.hasDict
      exact canLayAll0_nd h
    | .dict _, h => by
      unfold PyData.canLay0 at h
      cases h
  canLayAll0_nd : ∀ {ds : List PyData}, PyData.canLayAll0 ds = true → PyData.hasDictAll ds = false
    | [], _ => rfl
    | d :: ds, h => by
      unfold PyData.canLayAll0 at h
      unfold PyData.hasDictAll
      rw [canLay0_nd (Bool.and_eq_true_iff.mp h).1, canLayAll0_nd (Bool.and_eq_true_iff.mp h).2]
      rfl
theorem eq_cases (x y : PyData) : (∃ i j, x = .int i ∧ y = .int j) ∨ (∃ i j, x = .str i ∧ y = .str j) ∨ (eqB x y = PyData.eqv x y ∧ (eqOk x y → SeqAt.shaped x = true ∧ SeqAt.shaped y = true)) := by
  cases x <;> cases y <;> first | exact .inl ⟨_, _, rfl, rfl⟩ | exact .inr (.inl ⟨_, _, rfl, rfl⟩) | exact .inr (.inr ⟨rfl, fun h => h⟩)
theorem os_eq (K : PySem.W.Frag) : OpS (rEqA K) fEq := fun c G pl σ H e m x y dx dy k Q sr rx ry d KK => by
  unfold fEq at d
  split at d
  · rename_i a b ha hb
    have h1 := sr.data rx ha
    have h2 := sr.data ry hb
    rcases eq_cases a b with ⟨i, j, rfl, rfl⟩ | ⟨i, j, rfl, rfl⟩ | ⟨ee, sh⟩
    · cases h1
      cases h2
      refine .inl ⟨rfl, ?_⟩
      have : decide (V.int i = V.int j) = decide (i = j) := by
        by_cases z : i = j
        · subst z; simp
        · rw [decide_eq_false z, decide_eq_false (fun w => z (V.int.inj w))]
      rw [this]
      exact KK.val sr d.2 (show Da G _ _ from .bl _)
    · cases h1
      cases h2
      refine .inl ⟨rfl, ?_⟩
      have : decide (V.str i = V.str j) = decide (i = j) := by
        by_cases z : i = j
        · subst z; simp
        · rw [decide_eq_false z, decide_eq_false (fun w => z (V.str.inj w))]
      rw [this]
      exact KK.val sr d.2 (show Da G _ _ from .bl _)
    · obtain ⟨s1, s2⟩ := sh d.1
      refine .inr ⟨a, b, h1.dp (shaped_nd s1), h2.dp (shaped_nd s2), s1, s2, ?_⟩
      rw [← ee]
      exact KK.val sr d.2 (show Da G _ _ from .bl _)
  · exact d.elim
theorem os_ne (K : PySem.W.Frag) : OpS (rNeA K) fNe := fun c G pl σ H e m x y dx dy k Q sr rx ry d KK => by
  unfold fNe at d
  split at d
  · rename_i a b ha hb
    have h1 := sr.data rx ha
    have h2 := sr.data ry hb
    rcases eq_cases a b with ⟨i, j, rfl, rfl⟩ | ⟨i, j, rfl, rfl⟩ | ⟨ee, sh⟩
    · cases h1
      cases h2
      refine .inl ⟨rfl, ?_⟩
      have : decide (V.int i = V.int j) = decide (i = j) := by
        by_cases z : i = j
        · subst z; simp
        · rw [decide_eq_false z, decide_eq_false (fun w => z (V.int.inj w))]
      rw [this]
      exact KK.val sr d.2 (show Da G _ _ from .bl _)
    · cases h1
      cases h2
      refine .inl ⟨rfl, ?_⟩
      have : decide (V.str i = V.str j) = decide (i = j) := by
        by_cases z : i = j
        · subst z; simp
        · rw [decide_eq_false z, decide_eq_false (fun w => z (V.str.inj w))]
      rw [this]
      exact KK.val sr d.2 (show Da G _ _ from .bl _)
    · obtain ⟨s1, s2⟩ := sh d.1
      refine .inr ⟨a, b, h1.dp (shaped_nd s1), h2.dp (shaped_nd s2), s1, s2, ?_⟩
      rw [← ee]
      exact KK.val sr d.2 (show Da G _ _ from .bl _)
  · exact d.elim
/-- is None, is not None -/
def isN : DV → Bool
  | .d .none => true
  | _ => false
def fIsN (m : Mu) (x y : DV) (k : DV → Prop) : Prop := match y with
  | .d .none => k (.d (.bool (isN x)))
  | _ => False
def fNotN (m : Mu) (x y : DV) (k : DV → Prop) : Prop := match y with
  | .d .none => k (.d (.bool (!isN x)))
  | _ => False
theorem RV.isN {G : Hp} {pl : Nat → Pl} {n : Nat} {v : V} {dv : DV} (h : RV G pl n v dv) : decide (v = .non) = isN dv := by
  cases dv with
  | d x => cases (show Da G v x from h) <;> rfl
  | dic kvs =>
    obtain ⟨a, _, rfl, _⟩ := h
    rfl
  | any f =>
    obtain ⟨a, rfl⟩ := f.ref h
    rfl
  | p i => rw [h.2]; rfl
theorem os_isN : OpS (fun x y H Q => y = .non ∧ Q (.bl (decide (x = .non))) H) fIsN := fun c G pl σ H e m x y dx dy k Q sr rx ry d KK => by
  unfold fIsN at d
  split at d
  · cases (show Da G y .none from ry)
    refine ⟨rfl, ?_⟩
    rw [rx.isN]
    exact KK.val sr d (show Da G _ _ from .bl _)
  · exact d.elim
theorem os_notN : OpS (fun x y H Q => y = .non ∧ Q (.bl (!decide (x = .non))) H) fNotN := fun c G pl σ H e m x y dx dy k Q sr rx ry d KK => by
  unfold fNotN at d
  split at d
  · cases (show Da G y .none from ry)
    refine ⟨rfl, ?_⟩
    rw [rx.isN]
    exact KK.val sr d (show Da G _ _ from .bl _)
  · exact d.elim
/-! ### slices -/
def doNone : DO := fun _ m k => k none m
def doSome (a : DE) : DO := fun e m k => a e m fun x m1 => match x with
  | .d (.int i) => k (some i) m1
  | _ => False
theorem so_none : SO tNoPart doNone := fun c G pl σ H e m k Q sr d K => K.val sr d rfl
theorem so_some {ta : TE} {da : DE} (h : SE ta da) : SO (tPart ta) (doSome da) := fun c G pl σ H e m k Q sr d K => h _ _ _ _ _ _ _ _ _ sr d fun x m1 G1 pl1 H1 v1 d1 l1 sr1 r1 => by
  split at d1
  · exact ⟨_, r1.int_inv, K _ _ _ _ _ _ d1 l1 sr1 rfl⟩
  · exact d1.elim
def cutD (xs : List PyData) (lo hi : Option Int) : List PyData := (xs.drop (HT.sIx xs.length 0 lo)).take (HT.sIx xs.length xs.length hi - HT.sIx xs.length 0 lo)
theorem DaL.cut {G : Hp} {xs : List V} {ds : List PyData} (h : DaL G xs ds) (lo hi : Option Int) : DaL G (cutV xs lo hi) (cutD ds lo hi) := by
  unfold cutV cutD
  rw [h.length]
  exact (h.drop _).take _
def fSl (m : Mu) (x : DV) (lo hi : Option Int) (k : DV → Prop) : Prop := match x with
  | .d (.tuple ds) => k (.d (.tuple (cutD ds lo hi)))
  | x => ∃ ds, rdL m x = some ds ∧ k (.d (.list (cutD ds lo hi)))
def dSl (a : DE) (lo hi : DO) : DE := fun e m k => a e m fun x m1 => lo e m1 fun l m2 => hi e m2 fun u m3 => fSl m3 x l u fun z => k z m3
theorem cut_whole {ds : List PyData} {lo hi : Option Int} (h : HT.sIx ds.length 0 lo = 0 ∧ HT.sIx ds.length ds.length hi = ds.length) : cutD ds lo hi = ds := by
  unfold cutD
  rw [h.1, h.2, List.drop_zero, Nat.sub_zero, List.take_length]
theorem se_sl (K : PySem.W.Frag) {ta : TE} {tl th : TO} {da : DE} {dl dh : DO} (ha : SE ta da) (hl : SO tl dl) (hh : SO th dh) : SE (tSl (rSlS K) ta tl th) (dSl da dl dh) := fun c G pl σ H e m k Q sr d KK =>
  ha _ _ _ _ _ _ _ _ _ sr d fun x m1 G1 pl1 H1 v1 d1 l1 sr1 r1 => hl _ _ _ _ _ _ _ _ _ sr1 d1 fun lo m2 G2 pl2 H2 lo' d2 l2 sr2 r2 => hh _ _ _ _ _ _ _ _ _ sr2 d2 fun hi m3 G3 pl3 H3 hi' d3 l3 sr3 r3 => by
    subst r2 r3
    have lw := (l1.trans l2).trans l3
    have r := r1.le (l2.trans l3)
    unfold fSl at d3
    split at d3
    · rename_i ds
      cases (show Da G3 v1 _ from r) with
      | @tup a xs _ e1 e2 =>
        refine .inr ⟨a, xs, rfl, .inl (.inl (sr3.hp.sub _ _ e1)), fun z => ?_, fun _ p hp => ?_⟩
        · rw [e2.length] at z
          rw [cut_whole z] at d3
          exact (KK.le lw).val sr3 d3 (show Da G3 _ _ from .tup e1 e2)
        · exact (KK.le lw).tup sr3 hp d3 (e2.cut _ _)
    · obtain ⟨ds, h1, d3⟩ := d3
      obtain ⟨a, us, e1, e2, e3⟩ := sr3.list r h1
      exact .inl ⟨a, us, e1, .inl (.inl e2), fun p hp => (KK.le lw).lst sr3 hp d3 (e3.cut _ _)⟩
/-- sorted(a list of ints) -/
def fSort (m : Mu) (xs : List DV) (k : DV → Prop) : Prop := match xs with
  | [x] => ∃ is : List Int, rdL m x = some (is.map PyData.int) ∧ ∀ js : List Int, js.Perm is → js.Pairwise (· ≤ ·) → k (.d (.list (js.map PyData.int)))
  | _ => False
theorem DaL_ints (G : Hp) : ∀ is : List Int, DaL G (is.map V.int) (is.map PyData.int)
  | [] => .nil
  | i :: is => .cons (.int i) (DaL_ints G is)
theorem cs_sort (K : PySem.W.Frag) : CaS (rSortedI K) fSort := fun c G pl σ H e m xs ds k Q sr r d KK => by
  unfold fSort at d
  split at d
  · cases r with
    | cons ra t =>
      cases t
      obtain ⟨is, h1, d⟩ := d
      obtain ⟨a, ys, e1, e2, e3⟩ := sr.list ra h1
      cases e3.ints
      exact ⟨a, is, by rw [e1], .inl (.inl e2), fun js p p1 p2 hp => KK.lst sr hp (d js p1 p2) (DaL_ints G js)⟩
  · exact d.elim
/-! ### xs += ys -/
def dAugL (i : Nat) (a : DE) : DS := fun E e m => match lk e i with
  | some (.p j) => a e m fun x m1 => ∃ ds es, m1[j]? = some (.lst ds) ∧ rdL m1 x = some es ∧ ds.length + es.length ≤ 1000000 ∧ (∀ j', x ≠ .p j') ∧ E.nx e (m1.set j (.lst (ds ++ es)))
  | _ => False
theorem ss_augL {te : TE} {de : DE} (i : Nat) (h : SE te de) : SS (tAug i te rExt2) (dAugL i de) := fun c G pl σ H e m D E hL sr d KK => by
  unfold dAugL at d
  split at d
  · rename_i j q
    obtain ⟨v, h1, h2⟩ := sr.env.get i _ q
    obtain ⟨hj, rfl⟩ := h2
    refine ⟨_, h1, h _ _ _ _ _ _ _ _ _ sr d fun x m1 G1 pl1 H1 v1 d1 l1 sr1 r1 => ?_⟩
    obtain ⟨ds, es, q1, q2, hz, np, d1⟩ := d1
    obtain ⟨xs, hx, hd⟩ := sr1.hp.mo _ _ q1
    obtain ⟨b, ys, e1, e2, e3⟩ := sr1.list r1 q2
    rw [l1.p j hj] at hx
    refine ⟨_, b, xs, ys, rfl, e1, hx, e2, by rw [hd.length, e3.length]; exact bigS hz, ?_⟩
    have hp := sr1.hp.put (o' := .lst (ds ++ es)) (ob := .lst (xs ++ ys)) q1 rfl rfl rfl rfl ⟨xs ++ ys, upd_same, DaL.append hd e3⟩
    rw [l1.p j hj] at hp
    have l2 : ∀ o, Le G1 pl1 m1.length G1 pl1 (m1.set j o).length := fun o => ⟨.refl _, fun _ _ => rfl, by simp⟩
    refine KK.nx _ _ _ _ _ _ d1 (l1.trans (l2 _)) ⟨⟨by rw [List.length_set]; exact sr1.env.len, fun i' dv x => ?_⟩, hp⟩
    obtain ⟨u, w1, w2⟩ := (sr1.env.le (l2 (.lst (ds ++ es)))).get i' dv x
    by_cases z : i = i'
    · subst z
      rw [q] at x
      cases x
      refine ⟨.ref (pl j).a, ?_, w2.1, by rw [l1.p j hj]⟩
      rw [List.getElem?_set_self]
      rcases Nat.lt_or_ge i σ.length with y | y
      · exact y
      · rw [List.getElem?_eq_none y] at h1; cases h1
    · exact ⟨u, by rw [List.getElem?_set_ne z]; exact w1, w2⟩
  · exact d.elim
end PM

namespace PM
open PySem PySem.Spec PyProof.Rows L2 RZ
section
variable {X : Cx}
/-- an own exception class without own __init__, made without arguments -/
theorem pmk_bare {C : Addr} {bmB : List Value} {B newId initId : String} {x : Str} {p pos : Pos} (F : ExcBaseFacts B newId initId bmB) (q : PySem.W.excIn X.K C bmB newId = true) (gC : X.mg x = some (.ref C))
    (kC : PySem.W.keepIn X.K (.ref C) = true) (r : Raises X (.ref C)) (hg : Gl X x) (hdb : (x == ("__debug__" : Str)) = false := by decide) : PMk X (.Call (.Name x p) [] [] pos) (fun _ H Q => Q (.ref C) none H) := by
  intro pins s σ H Q I h
  refine wpAny_Call_Name_kw (ld_glob I hg gC ?_ hdb)
  refine PySem.W.callWith_K0 I.kIn kC ?_
  obtain ⟨bm, N, nm, qn, bs, hdct, sn, sub, ab, col, dd, k0, k1, k2, k3, k5, mN, hC, hN, hni, T⟩ := exc_obj I.kIn q
  refine wpAny_call_exc_subT F T hC hN hni (fun h' e hm => ?_) (Nat.zero_le _)
  exact mk_of I hm r h (I.hok.gone hm.new)
/-- isinstance of the error that the suite holds, whatever its class -/
theorem call_held {a : Addr} {oe : Obj} {cls : Value} {d : Option Addr} {pn : List (Addr × Obj)} (hz : Zc cls d oe) (hf : ∃ vs, oe.data = .fields vs) :
    CallR (X.suite a ((a, oe) :: pn)) (.builtin "isinstance") (fun xs H Q => ∃ D, cls = .ref D ∧ d = none ∧ ExcC X.K D ∧ rIsE X.K D a xs H Q) := by
  intro pins s σ H xs us Q I r h
  obtain ⟨D, rfl, rfl, C, h⟩ := h
  exact call_isE C hz hf pins s σ H xs us Q I r h
end
/-- what the written part says of an error class at C -/
structure ErrC (K : PySem.W.Frag) (mg : Str → Option Value) (x : Str) (C : Addr) : Prop where
  g : mg x = some (.ref C)
  x : PySem.W.excIn K C [.type "ValueError", .type "Exception", .type "BaseException", .type "object"] "ValueError.__new__" = true
  k : PySem.W.keepIn K (.ref C) = true
  b : PySem.W.subIn K (.ref C) (.type "BaseException") = some true
  t : PySem.W.typeIn K (.ref C) = some (.type "type")
  e : ExcC K C
  s : PySem.W.subIn K (.ref C) (.ref C) = some true
theorem frDa {H : Hp} {p : Addr} {x : Int × Int} (h : FrAt H p x) : Da H (.ref p) (fd x) := .tup h (.cons (.int _) (.cons (.int _) .nil))
theorem plain_fd (x : Int × Int) : plainD (fd x) = true := rfl
theorem deq_fd {x y : Int × Int} (h : x = y) : deq (fd x) (fd y) = true := by
  subst h
  show ((x.1 == x.1) && ((x.2 == x.2) && true)) = true
  simp
theorem gName_int {i : Nat} {x : Int} {σ : L2.St} {H : Hp} {k : L2.St → Hp → Prop} (h : ∀ z, z = x → gName i (V.int z) σ H k) : gName i (V.int x) σ H k := h x rfl
theorem dep_fd (x : Int × Int) : dep (fd x) < 2 := by
  show max 0 (max 0 0) + 1 < 2
  decide
theorem neD {d d' : PyData} {A B : Prop} (h : deq d d' = true) (k : B) : if (!deq d d') = true then A else B := by
  rw [h]
  exact k
end PM

namespace PM
open PySem PySem.Spec PyProof.Rows L2 RZ
/-! ### promises by the number of arguments -/
def sp0 (F : (DV → Prop) → Prop) : SpP := fun ds k => match ds with
  | [] => F k
  | _ => False
def sp1 (F : PyData → (DV → Prop) → Prop) : SpP := fun ds k => match ds with
  | [a] => F a k
  | _ => False
def sp2 (F : PyData → PyData → (DV → Prop) → Prop) : SpP := fun ds k => match ds with
  | [a, b] => F a b k
  | _ => False
def sp3 (F : PyData → PyData → PyData → (DV → Prop) → Prop) : SpP := fun ds k => match ds with
  | [a, b, c] => F a b c k
  | _ => False
def sp4 (F : PyData → PyData → PyData → PyData → (DV → Prop) → Prop) : SpP := fun ds k => match ds with
  | [a, b, c, d] => F a b c d k
  | _ => False
theorem sp0_inv {F} {ds : List PyData} {k : DV → Prop} (h : sp0 F ds k) : ds = [] ∧ F k := by
  unfold sp0 at h
  split at h
  · exact ⟨rfl, h⟩
  · exact h.elim
theorem sp1_inv {F} {ds : List PyData} {k : DV → Prop} (h : sp1 F ds k) : ∃ a, ds = [a] ∧ F a k := by
  unfold sp1 at h
  split at h
  · exact ⟨_, rfl, h⟩
  · exact h.elim
theorem sp2_inv {F} {ds : List PyData} {k : DV → Prop} (h : sp2 F ds k) : ∃ a b, ds = [a, b] ∧ F a b k := by
  unfold sp2 at h
  split at h
  · exact ⟨_, _, rfl, h⟩
  · exact h.elim
theorem sp3_inv {F} {ds : List PyData} {k : DV → Prop} (h : sp3 F ds k) : ∃ a b c, ds = [a, b, c] ∧ F a b c k := by
  unfold sp3 at h
  split at h
  · exact ⟨_, _, _, rfl, h⟩
  · exact h.elim
theorem sp4_inv {F} {ds : List PyData} {k : DV → Prop} (h : sp4 F ds k) : ∃ a b c d, ds = [a, b, c, d] ∧ F a b c d k := by
  unfold sp4 at h
  split at h
  · exact ⟨_, _, _, _, rfl, h⟩
  · exact h.elim
theorem sp0_len {F} {ds : List PyData} {k : DV → Prop} (h : sp0 F ds k) : ds.length = 0 := by
  obtain ⟨rfl, _⟩ := sp0_inv h
  rfl
theorem sp1_len {F} {ds : List PyData} {k : DV → Prop} (h : sp1 F ds k) : ds.length = 1 := by
  obtain ⟨_, rfl, _⟩ := sp1_inv h
  rfl
theorem sp2_len {F} {ds : List PyData} {k : DV → Prop} (h : sp2 F ds k) : ds.length = 2 := by
  obtain ⟨_, _, rfl, _⟩ := sp2_inv h
  rfl
theorem sp3_len {F} {ds : List PyData} {k : DV → Prop} (h : sp3 F ds k) : ds.length = 3 := by
  obtain ⟨_, _, _, rfl, _⟩ := sp3_inv h
  rfl
theorem sp4_len {F} {ds : List PyData} {k : DV → Prop} (h : sp4 F ds k) : ds.length = 4 := by
  obtain ⟨_, _, _, _, rfl, _⟩ := sp4_inv h
  rfl
def sn0 (F : Nat → (DV → Nat → Prop) → Prop) : SpN := fun j ds k => match ds with
  | [] => F j k
  | _ => False
def sn1 (F : Nat → PyData → (DV → Nat → Prop) → Prop) : SpN := fun j ds k => match ds with
  | [a] => F j a k
  | _ => False
def sn2 (F : Nat → PyData → PyData → (DV → Nat → Prop) → Prop) : SpN := fun j ds k => match ds with
  | [a, b] => F j a b k
  | _ => False
def sn3 (F : Nat → PyData → PyData → PyData → (DV → Nat → Prop) → Prop) : SpN := fun j ds k => match ds with
  | [a, b, c] => F j a b c k
  | _ => False
theorem sn0_inv {F} {j : Nat} {ds : List PyData} {k : DV → Nat → Prop} (h : sn0 F j ds k) : ds = [] ∧ F j k := by
  unfold sn0 at h
  split at h
  · exact ⟨rfl, h⟩
  · exact h.elim
theorem sn1_inv {F} {j : Nat} {ds : List PyData} {k : DV → Nat → Prop} (h : sn1 F j ds k) : ∃ a, ds = [a] ∧ F j a k := by
  unfold sn1 at h
  split at h
  · exact ⟨_, rfl, h⟩
  · exact h.elim
theorem sn2_inv {F} {j : Nat} {ds : List PyData} {k : DV → Nat → Prop} (h : sn2 F j ds k) : ∃ a b, ds = [a, b] ∧ F j a b k := by
  unfold sn2 at h
  split at h
  · exact ⟨_, _, rfl, h⟩
  · exact h.elim
theorem sn3_inv {F} {j : Nat} {ds : List PyData} {k : DV → Nat → Prop} (h : sn3 F j ds k) : ∃ a b c, ds = [a, b, c] ∧ F j a b c k := by
  unfold sn3 at h
  split at h
  · exact ⟨_, _, _, rfl, h⟩
  · exact h.elim
theorem sn0_len {F} {j : Nat} {ds : List PyData} {k : DV → Nat → Prop} (h : sn0 F j ds k) : ds.length = 0 := by
  obtain ⟨rfl, _⟩ := sn0_inv h
  rfl
theorem sn1_len {F} {j : Nat} {ds : List PyData} {k : DV → Nat → Prop} (h : sn1 F j ds k) : ds.length = 1 := by
  obtain ⟨_, rfl, _⟩ := sn1_inv h
  rfl
theorem sn2_len {F} {j : Nat} {ds : List PyData} {k : DV → Nat → Prop} (h : sn2 F j ds k) : ds.length = 2 := by
  obtain ⟨_, _, rfl, _⟩ := sn2_inv h
  rfl
theorem sn3_len {F} {j : Nat} {ds : List PyData} {k : DV → Nat → Prop} (h : sn3 F j ds k) : ds.length = 3 := by
  obtain ⟨_, _, _, rfl, _⟩ := sn3_inv h
  rfl
/-! ### the law's own helpers -/
abbrev S__law_next : SpN := sn1 fun j a k => ∃ m : Int, a = .int m ∧ j < 900000 ∧ 0 < m ∧ m.natAbs.log2 < 9000 ∧ ∀ v : Int, 0 ≤ v → v < m → k (.d (.int v)) (j + 1)
abbrev S__law_equal : SpP := sp2 fun a b k => plainD a = true ∧ plainD b = true ∧ dep a < 8 ∧ k (.d (.bool (deq a b)))
theorem log9 {m : Int} {b : Nat} (h : m.natAbs < 2 ^ b) (b0 : 0 < b) (b9 : b ≤ 9000) : m.natAbs.log2 < 9000 := Nat.lt_of_lt_of_le (PySem.Flt.log2_lt_of b0 h) b9
/-! ### a law's body behind the drawn numbers -/
def eL : DEnds := { nx := fun _ _ => False, rt := fun dv _ => dv = .d (.bool true), bk := fun _ _ => False, ct := fun _ _ => False }
theorem runL {t : TS} {d : DS} {n : Nat} {pa c r : Addr} {H : Hp} {σ : L2.St} (h : SS t d) (dr : Drw H pa c r 0) (hs : σ[1]? = some (some (.ref pa))) (hn : σ.length = n + 2)
    (hd : d eL (none :: some (.p 0) :: List.replicate n none) [.drw 0]) : t { nx := fun _ _ => V.non = .bl true, rt := fun v _ => v = .bl true } σ H := by
  have one : ∀ i o, ([MO.drw 0] : Mu)[i]? = some o → i = 0 ∧ o = .drw 0 := fun i o e => by
    cases i with
    | zero => cases e; exact ⟨rfl, rfl⟩
    | succ i => simp at e
  have hr : HR ⟨fun _ => none, fun _ => none, fun _ => False, fun _ => False⟩ (fun _ => none) (fun _ => ⟨pa, c, r⟩) H [.drw 0] := by
    refine ⟨(fun b o e => by cases e), fun i o e => ?_, fun i o b e f => rfl, fun i o b e f => .inr rfl, fun i i' o o' b ne e e' => ?_, (fun b o e => by cases e), (fun b o _ _ e => by cases e), fun b e => absurd rfl e, fun b e => absurd rfl e⟩
    · obtain ⟨rfl, rfl⟩ := one i o e
      exact dr
    · obtain ⟨rfl, _⟩ := one i o e
      obtain ⟨rfl, _⟩ := one i' o' e'
      exact absurd rfl ne
  have er : ER (fun _ => none) (fun _ => ⟨pa, c, r⟩) ([MO.drw 0] : Mu).length σ (none :: some (.p 0) :: List.replicate n none) := by
    refine ⟨by rw [hn, List.length_cons, List.length_cons, List.length_replicate], fun i dv e => ?_⟩
    match i, e with
    | 0, e => cases e
    | 1, e =>
      cases e
      exact ⟨_, hs, Nat.zero_lt_one, rfl⟩
    | i + 2, e =>
      have e : lk (List.replicate n none) i = some dv := e
      rw [lk_none] at e
      cases e
  refine h _ _ _ _ _ _ _ _ _ (fun b z => z) ⟨er, hr⟩ hd ⟨fun G' pl' σ' H' e' m' q l sr => q.elim, fun dv m' G' pl' H' v q l hr' rv => ?_, fun _ _ _ _ _ _ q => q.elim, fun _ _ _ _ _ _ q => q.elim⟩
  have q : dv = .d (.bool true) := q
  subst q
  exact rv.bl_inv
/-! ### repr, at a law's own place -/
def fRepr (m : Mu) (xs : List DV) (k : DV → Prop) : Prop := match xs with
  | [x] => ∃ d, rdV m x = some d ∧ d.showable = true ∧ d.depth ≤ 60 ∧ d.shown.length ≤ sizeLine ∧ k (.d (.str d.shown))
  | _ => False
theorem cs_repr : CaS rRepr fRepr := fun c G pl σ H e m xs ds k Q sr r d KK => by
  unfold fRepr at d
  split at d
  · cases r with
    | cons ra t =>
      cases t
      obtain ⟨d', h1, h2, h3, h4, d⟩ := d
      exact ⟨_, d', rfl, sr.data ra h1, h2, h3, h4, KK.val sr d (show Da G _ _ from .str _)⟩
  · exact d.elim
end PM

/-! panels as data -/
namespace PM
open PySem PySem.Spec PyProof.Rows L2 RZ
def itD (q : Int × Int) : PyData := .tuple [.int q.1, .int q.2]
def nD (i : Nat) : PyData := .int (i : Nat)
def rlD (q : Nat × Nat) : PyData := .tuple [nD q.1, nD q.2]
def pnD (its : List (Int × Int)) (rls : List (Nat × Nat)) : PyData := .tuple [.tuple (its.map itD), .tuple (rls.map rlD)]
def grD (is : List Nat) : PyData := .tuple (is.map nD)
structure PanOk (most : Nat) (its : List (Int × Int)) (rls : List (Nat × Nat)) : Prop where
  n1 : 1 ≤ its.length
  n8 : its.length ≤ most
  mrk : ∀ q ∈ its, -1000000000 ≤ q.1 ∧ q.1 ≤ 1000000000
  wt : ∀ q ∈ its, 1 ≤ q.2 ∧ q.2 ≤ 1000000
  r16 : rls.length ≤ 16
  rl : ∀ q ∈ rls, q.1 < its.length ∧ q.2 < its.length ∧ q.1 ≠ q.2
def ItsOk (its : List (Int × Int)) : Prop := ∀ q ∈ its, (-1000000000 ≤ q.1 ∧ q.1 ≤ 1000000000) ∧ 1 ≤ q.2 ∧ q.2 ≤ 1000000
theorem at_map {α : Type} {f : α → PyData} {xs : List α} {i : Nat} {x : α} (h : xs[i]? = some x) : atI (xs.map f) (i : Int) = some (f x) :=
  atI_nat (by rw [List.getElem?_map, h]; rfl)
/-- item i -/
def itm (its : List (Int × Int)) (i : Nat) : Int × Int := its.getD i (0, 1)
theorem itm_get {its : List (Int × Int)} {i : Nat} (h : i < its.length) : its[i]? = some (itm its i) := by
  unfold itm
  rw [List.getD_eq_getElem?_getD, List.getElem?_eq_getElem h]
  rfl
theorem itm_mem {its : List (Int × Int)} {i : Nat} (h : i < its.length) : itm its i ∈ its := List.mem_of_getElem? (itm_get h)
theorem at_item {its : List (Int × Int)} {i : Nat} (h : i < its.length) : atI (its.map itD) (i : Int) = some (itD (itm its i)) := at_map (itm_get h)
def wsum (its : List (Int × Int)) (is : List Nat) : Int := (is.map fun i => (itm its i).2 * (itm its i).1).sum
def wgt (its : List (Int × Int)) (is : List Nat) : Int := (is.map fun i => (itm its i).2).sum
theorem sum_snoc (xs : List Int) (x : Int) : (xs ++ [x]).sum = xs.sum + x := by
  rw [List.sum_append]
  simp
theorem wsum_snoc (its : List (Int × Int)) (is : List Nat) (i : Nat) : wsum its (is ++ [i]) = wsum its is + (itm its i).2 * (itm its i).1 := by
  unfold wsum
  rw [List.map_append, List.map_cons, List.map_nil, sum_snoc]
theorem wgt_snoc (its : List (Int × Int)) (is : List Nat) (i : Nat) : wgt its (is ++ [i]) = wgt its is + (itm its i).2 := by
  unfold wgt
  rw [List.map_append, List.map_cons, List.map_nil, sum_snoc]
/-- products of numbers of at most 2000 bits -/
theorem mw {i j : Int} {a b : Nat} (hi : i.natAbs < 2 ^ a) (hj : j.natAbs < 2 ^ b) (ha : 0 < a := by decide) (hb : 0 < b := by decide) (hab : a + b ≤ 900000 := by decide) : CMulW i j := wide_mul hi hj ha hb (by omega)
theorem lg {m : Int} {b : Nat} (h : m.natAbs < 2 ^ b) (b0 : 0 < b := by decide) (b9 : b ≤ 9000 := by decide) : m.natAbs.log2 < 9000 := log9 h b0 b9
theorem map_cons {α : Type} {f : α → PyData} {x : PyData} {r : List PyData} : ∀ {l : List α}, x :: r = l.map f → ∃ a l', l = a :: l' ∧ x = f a ∧ r = l'.map f
  | [], h => by cases h
  | a :: l, h => by
    rw [List.map_cons] at h
    injection h with h1 h2
    exact ⟨a, l, rfl, h1, h2⟩
theorem map_nil {α : Type} {f : α → PyData} : ∀ {l : List α}, [] = l.map f → l = []
  | [], _ => rfl
  | a :: l, h => by cases h
/-- all groups of the k items from lo on, in ascending order -/
def grps : Nat → Nat → List (List Nat)
  | _, 0 => [[]]
  | lo, k + 1 => [] :: ((grps (lo + 1) k).map (lo :: ·) ++ (grps (lo + 1) k).tail)
theorem grps_len : ∀ lo k : Nat, (grps lo k).length = 2 ^ k
  | _, 0 => rfl
  | lo, k + 1 => by
    have ih := grps_len (lo + 1) k
    have pos : 0 < 2 ^ k := Nat.pow_pos (by decide)
    simp only [grps, List.length_cons, List.length_append, List.length_map, List.length_tail, ih, Nat.pow_succ]
    omega
theorem grps_mem : ∀ (lo k : Nat) (g : List Nat), g ∈ grps lo k → (∀ i ∈ g, lo ≤ i ∧ i < lo + k) ∧ g.Pairwise (· < ·)
  | lo, 0, g, h => by
    cases List.mem_singleton.mp h
    exact ⟨(fun i hi => nomatch hi), .nil⟩
  | lo, k + 1, g, h => by
    have ih := grps_mem (lo + 1) k
    simp only [grps, List.mem_cons, List.mem_append, List.mem_map] at h
    rcases h with rfl | ⟨g', h, rfl⟩ | h
    · exact ⟨(fun i hi => nomatch hi), .nil⟩
    · obtain ⟨h1, h2⟩ := ih g' h
      refine ⟨fun i hi => ?_, List.pairwise_cons.mpr ⟨fun i hi => (h1 i hi).1, h2⟩⟩
      rcases List.mem_cons.mp hi with rfl | hi
      · omega
      · have := h1 i hi
        omega
    · obtain ⟨h1, h2⟩ := ih g (List.mem_of_mem_tail h)
      exact ⟨fun i hi => by have := h1 i hi; omega, h2⟩
theorem grps_short : ∀ (lo k : Nat) (g : List Nat), g ∈ grps lo k → g.length ≤ k
  | lo, 0, g, h => by
    cases List.mem_singleton.mp h
    exact Nat.le_refl _
  | lo, k + 1, g, h => by
    have ih := grps_short (lo + 1) k
    simp only [grps, List.mem_cons, List.mem_append, List.mem_map] at h
    rcases h with rfl | ⟨g', h, rfl⟩ | h
    · exact Nat.zero_le _
    · have := ih g' h
      rw [List.length_cons]
      omega
    · have := ih g (List.mem_of_mem_tail h)
      omega
theorem range_at {n x : Nat} {done r : List Nat} (h : List.range n = done ++ x :: r) : x = done.length ∧ done.length < n := by
  have l := congrArg List.length h
  rw [List.length_range, List.length_append, List.length_cons] at l
  have g : (List.range n)[done.length]? = some x := by rw [h]; simp
  rw [List.getElem?_range (by omega)] at g
  exact ⟨(Option.some.inj g).symm, by omega⟩
theorem cut_from (xs : List PyData) (n : Nat) : cutD xs (some (n : Int)) none = xs.drop n := by
  unfold cutD
  rw [HT.sIx_nat, HT.sIx_none]
  by_cases h : n ≤ xs.length
  · rw [Nat.min_eq_left h, List.take_of_length_le (by rw [List.length_drop]; exact Nat.le_refl _)]
  · rw [Nat.min_eq_right (by omega), List.drop_of_length_le (Nat.le_refl _), List.drop_of_length_le (by omega), List.take_nil]
theorem cut_to (xs : List PyData) (n : Nat) : cutD xs none (some (n : Int)) = xs.take n := by
  unfold cutD
  rw [HT.sIx_nat, HT.sIx_none, List.drop_zero, Nat.sub_zero]
  by_cases h : n ≤ xs.length
  · rw [Nat.min_eq_left h]
  · rw [Nat.min_eq_right (by omega), List.take_of_length_le (Nat.le_refl _), List.take_of_length_le (by omega)]
theorem cut_tail (xs : List PyData) : cutD xs (some 1) none = xs.tail := by
  rw [show (some (1 : Int)) = some ((1 : Nat) : Int) from rfl, cut_from, List.drop_one]
theorem grps_step {n L : Nat} (h : L < n) : [PyData.tuple []] ++ (grps (n - L) L).map (fun g => grD ((n - 1 - L) :: g)) ++ cutD ((grps (n - L) L).map grD) (some 1) none = (grps (n - (L + 1)) (L + 1)).map grD := by
  rw [cut_tail]
  have e1 : n - (L + 1) + 1 = n - L := by omega
  have e2 : n - 1 - L = n - (L + 1) := by omega
  simp only [grps, e1, e2, List.map_cons, List.map_append, List.map_map, List.map_tail]
  rfl
/-! ### how long a panel's text is -/
theorem shwL_map {α : Type} {f : α → PyData} {n m : Nat} : ∀ {xs : List α}, (∀ x ∈ xs, Shw (f x) n m) → ShwL (xs.map f) ((n + 2) * xs.length) m
  | [], _ => .nil m
  | x :: xs, h => by
    have := ShwL.cons (h x List.mem_cons_self) (shwL_map fun y hy => h y (List.mem_cons_of_mem _ hy))
    rw [List.map_cons, List.length_cons, show (n + 2) * (xs.length + 1) = n + 2 + (n + 2) * xs.length by rw [Nat.mul_add, Nat.mul_one]; omega]
    exact this
theorem shw_it {q : Int × Int} (h1 : q.1.natAbs < 2 ^ 1000) (h2 : q.2.natAbs < 2 ^ 1000) : Shw (itD q) 3849 1 := Shw.fd (x := q) (b := 1000) ⟨h1, h2⟩ (by decide) (by decide)
theorem shw_nat {i : Nat} (h : i < 1000) : Shw (nD i) 1921 0 := Shw.int (b := 10) (by show (i : Int).natAbs < 2 ^ 10; omega) (by decide) (by decide)
theorem shw_rl {q : Nat × Nat} (h1 : q.1 < 1000) (h2 : q.2 < 1000) : Shw (rlD q) 3849 1 := (Shw.tup (.cons (shw_nat h1) (.cons (shw_nat h2) (.nil 0)))).mono (by decide) (by decide)
theorem PanOk.shw {most : Nat} {its : List (Int × Int)} {rls : List (Nat × Nat)} (h : PanOk most its rls) (hm : most ≤ 8) : Shw (pnD its rls) 100000 3 := by
  have a : Shw (.tuple (its.map itD)) (3851 * 8 + 3) 2 := (Shw.tup (shwL_map fun q hq => shw_it (by have := h.mrk q hq; omega) (by have := h.wt q hq; omega))).mono (by have := h.n8; omega) (by decide)
  have b : Shw (.tuple (rls.map rlD)) (3851 * 16 + 3) 2 := (Shw.tup (shwL_map fun q hq => shw_rl (by have := h.rl q hq; have := h.n8; omega) (by have := h.rl q hq; have := h.n8; omega))).mono (by have := h.r16; omega) (by decide)
  exact (Shw.tup (.cons a (.cons b (.nil 2)))).mono (by decide) (by decide)
/-! ### == of groups and fractions -/
theorem lay_map {α : Type} {f : α → PyData} : ∀ {xs : List α}, (∀ x ∈ xs, (f x).canLay0 = true) → PyData.canLayAll0 (xs.map f) = true
  | [], _ => by simp only [List.map_nil, PyData.canLayAll0]
  | x :: xs, h => by
    simp only [List.map_cons, PyData.canLayAll0]
    rw [h x List.mem_cons_self, lay_map fun y hy => h y (List.mem_cons_of_mem _ hy)]
    rfl
theorem dep_map {α : Type} {f : α → PyData} {n : Nat} : ∀ {xs : List α}, (∀ x ∈ xs, (f x).depth ≤ n) → PyData.depthAll (xs.map f) ≤ n
  | [], _ => by simp only [List.map_nil, PyData.depthAll]; omega
  | x :: xs, h => by
    simp only [List.map_cons, PyData.depthAll]
    exact Nat.max_le.mpr ⟨h x List.mem_cons_self, dep_map fun y hy => h y (List.mem_cons_of_mem _ hy)⟩
theorem lay_n (i : Nat) : (nD i).canLay0 = true := by simp only [nD, PyData.canLay0]
theorem dep_n (i : Nat) : (nD i).depth ≤ 0 := by simp only [nD, PyData.depth]; omega
/-- data without texts and dicts, of small depth -/
structure Lay (n : Nat) (d : PyData) : Prop where
  lay : d.canLay0 = true
  dep : d.depth ≤ n
theorem Lay.int (i : Int) : Lay 0 (.int i) := ⟨by simp only [PyData.canLay0], by simp only [PyData.depth]; omega⟩
theorem Lay.non : Lay 0 .none := ⟨by simp only [PyData.canLay0], by simp only [PyData.depth]; omega⟩
theorem Lay.up {n m : Nat} {d : PyData} (h : Lay n d) (hm : n ≤ m) : Lay m d := ⟨h.lay, Nat.le_trans h.dep hm⟩
theorem Lay.tupM {α : Type} {f : α → PyData} {n : Nat} {xs : List α} (h : ∀ x ∈ xs, Lay n (f x)) : Lay (n + 1) (.tuple (xs.map f)) :=
  ⟨by simp only [PyData.canLay0]; exact lay_map fun x hx => (h x hx).lay, by simp only [PyData.depth]; have := dep_map fun x hx => (h x hx).dep; omega⟩
theorem Lay.lstM {α : Type} {f : α → PyData} {n : Nat} {xs : List α} (h : ∀ x ∈ xs, Lay n (f x)) : Lay (n + 1) (.list (xs.map f)) :=
  ⟨by simp only [PyData.canLay0]; exact lay_map fun x hx => (h x hx).lay, by simp only [PyData.depth]; have := dep_map fun x hx => (h x hx).dep; omega⟩
theorem Lay.tup {n : Nat} {ds : List PyData} (h : ∀ d ∈ ds, Lay n d) : Lay (n + 1) (.tuple ds) := by
  have := Lay.tupM (f := id) (xs := ds) h
  rw [List.map_id] at this
  exact this
theorem Lay.lst {n : Nat} {ds : List PyData} (h : ∀ d ∈ ds, Lay n d) : Lay (n + 1) (.list ds) := by
  have := Lay.lstM (f := id) (xs := ds) h
  rw [List.map_id] at this
  exact this
theorem Lay.two {n : Nat} {a b : PyData} (ha : Lay n a) (hb : Lay n b) : Lay (n + 1) (.tuple [a, b]) := .tup fun d hd => by
  simp only [List.mem_cons, List.not_mem_nil, or_false] at hd
  rcases hd with rfl | rfl
  · exact ha
  · exact hb
theorem Lay.ok {n : Nat} {d : PyData} (h : Lay n d) (hn : n ≤ 64 := by decide) : SeqAt.shaped d = true := Bool.and_eq_true_iff.mpr ⟨h.lay, decide_eq_true (Nat.le_trans h.dep hn)⟩
theorem Lay.n (i : Nat) : Lay 0 (nD i) := .int _
theorem Lay.it (q : Int × Int) : Lay 1 (itD q) := .two (.int _) (.int _)
theorem Lay.fd (q : Int × Int) : Lay 1 (fd q) := .two (.int _) (.int _)
theorem Lay.rl (q : Nat × Nat) : Lay 1 (rlD q) := .two (.n _) (.n _)
theorem Lay.gr (g : List Nat) : Lay 1 (grD g) := .tupM fun i _ => .n i
theorem Lay.pn (its : List (Int × Int)) (rls : List (Nat × Nat)) : Lay 3 (pnD its rls) := .two (.tupM fun q _ => .it q) (.tupM fun q _ => .rl q)
theorem eqvAll_map {α : Type} [DecidableEq α] {f : α → PyData} (inj : ∀ x y, PyData.eqv (f x) (f y) = decide (x = y)) : ∀ xs ys : List α, PyData.eqvAll (xs.map f) (ys.map f) = decide (xs = ys)
  | [], [] => by simp only [List.map_nil, PyData.eqvAll]; rfl
  | [], y :: ys => by simp only [List.map_nil, List.map_cons, PyData.eqvAll]; rfl
  | x :: xs, [] => by simp only [List.map_nil, List.map_cons, PyData.eqvAll]; rfl
  | x :: xs, y :: ys => by
    simp only [List.map_cons, PyData.eqvAll, inj, eqvAll_map inj xs ys]
    by_cases h1 : x = y <;> by_cases h2 : xs = ys <;> simp [h1, h2]
theorem eqv_n (i j : Nat) : PyData.eqv (nD i) (nD j) = decide (i = j) := by
  simp only [nD, PyData.eqv]
  by_cases h : i = j
  · subst h; simp
  · rw [decide_eq_false h]
    exact beq_eq_false_iff_ne.mpr fun z => h (by omega)
theorem eqv_gr (g h : List Nat) : PyData.eqv (grD g) (grD h) = decide (g = h) := by
  simp only [grD, PyData.eqv]
  exact eqvAll_map eqv_n g h
theorem eqv_it (x y : Int × Int) : PyData.eqv (itD x) (itD y) = decide (x = y) := eqv_fd x y
theorem red_one {m w : Int} (hw : 0 < w) : Fr.red (w * m) w = (m, 1) := by
  have h : Fr.IsF (m, 1) := ⟨show (0 : Int) < 1 by decide, by show Int.gcd m 1 = 1; simp⟩
  rw [← Fr.red_self h]
  exact (Fr.red_eq hw (show (0 : Int) < 1 by decide)).mpr (by show w * m * 1 = m * w; rw [Int.mul_one, Int.mul_comm])
/-- a comprehension, by a word of the state -/
theorem lcJ {α : Type} (f : α → PyData) {dg : DG} {dt : DT} {de : DE} {vs : List Nat} {e : DEnv} {m : Mu} {k : List PyData → Mu → Prop} (xs : List α) (hz : xs.length ≤ 1000000) (J : List α → List PyData → Mu → Prop) (h0 : J [] [] m)
    (hs : ∀ done x r acc m, xs = done ++ x :: r → J done acc m → ∀ (C : PyData → Mu → Prop) (C0 : Mu → Prop), (∀ z m', J (done ++ [x]) (acc ++ [z]) m' → C z m') → (∀ m', J (done ++ [x]) acc m' → C0 m') → dg (.d (f x)) (wp e vs) m fun e' m' => dt e' m' fun b m2 => br b (de e' m2 (plD C)) (C0 m2))
    (hd : ∀ acc m, J xs acc m → k acc m) :
    (xs.map f).length ≤ 1000000 ∧ ∃ I : List PyData → List PyData → Mu → Prop, I (xs.map f) [] m ∧
      (∀ x r acc m, I (x :: r) acc m → dg (.d x) (wp e vs) m fun e' m' => dt e' m' fun b m2 => br b (de e' m2 (plD fun z m3 => I r (acc ++ [z]) m3)) (I r acc m2)) ∧ ∀ acc m, I [] acc m → k acc m := by
  refine ⟨by rw [List.length_map]; exact hz, fun rest acc m' => ∃ done r, rest = r.map f ∧ xs = done ++ r ∧ J done acc m', ⟨[], xs, rfl, rfl, h0⟩, ?_, ?_⟩
  · rintro x r acc m' ⟨done, l, h1, h2, hj⟩
    obtain ⟨a, l', rfl, rfl, rfl⟩ := map_inv h1
    have h3 : xs = done ++ [a] ++ l' := by rw [h2, List.append_assoc]; rfl
    exact hs done a l' acc m' h2 hj _ _ (fun z m2 j => ⟨done ++ [a], l', rfl, h3, j⟩) (fun m2 j => ⟨done ++ [a], l', rfl, h3, j⟩)
  · rintro acc m' ⟨done, l, h1, h2, hj⟩
    cases l with
    | nil =>
      rw [List.append_nil] at h2
      subst h2
      exact hd _ _ hj
    | cons a l => cases h1
theorem PanOk.w0 {most : Nat} {its : List (Int × Int)} {rls : List (Nat × Nat)} (h : PanOk most its rls) {i : Nat} (hi : i < its.length) : 1 ≤ (itm its i).2 ∧ (itm its i).2 ≤ 1000000 := h.wt _ (itm_mem hi)
theorem PanOk.m0 {most : Nat} {its : List (Int × Int)} {rls : List (Nat × Nat)} (h : PanOk most its rls) {i : Nat} (hi : i < its.length) : -1000000000 ≤ (itm its i).1 ∧ (itm its i).1 ≤ 1000000000 := h.mrk _ (itm_mem hi)
theorem PanOk.sz {most : Nat} {its : List (Int × Int)} {rls : List (Nat × Nat)} (h : PanOk most its rls) : ∀ q ∈ its, q.1.natAbs < 2 ^ 100 ∧ q.2.natAbs < 2 ^ 100 := fun q hq => ⟨by have := h.mrk q hq; omega, by have := h.wt q hq; omega⟩
theorem wgt_bound {its : List (Int × Int)} (hw : ∀ q ∈ its, 1 ≤ q.2 ∧ q.2 ≤ 1000000) : ∀ {is : List Nat}, (∀ i ∈ is, i < its.length) → (is.length : Int) ≤ wgt its is ∧ wgt its is ≤ 1000000 * is.length
  | [], _ => by simp [wgt]
  | i :: is, h => by
    have ih := wgt_bound hw (is := is) fun j hj => h j (List.mem_cons_of_mem _ hj)
    have := hw _ (itm_mem (h i List.mem_cons_self))
    unfold wgt at *
    rw [List.map_cons, List.sum_cons, List.length_cons]
    omega
theorem PanOk.wpos {most : Nat} {its : List (Int × Int)} {rls : List (Nat × Nat)} (h : PanOk most its rls) {is : List Nat} (hi : ∀ i ∈ is, i < its.length) (h0 : is ≠ []) (h9 : is.length ≤ 100) : 0 < wgt its is ∧ (wgt its is).natAbs < 2 ^ 2000 := by
  have b := wgt_bound h.wt hi
  have : 0 < is.length := List.length_pos_iff.mpr h0
  refine ⟨by omega, Nat.lt_of_lt_of_le (show (wgt its is).natAbs < 2 ^ 30 by omega) (Nat.pow_le_pow_right (by decide) (by decide))⟩
end PM

namespace PM
open PySem PySem.Spec PyProof.Rows L2 RZ
theorem pairs_map {α β : Type} (f : α → PyData) (g : β → PyData) : ∀ (xs : List α) (ys : List β), pairs (xs.map f) (ys.map g) = (List.zip xs ys).map fun p => .tuple [f p.1, g p.2]
  | [], _ => by simp [pairs]
  | _ :: _, [] => by simp [pairs]
  | x :: xs, y :: ys => by
    have := pairs_map f g xs ys
    unfold pairs at *
    simp only [List.map_cons, List.zip_cons_cons, this]
theorem forZ {α β : Type} (f : α → PyData) (h : β → PyData) {g : DG} {b : DS} {E : DEnds} {e : DEnv} {m : Mu} (xs : List α) (ys : List β) (J : List (α × β) → DEnv → Mu → Prop) (h0 : J [] e m)
    (hs : ∀ done x r e m, List.zip xs ys = done ++ x :: r → J done e m → ∀ C : DEnv → Mu → Prop, (∀ e m, J (done ++ [x]) e m → C e m) → g (.d (.tuple [f x.1, h x.2])) e m fun e' m' => b { nx := C, rt := E.rt, bk := E.nx, ct := C } e' m') (hd : ∀ e m, J (List.zip xs ys) e m → E.nx e m) :
    ∃ I : List PyData → DEnv → Mu → Prop, I (pairs (xs.map f) (ys.map h)) e m ∧ (∀ x r e m, I (x :: r) e m → g (.d x) e m fun e' m' => b { nx := I r, rt := E.rt, bk := E.nx, ct := I r } e' m') ∧ ∀ e m, I [] e m → E.nx e m := by
  rw [pairs_map]
  exact forL (fun p : α × β => .tuple [f p.1, h p.2]) (List.zip xs ys) J h0 hs hd
/-! ### costs -/
def cstep (c : Int × Int) (p : (Int × Int) × (Int × Int)) : Int × Int := Fr.add c (Fr.mul (p.1.2, 1) (Fr.mul (Fr.sub p.2 (p.1.1, 1)) (Fr.sub p.2 (p.1.1, 1))))
def costF (its rt : List (Int × Int)) : Int × Int := (List.zip its rt).foldl cstep (0, 1)
/-- what an item adds to the cost, as a number -/
def cval (p : (Int × Int) × (Int × Int)) : Rat := (p.1.2 : Rat) * (Fr.val p.2 - (p.1.1 : Rat)) * (Fr.val p.2 - (p.1.1 : Rat))
theorem isF1 (n : Int) : Fr.IsF (n, 1) := ⟨show (0 : Int) < 1 by decide, by show Int.gcd n 1 = 1; simp⟩
theorem val1 (n : Int) : Fr.val (n, 1) = (n : Rat) := by
  unfold Fr.val
  show (n : Rat) / ((1 : Int) : Rat) = _
  grind
theorem cstep_isF {c : Int × Int} {p : (Int × Int) × (Int × Int)} (hc : Fr.IsF c) (hp : Fr.IsF p.2) : Fr.IsF (cstep c p) :=
  Fr.add_isF hc (Fr.mul_isF (isF1 _) (Fr.mul_isF (Fr.sub_isF hp (isF1 _)) (Fr.sub_isF hp (isF1 _))))
theorem cstep_val {c : Int × Int} {p : (Int × Int) × (Int × Int)} (hc : Fr.IsF c) (hp : Fr.IsF p.2) : Fr.val (cstep c p) = Fr.val c + cval p := by
  have hs := Fr.sub_isF hp (isF1 p.1.1)
  unfold cstep cval
  rw [Fr.add_val hc (Fr.mul_isF (isF1 _) (Fr.mul_isF hs hs)), Fr.mul_val (isF1 _) (Fr.mul_isF hs hs), Fr.mul_val hs hs, Fr.sub_val hp (isF1 _), val1, val1, Rat.mul_assoc]
theorem cost_fold : ∀ (ps : List ((Int × Int) × (Int × Int))) (c : Int × Int), Fr.IsF c → (∀ p ∈ ps, Fr.IsF p.2) → Fr.IsF (ps.foldl cstep c) ∧ Fr.val (ps.foldl cstep c) = Fr.val c + (ps.map cval).sum
  | [], c, hc, _ => ⟨hc, by simp only [List.foldl_nil, List.map_nil, List.sum_nil]; grind⟩
  | p :: ps, c, hc, h => by
    have hp := h p List.mem_cons_self
    obtain ⟨h1, h2⟩ := cost_fold ps (cstep c p) (cstep_isF hc hp) fun q hq => h q (List.mem_cons_of_mem _ hq)
    refine ⟨h1, ?_⟩
    rw [List.foldl_cons, h2, cstep_val hc hp, List.map_cons, List.sum_cons]
    grind
theorem zip_mem2 {α β : Type} {xs : List α} {ys : List β} {p : α × β} (h : p ∈ List.zip xs ys) : p.1 ∈ xs ∧ p.2 ∈ ys := ⟨(List.of_mem_zip (a := p.1) (b := p.2) h).1, (List.of_mem_zip (a := p.1) (b := p.2) h).2⟩
theorem costF_isF {its rt : List (Int × Int)} (h : ∀ r ∈ rt, Fr.IsF r) : Fr.IsF (costF its rt) := (cost_fold _ _ Fr.zero_isF fun p hp => h _ (zip_mem2 hp).2).1
theorem costF_val {its rt : List (Int × Int)} (h : ∀ r ∈ rt, Fr.IsF r) : Fr.val (costF its rt) = ((List.zip its rt).map cval).sum := by
  have := (cost_fold (List.zip its rt) _ Fr.zero_isF fun p hp => h _ (zip_mem2 hp).2).2
  rw [Fr.zero_val] at this
  unfold costF
  rw [this]
  grind
theorem sz1 {n : Int} {b : Nat} (h : n.natAbs < 2 ^ b) (hb : 0 < b) : Fr.Sz b (n, 1) := ⟨h, by
  show (1 : Int).natAbs < 2 ^ b
  exact Nat.one_lt_two_pow (by omega)⟩
theorem cstep_sz {c : Int × Int} {p : (Int × Int) × (Int × Int)} {a b : Nat} (hc : Fr.Sz a c) (hp : Fr.Sz b p.2) (hm : p.1.1.natAbs < 2 ^ 30) (hw : p.1.2.natAbs < 2 ^ 30) : Fr.Sz (a + (30 + ((b + 30 + 1) + (b + 30 + 1))) + 1) (cstep c p) :=
  Fr.add_sz hc (Fr.mul_sz (sz1 hw (by decide)) (Fr.mul_sz (Fr.sub_sz hp (sz1 hm (by decide))) (Fr.sub_sz hp (sz1 hm (by decide)))))
theorem shw_fds {rt : List (Int × Int)} {n : Nat} (hl : rt.length ≤ n) (h : ∀ r ∈ rt, Fr.Sz 1900 r) : Shw (.tuple (rt.map fd)) (3851 * n + 3) 2 :=
  (Shw.tup (shwL_map fun r hr => Shw.fd (h r hr) (by decide) (by decide))).mono (by have := Nat.mul_le_mul_left 3851 hl; omega) (by decide)
theorem plain_map {α : Type} {f : α → PyData} : ∀ {xs : List α}, (∀ x ∈ xs, plainD (f x) = true) → plainD.plainL (xs.map f) = true
  | [], _ => rfl
  | x :: xs, h => by
    rw [List.map_cons]
    unfold plainD.plainL
    rw [h x List.mem_cons_self, plain_map fun y hy => h y (List.mem_cons_of_mem _ hy)]
    rfl
/-- the marks as ratings cost nothing -/
theorem zip_marks : ∀ its : List (Int × Int), ((List.zip its (its.map fun q => (q.1, (1 : Int)))).map cval).sum = 0
  | [] => rfl
  | q :: its => by
    rw [List.map_cons, List.zip_cons_cons, List.map_cons, List.sum_cons, zip_marks its]
    unfold cval
    rw [val1]
    grind
theorem cost_marks (its : List (Int × Int)) : costF its (its.map fun q => (q.1, (1 : Int))) = (0, 1) := by
  have h : ∀ r ∈ its.map fun q => (q.1, (1 : Int)), Fr.IsF r := fun r hr => by
    obtain ⟨q, _, rfl⟩ := List.mem_map.mp hr
    exact isF1 _
  refine Fr.val_inj (costF_isF h) Fr.zero_isF ?_
  rw [costF_val h, zip_marks, Fr.zero_val]
end PM

namespace PM
open PySem PySem.Spec PyProof.Rows L2 RZ
open AutoSeq1 (wpAny_loadPart')
/-! ### a tuple times 1, times 0 -/
set_option maxHeartbeats 4000000 in
theorem tmul1 (l : Addr) (xs : Array Value) (n : Nat) (dd : Option Addr) (sl : Array (Option Value)) (u : Tok) :
    Meets (Builtin.«tuple.__mul__» ⟨[.ref l, .int 1 u], []⟩) (fun _ R s => s.heap.get? l = some { cls := .type "tuple", dict := dd, data := .seq xs n, slots := sl } ∧ R (.ok (.ret (.ref l))) s) :=
  .of_wp fun prog w A R s h => by
    obtain ⟨a1, a2, a3, a4, a5⟩ := s
    obtain ⟨hl, h⟩ := h
    have f1 := AutoSeq1.idx_int
    wp_walk using wpAny_loadPart' hl
    exact ⟨_, rfl, h⟩
set_option maxHeartbeats 4000000 in
theorem tmul0 (l : Addr) (xs : Array Value) (n : Nat) (dd : Option Addr) (sl : Array (Option Value)) (u : Tok) (ne : xs.isEmpty = false) :
    Meets (Builtin.«tuple.__mul__» ⟨[.ref l, .int 0 u], []⟩) (fun _ R s => s.heap.get? l = some { cls := .type "tuple", dict := dd, data := .seq xs n, slots := sl } ∧
      R (.ok (.ret (.ref s.heap.objs.size))) { s with heap := s.heap.push { cls := .type "tuple", data := .seq #[] } }) :=
  .of_wp fun prog w A R s h => by
    obtain ⟨a1, a2, a3, a4, a5⟩ := s
    obtain ⟨hl, h⟩ := h
    have f1 := AutoSeq1.idx_int
    wp_walk using wpAny_loadPart' hl
    exact ⟨_, rfl, h⟩
def rRep01 (K : PySem.W.Frag) : R2 := fun x y H Q => ∃ l xs, x = .ref l ∧ SqT K H l xs ∧ xs ≠ [] ∧ ((y = .int 0 ∧ ∀ p, H p = none → Q (.ref p) (upd H p (.tup []))) ∨ (y = .int 1 ∧ Q (.ref l) H))
theorem op_rep01 {X : Cx} : OpR X (binaryOp .Mult) (rRep01 X.K) := by
  intro pins s σ H x y v u Q I rx ry h
  obtain ⟨l, xs, rfl, hT, hne, h⟩ := h
  cases rx
  obtain ⟨its, r, ⟨⟨cls, dd, data, sl⟩, ho, hc, n, hd⟩, hs⟩ := I.tuple hT
  simp only at hc hd
  subst hc hd
  have hi : its.toArray.isEmpty = false := by
    cases r with
    | nil => exact absurd rfl hne
    | cons _ _ => rfl
  rcases h with ⟨rfl, q⟩ | ⟨rfl, q⟩
  · obtain ⟨t, rfl⟩ := ry
    refine wpAny_binaryOp_repeat_ref (T := "tuple") (U := "int") (by decide) ⟨_, ho, rfl⟩ (fun s' => typeIs_int s' 0 t) noFill_tuple_mul F.fills_int_mul F.slot_int_rmul repeat_tuple F.slot_int_index.lookup (call_meets F.slot_int_rmul (typeIs_int s 0 t) F.entry_int_rmul (F.args_int_rmul_2 _ _) (int_rmul_tuple 0 t l its.toArray n dd sl) ⟨ho, rfl, ⟨_, ho, rfl⟩, call_meets F.slot_tuple_mul ⟨_, ho, rfl⟩ F.entry_tuple_mul (F.args_tuple_mul_2 _ _) (tmul0 l its.toArray n dd sl t hi) ⟨ho, ?_⟩⟩)
    exact ⟨.ref s.heap.objs.size, _, I.laid (t' := s.toks) (o := .tup []) (fun b ob e => Heap.get?_push_of_some _ e) (Nat.le_refl _) ⟨Nat.zero_le _, [], .nil, IsTup.new _ _⟩, rfl, q _ (I.hok.fresh (Nat.le_refl _))⟩
  · obtain ⟨t, rfl⟩ := ry
    refine wpAny_binaryOp_repeat_ref (T := "tuple") (U := "int") (by decide) ⟨_, ho, rfl⟩ (fun s' => typeIs_int s' 1 t) noFill_tuple_mul F.fills_int_mul F.slot_int_rmul repeat_tuple F.slot_int_index.lookup (call_meets F.slot_int_rmul (typeIs_int s 1 t) F.entry_int_rmul (F.args_int_rmul_2 _ _) (int_rmul_tuple 1 t l its.toArray n dd sl) ⟨ho, rfl, ⟨_, ho, rfl⟩, call_meets F.slot_tuple_mul ⟨_, ho, rfl⟩ F.entry_tuple_mul (F.args_tuple_mul_2 _ _) (tmul1 l its.toArray n dd sl t) ⟨ho, ?_⟩⟩)
    exact ⟨.ref l, H, I, rfl, q⟩
/-- a tuple times an int -/
def rRepA (K : PySem.W.Frag) : R2 := fun x y H Q => rRepT K x y H Q ∨ rRep01 K x y H Q
theorem op_repA {X : Cx} : OpR X (binaryOp .Mult) (rRepA X.K) := op_repT.or op_rep01
def fRepT (m : Mu) (x y : DV) (k : DV → Prop) : Prop := match x, y with
  | .d (.tuple ds), .d (.int j) => ds ≠ [] ∧ ds.length ≤ 1000 ∧ (0 ≤ j ∧ j ≤ 1000) ∧ k (.d (.tuple (List.replicate j.toNat ds).flatten))
  | _, _ => False
theorem os_repT (K : PySem.W.Frag) : OpS (rRepA K) fRepT := fun c G pl σ H e m x y dx dy k Q sr rx ry d KK => by
  unfold fRepT at d
  split at d
  · rename_i ds j
    obtain ⟨ne, lz, ⟨j0, j1⟩, d⟩ := d
    cases ry.int_inv
    cases (show Da G x _ from rx) with
    | @tup a xs _ e1 e2 =>
      have hx : xs ≠ [] := fun z => ne (e2.nil_iff.mp z)
      have st : SqT K H a xs := .inl (.inl (sr.hp.sub _ _ e1))
      by_cases h2 : 2 ≤ j
      · exact .inl ⟨a, j, xs, rfl, rfl, st, hx, h2, j1, by rw [e2.length]; exact lz, fun p hp => KK.tup sr hp d (e2.rep _)⟩
      · have : j = 0 ∨ j = 1 := by omega
        rcases this with rfl | rfl
        · exact .inr ⟨a, xs, rfl, st, hx, .inl ⟨rfl, fun p hp => KK.tup sr hp d .nil⟩⟩
        · have e : (List.replicate (1 : Int).toNat ds).flatten = ds := by simp
          rw [e] at d
          exact .inr ⟨a, xs, rfl, st, hx, .inr ⟨rfl, KK.val sr d (show Da G _ _ from .tup e1 e2)⟩⟩
  · exact d.elim
end PM

namespace PM
open PySem PySem.Spec PyProof.Rows L2 RZ
/-! ### enumerate(a tuple) -/
set_option maxHeartbeats 4000000 in
theorem enum_new1 {v : Value} {ob : Obj} {Hs : Heap → Prop} (B : Begins v ob Hs) :
    Meets (Builtin.«enumerate.__new__» ⟨[.type "enumerate", v], []⟩) (fun _ R s => Hs s.heap ∧
      R (.ok (.ret (.ref (s.heap.push ob).objs.size))) { s with heap := (s.heap.push ob).push { cls := .type "enumerate", data := .fields #[.none, .bool false, .ref s.heap.objs.size, rawInt 0, .none, .none] } }) :=
  .of_wp fun prog w A R s h => by
    obtain ⟨b1, b2, b3, b4, b5⟩ := s
    obtain ⟨h1, h⟩ := h
    have hsub := sub_enumerate
    have go : ∀ {A' : Around} {E : Value → Shared → Prop} {Q : Value → Shared → Prop}, Q (.ref b1.objs.size) ⟨b1.push ob, b2, b3, b4, b5⟩ → wpAny (model prog w) A' (pyIter v) Q E ⟨b1, b2, b3, b4, b5⟩ := fun q => B.iter prog w _ _ ⟨b1, b2, b3, b4, b5⟩ _ h1 q
    wp_walk using go
    refine wpAny_stack_any fun sk => wpAny_pure ?_
    split
    · rename_i c _ _ _ _ _
      cases (c == Value.type "enumerate") <;> (wp_walk using go; exact ⟨_, rfl, h⟩)
    · wp_walk using go
      exact ⟨_, rfl, h⟩
/-- the tuple at a as it stands, each item in a new pair -/
def ItN (K : PySem.W.Frag) (a : Addr) : It where
  go := fun i H => ∃ xs x, SqT K H a xs ∧ xs[i]? = some x
  yld := fun i H v H' => ∃ T x, v = .ref T ∧ H T = none ∧ H' = upd H T (.tup [.int (i : Nat), x]) ∧ ∀ xs, SqT K H a xs → xs[i]? = some x
  stop := fun i H => ∃ xs : List V, SqT K H a xs ∧ xs.length ≤ i
theorem turn_enumT {P : Program} {w : World} {K : PySem.W.Frag} {elts : List Expr} {kk : Nat} {tp : Pos} (a e it : Addr) :
    Turn P w K (.Tuple elts kk tp) (ItN K a) [e, it] e (fun i h => (∃ old, IsEnum h e it ((i : Nat) : Int) old) ∧ h.IsTupleIter it a i ∧ e ≠ it) where
  mem := List.mem_cons_self
  obj := fun i h t b hb => by
    obtain ⟨⟨old, he⟩, ⟨o, ho, _, hd⟩, _⟩ := t
    rcases List.mem_cons.mp hb with z | z
    · subst z
      exact ⟨_, he, fun v q => nomatch q⟩
    · cases List.mem_singleton.mp z
      exact ⟨o, ho, fun v q => by rw [hd] at q; cases q⟩
  keep := fun i h h' t kp => by
    obtain ⟨⟨old, he⟩, hi, ne⟩ := t
    exact ⟨⟨old, kp e List.mem_cons_self _ he⟩, hi.at fun o q => kp it (List.mem_cons_of_mem _ List.mem_cons_self) o q, ne⟩
  item := by
    intro X h1 h2 h3 calm i pins s σ H E I fps t go
    subst h1 h2 h3
    obtain ⟨⟨old, he⟩, hit, ne⟩ := t
    obtain ⟨xs, x, hq, hx⟩ := go
    obtain ⟨its, rv, tu, _⟩ := I.tuple hq
    obtain ⟨u, hu, ru⟩ := rv.get hx
    have lt : i < its.toArray.size := by
      rcases Nat.lt_or_ge i its.length with z | z
      · rw [List.size_toArray]; exact z
      · rw [List.getElem?_eq_none z] at hu; cases hu
    have hel := Heap.lt_size he
    have hil : it < s.heap.objs.size := by
      obtain ⟨_, q, _⟩ := hit
      exact Heap.lt_size q
    have nea : a ≠ it := fun z => by
      obtain ⟨o, q, c, _⟩ := hit
      obtain ⟨o', q', c', _⟩ := tu
      rw [← z] at q
      cases q.symm.trans q'
      rw [c'] at c
      exact absurd c (by decide)
    have nee : a ≠ e := fun z => by
      obtain ⟨o', q', c', _⟩ := tu
      rw [z] at q'
      cases he.symm.trans q'
      exact absurd (show Value.type "enumerate" = Value.type "tuple" from c') (by decide)
    have hand : X.A.in1.handled = none := I.ok.hd calm
    refine wpAny_pyNext_enum_itemC (Draws.tuple hand it a nea its.toArray) he (i := i) ⟨hit, tu⟩ lt ne (by simp only [List.mem_cons, List.not_mem_nil, or_false, not_or]; exact ⟨ne, Ne.symm nee⟩) fun y h' tk hy ho st' hT hsz kp => ?_
    have ey : y = u := by
      have hy : its.toArray[i]? = some y := hy
      have hu2 : its.toArray[i]? = some u := by simpa using hu
      exact Option.some.inj (hy.symm.trans hu2)
    subst ey
    refine ⟨_, rfl, wpAny_letOwnedTupleGo_enum (s := { s with heap := h', toks := tk + 1 }) ho fun h2 he2 sb => ?_⟩
    have hT2 := (sb.2 _ (Nat.ne_of_gt hel)).trans hT
    have pair : ObjOk X.prog X.w (upd H s.heap.objs.size (.tup [.int (i : Nat), x])) h2 s.heap.objs.size (.tup [.int (i : Nat), x]) :=
      ⟨toks (show 2 ≤ 1000 by decide), [.int i tk, y], .cons ⟨_, rfl⟩ (.cons ru .nil), ⟨_, hT2, rfl, _, rfl⟩⟩
    have I2 := I.turnedNew (t' := tk + 1) (ch := [e, it]) (fun b ob hb q => (sb.2 b (fun z => hb (by simp [z]))).trans (kp b ob (fun z => hb (by simp [z])) (fun z => hb (by simp [z])) q)) fps (Nat.le_refl _) pair
    refine ⟨.ref s.heap.objs.size, _, I2, rfl, ⟨_, x, rfl, I.hok.fresh (Nat.le_refl _), rfl, fun ys hy => by rw [I.tuple_inj hy hq]; exact hx⟩, ⟨⟨y, ?_⟩, st'.1.at fun o q => (sb.2 it (Ne.symm ne)).trans q, ne⟩, fun b hb => ?_⟩
    · rw [show ((i + 1 : Nat) : Int) = (i : Int) + 1 by omega]
      exact he2
    · have lb : b < s.heap.objs.size := by
        rcases List.mem_cons.mp hb with z | z
        · rw [z]; exact hel
        · rw [List.mem_singleton.mp z]; exact hil
      rw [upd_ne (Nat.ne_of_lt lb)]
      exact (fps b hb).1
  done := by
    intro X h1 h2 h3 calm i pins s σ H E I fps t stop
    subst h1 h2 h3
    obtain ⟨⟨old, he⟩, hit, ne⟩ := t
    obtain ⟨xs, hq, hx⟩ := stop
    obtain ⟨its, rv, tu, _⟩ := I.tuple hq
    have hl := rv.length
    have gone : its.toArray[i]? = none := by simp; omega
    have hand : X.A.in1.handled = none := I.ok.hd calm
    have D : Draws X.prog X.w X.A.in1 it [it, a] i (fun _ _ => False) (fun j h => j = i ∧ h.IsTupleIter it a i ∧ h.IsTuple a its.toArray) := by
      refine ⟨fun _ _ t => ?_, fun _ _ _ t kp => ⟨t.1, t.2.1.at fun o q => kp it List.mem_cons_self o q, t.2.2.at fun o q => kp a (List.mem_cons_of_mem _ List.mem_cons_self) o q⟩, fun j s Q E lt t _ => absurd lt (by rw [t.1]; exact Nat.lt_irrefl _), fun s Q E t hE => wpAny_nextOf_tuple_end hand t.2.1 t.2.2 gone hE⟩
      obtain ⟨o, ho, _⟩ := t.2.1
      exact ⟨o, ho⟩
    obtain ⟨f0, f1, f2, f3, f4, f5⟩ := fps it (List.mem_cons_of_mem _ List.mem_cons_self)
    exact wpAny_pyNext_enum_endD D he ⟨rfl, hit, tu⟩ fun h' ext => ⟨rfl, I.turned (t' := s.toks) (fun b o hb q => ext b o hb q) f0 f1 f3 f4 f5⟩
  self := fun A i s Q E t q => by
    obtain ⟨⟨old, he⟩, _⟩ := t
    exact wpAny_pyIter_enum he q
/-- enumerate of a list or a tuple -/
def iEnumA (K : PySem.W.Frag) (ta : TA) : TI := fun σ H R => ta σ H fun vs H1 => ∃ a xs, vs = [.ref a] ∧ ((SqL K H1 a xs ∧ R (Ite K a) H1) ∨ (SqT K H1 a xs ∧ R (ItN K a) H1))
theorem pi_enumA {X : Cx} {e : Expr} {ta : TA} {p pos tp : Pos} {elts : List Expr} {kk : Nat} (hg : Gl X "enumerate") (hm : X.mg "enumerate" = none) (ha : PA X [e] ta) (hs : starEach [e] X.env = [(false, eval e X.env)] := by rfl) :
    PI X (.Tuple elts kk tp) (.Call (.Name "enumerate" p) [e] [] pos) (iEnumA X.K ta) := by
  refine ⟨fun pins s σ H R I h => Call_ (ld_blt I hg hm boot_enumerate (PyProof.Rows.callWith_type1 (thn (ha.run pos pins s σ H _ I h) fun us s1 hv => ?_) hs rfl))⟩
  obtain ⟨vs, H1, I1, r1, a, xs, rfl, q⟩ := hv
  cases r1 with
  | cons r rr =>
    cases rr
    cases r
    have two : ∀ b ∈ [s1.heap.objs.size + 1, s1.heap.objs.size], FpOk X pins H1 b := fun b hb => by
      have lb : s1.heap.objs.size ≤ b := by
        rcases List.mem_cons.mp hb with z | z
        · rw [z]; exact Nat.le_add_right _ _
        · rw [List.mem_singleton.mp z]; exact Nat.le_refl _
      exact I1.fpOk lb (I1.hok.fresh lb)
    rcases q with ⟨hq, q⟩ | ⟨hq, q⟩
    · obtain ⟨its, rv, il, _⟩ := I1.list hq
      exact call_enumerate_list il.isList fun h' he hit hsz kp => wpAny_pyIter_enum he ⟨s1.heap.objs.size + 1, [s1.heap.objs.size + 1, s1.heap.objs.size], _, _, H1, rfl, I1.kept (t' := s1.toks) kp, turn_enum a (s1.heap.objs.size + 1) s1.heap.objs.size, ⟨⟨.none, he⟩, hit, Nat.succ_ne_self _⟩, two, q⟩
    · obtain ⟨its, rv, tu, _⟩ := I1.tuple hq
      have fin : ∀ h', IsEnum h' (s1.heap.objs.size + 1) s1.heap.objs.size 0 .none → h'.IsTupleIter s1.heap.objs.size a 0 → (∀ b o, s1.heap.get? b = some o → h'.get? b = some o) → wpAny (model X.prog X.w) X.A (pyIter (.ref (s1.heap.objs.size + 1))) (PIE X pins σ (.Tuple elts kk tp) R) X.xe { s1 with heap := h' } := fun h' he hit kp =>
        wpAny_pyIter_enum he ⟨s1.heap.objs.size + 1, [s1.heap.objs.size + 1, s1.heap.objs.size], _, _, H1, rfl, I1.kept (t' := s1.toks) kp, turn_enumT a (s1.heap.objs.size + 1) s1.heap.objs.size, ⟨⟨.none, he⟩, hit, Nat.succ_ne_self _⟩, two, q⟩
      refine callType_new F.called_enumerate (by decide) (F.typeCall_enumerate_1 _) (F.newCall_enumerate_1 _) (fun obj => F.args_object_init_2 obj _) F.entry_enumerate_new (enum_new1 (begins_tuple a its.toArray)) ⟨tu, ?_⟩
      have hz : (s1.heap.push { cls := .type "tuple_iterator", data := .fields #[.ref a, .int 0 0] }).objs.size = s1.heap.objs.size + 1 := Heap.size_push ..
      show _ ∧ _
      rw [hz]
      have he : IsEnum ((s1.heap.push { cls := .type "tuple_iterator", data := .fields #[.ref a, .int 0 0] }).push { cls := .type "enumerate", data := .fields #[.none, .bool false, .ref s1.heap.objs.size, rawInt 0, .none, .none] }) (s1.heap.objs.size + 1) s1.heap.objs.size 0 .none := by
        have g := Heap.get?_push_size (s1.heap.push { cls := .type "tuple_iterator", data := .fields #[.ref a, .int 0 0] }) (o := { cls := .type "enumerate", data := .fields #[.none, .bool false, .ref s1.heap.objs.size, rawInt 0, .none, .none] }) rfl
        rw [hz] at g
        exact g
      exact ⟨⟨_, he, rfl⟩, fin _ he ⟨_, Heap.get?_push_of_some _ (Heap.get?_push_size _ rfl), rfl, rfl⟩ fun b o x => Heap.get?_push_of_some _ (Heap.get?_push_of_some _ x)⟩
def diEnum (a : DA) : DI := fun e m k => a e m fun xs m1 => match xs with
  | [.d (.tuple ds)] => k (enumD 0 ds) m1
  | [.d (.list ds)] => k (enumD 0 ds) m1
  | _ => False
theorem si_enum (K : PySem.W.Frag) {ta : TA} {da : DA} (h : SA ta da) : SI (iEnumA K ta) (diEnum da) := fun c G pl σ H e m k R sr d KK => h _ _ _ _ _ _ _ _ _ sr d fun xs m1 G1 pl1 H1 vs d1 l1 sr1 r1 => by
  split at d1
  · rename_i ds
    cases r1 with
    | cons ra t =>
      cases t
      cases (show Da G1 _ (.tuple ds) from ra) with
      | @tup a ws _ e1 e2 =>
        have st : ∀ {H}, Same G1 H → SqT K H a ws := fun s => .inl (.inl (s _ _ e1))
        refine ⟨a, ws, rfl, .inr ⟨st sr1.hp.sub, KK _ _ _ _ _ _ d1 l1 sr1 ⟨fun i H hi s => ?_, fun H s => ?_, fun i H x H' hi s y => ?_⟩⟩⟩
        · rw [enumD_len, ← e2.length] at hi
          exact ⟨ws, ws[i], st s, List.getElem?_eq_getElem hi⟩
        · exact ⟨ws, st s, by rw [enumD_len, e2.length]; exact Nat.le_refl _⟩
        · obtain ⟨T, u, y1, y2, y3, y4⟩ := y
          obtain ⟨dd, g1, g2⟩ := e2.get i (y4 ws (st s))
          have ge := enumD_get 0 g1
          rw [Nat.zero_add] at ge
          exact ⟨_, ge, .inr ⟨T, _, _, y1, y2, y3, .cons (.int _) (.cons g2 .nil), rfl⟩⟩
  · rename_i ds
    cases r1 with
    | cons ra t =>
      cases t
      cases (show Da G1 _ (.list ds) from ra) with
      | @lst a ws _ e1 e2 =>
        have st : ∀ {H}, Same G1 H → SqL K H a ws := fun s => .inl (.inl (s _ _ e1))
        refine ⟨a, ws, rfl, .inl ⟨st sr1.hp.sub, KK _ _ _ _ _ _ d1 l1 sr1 ⟨fun i H hi s => ?_, fun H s => ?_, fun i H x H' hi s y => ?_⟩⟩⟩
        · rw [enumD_len, ← e2.length] at hi
          exact ⟨ws, ws[i], st s, List.getElem?_eq_getElem hi⟩
        · exact ⟨ws, st s, by rw [enumD_len, e2.length]; exact Nat.le_refl _⟩
        · obtain ⟨T, u, y1, y2, y3, y4⟩ := y
          obtain ⟨dd, g1, g2⟩ := e2.get i (y4 ws (st s))
          have ge := enumD_get 0 g1
          rw [Nat.zero_add] at ge
          exact ⟨_, ge, .inr ⟨T, _, _, y1, y2, y3, .cons (.int _) (.cons g2 .nil), rfl⟩⟩
  · exact d1.elim
end PM

namespace PM
open PySem PySem.Spec PyProof.Rows L2 RZ
/-! ### sorted(t), t a tuple; sorted(xs), tuples of ints -/
section
variable {prog : Program} {w : World} {A : Around} {E : Value → Shared → Prop} {s : Shared}
set_option maxHeartbeats 4000000 in
theorem gatherT {t : Addr} {us : List Value} {R : List Value → Shared → Prop} (ht : IsTup s.heap t us.toArray) (lz : us.length ≤ sizeLine)
    (q : R us { s with heap := (s.heap.push (seqObj "list" #[] 0)).update s.heap.objs.size (Obj.mapSeq (· ++ us.toArray)) }) :
    wpAny (model prog w) A (collect (.ref t)) R E s := by
  obtain ⟨ob, h1, h2, n, h3⟩ := ht
  unfold collect
  refine wpAny_bind (wpAny_runValue (codeAny_builtin entry_proto_collect' (wpAny_bind (wpAny_newList (wpAny_pure ⟨Code.quiet_builtin _ (by decide +kernel), codeAny_builtin entry_list_iadd' ?_⟩)))))
  show wpAny _ _ (Builtin.List.listExtendWith (.ref s.heap.objs.size) (.ref t) (.ref s.heap.objs.size)) _ _ { s with heap := s.heap.push (seqObj "list" #[] 0) }
  unfold Builtin.List.listExtendWith
  have h1' := Heap.get?_push_of_some (seqObj "list" #[] 0) h1
  have same : (Value.type "tuple" == Value.type "tuple") = true := by rfl
  refine wpAny_bind (wpAny_typeOf (T := "tuple") ⟨ob, h1', h2⟩ ?_)
  rw [if_pos (by rw [same]; simp)]
  refine wpAny_bind (listItems_at h1' h3 (wpAny_bind (listItems_at (xs := #[]) (n := 0) (Heap.get?_push_size _ rfl) rfl ?_)))
  rw [if_neg (by simp)]
  refine wpAny_bind (listUpdate_at (xs := #[]) (n := 0) (Heap.get?_push_size _ rfl) rfl (wpAny_pure ?_) (Nat.zero_le _) (by show (#[] ++ us.toArray).size ≤ sizeLine + 1; simp only [Array.size_append, List.size_toArray, List.length_nil]; omega))
  refine wpAny_bind (wpAny_load (get?_update_seq (Heap.get?_push_size _ rfl) _) ?_)
  show wpAny _ _ (pure ((#[] : Array Value) ++ us.toArray).toList) R E _
  have e : ((#[] : Array Value) ++ us.toArray).toList = us := by simp
  rw [e]
  exact wpAny_pure q
def SqA (h : Heap) (a : Addr) (us : List Value) : Prop := h.IsList a us.toArray ∨ IsTup h a us.toArray
theorem gather {t : Addr} {us : List Value} {R : List Value → Shared → Prop} (ht : SqA s.heap t us) (lz : us.length ≤ sizeLine)
    (q : R us { s with heap := (s.heap.push (seqObj "list" #[] 0)).update s.heap.objs.size (Obj.mapSeq (· ++ us.toArray)) }) :
    wpAny (model prog w) A (collect (.ref t)) R E s := ht.elim (fun h => collect_list h q lz) fun h => gatherT h lz q
set_option maxHeartbeats 4000000 in
/-- sorted of a list or tuple -/
theorem sorted_of {t : Addr} {us : List Value} {lt : Value → Value → Bool} {R : Value → Shared → Prop} (O : SrtO.Swo lt) (ht : SqA s.heap t us) (lz : us.length ≤ sizeLine)
    (hS : 2 ≤ us.length → ∀ (g : Heap) (a : Addr), g.get? a = some (seqObj "list" us.toArray 0) → (∀ b o, s.heap.get? b = some o → b ≠ a ∧ g.get? b = some o) → SrtO.SortableO prog w A.in1.in1 { s with heap := g } a us lt)
    (q : ∀ out : List Value, SrtO.Srtd lt out → SrtO.Stb lt out us → R (.ref (s.heap.objs.size + 1)) { s with heap := sortedAll s.heap us out.toArray }) :
    wpAny (model prog w) A (call (.builtin "sorted") [.ref t]) R E s := by
  refine Calls.call_function_entry kind_sorted plain_sorted entry_sorted (args_sorted1 _) ?_
  unfold Builtin.«sorted»
  refine wpAny_bind (m := checkCount "sorted" 1 1 _) (wpAny_pure (wpAny_bind (gather ht lz (wpAny_bind (wpAny_newList ?_ lz)))))
  have z1 : ((s.heap.push (seqObj "list" #[] 0)).update s.heap.objs.size (Obj.mapSeq (· ++ us.toArray))).objs.size = s.heap.objs.size + 1 := by
    rw [Heap.size_update, size_push']
  have z2 : (((s.heap.push (seqObj "list" #[] 0)).update s.heap.objs.size (Obj.mapSeq (· ++ us.toArray))).push (seqObj "list" us.toArray 0)).get? (s.heap.objs.size + 1) = some (seqObj "list" us.toArray 0) := by
    rw [← z1]
    exact Heap.get?_push_size _ rfl
  have z3 : ∀ b o, s.heap.get? b = some o → b ≠ s.heap.objs.size + 1 ∧ (((s.heap.push (seqObj "list" #[] 0)).update s.heap.objs.size (Obj.mapSeq (· ++ us.toArray))).push (seqObj "list" us.toArray 0)).get? b = some o := fun b o h => by
    have lz' : b < s.heap.objs.size := Heap.lt_size h
    refine ⟨Nat.ne_of_lt (Nat.lt_succ_of_lt lz'), Heap.get?_push_of_some _ ?_⟩
    rw [Heap.get?_update_ne _ _ _ _ (Nat.ne_of_lt lz')]
    exact Heap.get?_push_of_some _ h
  show wpAny _ _ _ _ _ { s with heap := ((s.heap.push (seqObj "list" #[] 0)).update s.heap.objs.size (Obj.mapSeq (· ++ us.toArray))).push (seqObj "list" us.toArray 0) }
  rw [z1]
  refine wpAny_bind (wpAny_holding (wpAny_call_entry slot_list_sort ⟨_, z2, rfl⟩ entry_list_sort (SrtO.list_sort_ord O z2 lz (fun h2 => hS h2 _ _ z2 z3) fun out o1 o2 => ⟨_, rfl, ?_⟩) (args_list_sort _)))
  exact wpAny_pure ⟨_, rfl, q out o1 o2⟩
/-- v is a tuple of these ints -/
def IsTs (h : Heap) (v : Value) (ns : List Int) : Prop := ∃ a o us n, v = .ref a ∧ h.get? a = some o ∧ o.cls = .type "tuple" ∧ o.data = .seq us n ∧ IntsAre us.toList ns
theorem IsTs.keeps {h h' : Heap} {v : Value} {ns : List Int} (t : IsTs h v ns) (k : ∀ b o, h.get? b = some o → o.cls = .type "tuple" → h'.get? b = some o) : IsTs h' v ns := by
  obtain ⟨a, o, us, n, e, h1, h2, h3, h4⟩ := t
  exact ⟨a, o, us, n, e, k _ _ h1 h2, h2, h3, h4⟩
open HT (lexLt lexLt_cons lexLt_nil_nil lexLt_nil_cons lexLt_cons_nil)
theorem lexLt_asym : ∀ {xs ys : List Int}, lexLt xs ys = true → lexLt ys xs = false
  | [], [], h => nomatch h
  | [], _ :: _, _ => rfl
  | _ :: _, [], h => nomatch h
  | x :: xs, y :: ys, h => by
    rw [lexLt_cons] at h ⊢
    split at h
    · rename_i e
      rw [if_pos e.symm]
      exact lexLt_asym h
    · rename_i e
      have := of_decide_eq_true h
      rw [if_neg fun z => e z.symm]
      exact decide_eq_false (by omega)
theorem lexLt_tr : ∀ {xs ys zs : List Int}, lexLt ys xs = false → lexLt zs ys = false → lexLt zs xs = false
  | [], [], [], _, _ => rfl
  | [], _ :: _, _, h, _ => by
    cases ‹List Int› <;> rfl
  | [], [], _ :: _, _, _ => rfl
  | _ :: _, [], _, h, _ => nomatch h
  | _ :: _, _ :: _, [], _, h => nomatch h
  | x :: xs, y :: ys, z :: zs, h1, h2 => by
    rw [lexLt_cons] at h1 h2 ⊢
    split at h1
    · rename_i e1
      split at h2
      · rename_i e2
        rw [if_pos (e2.trans e1)]
        exact lexLt_tr h1 h2
      · rename_i e2
        have := of_decide_eq_false h2
        rw [if_neg (by omega)]
        exact decide_eq_false (by omega)
    · rename_i e1
      have := of_decide_eq_false h1
      split at h2
      · rename_i e2
        rw [if_neg (by omega)]
        exact decide_eq_false (by omega)
      · rename_i e2
        have := of_decide_eq_false h2
        rw [if_neg (by omega)]
        exact decide_eq_false (by omega)
theorem swo_lexLt {α : Type} (k : α → List Int) : SrtO.Swo fun v u => lexLt (k v) (k u) := ⟨fun _ _ h => lexLt_asym h, fun _ _ _ h1 h2 => lexLt_tr h1 h2⟩
theorem lt_tuples {a b : Addr} {xs ys : List Int} {Q : Value → Shared → Prop} (h1 : IsTs s.heap (.ref a) xs) (h2 : IsTs s.heap (.ref b) ys) (q : Q (.bool (lexLt xs ys)) s) :
    wpAny (model prog w) A (call (.builtin "tuple.__lt__") [.ref a, .ref b]) Q E s := by
  obtain ⟨a', ⟨c1, d1, t1, l1⟩, us, n, e, g1, g2, g3, g4⟩ := h1
  obtain ⟨b', ⟨c2, d2, t2, l2⟩, ws, n', e', k1, k2, k3, k4⟩ := h2
  cases e
  cases e'
  simp only at g2 g3 k2 k3
  subst g2 g3 k2 k3
  exact call_meets F.slot_tuple_lt ⟨_, g1, rfl⟩ F.entry_tuple_lt (F.args_tuple_lt_2 _ _) (HT.tuple_lt_ints a b us ws n n' d1 d2 l1 l2 xs ys g4 k4) ⟨g1, k1, q⟩
theorem oneLt_tuples {a b : Addr} {xs ys : List Int} {Q : Bool → Shared → Prop} (hu : A.units < cLine) (h1 : IsTs s.heap (.ref a) xs) (h2 : IsTs s.heap (.ref b) ys) (q : Q (lexLt xs ys) s) :
    wpAny (model prog w) A (oneLt' true (.ref a) (.ref b)) Q E s := by
  rw [oneLt'_eq]
  simp only [if_true]
  have ty : s.TypeIs (.ref a) "tuple" := by
    obtain ⟨a', o, us, n, e, g1, g2, _⟩ := h1
    cases e
    exact ⟨o, g1, g2⟩
  refine wpAny_bind (wpAny_cRoomFor hu (wpAny_bind (wpAny_callSpecialIfBound?_slot ty F.slot_tuple_lt (lt_tuples h1 h2 ?_))))
  exact wpAny_truthy_bool q
theorem ts_cmp {vs : List Value} {k : Value → List Int} (hu : A.units < cLine) (hp : ∀ v ∈ vs, IsTs s.heap v (k v)) : SrtO.Cmp prog w A s oneType' (fun p => p.1 ∈ vs) (SrtO.lt2 fun v u => lexLt (k v) (k u)) := by
  intro p q hm hm'
  have h1 := hp _ hm
  have h2 := hp _ hm'
  show wpAny (model prog w) A (keyLt' oneType' p.1 q.1) (fun r s' => s' = s ∧ r = lexLt (k p.1) (k q.1)) (fun _ _ => False) s
  obtain ⟨a, _, _, _, e, _⟩ := id h1
  obtain ⟨b, _, _, _, e', _⟩ := id h2
  rw [e] at h1 ⊢
  rw [e'] at h2 ⊢
  rw [keyLt'_oneType]
  exact oneLt_tuples hu h1 h2 ⟨rfl, rfl⟩
theorem kind_ts {M : Model} {vs : List Value} {k : Value → List Int} {v : Value} {R : SortKind → Shared → Prop} (hp : ∀ u ∈ v :: vs, IsTs s.heap u (k u)) (h0 : k v = []) (q : R oneType' s) :
    wpAny M A (keyKind' (v :: vs).toArray) R E s := by
  have fs : ∀ (us : List Value) {Q : List (Option Value) → Shared → Prop}, (∀ u ∈ us, IsTs s.heap u (k u)) → (∀ os : List (Option Value), Q os s) → wpAny M A (us.mapM firstOfTuple') Q E s := by
    intro us
    induction us with
    | nil => intro Q _ z; rw [List.mapM_nil]; exact wpAny_pure (z [])
    | cons u us ih =>
      intro Q hs z
      obtain ⟨a, o, xs, n, rfl, ho, hc, hd, hi⟩ := hs u List.mem_cons_self
      rw [List.mapM_cons]
      refine wpAny_bind ?_
      rw [PySem.W.kas_first_eq]
      refine wpAny_bind (PySem.W.Looks.here (show PySem.W.Looks M s.heap (typeOf (.ref a)) o.cls from (PySem.W.Looks.ld ho).andThen .now) ?_)
      rw [hc, if_neg (by first | decide | simp)]
      refine wpAny_bind (listItems_at ho hd (wpAny_pure ?_))
      exact wpAny_bind (ih (Q := fun bs s' => wpAny M A (pure (xs[0]? :: bs)) Q E s') (fun u' h => hs u' (List.mem_cons_of_mem _ h)) fun os => wpAny_pure (z _))
  rw [keyKind'_eq, List.mapM_toArray, map_eq_pure_bind]
  obtain ⟨a, o, xs, n, rfl, ho, hc, hd, hi⟩ := hp v List.mem_cons_self
  have x0 : xs[0]? = none := by
    rw [h0] at hi
    have := hi.length
    simp at this
    simp [this]
  rw [List.mapM_cons]
  refine wpAny_bind (wpAny_bind (wpAny_bind ?_))
  rw [PySem.W.kas_first_eq]
  refine wpAny_bind (PySem.W.Looks.here (show PySem.W.Looks M s.heap (typeOf (.ref a)) o.cls from (PySem.W.Looks.ld ho).andThen .now) ?_)
  rw [hc, if_neg (by first | decide | simp)]
  refine wpAny_bind (listItems_at ho hd (wpAny_pure ?_))
  rw [x0]
  refine wpAny_bind (fs vs (fun u h => hp u (List.mem_cons_of_mem _ h)) fun os => wpAny_pure (wpAny_pure ?_))
  rw [if_neg (by simp), if_neg (by simp)]
  rw [oneTypeOnly'_eq, List.mapM_toArray, map_eq_pure_bind]
  refine wpAny_bind (wpAny_bind (wpAny_bind (PySem.W.kas_mapM (r := Value.type "tuple") _ (fun u hu Q' hq => ?_) (wpAny_pure ?_))))
  · obtain ⟨a, o, xs, n, rfl, ho, hc, _⟩ := hp u hu
    rw [← hc] at hq
    exact PySem.W.Looks.here (show PySem.W.Looks M s.heap (typeOf (.ref a)) o.cls from (PySem.W.Looks.ld ho).andThen .now) hq
  · have same : (Value.type "tuple" == Value.type "tuple") = true := by rfl
    have al : ((List.map (fun _ => Value.type "tuple") (Value.ref a :: vs)).toArray.all fun x => x == Value.type "tuple") = true := by
      rw [List.all_toArray, List.all_map, List.all_eq_true]
      exact fun _ _ => same
    have at0 : (List.map (fun _ => Value.type "tuple") (Value.ref a :: vs)).toArray[0]? = some (Value.type "tuple") := by simp
    rw [at0]
    simp only [al, if_true]
    exact wpAny_pure (wpAny_pure q)
theorem ts_sortable {a : Addr} {v : Value} {vs : List Value} {k : Value → List Int} (hu : A.units < cLine) (hp : ∀ u ∈ v :: vs, IsTs s.heap u (k u)) (h0 : k v = []) (ha : ∀ o, s.heap.get? a = some o → o.cls ≠ .type "tuple") :
    SrtO.SortableO prog w A s a (v :: vs) fun x y => lexLt (k x) (k y) := by
  intro h' keep
  have hp' : ∀ u ∈ v :: vs, IsTs h' u (k u) := fun u hm => (hp u hm).keeps fun b o e c => keep b o (fun z => by subst z; exact ha o e c) e
  exact ⟨oneType', fun Q E hq => kind_ts (s := { s with heap := h' }) hp' h0 hq, ts_cmp (s := { s with heap := h' }) hu hp'⟩
end
/-! ### as rules -/
/-- a list or a tuple -/
def SqB (K : PySem.W.Frag) (H : Hp) (a : Addr) (xs : List V) : Prop := SqL K H a xs ∨ SqT K H a xs
theorem SqB.at {X : Cx} {pins : List (Addr × Obj)} {σ : L2.St} {H : Hp} {s : Shared} {a : Addr} {xs : List V} (I : L2.Inv X pins σ H s) (h : SqB X.K H a xs) : ∃ us : List Value, Vals xs us ∧ SqA s.heap a us ∧ xs.length ≤ sizeLine := by
  rcases h with h | h
  · obtain ⟨us, r, p, z⟩ := I.list h
    exact ⟨us, r, .inl p.isList, z⟩
  · obtain ⟨us, r, p, z⟩ := I.tuple h
    exact ⟨us, r, .inr p, z⟩
/-- sorted(a list or tuple of ints) -/
def rSrtI (K : PySem.W.Frag) : List V → Hp → VK → Prop := fun vs H Q => ∃ (a : Addr) (ns : List Int), vs = [V.ref a] ∧ SqB K H a (ns.map V.int) ∧
  ∀ (ms : List Int) (p : Addr), ms.Perm ns → ms.Pairwise (· ≤ ·) → H p = none → Q (.ref p) (upd H p (.lst (ms.map V.int)))
theorem cr_srtI {X : Cx} : CallR X (.builtin "sorted") (rSrtI X.K) := by
  intro pins s σ H vs us Q I r h
  obtain ⟨a, ns, rfl, hs, q⟩ := h
  obtain ⟨its, rv, hl, hz⟩ := hs.at I
  rw [Vals.ref1 r]
  have hi := rv.ints
  refine sorted_of SrtO.swo_int hl (by rw [← rv.length]; exact hz) (fun h2 h₁ a' _ _ => SrtO.ints_sortable hi h2) fun out h1 h2 => ?_
  obtain ⟨k1, k2, k3⟩ := SrtO.ints_out hi h1 h2
  obtain ⟨ep, he'⟩ := PyProof.Rows.sortedAll_at s.heap its out.toArray
  refine ⟨.ref _, upd H (s.heap.objs.size + 1) (.lst ((out.map SrtO.iv).map V.int)), I.laid (t' := s.toks) (fun _ _ => PyProof.Rows.sortedAll_old) (Nat.le_succ _) ⟨?_, out, ep, vals_of_ints k1, he'⟩, rfl, q _ _ k2 k3 (I.hok.fresh (Nat.le_succ _))⟩
  rw [List.length_map, k2.length_eq, ← List.length_map (f := V.int)]
  exact hz
/-- sorted(a list or tuple of pairs of ints) -/
def rSrtP (K : PySem.W.Frag) : List V → Hp → VK → Prop := fun vs H Q => ∃ (a : Addr) (xs : List V) (k : V → Int × Int), vs = [V.ref a] ∧ SqB K H a xs ∧ (∀ x ∈ xs, ∃ t, x = V.ref t ∧ H t = some (.tup [.int (k x).1, .int (k x).2])) ∧
  ∀ ys p, SrtO.Srtd (ltP k) ys → SrtO.Stb (ltP k) ys xs → H p = none → Q (.ref p) (upd H p (.lst ys))
theorem cr_srtP {X : Cx} : CallR X (.builtin "sorted") (rSrtP X.K) := by
  intro pins s σ H vs us Q I r h
  obtain ⟨a, xs, k, rfl, hs, hx, q⟩ := h
  obtain ⟨its, rv, hl, hz⟩ := hs.at I
  rw [Vals.ref1 r]
  obtain ⟨e1, e2⟩ := refs_back rv fun x m => (hx x m).imp fun _ h => h.1
  have hp : ∀ v ∈ its, Srt.IsPair s.heap v (k (backV v)).1 (k (backV v)).2 := fun v hv => by
    obtain ⟨t, rfl⟩ := e2 v hv
    obtain ⟨t', e, ht⟩ := hx _ (show V.ref t ∈ xs by rw [e1]; exact List.mem_map.mpr ⟨_, hv, rfl⟩)
    cases e
    obtain ⟨_, its2, r2, o, ho, hc, n, hd⟩ := I.hok _ _ ht
    obtain ⟨_, _, rfl, ⟨t1, rfl⟩, ⟨t2, rfl⟩⟩ := vals2 r2
    exact ⟨t, o, t1, t2, n, rfl, ho, hc, hd⟩
  refine sorted_of (SrtO.swo_lex fun u => k (backV u)) hl (by rw [← rv.length]; exact hz) (fun h2 g a' ha kk => ?_) fun out o1 o2 => ?_
  · refine SrtO.pairs_sortableO (s := { s with heap := g }) (by omega) (fun v hm => (hp v hm).keeps fun b o e _ => (kk b o e).2) fun o e => ?_
    cases e.symm.trans ha
    exact fun c => absurd (Value.type.inj c) (by decide)
  · obtain ⟨n, hn⟩ := sortedAll_at s.heap its out.toArray
    have hb : SrtO.Stb (ltP k) (out.map backV) xs := by
      rw [e1]
      exact SrtO.Stb.map (ltP_swo k) backV o2
    refine ⟨.ref _, upd H _ (.lst (out.map backV)), I.laid (t' := s.toks) (fun _ _ => sortedAll_old) (Nat.le_succ _) ⟨?_, out, n, vals_back fun u hu => e2 u (o2.perm.mem_iff.mp hu), hn⟩, rfl, q _ _ (SrtO.srtd_map o1) hb (I.hok.fresh (Nat.le_succ _))⟩
    rw [hb.len]
    exact hz
/-- sorted(a list or tuple of tuples of ints), the first is () -/
abbrev ltL (k : V → List Int) (x y : V) : Bool := HT.lexLt (k x) (k y)
def rSrtT (K : PySem.W.Frag) : List V → Hp → VK → Prop := fun vs H Q => ∃ (a : Addr) (x0 : V) (xs : List V) (k : V → List Int), vs = [V.ref a] ∧ SqB K H a (x0 :: xs) ∧ k x0 = [] ∧ (∀ x ∈ x0 :: xs, ∃ t, x = V.ref t ∧ H t = some (.tup ((k x).map V.int))) ∧
  ∀ ys p, SrtO.Srtd (ltL k) ys → SrtO.Stb (ltL k) ys (x0 :: xs) → H p = none → Q (.ref p) (upd H p (.lst ys))
theorem cr_srtT {X : Cx} (hu : X.A.units + 64 < cLine) : CallR X (.builtin "sorted") (rSrtT X.K) := by
  intro pins s σ H vs us Q I r h
  obtain ⟨a, x0, xs, k, rfl, hs, h0, hx, q⟩ := h
  obtain ⟨its, rv, hl, hz⟩ := hs.at I
  rw [Vals.ref1 r]
  obtain ⟨e1, e2⟩ := refs_back rv fun x m => (hx x m).imp fun _ h => h.1
  have hp : ∀ v ∈ its, IsTs s.heap v (k (backV v)) := fun v hv => by
    obtain ⟨t, rfl⟩ := e2 v hv
    obtain ⟨t', e, ht⟩ := hx _ (show V.ref t ∈ x0 :: xs by rw [e1]; exact List.mem_map.mpr ⟨_, hv, rfl⟩)
    cases e
    obtain ⟨_, its2, r2, o, ho, hc, n, hd⟩ := I.hok _ _ ht
    exact ⟨t, o, its2.toArray, n, rfl, ho, hc, hd, show IntsAre its2.toArray.toList (k (V.ref t)) by simpa using r2.ints⟩
  refine sorted_of (swo_lexLt fun u => k (backV u)) hl (by rw [← rv.length]; exact hz) (fun h2 g a' ha kk => ?_) fun out o1 o2 => ?_
  · match its, e1, hp, h2 with
    | v :: its, e1, hp, _ =>
      refine ts_sortable (s := { s with heap := g }) (by show X.A.units + 1 + 1 < cLine; omega) (fun v hm => (hp v hm).keeps fun b o e _ => (kk b o e).2) ?_ fun o e => ?_
      · rw [← (List.cons.inj e1).1]
        exact h0
      · cases e.symm.trans ha
        exact fun c => absurd (Value.type.inj c) (by decide)
  · obtain ⟨n, hn⟩ := sortedAll_at s.heap its out.toArray
    have hb : SrtO.Stb (ltL k) (out.map backV) (x0 :: xs) := by
      rw [e1]
      exact SrtO.Stb.map (swo_lexLt k) backV o2
    refine ⟨.ref _, upd H _ (.lst (out.map backV)), I.laid (t' := s.toks) (fun _ _ => sortedAll_old) (Nat.le_succ _) ⟨?_, out, n, vals_back fun u hu => e2 u (o2.perm.mem_iff.mp hu), hn⟩, rfl, q _ _ (SrtO.srtd_map o1) hb (I.hok.fresh (Nat.le_succ _))⟩
    rw [hb.len]
    exact hz
/-! ### at the data level -/
def fSrtI (m : Mu) (xs : List DV) (k : DV → Prop) : Prop := match xs with
  | [x] => ∃ is : List Int, rdS m x = some (is.map PyData.int) ∧ ∀ js : List Int, js.Perm is → js.Pairwise (· ≤ ·) → k (.d (.list (js.map PyData.int)))
  | _ => False
theorem cs_srtI (K : PySem.W.Frag) : CaS (rSrtI K) fSrtI := fun c G pl σ H e m xs ds k Q sr r d KK => by
  unfold fSrtI at d
  split at d
  · cases r with
    | cons ra t =>
      cases t
      obtain ⟨is, h1, d⟩ := d
      obtain ⟨a, ys, e1, e2, e3⟩ := sr.seq K ra h1
      cases e3.ints
      exact ⟨a, is, by rw [e1], e2, fun js p p1 p2 hp => KK.lst sr hp (d js p1 p2) (DaL_ints G js)⟩
  · exact d.elim
def unI : V → Int
  | .int i => i
  | _ => 0
/-- the ints of the tuple that v points to -/
def tsOf (H : Hp) : V → List Int
  | .ref t => match H t with
    | some (.tup xs) => xs.map unI
    | _ => []
  | _ => []
def tsD (g : List Int) : PyData := .tuple (g.map PyData.int)
theorem map_unI (g : List Int) : (g.map V.int).map unI = g := by
  rw [List.map_map]
  exact List.map_id'' (fun _ => rfl) g
theorem Da.ts {G : Hp} {v : V} {g : List Int} (h : Da G v (tsD g)) : ∃ t, v = .ref t ∧ G t = some (.tup (g.map V.int)) := by
  unfold tsD at h
  cases h with
  | @tup a xs _ e1 e2 =>
    cases e2.ints
    exact ⟨a, rfl, e1⟩
theorem Da.tsOf {G : Hp} {v : V} {g : List Int} (h : Da G v (tsD g)) : tsOf G v = g := by
  obtain ⟨t, rfl, e⟩ := h.ts
  show (match G t with | some (.tup xs) => xs.map unI | _ => []) = g
  rw [e]
  exact map_unI g
theorem DaL.ts {G : Hp} : ∀ {ys : List V} {gs : List (List Int)}, DaL G ys (gs.map tsD) → ys.map (tsOf G) = gs ∧ ∀ y ∈ ys, Da G y (tsD (tsOf G y))
  | [], [], _ => ⟨rfl, fun _ h => nomatch h⟩
  | y :: ys, g :: gs, h => by
    cases h with
    | cons h t =>
      obtain ⟨h1, h2⟩ := DaL.ts t
      have e := Da.tsOf h
      refine ⟨by rw [List.map_cons, e, h1], fun z hz => ?_⟩
      rcases List.mem_cons.mp hz with rfl | hz
      · rw [e]
        exact h
      · exact h2 z hz
theorem DaL.of_ts {G : Hp} : ∀ {zs : List V}, (∀ z ∈ zs, Da G z (tsD (tsOf G z))) → DaL G zs ((zs.map (tsOf G)).map tsD)
  | [], _ => .nil
  | z :: zs, h => .cons (h z List.mem_cons_self) (DaL.of_ts fun y hy => h y (List.mem_cons_of_mem _ hy))
/-- groups in their order: none before an earlier one -/
def UpL (gs : List (List Int)) : Prop := gs.Pairwise fun g h => HT.lexLt h g = false
def fSrtT (m : Mu) (xs : List DV) (k : DV → Prop) : Prop := match xs with
  | [x] => ∃ gs : List (List Int), rdS m x = some (([] :: gs).map tsD) ∧ ∀ hs : List (List Int), hs.Perm ([] :: gs) → UpL hs → k (.d (.list (hs.map tsD)))
  | _ => False
theorem cs_srtT (K : PySem.W.Frag) : CaS (rSrtT K) fSrtT := fun c G pl σ H e m xs ds k Q sr r d KK => by
  unfold fSrtT at d
  split at d
  · cases r with
    | cons ra t =>
      cases t
      obtain ⟨gs, h1, d⟩ := d
      obtain ⟨a, ys, e1, e2, e3⟩ := sr.seq K ra h1
      obtain ⟨q1, q2⟩ := DaL.ts e3
      obtain ⟨y0, ys, rfl⟩ : ∃ y us, ys = y :: us := by
        cases ys with
        | nil => cases e3
        | cons y us => exact ⟨y, us, rfl⟩
      have q0 : tsOf G y0 = [] := (List.cons.inj q1).1
      refine ⟨a, y0, ys, tsOf G, by rw [e1], e2, q0, fun x hx => ?_, fun zs p o1 o2 hp => KK.lst sr hp (d (zs.map (tsOf G)) ?_ ?_) (DaL.of_ts fun z hz => q2 z (o2.perm.mem_iff.mp hz))⟩
      · obtain ⟨t, e, h⟩ := (q2 x hx).ts
        exact ⟨t, e, sr.hp.sub _ _ h⟩
      · have pm := o2.perm.map (tsOf G)
        rw [q1] at pm
        exact pm
      · exact SrtO.srtd_map (lt := HT.lexLt) o1
  · exact d.elim
def pkD (p : Int × Int) : PyData := .tuple [.int p.1, .int p.2]
def pkOf (H : Hp) (v : V) : Int × Int := ((tsOf H v)[0]?.getD 0, (tsOf H v)[1]?.getD 0)
theorem Da.pk {G : Hp} {v : V} {p : Int × Int} (h : Da G v (pkD p)) : pkOf G v = p ∧ ∃ t, v = .ref t ∧ G t = some (.tup [.int p.1, .int p.2]) := by
  have h' : Da G v (tsD [p.1, p.2]) := h
  refine ⟨?_, h'.ts⟩
  unfold pkOf
  rw [h'.tsOf]
  rfl
theorem DaL.pk {G : Hp} : ∀ {ys : List V} {ps : List (Int × Int)}, DaL G ys (ps.map pkD) → ys.map (pkOf G) = ps ∧ ∀ y ∈ ys, Da G y (pkD (pkOf G y))
  | [], [], _ => ⟨rfl, fun _ h => nomatch h⟩
  | y :: ys, p :: ps, h => by
    cases h with
    | cons h t =>
      obtain ⟨h1, h2⟩ := DaL.pk t
      have e := (Da.pk h).1
      refine ⟨by rw [List.map_cons, e, h1], fun z hz => ?_⟩
      rcases List.mem_cons.mp hz with rfl | hz
      · rw [e]
        exact h
      · exact h2 z hz
theorem DaL.of_pk {G : Hp} : ∀ {zs : List V}, (∀ z ∈ zs, Da G z (pkD (pkOf G z))) → DaL G zs ((zs.map (pkOf G)).map pkD)
  | [], _ => .nil
  | z :: zs, h => .cons (h z List.mem_cons_self) (DaL.of_pk fun y hy => h y (List.mem_cons_of_mem _ hy))
def UpP (ps : List (Int × Int)) : Prop := ps.Pairwise fun p q => SrtO.lexB q p = false
def fSrtP (m : Mu) (xs : List DV) (k : DV → Prop) : Prop := match xs with
  | [x] => ∃ ps : List (Int × Int), rdS m x = some (ps.map pkD) ∧ ∀ qs : List (Int × Int), qs.Perm ps → UpP qs → k (.d (.list (qs.map pkD)))
  | _ => False
theorem cs_srtP (K : PySem.W.Frag) : CaS (rSrtP K) fSrtP := fun c G pl σ H e m xs ds k Q sr r d KK => by
  unfold fSrtP at d
  split at d
  · cases r with
    | cons ra t =>
      cases t
      obtain ⟨ps, h1, d⟩ := d
      obtain ⟨a, ys, e1, e2, e3⟩ := sr.seq K ra h1
      obtain ⟨q1, q2⟩ := DaL.pk e3
      refine ⟨a, ys, pkOf G, by rw [e1], e2, fun x hx => ?_, fun zs p o1 o2 hp => KK.lst sr hp (d (zs.map (pkOf G)) ?_ ?_) (DaL.of_pk fun z hz => q2 z (o2.perm.mem_iff.mp hz))⟩
      · obtain ⟨t, e, h⟩ := (Da.pk (q2 x hx)).2
        exact ⟨t, e, sr.hp.sub _ _ h⟩
      · rw [← q1]
        exact o2.perm.map _
      · exact SrtO.srtd_map (lt := SrtO.lexB) o1
  · exact d.elim
end PM

namespace PM
open PySem PySem.Spec PyProof.Rows L2 RZ
/-! ### dicts with ints as keys -/
theorem hu1 {A : Around} (h : A.units + 64 < cLine) : A.units + 1 < cLine := by omega
def valD (kvs : List (Int × PyData)) (k : Int) : Option PyData := (kvs.find? fun kv => decide (kv.1 = k)).map (·.2)
def putD (kvs : List (Int × PyData)) (k : Int) (d : PyData) : List (Int × PyData) := if (kvs.any fun kv => decide (kv.1 = k)) = true then kvs.map (fun kv => if kv.1 = k then (kv.1, d) else kv) else kvs ++ [(k, d)]
section
variable {G : Hp}
theorem DaK.length : ∀ {kxs : List (Key × V)} {kvs : List (Int × PyData)}, DaK G kxs kvs → kxs.length = kvs.length
  | _, _, .nil => rfl
  | _, _, .cons _ t => by rw [List.length_cons, List.length_cons, DaK.length t]
theorem inl_eq {i j : Int} : decide ((Sum.inl i : Key) = Sum.inl j) = decide (i = j) := decide_eq_decide.mpr ⟨fun h => Sum.inl.inj h, fun h => by rw [h]⟩
theorem DaK.val {d : PyData} (k : Int) : ∀ {kxs : List (Key × V)} {kvs : List (Int × PyData)}, DaK G kxs kvs → valD kvs k = some d → ∃ v, valV kxs (.inl k) = some v ∧ Da G v d
  | _, _, .nil, h => nomatch h
  | _, _, .cons (k := j) (v := v) hd t, h => by
    by_cases z : j = k
    · subst z
      refine ⟨v, valV_pos rfl, ?_⟩
      unfold valD at h
      rw [List.find?_cons_of_pos (by simp)] at h
      cases h
      exact hd
    · obtain ⟨u, h1, h2⟩ := DaK.val k t (by
        unfold valD at h
        rw [List.find?_cons_of_neg (by simpa using z)] at h
        exact h)
      exact ⟨u, by rw [valV_neg fun e => z (Sum.inl.inj e)]; exact h1, h2⟩
theorem DaK.none (k : Int) : ∀ {kxs : List (Key × V)} {kvs : List (Int × PyData)}, DaK G kxs kvs → valD kvs k = none → valV kxs (.inl k) = none
  | _, _, .nil, h => rfl
  | _, _, .cons (k := j) (v := v) hd t, h => by
    by_cases z : j = k
    · subst z
      unfold valD at h
      rw [List.find?_cons_of_pos (by simp)] at h
      cases h
    · rw [valV_neg fun e => z (Sum.inl.inj e)]
      exact DaK.none k t (by
        unfold valD at h
        rw [List.find?_cons_of_neg (by simpa using z)] at h
        exact h)
theorem DaK.any (k : Int) : ∀ {kxs : List (Key × V)} {kvs : List (Int × PyData)}, DaK G kxs kvs → (kxs.any fun kv => decide (kv.1 = .inl k)) = kvs.any fun kv => decide (kv.1 = k)
  | _, _, .nil => rfl
  | _, _, .cons hd t => by
    rw [List.any_cons, List.any_cons, DaK.any k t, inl_eq]
theorem DaK.map {v : V} {d : PyData} (hv : Da G v d) (k : Int) : ∀ {kxs : List (Key × V)} {kvs : List (Int × PyData)}, DaK G kxs kvs → DaK G (kxs.map fun kv => if kv.1 = .inl k then (kv.1, v) else kv) (kvs.map fun kv => if kv.1 = k then (kv.1, d) else kv)
  | _, _, .nil => .nil
  | _, _, .cons (k := j) hd t => by
    rw [List.map_cons, List.map_cons]
    by_cases z : j = k
    · subst z
      rw [if_pos rfl, if_pos rfl]
      exact .cons hv (DaK.map hv j t)
    · rw [if_neg fun e => z (Sum.inl.inj e), if_neg z]
      exact .cons hd (DaK.map hv k t)
theorem DaK.snoc {v : V} {d : PyData} (hv : Da G v d) (k : Int) : ∀ {kxs : List (Key × V)} {kvs : List (Int × PyData)}, DaK G kxs kvs → DaK G (kxs ++ [(.inl k, v)]) (kvs ++ [(k, d)])
  | _, _, .nil => .cons hv .nil
  | _, _, .cons hd t => .cons hd (DaK.snoc hv k t)
theorem DaK.put {v : V} {d : PyData} (hv : Da G v d) (k : Int) {kxs : List (Key × V)} {kvs : List (Int × PyData)} (h : DaK G kxs kvs) : DaK G (putK kxs (.inl k) v) (putD kvs k d) := by
  unfold putK putD
  rw [h.any k]
  split
  · exact h.map hv k
  · exact h.snoc hv k
end
/-- the pairs of a dict -/
def rdD (m : Mu) : DV → Option (List (Int × PyData))
  | .dic kvs => some kvs
  | .p i => match m[i]? with
    | some (.dic kvs) => some kvs
    | _ => none
  | _ => none
theorem SR.dict {c : Fr0} {G H : Hp} {pl : Nat → Pl} {σ : L2.St} {e : DEnv} {m : Mu} (sr : SR c G pl σ H e m) {v : V} {dv : DV} {kvs : List (Int × PyData)} (r : RV G pl m.length v dv) (h : rdD m dv = some kvs) : ∃ a kxs, v = .ref a ∧ H a = some (.dK kxs) ∧ DaK G kxs kvs := by
  unfold rdD at h
  split at h
  · cases h
    obtain ⟨a, kxs, e1, e2, e3⟩ := r
    exact ⟨a, kxs, e1, sr.hp.sub _ _ e2, e3⟩
  · split at h
    · rename_i e1
      cases h
      obtain ⟨kxs, h1, h2⟩ := sr.hp.mo _ _ e1
      exact ⟨_, kxs, r.2, h1, h2⟩
    · cases h
  · cases h
/-- d[y] -/
def dDGet (a b : DE) : DE := fun e m k => a e m fun x m1 => b e m1 fun y m2 => match y with
  | .d (.int i) => ∃ kvs d, rdD m2 x = some kvs ∧ valD kvs i = some d ∧ k (.d d) m2
  | _ => False
theorem se_dget {ta tb : TE} {da db : DE} (ha : SE ta da) (hb : SE tb db) : SE (tDGet ta tb) (dDGet da db) := fun c G pl σ H e m k Q sr d K =>
  ha _ _ _ _ _ _ _ _ _ sr d fun x m1 G1 pl1 H1 v1 d1 l1 sr1 r1 => hb _ _ _ _ _ _ _ _ _ sr1 d1 fun y m2 G2 pl2 H2 v2 d2 l2 sr2 r2 => by
    split at d2
    · rename_i i
      obtain ⟨kvs, d, h1, h2, d2⟩ := d2
      obtain ⟨a, kxs, e1, e2, e3⟩ := sr2.dict (r1.le l2) h1
      obtain ⟨u, h3, h4⟩ := e3.val i h2
      cases r2.int_inv
      refine ⟨a, u, e1, ?_, (K.le (l1.trans l2)).val sr2 d2 (show RV G2 pl2 m2.length u (.d d) from h4)⟩
      have := DGet.k (k := .inl i) e2
      rw [h3] at this
      exact this
    · exact d2.elim
/-- x = {} -/
def dOwnD (i : Nat) : DS := fun E e m => E.nx (stt e i (some (.p m.length))) (m ++ [.dic []])
theorem ss_ownD (i : Nat) : SS (tAsg tDNewK (gName i)) (dOwnD i) := fun c G pl σ H e m D E hL sr d K p hp => by
  obtain ⟨h1, h2, h3⟩ := sr.hp.fresh hp
  have l2 := Le.plus G pl m p (.dic [])
  have hh : HR c G pl (upd H p (.dK [])) m := sr.hp.grow fun b x _ e => by rw [upd_ne (ne_of_none e hp)]; exact e
  have h4 : HR c G (plus pl m.length p) (upd H p (.dK [])) (m ++ [.dic []]) := hh.push (o := .dic []) ⟨[], upd_same, .nil⟩ rfl h1 h3 h2
  exact K.nx _ _ _ _ _ _ d l2 ⟨(sr.env.le l2).set i ⟨by simp, by rw [plus_new]⟩, h4⟩
/-- d[y] = v -/
def dDPut (i : Nat) (b v : DE) : DS := fun E e m => v e m fun x m1 => match x, lk e i with
  | .d z, some (.p j) => b e m1 fun y m2 => match y with
    | .d (.int n) => ∃ kvs, m2[j]? = some (.dic kvs) ∧ kvs.length < 1000000 ∧ E.nx e (m2.set j (.dic (putD kvs n z)))
    | _ => False
  | _, _ => False
theorem ss_dput {tb tv : TE} {db dv : DE} (i : Nat) (hb : SE tb db) (hv : SE tv dv) : SS (sDPut (tVar i) tb tv) (dDPut i db dv) := fun c G pl σ H e m D E hL sr d KK => by
  refine hv _ _ _ _ _ _ _ _ _ sr d fun x m1 G1 pl1 H1 v1 d1 l1 sr1 r1 => ?_
  split at d1
  · rename_i z j q
    obtain ⟨v, h1, h2⟩ := sr1.env.get i _ q
    obtain ⟨hj, rfl⟩ := h2
    refine ⟨_, h1, hb _ _ _ _ _ _ _ _ _ sr1 d1 fun y m2 G2 pl2 H2 v2 d2 l2 sr2 r2 => ?_⟩
    split at d2
    · rename_i n
      obtain ⟨kvs, q1, hz, d2⟩ := d2
      obtain ⟨kxs, hx, hd⟩ := sr2.hp.mo _ _ q1
      cases r2.int_inv
      have hy : Da G2 v1 z := r1.le l2
      have pj : pl2 j = pl1 j := l2.p j hj
      rw [pj] at hx
      refine ⟨_, _, rfl, DPut.k (k := .inl n) hx (by rw [hd.length]; exact Nat.lt_of_lt_of_le hz (bigS (Nat.le_refl _))), ?_⟩
      have hp := sr2.hp.put (o' := .dic (putD kvs n z)) (ob := .dK (putK kxs (.inl n) v1)) q1 rfl rfl rfl rfl ⟨_, upd_same, hd.put hy n⟩
      rw [pj] at hp
      have l3 : ∀ o, Le G2 pl2 m2.length G2 pl2 (m2.set j o).length := fun o => ⟨.refl _, fun _ _ => rfl, by simp⟩
      exact KK.nx _ _ _ _ _ _ d2 ((l1.trans l2).trans (l3 _)) ⟨sr2.env.le (l3 _), hp⟩
    · exact d2.elim
  · exact d1.elim
/-- tuple(reversed(a list)) -/
def dTupRev (a : DE) : DE := fun e m k => a e m fun x m1 => ∃ ds, rdL m1 x = some ds ∧ k (.d (.tuple ds.reverse)) m1
theorem DaL.rev {G : Hp} : ∀ {xs : List V} {ds : List PyData}, DaL G xs ds → DaL G xs.reverse ds.reverse
  | _, _, .nil => .nil
  | _, _, .cons h t => by
    rw [List.reverse_cons, List.reverse_cons]
    exact DaL.append (DaL.rev t) (.cons h .nil)
theorem se_tupRev (K : PySem.W.Frag) {ta : TE} {da : DE} (h : SE ta da) : SE (RT.tTupRev K ta) (dTupRev da) := fun c G pl σ H e m k Q sr d KK => h _ _ _ _ _ _ _ _ _ sr d fun x m1 G1 pl1 H1 v1 d1 l1 sr1 r1 => by
  obtain ⟨ds, h1, d1⟩ := d1
  obtain ⟨a, xs, e1, e2, e3⟩ := sr1.list r1 h1
  exact ⟨a, xs, e1, .inl (.inl e2), fun q hq => (KK.le l1).tup sr1 hq d1 e3.rev⟩
end PM

namespace PM
open PySem PySem.Spec PyProof.Rows L2 RZ
/-! ### enumerate of items -/
theorem enum_map {α : Type} (f : α → PyData) (d : α) : ∀ (xs : List α) (n : Nat), enumD n (xs.map f) = (List.range xs.length).map fun i => .tuple [nD (n + i), f (xs.getD i d)]
  | [], n => rfl
  | x :: xs, n => by
    have ih := enum_map f d xs (n + 1)
    rw [List.map_cons, List.length_cons, List.range_succ_eq_map, List.map_cons, List.map_map]
    simp only [enumD]
    rw [ih]
    congr 1
    apply List.map_congr_left
    intro i _
    show PyData.tuple [nD (n + 1 + i), _] = PyData.tuple [nD (n + (i + 1)), _]
    rw [show n + 1 + i = n + (i + 1) by omega]
    simp
theorem enum_its (its : List (Int × Int)) : enumD 0 (its.map itD) = (List.range its.length).map fun i => .tuple [nD i, itD (itm its i)] := by
  rw [enum_map itD (0, 1)]
  simp only [Nat.zero_add]
  rfl
/-- for i, x in enumerate(xs) -/
theorem forE {α : Type} (f : α → PyData) (d : α) {g : DG} {b : DS} {E : DEnds} {e : DEnv} {m : Mu} (xs : List α) (J : List Nat → DEnv → Mu → Prop) (h0 : J [] e m)
    (hs : ∀ done i r e m, List.range xs.length = done ++ i :: r → J done e m → ∀ C : DEnv → Mu → Prop, (∀ e m, J (done ++ [i]) e m → C e m) → g (.d (.tuple [nD i, f (xs.getD i d)])) e m fun e' m' => b { nx := C, rt := E.rt, bk := E.nx, ct := C } e' m') (hd : ∀ e m, J (List.range xs.length) e m → E.nx e m) :
    ∃ I : List PyData → DEnv → Mu → Prop, I (enumD 0 (xs.map f)) e m ∧ (∀ x r e m, I (x :: r) e m → g (.d x) e m fun e' m' => b { nx := I r, rt := E.rt, bk := E.nx, ct := I r } e' m') ∧ ∀ e m, I [] e m → E.nx e m := by
  rw [enum_map f d]
  simp only [Nat.zero_add]
  exact forL (fun i : Nat => .tuple [nD i, f (xs.getD i d)]) (List.range xs.length) J h0 hs hd
/-- [.. for i, x in enumerate(xs) if ..] that draws nothing -/
theorem lcE {α : Type} (f : α → PyData) (d : α) (g : Nat → PyData) (p : Nat → Bool) {dg : DG} {dt : DT} {de : DE} {vs : List Nat} {e : DEnv} {m : Mu} {k : List PyData → Mu → Prop} (xs : List α) (hz : xs.length ≤ 1000000)
    (h : ∀ i, i < xs.length → ∀ (C : PyData → Mu → Prop) (C0 : Mu → Prop), (p i = true → C (g i) m) → (p i = false → C0 m) → dg (.d (.tuple [nD i, f (xs.getD i d)])) (wp e vs) m fun e' m' => dt e' m' fun b m2 => br b (de e' m2 (plD C)) (C0 m2)) (hk : k (((List.range xs.length).filter p).map g) m) :
    (enumD 0 (xs.map f)).length ≤ 1000000 ∧ ∃ I : List PyData → List PyData → Mu → Prop, I (enumD 0 (xs.map f)) [] m ∧
      (∀ x r acc m, I (x :: r) acc m → dg (.d x) (wp e vs) m fun e' m' => dt e' m' fun b m2 => br b (de e' m2 (plD fun z m3 => I r (acc ++ [z]) m3)) (I r acc m2)) ∧ ∀ acc m, I [] acc m → k acc m := by
  rw [enum_map f d]
  simp only [Nat.zero_add]
  exact lcFM (fun i : Nat => .tuple [nD i, f (xs.getD i d)]) g p (List.range xs.length) (by rw [List.length_range]; exact hz) (fun i hi => h i (List.mem_range.mp hi)) hk
/-- [.. for x, y in zip(xs, ys) if ..] that draws nothing -/
theorem lcZ {α β : Type} (f : α → PyData) (f2 : β → PyData) (g : α × β → PyData) (p : α × β → Bool) {dg : DG} {dt : DT} {de : DE} {vs : List Nat} {e : DEnv} {m : Mu} {k : List PyData → Mu → Prop} (xs : List α) (ys : List β) (hz : xs.length ≤ 1000000)
    (h : ∀ x ∈ List.zip xs ys, ∀ (C : PyData → Mu → Prop) (C0 : Mu → Prop), (p x = true → C (g x) m) → (p x = false → C0 m) → dg (.d (.tuple [f x.1, f2 x.2])) (wp e vs) m fun e' m' => dt e' m' fun b m2 => br b (de e' m2 (plD C)) (C0 m2)) (hk : k (((List.zip xs ys).filter p).map g) m) :
    (pairs (xs.map f) (ys.map f2)).length ≤ 1000000 ∧ ∃ I : List PyData → List PyData → Mu → Prop, I (pairs (xs.map f) (ys.map f2)) [] m ∧
      (∀ x r acc m, I (x :: r) acc m → dg (.d x) (wp e vs) m fun e' m' => dt e' m' fun b m2 => br b (de e' m2 (plD fun z m3 => I r (acc ++ [z]) m3)) (I r acc m2)) ∧ ∀ acc m, I [] acc m → k acc m := by
  rw [pairs_map]
  exact lcFM (fun p : α × β => .tuple [f p.1, f2 p.2]) g p (List.zip xs ys) (by rw [List.length_zip]; omega) h hk
theorem deq_fds {rt : List (Int × Int)} (h : rt.length ≤ 1000) : plainD (.tuple (rt.map fd)) = true := by
  unfold plainD
  rw [List.length_map, decide_eq_true h, plain_map fun x _ => rfl]
  rfl
theorem depL_map {α : Type} {f : α → PyData} {n : Nat} : ∀ {xs : List α}, (∀ x ∈ xs, dep (f x) ≤ n) → dep.depL (xs.map f) ≤ n
  | [], _ => Nat.zero_le _
  | x :: xs, h => by
    rw [List.map_cons]
    unfold dep.depL
    exact Nat.max_le.mpr ⟨h x List.mem_cons_self, depL_map fun y hy => h y (List.mem_cons_of_mem _ hy)⟩
theorem dep_fds (rt : List (Int × Int)) : dep (.tuple (rt.map fd)) < 8 := by
  unfold dep
  have := depL_map (f := fd) (n := 1) (xs := rt) fun x _ => Nat.le_of_lt_succ (dep_fd x)
  omega
end PM

namespace PM
open PySem PySem.Spec PyProof.Rows L2 RZ
/-! ### t[::-1] of a tuple -/
section
variable {prog : Program} {w : World} {A : Around} {E : Value → Shared → Prop} {s : Shared}
theorem applied_back {sl : Addr} {vl vu vs : Value} {n : Nat} {Q : Int × Int × Nat → Shared → Prop} (hs : s.heap.IsSliceOf sl vl vu vs) (pl : IsPart vl none) (pu : IsPart vu none) (ps : IsPart vs (some (-1)))
    (h : Q ((n : Int) - 1, -1, n) s) : wpAny (model prog w) A (Builtin.Slice.sliceApplied (.ref sl) (pure (n : Int))) Q E s := by
  obtain ⟨os, hos, hcs, hds⟩ := id hs
  unfold Builtin.Slice.sliceApplied Builtin.Slice.sliceFields
  refine wpAny_bind (wpAny_bind (wpAny_field hos hds (x := vl) rfl (wpAny_bind (wpAny_field hos hds (x := vu) rfl (wpAny_bind (wpAny_field hos hds (x := vs) rfl (wpAny_pure ?_)))))))
  refine wpAny_bind (HT.slicePart_ ps ?_)
  show wpAny _ _ (if ((-1 : Int) == 0) = true then _ else _) _ _ s
  rw [if_neg (by decide)]
  refine wpAny_bind (HT.slicePart_ pl (wpAny_bind (HT.slicePart_ pu (wpAny_bind (wpAny_pure ?_)))))
  have e1 : Builtin.Slice.sliceAdjust none none (-1) (n : Int) = ((n : Int) - 1, -1) := by
    unfold Builtin.Slice.sliceAdjust
    simp
  have e2 : Builtin.Slice.slicePlaces ((n : Int) - 1) (-1) (-1) = n := by
    unfold Builtin.Slice.slicePlaces
    simp
    omega
  show wpAny _ _ (match Builtin.Slice.sliceAdjust none none (-1) (n : Int) with | (lo, hi) => pure (lo, (-1 : Int), Builtin.Slice.slicePlaces lo hi (-1))) _ _ s
  rw [e1]
  show wpAny _ _ (pure ((n : Int) - 1, (-1 : Int), Builtin.Slice.slicePlaces ((n : Int) - 1) (-1) (-1))) _ _ s
  rw [e2]
  exact wpAny_pure h
theorem fm_range : ∀ (l : List Value) (f : Nat → Option Value), (∀ m, m < l.length → f m = l[m]?) → (List.range l.length).filterMap f = l
  | [], _, _ => rfl
  | x :: l, f, h => by
    have ih := fm_range l (fun m => f (m + 1)) fun m hm => by
      have := h (m + 1) (by rw [List.length_cons]; omega)
      rw [this, List.getElem?_cons_succ]
    rw [List.length_cons, List.range_succ_eq_map, List.filterMap_cons, h 0 (by rw [List.length_cons]; omega)]
    show x :: List.filterMap f (List.map Nat.succ (List.range l.length)) = x :: l
    rw [List.filterMap_map]
    exact congrArg (List.cons x) ih
theorem pick_back (xs : Array Value) : ((List.range xs.size).filterMap fun (m : Nat) => xs[((xs.size : Int) - 1 + (m : Int) * (-1)).toNat]?).toArray = xs.toList.reverse.toArray := by
  congr 1
  have := fm_range xs.toList.reverse (fun (m : Nat) => xs[((xs.size : Int) - 1 + (m : Int) * (-1)).toNat]?) fun m hm => by
    have lt : m < xs.size := by simpa using hm
    rw [List.getElem?_reverse (by simpa using lt), Array.getElem?_toList, Array.length_toList]
    congr 1
    omega
  rw [List.length_reverse, Array.length_toList] at this
  exact this
theorem get_back {t sl : Addr} {its : Array Value} {vl vu vs : Value} {Q : Value → Shared → Prop} (ht : IsTup s.heap t its) (hs : s.heap.IsSliceOf sl vl vu vs) (pl : IsPart vl none) (pu : IsPart vu none) (ps : IsPart vs (some (-1)))
    (h : Q (.ref s.heap.objs.size) { s with heap := s.heap.push { cls := .type "tuple", data := .seq its.toList.reverse.toArray } }) (few : its.size ≤ sizeLine) : wpAny (model prog w) A (getItem (.ref t) (.ref sl)) Q E s := by
  have fits : sizeOk (.seq its.toList.reverse.toArray) := by
    show its.toList.reverse.toArray.size ≤ sizeLine
    rw [List.size_toArray, List.length_reverse, Array.length_toList]
    exact few
  obtain ⟨os, hos, hcs, hds⟩ := id hs
  unfold getItem
  try with_reducible refine wpAny_holding ?_
  refine wpAny_bind (wpAny_sequenceKey ht.typeIs (by decide) ?_)
  refine wpAny_bind (wpAny_callSpecial?_slot (name := Str.ofString "__getitem__") ht.typeIs PyProof.Rows.slot_tuple_getitem (wpAny_call_entry PyProof.Rows.slot_tuple_getitem ht.typeIs entry_tuple_getitem ?_ (args_tuple_getitem _ _)))
  show wpAny _ _ (Builtin.Tuple.tupleItemsOf (.ref t) >>= _) _ _ s
  refine wpAny_bind (tupleItemsOf_ ht (wpAny_bind (wpAny_typeOf ⟨os, hos, hcs⟩ ?_)))
  rw [if_pos (by decide)]
  refine wpAny_bind (applied_back hs pl pu ps ?_)
  have no : ¬ ((((its.size : Int) - 1) == 0 && (-1 : Int) == 1 && its.size == its.size) = true) := by
    rw [show ((-1 : Int) == 1) = false from rfl, Bool.and_false, Bool.false_and]
    exact Bool.false_ne_true
  show wpAny _ _ (if (((its.size : Int) - 1) == 0 && (-1 : Int) == 1 && its.size == its.size) = true then _ else _) _ _ s
  rw [if_neg no, pick_back]
  first
    | exact wpAny_bind (m := Builtin.Tuple.tupleExact _) (wpAny_newObj_type (wpAny_pure ⟨_, rfl, wpAny_pure h⟩) fits)
    | exact wpAny_bind (m := Builtin.Tuple.tupleExact _) (wpAny_newObj_type (wpAny_bind (wpAny_pure (wpAny_pure ⟨_, rfl, wpAny_pure h⟩))) fits)
    | exact wpAny_bind (wpAny_bind (m := Builtin.Tuple.tupleExact _) (wpAny_newObj_type (wpAny_pure (wpAny_pure ⟨_, rfl, wpAny_pure h⟩)) fits))
    | exact wpAny_bind (wpAny_bind (m := Builtin.Tuple.tupleExact _) (wpAny_newObj_type (wpAny_pure ⟨_, rfl, wpAny_pure h⟩) fits))
end
section
variable {X : Cx}
def tBack (K : PySem.W.Frag) (te : TE) : TE := fun σ H Q => te σ H fun x H1 => ∃ a xs, x = .ref a ∧ SqT K H1 a xs ∧ ∀ p, H1 p = none → Q (.ref p) (upd H1 p (.tup xs.reverse))
theorem pe_back {e : Expr} {te : TE} {k : Nat} {p1 p2 p3 pos : Pos} (he : PE X e te) : PE X (.Subscript e (.Slice none none (some (.UnaryOp .USub (.Constant (.int 1) k p1) p2)) p3) pos) (tBack X.K te) := by
  refine ⟨fun pins s σ H Q I h => ?_⟩
  refine Subscript_ (thn (he.run pins s σ H _ I h) fun v s1 ⟨x, H1, I1, r1, a, xs, ex, hx, q⟩ => ?_)
  subst ex
  cases r1
  have part : PO X (some (.UnaryOp .USub (.Constant (.int 1) k p1) p2)) (tPart (tUn (rU fun i => .int (-i)) (tC (.int 1)))) := po_some (pe_un un_neg pe_int)
  refine wpAny_Slice (thn (po_none.run pins s1 σ H1 (fun o H2 => o = none ∧ H2 = H1) I1 ⟨rfl, rfl⟩) fun vl s2 ⟨l, H2, I2, pl, el, e2⟩ => ?_)
  subst el e2
  refine thn (po_none.run pins s2 σ H2 (fun o H3 => o = none ∧ H3 = H2) I2 ⟨rfl, rfl⟩) fun vu s3 ⟨u, H3, I3, pu, eu, e3⟩ => ?_
  subst eu e3
  refine thn (part.run pins s3 σ H3 (fun o H4 => o = some (-1) ∧ H4 = H3) I3 ⟨1, rfl, -1, rfl, rfl, rfl⟩) fun vs s4 ⟨o, H4, I4, ps, eo, e4⟩ => ?_
  subst eo e4
  have I5 : L2.Inv X pins σ H4 { s4 with heap := s4.heap.push { cls := .type "slice", data := .fields #[vl, vu, vs] } } := I4.kept (t' := s4.toks) fun b ob z => Heap.get?_push_of_some _ z
  obtain ⟨its, r, ht, few⟩ := I5.tuple hx
  show wpAny (model X.prog X.w) X.A (subscriptTail e (.Slice none none (some (.UnaryOp .USub (.Constant (.int 1) k p1) p2)) p3) (.ref a) (.ref s4.heap.objs.size)) (EP X pins σ Q) X.xe { s4 with heap := s4.heap.push { cls := .type "slice", data := .fields #[vl, vu, vs] } }
  refine tail_any (ops := [.ref a, .ref s4.heap.objs.size]) ht.typeIs (PyProof.Rows.slot_tuple_getitem.lookup) ?_ (by with_unfolding_all rfl)
  refine get_back ht (Heap.IsSliceOf.new _ vl vu vs) pl pu ps ?_ (by rw [List.size_toArray, ← r.length]; exact few)
  refine ⟨.ref _, _, I5.laid (t' := s4.toks) (o := .tup xs.reverse) (fun b ob z => Heap.get?_push_of_some _ z) (Nat.le_refl _) ?_, rfl, q _ (I5.hok.fresh (Nat.le_refl _))⟩
  exact ⟨by rw [List.length_reverse]; exact few, _, r.reverse, _, Heap.get?_push_size _ rfl, rfl, _, rfl⟩
end
end PM

namespace PM
open PySem PySem.Spec PyProof.Rows L2 RZ
/-! ### defs that call repr: nobody may be about to show -/
structure FnQ (P : Program) (w : World) (K : PySem.W.Frag) (mg : Str → Option Value) (base : Heap) (k : Nat) (f : Addr) (fd : FuncData) (ps : List Str) (sp : Sp) : Prop where
  len : ∀ vs H Q E, sp vs H Q E → vs.length = ps.length
  run : ∀ (A : Around) (outer : List Env) (s : Shared) (H : Hp) (args : Args) (us : List Value) (vs : List V) (Q : VK), Room k A → A.guards = some [] → Env0 P w K mg base A outer s H → BindsTo s fd args (ps.zip us) → Vals vs us → sp vs H Q E0 →
    codeAny (model P w) A (.call (.ref f) args) (CR CX0 outer P w H s Q E0) s
def OkQ (P : Program) (w : World) (K : PySem.W.Frag) (mg : Str → Option Value) (base : Heap) (k : Nat) (x : Str) (st : Stmt) (ps : List Str) (sp : Sp) : Prop :=
  ∃ f fd, Def1 K mg x st ps f fd ∧ FnQ P w K mg base k f fd ps sp
section
variable {P : Program} {w : World} {K : PySem.W.Frag} {mg : Str → Option Value} {base : Heap}
theorem fun_okQ {x qual : Str} {st : Stmt} {f : Addr} {fd : FuncData} {N ps : List Str} {k : Nat} {sp : Sp} (F : Fun K x qual st f fd) (S : FnScope N ps (defScope st)) (len : ∀ vs H Q E, sp vs H Q E → vs.length = ps.length)
    (hbody : ∀ (cdv : Value) (A : Around) (outer : List Env) (s : Shared) (H : Hp) (vs : List V) (Q : VK), Room k (A.deeper (envOfC qual (defScope st) s.heap.objs.size f cdv)) → A.guards = some [] → sp vs H Q E0 →
      ∃ t, PSs (cxOf CX0 P w K mg base N qual (defScope st) f cdv A outer s H E0).nox (defBody st) t ∧ t { nx := fun _ H' => Q .non H', rt := Q } (start N vs) H) : FnQ P w K mg base (k + 1) f fd ps sp := by
  obtain ⟨oc, od, kV, doc, pm, an, cdv, ct, osl, rfl, lk, hcd⟩ := F.ex
  refine ⟨len, fun A outer s H args us vs Q hr hq e0 hb hv hsp => ?_⟩
  obtain ⟨t, h, q⟩ := hbody cdv A outer s H vs Q (hr.deeper _) hq hsp
  exact enter_at lk hcd S (len _ _ _ _ hsp) hr e0 hb hv ⟨t, h.nox, q⟩
end
section
variable {X : Cx} {k : Nat} {f : Addr} {fd : FuncData} {ps : List Str} {sp : Sp} {x : Str} {p pos : Pos} {e : Expr} {es : List Expr} {t : TA}
theorem pe_callQ (F : FnQ X.prog X.w X.K X.mg X.base k f fd ps sp) (hq : X.A.guards = some []) (hr : Room k X.A) (hg : Gl X x) (hm : X.mg x = some (.ref f)) (hk : PySem.W.keepIn X.K (.ref f) = true) (hb : Binds X.K fd ps [])
    (ha : PA X (e :: es) t) (hdb : (x == ("__debug__" : Str)) = false := by decide) (he : starEach (e :: es) X.env = (false, eval e X.env) :: starEach es X.env := by rfl) (hpl : (backTo pos (starEach es X.env)).any (·.1) = false := by rfl) :
    PE X (.Call (.Name x p) (e :: es) [] pos) (tCall sp [] E0 t) := by
  refine ⟨fun pins s σ H Q I h => ?_⟩
  refine wpAny_Call_Name_kw (ld_glob I hg hm ?_ hdb)
  refine PySem.W.callWith_K (h₀ := X.base) I.ok.mod.kin hk (thn (ha.run pos pins s σ H _ I h) fun us s1 ⟨vs, H1, I1, r, q⟩ => ⟨I1.kIn, ?_⟩) he hpl
  have r2 : Vals (vs ++ []) (us ++ []) := r.append .nil
  have hl : (us ++ []).length = ps.length := by rw [← r2.length]; exact F.len _ _ _ _ q
  refine wpAny_call (codeAny_mono (F.run X.A X.stack s1 H1 ⟨us, []⟩ (us ++ []) (vs ++ []) Q hr hq I1.env0 (hb s1 us I1.kIn hl) r2 q) fun r s' hq => ?_)
  cases r with
  | error e => exact False.elim hq
  | ok fl =>
    cases fl with
    | ret u => exact I1.after hq
    | next => exact False.elim hq
    | brk => exact False.elim hq
    | cont => exact False.elim hq
end
/-! ### loops over lists that are the image of others -/
theorem lcFM_eq {α : Type} (f g : α → PyData) (p : α → Bool) {L : List PyData} {dg : DG} {dt : DT} {de : DE} {vs : List Nat} {e : DEnv} {m : Mu} {k : List PyData → Mu → Prop} (xs : List α) (hL : L = xs.map f) (hz : xs.length ≤ 1000000)
    (h : ∀ x ∈ xs, ∀ (C : PyData → Mu → Prop) (C0 : Mu → Prop), (p x = true → C (g x) m) → (p x = false → C0 m) → dg (.d (f x)) (wp e vs) m fun e' m' => dt e' m' fun b m2 => br b (de e' m2 (plD C)) (C0 m2)) (hk : k ((xs.filter p).map g) m) :
    L.length ≤ 1000000 ∧ ∃ I : List PyData → List PyData → Mu → Prop, I L [] m ∧
      (∀ x r acc m, I (x :: r) acc m → dg (.d x) (wp e vs) m fun e' m' => dt e' m' fun b m2 => br b (de e' m2 (plD fun z m3 => I r (acc ++ [z]) m3)) (I r acc m2)) ∧ ∀ acc m, I [] acc m → k acc m := by
  subst hL
  exact lcFM f g p xs hz h hk
theorem lcM_eq {α : Type} (f g : α → PyData) {L : List PyData} {dg : DG} {dt : DT} {de : DE} {vs : List Nat} {e : DEnv} {m : Mu} {k : List PyData → Mu → Prop} (xs : List α) (hL : L = xs.map f) (hz : xs.length ≤ 1000000)
    (h : ∀ x ∈ xs, ∀ (C : PyData → Mu → Prop) (C0 : Mu → Prop), C (g x) m → dg (.d (f x)) (wp e vs) m fun e' m' => dt e' m' fun b m2 => br b (de e' m2 (plD C)) (C0 m2)) (hk : k (xs.map g) m) :
    L.length ≤ 1000000 ∧ ∃ I : List PyData → List PyData → Mu → Prop, I L [] m ∧
      (∀ x r acc m, I (x :: r) acc m → dg (.d x) (wp e vs) m fun e' m' => dt e' m' fun b m2 => br b (de e' m2 (plD fun z m3 => I r (acc ++ [z]) m3)) (I r acc m2)) ∧ ∀ acc m, I [] acc m → k acc m := by
  subst hL
  exact lcM f g xs hz h hk
theorem forL_eq {α : Type} (f : α → PyData) {L : List PyData} {g : DG} {b : DS} {E : DEnds} {e : DEnv} {m : Mu} (xs : List α) (hL : L = xs.map f) (J : List α → DEnv → Mu → Prop) (h0 : J [] e m)
    (hs : ∀ done x r e m, xs = done ++ x :: r → J done e m → ∀ C : DEnv → Mu → Prop, (∀ e m, J (done ++ [x]) e m → C e m) → g (.d (f x)) e m fun e' m' => b { nx := C, rt := E.rt, bk := E.nx, ct := C } e' m') (hd : ∀ e m, J xs e m → E.nx e m) :
    ∃ I : List PyData → DEnv → Mu → Prop, I L e m ∧ (∀ x r e m, I (x :: r) e m → g (.d x) e m fun e' m' => b { nx := I r, rt := E.rt, bk := E.nx, ct := I r } e' m') ∧ ∀ e m, I [] e m → E.nx e m := by
  subst hL
  exact forL f xs J h0 hs hd
/-! ### xs[i] = v -/
theorem DaL.set {G : Hp} {v : V} {z : PyData} (hv : Da G v z) : ∀ {xs : List V} {ds : List PyData} (j : Nat), DaL G xs ds → DaL G (xs.set j v) (ds.set j z)
  | _, _, _, .nil => .nil
  | _, _, 0, .cons _ t => .cons hv t
  | _, _, j + 1, .cons h t => .cons h (DaL.set hv j t)
def dSetL (i : Nat) (v b : DE) : DS := fun E e m => v e m fun x m1 => match x, lk e i with
  | .d z, some (.p j) => b e m1 fun y m2 => match y with
    | .d (.int n) => ∃ ds t, m2[j]? = some (.lst ds) ∧ ixN ds.length n = some t ∧ E.nx e (m2.set j (.lst (ds.set t z)))
    | _ => False
  | _, _ => False
theorem ss_setL {tb tv : TE} {db dv : DE} (i : Nat) (hv : SE tv dv) (hb : SE tb db) : SS (tAsg tv (gSub (tVar i) tb rSetL)) (dSetL i dv db) := fun c G pl σ H e m D E hL sr d KK => by
  refine hv _ _ _ _ _ _ _ _ _ sr d fun x m1 G1 pl1 H1 v1 d1 l1 sr1 r1 => ?_
  split at d1
  · rename_i z j q
    obtain ⟨v, h1, h2⟩ := sr1.env.get i _ q
    obtain ⟨hj, rfl⟩ := h2
    refine ⟨_, h1, hb _ _ _ _ _ _ _ _ _ sr1 d1 fun y m2 G2 pl2 H2 v2 d2 l2 sr2 r2 => ?_⟩
    split at d2
    · rename_i n
      obtain ⟨ds, t, q1, hz, d2⟩ := d2
      obtain ⟨xs, hx, hd⟩ := sr2.hp.mo _ _ q1
      cases r2.int_inv
      have hy : Da G2 v1 z := r1.le l2
      have pj : pl2 j = pl1 j := l2.p j hj
      rw [pj] at hx
      refine ⟨_, xs, n, t, rfl, rfl, hx, by rw [hd.length]; exact hz, ?_⟩
      have hp := sr2.hp.put (o' := .lst (ds.set t z)) (ob := .lst (xs.set t v1)) q1 rfl rfl rfl rfl ⟨_, upd_same, DaL.set hy t hd⟩
      rw [pj] at hp
      have l3 : ∀ o, Le G2 pl2 m2.length G2 pl2 (m2.set j o).length := fun o => ⟨.refl _, fun _ _ => rfl, by simp⟩
      exact KK.nx _ _ _ _ _ _ d2 ((l1.trans l2).trans (l3 _)) ⟨sr2.env.le (l3 _), hp⟩
    · exact d2.elim
  · exact d1.elim
/-! ### a new list among several values, changed later on -/
def dConsO (da : DL) (dr : DA) : DA := fun e m k => da e m fun ds m1 => dr e (m1 ++ [.lst ds]) fun xs m2 => k (.p m1.length :: xs) m2
theorem sa_consO {ta : TE} {tr : TA} {da : DL} {dr : DA} (ha : SL ta da) (hr : SA tr dr) : SA (tCons ta tr) (dConsO da dr) :=
  fun c G pl σ H e m k Q sr d K => ha _ _ _ _ _ _ _ _ _ sr d fun ds m1 G1 pl1 H1 p xs d1 l1 sr1 hp hx hg hf hc => by
    have l2 := Le.plus G1 pl1 m1 p (.lst ds)
    have h2 : HR c G1 (plus pl1 m1.length p) H1 (m1 ++ [.lst ds]) := sr1.hp.push (o := .lst ds) ⟨xs, hp, hx⟩ rfl hg hf hc
    exact hr _ _ _ _ _ _ _ _ _ ⟨sr1.env.le l2, h2⟩ d1 fun ys m2 G2 pl2 H2 vs d2 l3 sr3 r3 => K _ _ _ _ _ _ d2 ((l1.trans l2).trans l3) sr3 (.cons (RV.le (dv := .p m1.length) l3 ⟨by simp, by rw [plus_new]⟩) r3)
/-! ### t[::-1] -/
def dBack (a : DE) : DE := fun e m k => a e m fun x m1 => ∃ ds, rdT x = some ds ∧ k (.d (.tuple ds.reverse)) m1
theorem se_back (K : PySem.W.Frag) {ta : TE} {da : DE} (h : SE ta da) : SE (tBack K ta) (dBack da) := fun c G pl σ H e m k Q sr d KK => h _ _ _ _ _ _ _ _ _ sr d fun x m1 G1 pl1 H1 v1 d1 l1 sr1 r1 => by
  obtain ⟨ds, h1, d1⟩ := d1
  obtain ⟨a, xs, e1, e2, e3⟩ := sr1.tup r1 h1
  exact ⟨a, xs, e1, .inl (.inl e2), fun q hq => (KK.le l1).tup sr1 hq d1 e3.rev⟩
def dRevL (a : DE) : DL := fun e m k => a e m fun x m1 => ∃ ds, rdL m1 x = some ds ∧ k ds.reverse m1
theorem sl_revL (K : PySem.W.Frag) {ta : TE} {da : DE} (h : SE ta da) : SL (tRevL K ta) (dRevL da) := fun c G pl σ H e m k Q sr d KK => h _ _ _ _ _ _ _ _ _ sr d fun x m1 G1 pl1 H1 v1 d1 l1 sr1 r1 => by
  obtain ⟨ds, h1, d1⟩ := d1
  obtain ⟨a, xs, e1, e2, e3⟩ := sr1.list r1 h1
  exact ⟨a, xs, e1, .inl (.inl e2), fun q hq => (KK.le l1).new sr1 hq d1 e3.rev⟩
/-! ### max, min of a list of ints -/
def fMaxL (m : Mu) (xs : List DV) (k : DV → Prop) : Prop := match xs with
  | [x] => ∃ is : List Int, rdL m x = some (is.map PyData.int) ∧ is ≠ [] ∧ ∀ z, z ∈ is → (∀ y ∈ is, y ≤ z) → k (.d (.int z))
  | _ => False
def fMinL (m : Mu) (xs : List DV) (k : DV → Prop) : Prop := match xs with
  | [x] => ∃ is : List Int, rdL m x = some (is.map PyData.int) ∧ is ≠ [] ∧ ∀ z, z ∈ is → (∀ y ∈ is, z ≤ y) → k (.d (.int z))
  | _ => False
theorem cs_max (K : PySem.W.Frag) : CaS (rMax K) fMaxL := fun c G pl σ H e m xs ds k Q sr r d KK => by
  unfold fMaxL at d
  split at d
  · cases r with
    | cons h t =>
      cases t
      obtain ⟨is, h1, h2, d⟩ := d
      obtain ⟨a, xs, e1, e2, e3⟩ := sr.list h h1
      cases DaL.ints e3
      exact ⟨a, is, by rw [e1], .inl (.inl e2), List.length_pos_iff.mpr h2, fun z z1 z2 => KK.val sr (d z z1 z2) (show RV G pl m.length (.int z) (.d (.int z)) from .int z)⟩
  · exact d.elim
theorem cs_min (K : PySem.W.Frag) : CaS (rMin K) fMinL := fun c G pl σ H e m xs ds k Q sr r d KK => by
  unfold fMinL at d
  split at d
  · cases r with
    | cons h t =>
      cases t
      obtain ⟨is, h1, h2, d⟩ := d
      obtain ⟨a, xs, e1, e2, e3⟩ := sr.list h h1
      cases DaL.ints e3
      exact ⟨a, is, by rw [e1], .inl (.inl e2), List.length_pos_iff.mpr h2, fun z z1 z2 => KK.val sr (d z z1 z2) (show RV G pl m.length (.int z) (.d (.int z)) from .int z)⟩
  · exact d.elim
/-! ### tuple(range(n)) -/
def dTupRg (a : DE) : DE := fun e m k => a e m fun x m1 => match x with
  | .d (.int n) => (0 ≤ n ∧ n ≤ 1000000) ∧ k (.d (.tuple (rgD 0 n.toNat))) m1
  | _ => False
theorem se_tupRg {ta : TE} {da : DE} (h : SE ta da) : SE (tTupRg (tRg1 ta)) (dTupRg da) := fun c G pl σ H e m k Q sr d KK => h _ _ _ _ _ _ _ _ _ sr d fun x m1 G1 pl1 H1 v1 d1 l1 sr1 r1 => by
  split at d1
  · rename_i n
    cases r1.int_inv
    obtain ⟨⟨n0, n1⟩, d1⟩ := d1
    exact ⟨n, rfl, ⟨by decide, by decide, by omega, by omega, by omega⟩, fun q hq => (KK.le l1).tup sr1 hq d1 (DaL_rg G1 n)⟩
  · exact d1.elim
end PM

namespace PM
open PySem PySem.Spec PyProof.Rows L2 RZ
/-! ### is True, is not True -/
def fIsB (m : Mu) (x y : DV) (k : DV → Prop) : Prop := match x, y with
  | .d (.bool a), .d (.bool b) => k (.d (.bool (decide (a = b))))
  | _, _ => False
def fNotB (m : Mu) (x y : DV) (k : DV → Prop) : Prop := match x, y with
  | .d (.bool a), .d (.bool b) => k (.d (.bool (!decide (a = b))))
  | _, _ => False
theorem os_isB : OpS rIsB fIsB := fun c G pl σ H e m x y dx dy k Q sr rx ry d KK => by
  unfold fIsB at d
  split at d
  · exact ⟨_, _, rx.bl_inv, ry.bl_inv, KK.val sr d (show Da G _ _ from .bl _)⟩
  · exact d.elim
theorem os_notB : OpS rNotB fNotB := fun c G pl σ H e m x y dx dy k Q sr rx ry d KK => by
  unfold fNotB at d
  split at d
  · exact ⟨_, _, rx.bl_inv, ry.bl_inv, KK.val sr d (show Da G _ _ from .bl _)⟩
  · exact d.elim
/-- what follows several ways -/
theorem thenN {A B : Prop} (h : A → B) (a : A) : B := h a
/-! ### promises of five arguments -/
def sn4 (F : Nat → PyData → PyData → PyData → PyData → (DV → Nat → Prop) → Prop) : SpN := fun j ds k => match ds with
  | [a, b, c, d] => F j a b c d k
  | _ => False
theorem sn4_inv {F} {j : Nat} {ds : List PyData} {k : DV → Nat → Prop} (h : sn4 F j ds k) : ∃ a b c d, ds = [a, b, c, d] ∧ F j a b c d k := by
  unfold sn4 at h
  split at h
  · exact ⟨_, _, _, _, rfl, h⟩
  · exact h.elim
theorem sn4_len {F} {j : Nat} {ds : List PyData} {k : DV → Nat → Prop} (h : sn4 F j ds k) : ds.length = 4 := by
  obtain ⟨_, _, _, _, rfl, _⟩ := sn4_inv h
  rfl
def sp5 (F : PyData → PyData → PyData → PyData → PyData → (DV → Prop) → Prop) : SpP := fun ds k => match ds with
  | [a, b, c, d, e] => F a b c d e k
  | _ => False
theorem sp5_inv {F} {ds : List PyData} {k : DV → Prop} (h : sp5 F ds k) : ∃ a b c d e, ds = [a, b, c, d, e] ∧ F a b c d e k := by
  unfold sp5 at h
  split at h
  · exact ⟨_, _, _, _, _, rfl, h⟩
  · exact h.elim
theorem sp5_len {F} {ds : List PyData} {k : DV → Prop} (h : sp5 F ds k) : ds.length = 5 := by
  obtain ⟨_, _, _, _, _, rfl, _⟩ := sp5_inv h
  rfl
/-! ### [x, ..] * n, changed later on -/
def dRepL (a b : DE) : DL := fun e m k => a e m fun x m1 => b e m1 fun y m2 => match y with
  | .d (.int j) => ∃ xs, rdL m2 x = some xs ∧ (-(2 ^ 63) ≤ j ∧ j < 2 ^ 63) ∧ xs.length * j.toNat ≤ 1000000 ∧ k (List.replicate j.toNat xs).flatten m2
  | _ => False
theorem sl_rep (K : PySem.W.Frag) {ta tb : TE} {da db : DE} (ha : SE ta da) (hb : SE tb db) : SL (tOp (rMulA K) ta tb) (dRepL da db) := fun c G pl σ H e m k Q sr d KK =>
  ha _ _ _ _ _ _ _ _ _ sr d fun x m1 G1 pl1 H1 v1 d1 l1 sr1 r1 => hb _ _ _ _ _ _ _ _ _ sr1 d1 fun y m2 G2 pl2 H2 v2 d2 l2 sr2 r2 => by
    split at d2
    · obtain ⟨xs, h1, hj, hz, d2⟩ := d2
      obtain ⟨a, us, e1, e2, e3⟩ := sr2.list (r1.le l2) h1
      exact .inr ⟨a, _, us, e1, r2.int_inv, e2, hj.1, hj.2, by rw [e3.length]; exact bigS hz, fun p hp => (KK.le (l1.trans l2)).new sr2 hp d2 (e3.rep _)⟩
    · exact d2.elim
end PM

namespace PM
open PySem PySem.Spec PyProof.Rows L2 RZ
def topS (i : Nat) : Stmt := PySem.Challenge.pw_poolmarks_k59_changes_refused.main.body.getD i (.Pass ⟨0, 0, 0, 0⟩)
section
variable {P : Program} {w : World} {K : PySem.W.Frag} {mg : Str → Option Value} {base : Heap}
/-! ### the next drawn number -/
abbrev s__law_next : Stmt := topS 28
abbrev N__law_next : List Str := ["_law_drawn", "_law_many", "_law_cells", "_law_turn", "_law_rests", "_law_spot", "_law_digit", "_law_mixed", "_law_again"]
abbrev P__law_next : List Str := ["_law_drawn", "_law_many"]
theorem sc__law_next : FnScope N__law_next P__law_next (defScope s__law_next) := ⟨rfl, rfl, rfl, by decide +kernel, rfl, by decide +kernel, by decide +kernel⟩
def sp__law_next : Sp := fun vs H Q _ => ∃ (a c r : Addr) (n : Nat) (m : Int), vs = [.ref a, .int m] ∧ Drw H a c r n ∧ n < 1000000 ∧ 0 < m ∧ m.natAbs.log2 < 9000 ∧
  ∀ (v : Int) H', 0 ≤ v → v < m → Drw H' a c r (n + 1) → Keep a r H H' → Q (.int v) H'
theorem ok__law_next {k : Nat} (d : IsDef K mg "_law_next" s__law_next P__law_next) (m_len : mg "len" = none) : Ok P w K mg base (k + 1) "_law_next" s__law_next P__law_next sp__law_next := by
  obtain ⟨f, fd, D⟩ := d
  refine ⟨f, fd, D, D.F.ok sc__law_next (fun vs H Q E h => ?_) (fun cdv A outer s H vs Q E hr h => ?_)⟩
  · obtain ⟨a, c, r, n, m, rfl, _⟩ := h
    rfl
  · obtain ⟨a, c, r, n, m, rfl, dr, hn, hm, hb, q⟩ := h
    obtain ⟨⟨cells, rests, t, hA, hC, hR, e1, e2, e3, t0, tn⟩, ac, ar, cr⟩ := id dr
    refine ⟨_, (pss_cons (ps_asg (pv 0) (pg_unl (by rfl) (pgs_cons (pg_name (i := 2) sc__law_next.nd rfl (.inl rfl)) (pgs_cons (pg_name (i := 3) sc__law_next.nd rfl (.inl rfl)) (pgs_cons (pg_name (i := 4) sc__law_next.nd rfl (.inl rfl)) pgs_nil)))))
      (pss_cons (ps_set (i := 5) sc__law_next.nd rfl (.inl rfl) (pe_op op_mod (pv 3) (pe_callB call_len_seq (by rfl) m_len (by decide +kernel) (pa_cons (pv 2) pa_nil))))
      (pss_cons (ps_asg (pe_op op_add (pv 3) pe_int) (pg_sub (pv 0) pe_int set_list))
      (pss_cons (ps_if (pt_cmpR op_gt (pe_ix ix_list (pv 4) (pv 5) (fun _ _ => rfl)) pe_int (nomark _)) (pss_cons (ps_set (i := 6) sc__law_next.nd rfl (.inl rfl) (pe_op op_mod (pe_ix ix_list (pv 4) (pv 5) (fun _ _ => rfl)) (pv 1))) (pss_cons (ps_asg (pe_op op_fdivW (pe_ix ix_list (pv 4) (pv 5) (fun _ _ => rfl)) (pv 1)) (pg_sub (pv 4) (pv 5) set_list)) (pss_one (ps_ret (pv 6))))) pss_nil)
      (pss_cons (ps_set (i := 7) sc__law_next.nd rfl (.inl rfl) (pe_op op_mod (pe_op op_pow (pe_op op_add (pe_op op_add (pe_op op_mod (pe_ix ix_list (pv 2) (pv 5) (fun _ _ => rfl)) pe_int) (pe_op op_mul pe_int (pv 3))) pe_int) pe_int) pe_int))
      (pss_cons (ps_set (i := 8) sc__law_next.nd rfl (.inl rfl) (pe_op op_mod (pe_op op_pow (pe_op op_add (pe_op op_add (pv 7) (pe_op op_mul (pe_op op_mul pe_int (pv 3)) (pv 3))) pe_int) pe_int) pe_int))
      (pss_one (ps_ret (pe_op op_mod (pe_op op_mod (pe_op op_add (pe_op op_mul (pv 8) pe_int) (pv 7)) pe_int) (pv 1)))))))))), ?_⟩
    refine ⟨.ref a, rfl, a, _, rfl, .inl (.inl hA), rfl, _, _, rfl, _, _, rfl, _, _, rfl, rfl, ?_⟩
    -- spot
    refine ⟨.int t, rfl, .ref c, rfl, c, _, rfl, .inl (.inl (.inl hC)), _, _, rfl, rfl, ?_, ?_⟩
    · show (0 : Int) < _
      rw [List.length_map]
      omega
    rw [List.length_map]
    obtain ⟨j, ej⟩ : ∃ j : Nat, t % (cells.length : Int) = (j : Int) := ⟨(t % (cells.length : Int)).toNat, by
      have := Int.emod_nonneg t (show (cells.length : Int) ≠ 0 by omega)
      omega⟩
    have hj : j < cells.length := by
      have := Int.emod_lt_of_pos t (show (0 : Int) < (cells.length : Int) by omega)
      omega
    have hj' : j < rests.length := by omega
    dsimp only
    rw [ej]
    -- drawn[1] = turn + 1
    refine ⟨.int t, rfl, _, _, rfl, rfl, .ref a, rfl, a, _, _, 1, rfl, rfl, hA, rfl, ?_⟩
    have hC1 : (upd H a (.lst (List.set [.ref c, .int t, .ref r] 1 (.int (t + 1))))) c = some (.lst (cells.map V.int)) := by
      rw [upd_ne (Ne.symm ac)]
      exact hC
    have hR1 : (upd H a (.lst (List.set [.ref c, .int t, .ref r] 1 (.int (t + 1))))) r = some (.lst (rests.map V.int)) := by
      rw [upd_ne (Ne.symm ar)]
      exact hR
    have gc : atI (cells.map V.int) (j : Int) = some (.int cells[j]) := atI_nat (by rw [List.getElem?_map, List.getElem?_eq_getElem hj]; rfl)
    have gr : atI (rests.map V.int) (j : Int) = some (.int rests[j]) := atI_nat (by rw [List.getElem?_map, List.getElem?_eq_getElem hj']; rfl)
    refine ⟨.ref r, rfl, .int j, rfl, r, _, _, _, rfl, rfl, .inl (.inl hR1), gr, _, _, rfl, rfl, _, rfl, ite2 (fun e => ?_) (fun e => ?_)⟩
    · -- a digit of a great number
      refine ⟨.ref r, rfl, .int j, rfl, r, _, _, _, rfl, rfl, .inl (.inl hR1), gr, .int m, rfl, _, _, rfl, rfl, hm, ?_⟩
      refine ⟨.ref r, rfl, .int j, rfl, r, _, _, _, rfl, rfl, .inl (.inl hR1), gr, .int m, rfl, _, _, rfl, rfl, ⟨hm, hb⟩, .ref r, rfl, .int j, rfl, r, _, _, j, rfl, rfl, hR1, ?_, ?_⟩
      · rw [List.length_map]
        exact place_ok hj'
      refine ⟨_, rfl, q _ _ (Int.emod_nonneg _ (by omega)) (Int.emod_lt_of_pos _ hm) ?_ ?_⟩
      · refine ⟨⟨cells, rests.set j (rests[j] / m), t + 1, ?_, ?_, ?_, ?_, e2, e3, by omega, by omega⟩, ac, ar, cr⟩
        · rw [upd_ne ar, upd_same]
          rfl
        · rw [upd_ne cr]
          exact hC1
        · rw [upd_same, List.map_set]
        · rw [List.length_set]
          exact e1
      · intro b o ba br hb
        rw [upd_ne br, upd_ne ba]
        exact hb
    · -- a mixed number
      have gp : ∀ x y : Int, 0 < y → 0 ≤ x % y ∧ x % y < y := fun x y h => ⟨Int.emod_nonneg _ (by omega), Int.emod_lt_of_pos _ h⟩
      have t1 : t < 1000000 := by omega
      have b1 := gp cells[j] 2147483629 (by decide)
      refine ⟨.ref c, rfl, .int j, rfl, c, _, _, _, rfl, rfl, .inl (.inl hC1), gc, _, _, rfl, rfl, (by show (0 : Int) < 2147483629; decide), .int t, rfl, _, _, rfl, rfl, .inl ⟨by decide, by decide⟩, _, _, rfl, rfl, _, _, rfl, rfl, _, _, rfl, rfl, ⟨by decide, by decide, ?_⟩, _, _, rfl, rfl, (by show (0 : Int) < 2147483587; decide), ?_⟩
      · omega
      obtain ⟨x, hx, x0, x1⟩ : ∃ x : Int, (cells[j] % 2147483629 + 39119 * t + 9901) ^ Int.toNat 3 % 2147483587 = x ∧ 0 ≤ x ∧ x < 2147483587 := ⟨_, rfl, gp _ _ (by decide)⟩
      change gName 7 (.int ((cells[j] % 2147483629 + 39119 * t + 9901) ^ Int.toNat 3 % 2147483587)) _ _ _
      rw [hx]
      have tt : 0 ≤ 7001 * t * t ∧ 7001 * t * t < 7001 * 1000000 * 1000000 := by
        have h1 : 0 ≤ t * t := Int.mul_nonneg t0 t0
        have h2 : t * t ≤ 1000000 * 1000000 - 1 := by
          have := Int.mul_le_mul (show t ≤ 999999 by omega) (show t ≤ 999999 by omega) t0 (by omega)
          omega
        rw [Int.mul_assoc]
        omega
      refine ⟨.int x, rfl, .int t, rfl, _, _, rfl, rfl, .inl ⟨by decide, by decide⟩, .int t, rfl, _, _, rfl, rfl, .inl ⟨?_, ?_⟩, _, _, rfl, rfl, _, _, rfl, rfl, _, _, rfl, rfl, ⟨by decide, by decide, ?_⟩, _, _, rfl, rfl, (by show (0 : Int) < 2147483563; decide), ?_⟩
      · omega
      · omega
      · omega
      obtain ⟨y, hy, y0, y1⟩ : ∃ y : Int, (x + 7001 * t * t + 41) ^ Int.toNat 3 % 2147483563 = y ∧ 0 ≤ y ∧ y < 2147483563 := ⟨_, rfl, gp _ _ (by decide)⟩
      change gName 8 (.int ((x + 7001 * t * t + 41) ^ Int.toNat 3 % 2147483563)) _ _ _
      rw [hy]
      refine ⟨.int y, rfl, _, _, rfl, rfl, .inl ⟨by omega, by omega⟩, .int x, rfl, _, _, rfl, rfl, _, _, rfl, rfl, (by show (0 : Int) < 4611686018427387847; decide), .int m, rfl, _, _, rfl, rfl, hm, ?_⟩
      refine q _ _ (Int.emod_nonneg _ (by omega)) (Int.emod_lt_of_pos _ hm) ?_ ?_
      · refine ⟨⟨cells, rests, t + 1, ?_, hC1, hR1, e1, e2, e3, by omega, by omega⟩, ac, ar, cr⟩
        rw [upd_same]
        rfl
      · intro b o ba br hb
        rw [upd_ne ba]
        exact hb
theorem okD__law_next (d : IsDef K mg "_law_next" s__law_next P__law_next) (m_len : mg "len" = none) : Ok P w K mg base 1 "_law_next" s__law_next P__law_next (prN S__law_next) := by
  obtain ⟨f, fd, D, F⟩ := ok__law_next (P := P) (w := w) (K := K) (mg := mg) (base := base) (k := 0) d m_len
  refine ⟨f, fd, D, F.imp fun vs H Q E h => ?_⟩
  obtain ⟨G, a, c, r, j, ws, ds, k, rfl, dr, ga, gc, gr, sub, rs, hS, KK⟩ := h
  obtain ⟨x, rfl, m, rfl, hj, m0, m9, hk⟩ := sn1_inv hS
  cases rs with
  | cons rx t =>
    cases t
    cases rx
    refine ⟨a, c, r, j, m, rfl, dr, by omega, m0, m9, fun v H' v0 v1 d' kp => ?_⟩
    have up : ∀ b, H b ≠ none → H' b ≠ none := fun b hb => by
      by_cases z : b = a ∨ b = c ∨ b = r
      · obtain ⟨⟨cells, rests, t, h1, h2, h3, _⟩, _⟩ := d'
        rcases z with z | z | z <;> rw [z]
        · rw [h1]; exact fun w => nomatch w
        · rw [h2]; exact fun w => nomatch w
        · rw [h3]; exact fun w => nomatch w
      · cases q : H b with
        | none => exact absurd q hb
        | some o => rw [kp b o (fun w => z (.inl w)) (fun w => z (.inr (.inr w))) q]; exact fun w => nomatch w
    have sub' : Same G H' := fun b o e => kp b o (fun z => by rw [z, ga] at e; cases e) (fun z => by rw [z, gr] at e; cases e) (sub _ _ e)
    exact KK (.d (.int v)) (j + 1) G H' (.int v) (hk v v0 v1) (.refl G) sub' (fun b o n1 n2 n3 e => kp b o n1 n3 e) up (fun b e => .inl e) d' (.int v)
/-! ### the drawn numbers are laid -/
abbrev s__law_draws : Stmt := topS 27
abbrev N__law_draws : List Str := ["_law_script", "_law_cells", "_law_cell"]
abbrev P__law_draws : List Str := ["_law_script"]
theorem sc__law_draws : FnScope N__law_draws P__law_draws (defScope s__law_draws) := ⟨rfl, rfl, rfl, by decide +kernel, rfl, by decide +kernel, by decide +kernel⟩
def sp__law_draws (K : PySem.W.Frag) : Sp := fun vs H Q _ => ∃ (a : Addr) (ns : List Int), vs = [.ref a] ∧ SqL K H a (ns.map V.int) ∧ ns.length ≤ 63 ∧
  ∀ H' p c r, Same H H' → H p = none → H c = none → H r = none → Drw H' p c r 0 → Q (.ref p) H'
theorem ok__law_draws {k : Nat} (d : IsDef K mg "_law_draws" s__law_draws P__law_draws) (m_len : mg "len" = none) (m_int : mg "int" = none) (m_list : mg "list" = none) : Ok P w K mg base (k + 1) "_law_draws" s__law_draws P__law_draws (sp__law_draws K) := by
  obtain ⟨f, fd, D⟩ := d
  refine ⟨f, fd, D, D.F.ok sc__law_draws (fun vs H Q E h => ?_) (fun cdv A outer s H vs Q E hr h => ?_)⟩
  · obtain ⟨a, ns, rfl, _⟩ := h
    rfl
  · obtain ⟨a, ns, rfl, hS, hlen, q⟩ := h
    refine ⟨_, (pss_cons (ps_set (i := 1) sc__law_draws.nd rfl (.inl rfl) (pe_op op_cat (pe_callTy call_list_of (by rfl) m_list (by decide +kernel) (pa_cons (pe_slice sl_list (pv 0) po_none (po_some pe_int)) pa_nil)) (pe_op op_rep (pe_lst (pa_cons pe_int pa_nil)) (pe_callTy call_int1 (by rfl) m_int (by decide +kernel) (pa_cons (pe_cmpR op_eq (pe_callB call_len_seq (by rfl) m_len (by decide +kernel) (pa_cons (pv 0) pa_nil)) pe_int (nomark _)) pa_nil)))))
      (pss_one (ps_ret (pe_lst (pa_cons (pv 1) (pa_cons pe_int (pa_cons (pe_lc (own := [("_law_cell", 2)]) (g := gName 2) (by rfl) sc__law_draws.nd (pi_list (pv 1)) (blkOk_by (own := [("_law_cell", 2)]) (N := N__law_draws) (sc := defScope s__law_draws) (by decide +kernel)) (fun _ _ _ _ _ => by exact (pg_name (i := 2) sc__law_draws.nd rfl (.inl rfl))) (fun _ _ _ _ _ => pts_nil) (fun _ _ _ _ _ => by exact (pe_op op_mul (pv 2) (pe_callTy call_int1 (by rfl) m_int (by decide +kernel) (pa_cons (pe_cmpR op_ge (pv 2) (pe_op op_pow pe_int pe_int) (nomark _)) pa_nil))))) pa_nil))))))), ?_⟩
    refine ⟨.ref a, rfl, 63, rfl, a, _, rfl, hS, fun p1 n1 => ?_⟩
    rw [cut63 (by rw [List.length_map]; exact hlen)]
    have s1 := same_upd (ob := .lst (ns.map V.int)) n1
    refine ⟨p1, _, rfl, .inl (.inl (.inl upd_same)), fun p2 n2 => ?_⟩
    have s2 := s1.trans (same_upd (ob := .lst (ns.map V.int)) n2)
    refine ⟨toks (by decide), fun p3 n3 => ?_⟩
    have s3 := s2.trans (same_upd (ob := .lst [.int 0]) n3)
    have z2 := same_upd (ob := .lst [.int 0]) n3
    refine ⟨.ref a, rfl, a, _, rfl, .inl (s3.seq hS), rfl, .inr ⟨_, rfl, ?_⟩⟩
    obtain ⟨zs, hz, lz, ez⟩ : ∃ zs : List Int, zs.length ≤ 1 ∧ 0 < (ns ++ zs).length ∧ (List.replicate (if decide (V.int ((ns.map V.int).length : Int) = V.int 0) = true then (1 : Int) else 0).toNat [V.int 0]).flatten = zs.map V.int := by
      cases ns with
      | nil => exact ⟨[0], by decide, by decide, rfl⟩
      | cons x l =>
        refine ⟨[], by decide, by simp, ?_⟩
        rw [if_neg]
        · rfl
        · intro e
          have e := V.int.inj (of_decide_eq_true e)
          rw [List.length_map, List.length_cons] at e
          omega
    refine ⟨p3, _, [.int 0], rfl, rfl, upd_same, ?_, ?_, ?_, fun p4 n4 => ?_⟩
    · split <;> omega
    · split <;> omega
    · split <;> exact toks (by decide)
    rw [ez]
    have s4 := s3.trans (same_upd (ob := .lst (zs.map V.int)) n4)
    have z3 := z2.trans (same_upd (ob := .lst (zs.map V.int)) n4)
    refine ⟨p2, p4, _, _, rfl, rfl, z3 _ _ upd_same, upd_same, ?_, fun p5 n5 => ?_⟩
    · rw [List.length_map, List.length_map]
      exact toks (by omega)
    rw [← List.map_append]
    have s5 := s4.trans (same_upd (ob := .lst ((ns ++ zs).map V.int)) n5)
    have hlc : (ns ++ zs).length ≤ 64 := by
      rw [List.length_append]
      omega
    generalize hcells : ns ++ zs = cells at *
    generalize hH5 : upd _ p5 (HO.lst (cells.map V.int)) = H5 at *
    have h5 : H5 p5 = some (.lst (cells.map V.int)) := by
      rw [← hH5, upd_same]
    have np5 := s4.free n5
    refine ⟨.ref p5, rfl, .ref p5, rfl, p5, rfl, ⟨_, .inl (.inl h5)⟩, fun D nD => ?_⟩
    have dp : D ≠ p5 := fun e => by
      rw [e, h5] at nD
      cases nD
    refine lc_list (K := K) (xs := cells.map V.int) (fun i H' => Same H5 H' ∧ H' D = some (.lst (((cells.take i).map fun c => c * (if decide ((10 : Int) ^ Int.toNat 18 ≤ c) = true then 1 else 0)).map V.int))) ⟨same_upd nD, upd_same⟩ (fun i H' _ p => .inl (.inl (p.1 _ _ h5))) (fun i x H' hx p => ?_) (fun H' p => ?_)
    · rw [List.getElem?_map] at hx
      cases hc : cells[i]? with
      | none =>
        rw [hc] at hx
        cases hx
      | some y =>
        rw [hc] at hx
        have hx : x = .int y := (Option.some.inj hx).symm
        subst hx
        refine ⟨rfl, ?_⟩
        refine ⟨.int y, rfl, .int y, rfl, _, _, rfl, rfl, ⟨by decide, by decide, by decide⟩, _, _, rfl, rfl, .inr ⟨_, rfl, _, _, rfl, rfl, .inr ?_, _, p.2, ?_, ?_, ?_⟩⟩
        · split <;> decide
        · rw [List.length_map, List.length_map, List.length_take]
          exact small1000 (by omega)
        · intro b o e
          rw [upd_ne (show b ≠ D from fun z => by rw [z, nD] at e; cases e)]
          exact p.1 _ _ e
        · rw [upd_same, List.take_add_one, hc, List.map_append, List.map_append]
          rfl
    · obtain ⟨p1, p2⟩ := p
      rw [List.length_map, List.take_length] at p2
      obtain ⟨rests, hrs, lrs⟩ : ∃ rests : List Int, (cells.map fun c => c * (if decide ((10 : Int) ^ Int.toNat 18 ≤ c) = true then 1 else 0)) = rests ∧ rests.length = cells.length := ⟨_, rfl, by rw [List.length_map]⟩
      rw [hrs] at p2
      refine ⟨toks (by show 3 ≤ 1000; decide), fun pa na => ?_⟩
      have nD1 : H D = none := s5.free nD
      have na1 : H5 pa = none := p1.free na
      refine q _ pa p5 D ((s5.trans p1).trans (same_upd na)) (s5.free na1) np5 nD1 ⟨⟨cells, rests, 0, upd_same, ?_, ?_, lrs, lz, hlc, by decide, by decide⟩, ?_, ?_, Ne.symm dp⟩
      · rw [upd_ne (ne_of_none (p1 _ _ h5) na)]
        exact p1 _ _ h5
      · rw [upd_ne (ne_of_none p2 na)]
        exact p2
      · exact Ne.symm (ne_of_none (p1 _ _ h5) na)
      · exact Ne.symm (ne_of_none p2 na)
theorem okD__law_draws (d : IsDef K mg "_law_draws" s__law_draws P__law_draws) (m_len : mg "len" = none) (m_int : mg "int" = none) (m_list : mg "list" = none) : Ok P w K mg base 1 "_law_draws" s__law_draws P__law_draws (sp__law_draws K) := ok__law_draws (k := 0) d m_len m_int m_list
/-! ### one of some values -/
abbrev S__law_one : SpN := sn1 fun j a k => ∃ ds : List PyData, (a = .list ds ∨ a = .tuple ds) ∧ ds ≠ [] ∧ ds.length ≤ 1000 ∧ j + 1 < 900000 ∧ ∀ d ∈ ds, k (.d d) (j + 1)
abbrev s__law_one : Stmt := topS 29
abbrev N__law_one : List Str := ["_law_drawn", "_law_items_here"]
abbrev P__law_one : List Str := ["_law_drawn", "_law_items_here"]
theorem sc__law_one : FnScope N__law_one P__law_one (defScope s__law_one) := ⟨rfl, rfl, rfl, by decide +kernel, rfl, by decide +kernel, by decide +kernel⟩
set_option maxHeartbeats 8000000 in
theorem okD__law_one (d : IsDef K mg "_law_one" s__law_one P__law_one) (h__law_next : Ok P w K mg base 1 "_law_next" s__law_next P__law_next (prN S__law_next)) (m_len : mg "len" = none) : Ok P w K mg base 2 "_law_one" s__law_one P__law_one (prN S__law_one) := by
  obtain ⟨f0_, fd0_, D⟩ := d
  obtain ⟨f__law_next, fd__law_next, ⟨F__law_next, b__law_next, g__law_next⟩, G__law_next⟩ := h__law_next
  refine ⟨f0_, fd0_, D, D.F.ok sc__law_one (fun vs H Q E h => ?_) (fun cdv A outer s H vs Q E hr h => ?_)⟩
  · obtain ⟨G, a, c, r, j, ws, ds, k, rfl, _, _, _, _, _, rs, hS, _⟩ := h
    rw [List.length_cons, rs.length]
    exact congrArg (· + 1) (sn1_len hS)
  · obtain ⟨G, a, c, r, j, ws, ds, k, rfl, dr, ga, gc, gr, sub, rs, hS, KK⟩ := h
    refine ⟨_, (pss_one (ps_ret (pe_ix (show IxR _ (rIx K) from ix_seq) (pv 1) (pe_call G__law_next (hr.mono (by omega)) (by rfl) g__law_next F__law_next.kp b__law_next .nil pass0 (pa_cons (pv 0) (pa_cons (pe_callB (show CallR _ _ (rLenK K) from call_lenK) (by rfl) m_len (by decide +kernel) (pa_cons (pv 1) pa_nil)) pa_nil))) (fun _ _ => rfl)))), runN (N := N__law_one) (ss_ret (se_op (os_ix _) (se_var 1) (se_callN (sa_cons (se_var 0) (sa_cons (se_cb (cs_len _) (sa_cons (se_var 1) sa_nil)) sa_nil))))) dr ga gc gr sub rs KK ?_⟩
    clear KK rs sub ga gc gr dr hr
    replace hS := sn1_inv hS
    obtain ⟨x1, rfl, hS⟩ := hS
    obtain ⟨ds, ha, ne, hl, hj, hk⟩ := hS
    have pos : 0 < ds.length := List.length_pos_iff.mpr ne
    rcases ha with rfl | rfl
    all_goals
      refine ⟨_, rfl, _, rfl, by omega, by omega, lg (b := 11) (by omega), fun v v0 v1 => ?_⟩
      obtain ⟨c, rfl⟩ := Int.eq_ofNat_of_zero_le v0
      have hc : c < ds.length := by omega
      exact ⟨_, _, rfl, atI_nat (List.getElem?_eq_getElem hc), hk _ (List.getElem_mem hc)⟩
/-! ### a drawn size -/
abbrev S__law_size : SpN := sn1 fun j a k => ∃ g : Int, a = .int g ∧ 0 ≤ g ∧ g < 2 ^ 100 ∧ j + 3 < 900000 ∧ ∀ v : Int, 0 ≤ v → v ≤ g → k (.d (.int v)) (j + 3)
abbrev s__law_size : Stmt := topS 30
abbrev N__law_size : List Str := ["_law_drawn", "_law_great", "_law_few"]
abbrev P__law_size : List Str := ["_law_drawn", "_law_great"]
theorem sc__law_size : FnScope N__law_size P__law_size (defScope s__law_size) := ⟨rfl, rfl, rfl, by decide +kernel, rfl, by decide +kernel, by decide +kernel⟩
set_option maxHeartbeats 8000000 in
theorem okD__law_size (d : IsDef K mg "_law_size" s__law_size P__law_size) (h__law_next : Ok P w K mg base 1 "_law_next" s__law_next P__law_next (prN S__law_next)) (m_min : mg "min" = none) : Ok P w K mg base 2 "_law_size" s__law_size P__law_size (prN S__law_size) := by
  obtain ⟨f0_, fd0_, D⟩ := d
  obtain ⟨f__law_next, fd__law_next, ⟨F__law_next, b__law_next, g__law_next⟩, G__law_next⟩ := h__law_next
  refine ⟨f0_, fd0_, D, D.F.ok sc__law_size (fun vs H Q E h => ?_) (fun cdv A outer s H vs Q E hr h => ?_)⟩
  · obtain ⟨G, a, c, r, j, ws, ds, k, rfl, _, _, _, _, _, rs, hS, _⟩ := h
    rw [List.length_cons, rs.length]
    exact congrArg (· + 1) (sn1_len hS)
  · obtain ⟨G, a, c, r, j, ws, ds, k, rfl, dr, ga, gc, gr, sub, rs, hS, KK⟩ := h
    refine ⟨_, (pss_cons (ps_set (i := 2) sc__law_size.nd rfl (.inl rfl) (pe_call G__law_next (hr.mono (by omega)) (by rfl) g__law_next F__law_next.kp b__law_next .nil pass0 (pa_cons (pv 0) (pa_cons (pe_op (show OpR _ _ (rAddA K) from op_addA) (pe_callB (call_min2 rfl) (by rfl) m_min (by decide +kernel) (pa_cons (pv 1) (pa_cons pe_int pa_nil))) pe_int) pa_nil))))
      (pss_one (ps_ret (pe_ix (show IxR _ (rIx K) from ix_seq) (pe_lst (pa_cons (pv 2) (pa_cons (pe_op op_sub (pv 1) (pv 2)) (pa_cons (pe_call G__law_next (hr.mono (by omega)) (by rfl) g__law_next F__law_next.kp b__law_next .nil pass0 (pa_cons (pv 0) (pa_cons (pe_op (show OpR _ _ (rAddA K) from op_addA) (pv 1) pe_int) pa_nil))) pa_nil)))) (pe_call G__law_next (hr.mono (by omega)) (by rfl) g__law_next F__law_next.kp b__law_next .nil pass0 (pa_cons (pv 0) (pa_cons pe_int pa_nil))) (fun _ _ => rfl))))), runN (N := N__law_size) (ss_seq (ss_asg (se_callN (sa_cons (se_var 0) (sa_cons (se_op (os_addA _) (se_cb cs_min2 (sa_cons (se_var 1) (sa_cons (se_int _) sa_nil))) (se_int _)) sa_nil))) (sg_name 2))
      (ss_ret (se_op (os_ix _) (SL.se (sl_lst (sa_cons (se_var 2) (sa_cons (se_op os_sub (se_var 1) (se_var 2)) (sa_cons (se_callN (sa_cons (se_var 0) (sa_cons (se_op (os_addA _) (se_var 1) (se_int _)) sa_nil))) sa_nil))))) (se_callN (sa_cons (se_var 0) (sa_cons (se_int _) sa_nil)))))) dr ga gc gr sub rs KK ?_⟩
    clear KK rs sub ga gc gr dr hr
    replace hS := sn1_inv hS
    obtain ⟨x1, rfl, hS⟩ := hS
    obtain ⟨g, rfl, g0, g1, hj, hk⟩ := hS
    refine ⟨_, rfl, by omega, by split <;> omega, lg (b := 101) (by split <;> omega), fun v v0 v1 => ?_⟩
    have v3 : v ≤ g := by
      have v1 : v < (if 3 < g then 3 else g) + 1 := v1
      split at v1 <;> omega
    refine ⟨_, rfl, by omega, by omega, lg (b := 101) (by omega), fun u u0 u1 => ?_⟩
    refine ⟨by show 3 ≤ 1000000; decide, _, rfl, by omega, by decide, lg (b := 2) (by decide), fun t t0 t1 => ?_⟩
    have e : t = 0 ∨ t = 1 ∨ t = 2 := by omega
    rcases e with rfl | rfl | rfl
    · exact ⟨_, _, rfl, rfl, hk v v0 v3⟩
    · exact ⟨_, _, rfl, rfl, hk (g - v) (by omega) (by omega)⟩
    · exact ⟨_, _, rfl, rfl, hk u u0 (by omega)⟩
/-! ### drawn items -/
abbrev S__law_items : SpN := sn1 fun j a k => ∃ n : Nat, a = .int n ∧ n ≤ 100 ∧ j + 700 < 900000 ∧ ∀ its : List (Int × Int), its.length = n → ItsOk its → k (.d (.tuple (its.map itD))) (j + 2 + 6 * n)
abbrev s__law_items : Stmt := topS 31
abbrev N__law_items : List Str := ["_law_drawn", "_law_count", "_law_great", "_law_heavy", "_law_found", "_law_k"]
abbrev P__law_items : List Str := ["_law_drawn", "_law_count"]
theorem sc__law_items : FnScope N__law_items P__law_items (defScope s__law_items) := ⟨rfl, rfl, rfl, by decide +kernel, rfl, by decide +kernel, by decide +kernel⟩
set_option maxHeartbeats 8000000 in
theorem okD__law_items (d : IsDef K mg "_law_items" s__law_items P__law_items) (h__law_next : Ok P w K mg base 1 "_law_next" s__law_next P__law_next (prN S__law_next)) (h__law_size : Ok P w K mg base 2 "_law_size" s__law_size P__law_size (prN S__law_size)) (m_tuple : mg "tuple" = none) (m_range : mg "range" = none) : Ok P w K mg base 3 "_law_items" s__law_items P__law_items (prN S__law_items) := by
  obtain ⟨f0_, fd0_, D⟩ := d
  obtain ⟨f__law_next, fd__law_next, ⟨F__law_next, b__law_next, g__law_next⟩, G__law_next⟩ := h__law_next
  obtain ⟨f__law_size, fd__law_size, ⟨F__law_size, b__law_size, g__law_size⟩, G__law_size⟩ := h__law_size
  refine ⟨f0_, fd0_, D, D.F.ok sc__law_items (fun vs H Q E h => ?_) (fun cdv A outer s H vs Q E hr h => ?_)⟩
  · obtain ⟨G, a, c, r, j, ws, ds, k, rfl, _, _, _, _, _, rs, hS, _⟩ := h
    rw [List.length_cons, rs.length]
    exact congrArg (· + 1) (sn1_len hS)
  · obtain ⟨G, a, c, r, j, ws, ds, k, rfl, dr, ga, gc, gr, sub, rs, hS, KK⟩ := h
    refine ⟨_, (pss_cons (ps_set (i := 2) sc__law_items.nd rfl (.inl rfl) (pe_ix (show IxR _ (rIx K) from ix_seq) (pe_lst (pa_cons pe_int (pa_cons pe_int (pa_cons (pe_op op_pow pe_int pe_int) pa_nil)))) (pe_call G__law_next (hr.mono (by omega)) (by rfl) g__law_next F__law_next.kp b__law_next .nil pass0 (pa_cons (pv 0) (pa_cons pe_int pa_nil))) (fun _ _ => rfl)))
      (pss_cons (ps_set (i := 3) sc__law_items.nd rfl (.inl rfl) (pe_ix (show IxR _ (rIx K) from ix_seq) (pe_lst (pa_cons pe_int (pa_cons pe_int (pa_cons (pe_op op_pow pe_int pe_int) pa_nil)))) (pe_call G__law_next (hr.mono (by omega)) (by rfl) g__law_next F__law_next.kp b__law_next .nil pass0 (pa_cons (pv 0) (pa_cons pe_int pa_nil))) (fun _ _ => rfl)))
      (pss_cons (ps_set (i := 4) sc__law_items.nd rfl (.inl rfl) (pe_lst pa_nil))
      (pss_cons (ps_for PassesOwn.never rfl (pi_range1 (by rfl) m_range (pa_cons (pv 1) pa_nil)) (pg_name (i := 5) sc__law_items.nd rfl (.inl rfl)) (pss_one (ps_expr (pe_bm PySem.F.plainAttrs_list PySem.F.slot_list_append PySem.F.type_list_append mt_append (pv 4) (pa_cons (pe_tup (pa_cons (pe_op op_sub (pe_call G__law_size (hr.mono (by omega)) (by rfl) g__law_size F__law_size.kp b__law_size .nil pass0 (pa_cons (pv 0) (pa_cons (pe_op (show OpR _ _ (rMulA K) from op_mulA) pe_int (pv 2)) pa_nil))) (pv 2)) (pa_cons (pe_op (show OpR _ _ (rAddA K) from op_addA) pe_int (pe_call G__law_size (hr.mono (by omega)) (by rfl) g__law_size F__law_size.kp b__law_size .nil pass0 (pa_cons (pv 0) (pa_cons (pe_op op_sub (pv 3) pe_int) pa_nil)))) pa_nil))) pa_nil)))))
      (pss_one (ps_ret (pe_callTy (show CallR _ _ (rTupK K) from call_tupK) (by rfl) m_tuple (by decide +kernel) (pa_cons (pv 4) pa_nil)))))))), runN (N := N__law_items) (ss_seq (ss_asg (se_op (os_ix _) (SL.se (sl_lst (sa_cons (se_int _) (sa_cons (se_int _) (sa_cons (se_op os_pow (se_int _) (se_int _)) sa_nil))))) (se_callN (sa_cons (se_var 0) (sa_cons (se_int _) sa_nil)))) (sg_name 2))
      (ss_seq (ss_asg (se_op (os_ix _) (SL.se (sl_lst (sa_cons (se_int _) (sa_cons (se_int _) (sa_cons (se_op os_pow (se_int _) (se_int _)) sa_nil))))) (se_callN (sa_cons (se_var 0) (sa_cons (se_int _) sa_nil)))) (sg_name 3))
      (ss_seq (ss_own 4 (sl_lst sa_nil))
      (ss_seq (ss_for (si_rng1 (sa_cons (se_var 1) sa_nil)) (sg_name 5) (ss_app _ 4 (se_tup (sa_cons (se_op os_sub (se_callN (sa_cons (se_var 0) (sa_cons (se_op (os_mulA _) (se_int _) (se_var 2)) sa_nil))) (se_var 2)) (sa_cons (se_op (os_addA _) (se_int _) (se_callN (sa_cons (se_var 0) (sa_cons (se_op os_sub (se_var 3) (se_int _)) sa_nil)))) sa_nil)))))
      (ss_ret (se_cb (cs_tup _) (sa_cons (se_var 4) sa_nil))))))) dr ga gc gr sub rs KK ?_⟩
    clear KK rs sub ga gc gr dr hr
    replace hS := sn1_inv hS
    obtain ⟨x1, rfl, hS⟩ := hS
    obtain ⟨n, rfl, hn, hj, hk⟩ := hS
    refine ⟨⟨by decide, by decide, by decide⟩, by show 3 ≤ 1000000; decide, _, rfl, by omega, by decide, lg (b := 2) (by decide), fun t t0 t1 => ?_⟩
    obtain ⟨g, hg, g0, g1⟩ : ∃ g : Int, atI [PyData.int 2, .int 9, .int (10 ^ Int.toNat 9)] t = some (.int g) ∧ 2 ≤ g ∧ g ≤ 1000000000 := by
      have e : t = 0 ∨ t = 1 ∨ t = 2 := by omega
      rcases e with rfl | rfl | rfl
      · exact ⟨2, rfl, by decide, by decide⟩
      · exact ⟨9, rfl, by decide, by decide⟩
      · exact ⟨_, rfl, by decide, by decide⟩
    refine ⟨_, _, rfl, hg, ⟨by decide, by decide, by decide⟩, by show 3 ≤ 1000000; decide, _, rfl, by omega, by decide, lg (b := 2) (by decide), fun t t0 t1 => ?_⟩
    obtain ⟨h, hh, h0, h1⟩ : ∃ h : Int, atI [PyData.int 1, .int 3, .int (10 ^ Int.toNat 6)] t = some (.int h) ∧ 1 ≤ h ∧ h ≤ 1000000 := by
      have e : t = 0 ∨ t = 1 ∨ t = 2 := by omega
      rcases e with rfl | rfl | rfl
      · exact ⟨1, rfl, by decide, by decide⟩
      · exact ⟨3, rfl, by decide, by decide⟩
      · exact ⟨_, rfl, by decide, by decide⟩
    refine ⟨_, _, rfl, hh, by show 0 ≤ 1000000; decide, ⟨by omega, by omega⟩, ?_⟩
    refine forL (fun i : Nat => .int (0 + (i : Nat))) (List.range n) (fun done e m => ∃ its : List (Int × Int), its.length = done.length ∧ ItsOk its ∧ m = [.drw (j + 2 + 6 * done.length), .lst (its.map itD)] ∧ ∃ y5, e = [some (.p 0), some (.d (.int n)), some (.d (.int g)), some (.d (.int h)), some (.p 1), y5]) ⟨[], rfl, (fun q hq => nomatch hq), rfl, none, rfl⟩ (fun done x r e m hx hJ C hC => ?_) (fun e m hJ => ?_)
    · obtain ⟨its, hl, ok, rfl, y5, rfl⟩ := hJ
      have hlen : done.length < n := by
        have := congrArg List.length hx
        rw [List.length_range, List.length_append, List.length_cons] at this
        omega
      refine ⟨⟨_, rfl⟩, mw (a := 2) (b := 30) (by decide) (by omega), _, rfl, by omega, by omega, by omega, fun v v0 v1 => ?_⟩
      refine ⟨_, rfl, by omega, by omega, by omega, fun u u0 u1 => ?_⟩
      refine ⟨by show 2 ≤ 1000000; decide, _, rfl, by rw [List.length_map]; omega, hC _ _ ⟨its ++ [(v - g, 1 + u)], ?_, ?_, ?_, _, rfl⟩⟩
      · rw [List.length_append, List.length_append, hl]
        rfl
      · intro q hq
        rcases List.mem_append.mp hq with hq | hq
        · exact ok q hq
        · rw [List.mem_singleton.mp hq]
          exact ⟨⟨by show -1000000000 ≤ v - g; omega, by show v - g ≤ 1000000000; omega⟩, by show 1 ≤ 1 + u; omega, by show 1 + u ≤ 1000000; omega⟩
      · rw [List.map_append, List.length_append]
        rw [show j + 2 + 6 * (done.length + [x].length) = j + 2 + 6 * done.length + 3 + 3 by simp only [List.length_cons, List.length_nil]; omega]
        rfl
    · obtain ⟨its, hl, ok, rfl, y5, rfl⟩ := hJ
      rw [List.length_range] at hl
      refine ⟨_, rfl, ?_⟩
      have := hk its hl ok
      rw [← hl] at this
      show k _ (j + 2 + 6 * (List.range n).length)
      rw [List.length_range, ← hl]
      exact this
/-! ### drawn rules -/
abbrev S__law_rules : SpN := sn1 fun j a k => ∃ n : Nat, a = .int n ∧ 1 ≤ n ∧ n ≤ 8 ∧ j + 40 < 900000 ∧ ∀ (rls : List (Nat × Nat)) (j' : Nat), j' ≤ j + 34 → rls.length ≤ 16 → (∀ q ∈ rls, q.1 < n ∧ q.2 < n ∧ q.1 ≠ q.2) → k (.d (.tuple (rls.map rlD))) j'
abbrev s__law_rules : Stmt := topS 32
abbrev N__law_rules : List Str := ["_law_drawn", "_law_count", "_law_found", "_law_way", "_law_k", "_law_one_here", "_law_other"]
abbrev P__law_rules : List Str := ["_law_drawn", "_law_count"]
theorem sc__law_rules : FnScope N__law_rules P__law_rules (defScope s__law_rules) := ⟨rfl, rfl, rfl, by decide +kernel, rfl, by decide +kernel, by decide +kernel⟩
set_option maxHeartbeats 8000000 in
theorem okD__law_rules (d : IsDef K mg "_law_rules" s__law_rules P__law_rules) (h__law_next : Ok P w K mg base 1 "_law_next" s__law_next P__law_next (prN S__law_next)) (m_tuple : mg "tuple" = none) (m_int : mg "int" = none) (m_range : mg "range" = none) (m_max : mg "max" = none) (m_min : mg "min" = none) : Ok P w K mg base 2 "_law_rules" s__law_rules P__law_rules (prN S__law_rules) := by
  obtain ⟨f0_, fd0_, D⟩ := d
  obtain ⟨f__law_next, fd__law_next, ⟨F__law_next, b__law_next, g__law_next⟩, G__law_next⟩ := h__law_next
  refine ⟨f0_, fd0_, D, D.F.ok sc__law_rules (fun vs H Q E h => ?_) (fun cdv A outer s H vs Q E hr h => ?_)⟩
  · obtain ⟨G, a, c, r, j, ws, ds, k, rfl, _, _, _, _, _, rs, hS, _⟩ := h
    rw [List.length_cons, rs.length]
    exact congrArg (· + 1) (sn1_len hS)
  · obtain ⟨G, a, c, r, j, ws, ds, k, rfl, dr, ga, gc, gr, sub, rs, hS, KK⟩ := h
    refine ⟨_, (pss_cons (ps_set (i := 2) sc__law_rules.nd rfl (.inl rfl) (pe_lst pa_nil))
      (pss_cons (ps_set (i := 3) sc__law_rules.nd rfl (.inl rfl) (pe_call G__law_next (hr.mono (by omega)) (by rfl) g__law_next F__law_next.kp b__law_next .nil pass0 (pa_cons (pv 0) (pa_cons pe_int pa_nil))))
      (pss_cons (ps_for PassesOwn.never rfl (pi_range1 (by rfl) m_range (pa_cons (pe_op (show OpR _ _ (rMulA K) from op_mulA) (pe_ix (show IxR _ (rIx K) from ix_seq) (pe_lst (pa_cons pe_int (pa_cons pe_int (pa_cons pe_int (pa_cons pe_int (pa_cons pe_int (pa_cons pe_int pa_nil))))))) (pe_call G__law_next (hr.mono (by omega)) (by rfl) g__law_next F__law_next.kp b__law_next .nil pass0 (pa_cons (pv 0) (pa_cons pe_int pa_nil))) (fun _ _ => rfl)) (pe_callTy call_int1 (by rfl) m_int (by decide +kernel) (pa_cons (pe_cmpR op_gt (pv 1) pe_int (nomark _)) pa_nil))) pa_nil)) (pg_name (i := 4) sc__law_rules.nd rfl (.inl rfl)) (pss_cons (ps_set (i := 5) sc__law_rules.nd rfl (.inl rfl) (pe_call G__law_next (hr.mono (by omega)) (by rfl) g__law_next F__law_next.kp b__law_next .nil pass0 (pa_cons (pv 0) (pa_cons (pv 1) pa_nil))))
      (pss_cons (ps_set (i := 6) sc__law_rules.nd rfl (.inl rfl) (pe_op op_mod (pe_op (show OpR _ _ (rAddA K) from op_addA) (pe_op (show OpR _ _ (rAddA K) from op_addA) (pv 5) pe_int) (pe_call G__law_next (hr.mono (by omega)) (by rfl) g__law_next F__law_next.kp b__law_next .nil pass0 (pa_cons (pv 0) (pa_cons (pe_op op_sub (pv 1) pe_int) pa_nil)))) (pv 1)))
      (pss_one (ps_expr (pe_bm PySem.F.plainAttrs_list PySem.F.slot_list_append PySem.F.type_list_append mt_append (pv 2) (pa_cons (pe_ifExp (pt_cmpR (show OpR _ _ (rEqA K) from op_eqA hr.units) (pv 3) pe_int (nomark _)) (pe_tup (pa_cons (pv 5) (pa_cons (pv 6) pa_nil))) (pe_tup (pa_cons (pe_callB (call_min2 rfl) (by rfl) m_min (by decide +kernel) (pa_cons (pv 5) (pa_cons (pv 6) pa_nil))) (pa_cons (pe_callB (call_max2 rfl) (by rfl) m_max (by decide +kernel) (pa_cons (pv 5) (pa_cons (pv 6) pa_nil))) pa_nil)))) pa_nil)))))))
      (pss_one (ps_ret (pe_callTy (show CallR _ _ (rTupK K) from call_tupK) (by rfl) m_tuple (by decide +kernel) (pa_cons (pv 2) pa_nil))))))), runN (N := N__law_rules) (ss_seq (ss_own 2 (sl_lst sa_nil))
      (ss_seq (ss_asg (se_callN (sa_cons (se_var 0) (sa_cons (se_int _) sa_nil))) (sg_name 3))
      (ss_seq (ss_for (si_rng1 (sa_cons (se_op (os_mulA _) (se_op (os_ix _) (SL.se (sl_lst (sa_cons (se_int _) (sa_cons (se_int _) (sa_cons (se_int _) (sa_cons (se_int _) (sa_cons (se_int _) (sa_cons (se_int _) sa_nil)))))))) (se_callN (sa_cons (se_var 0) (sa_cons (se_int _) sa_nil)))) (se_cb cs_int1 (sa_cons (se_op os_gt (se_var 1) (se_int _)) sa_nil))) sa_nil)) (sg_name 4) (ss_seq (ss_asg (se_callN (sa_cons (se_var 0) (sa_cons (se_var 1) sa_nil))) (sg_name 5))
      (ss_seq (ss_asg (se_op os_mod (se_op (os_addA _) (se_op (os_addA _) (se_var 5) (se_int _)) (se_callN (sa_cons (se_var 0) (sa_cons (se_op os_sub (se_var 1) (se_int _)) sa_nil)))) (se_var 1)) (sg_name 6))
      (ss_app _ 2 (se_if (st_test (se_op (os_eq _) (se_var 3) (se_int _))) (se_tup (sa_cons (se_var 5) (sa_cons (se_var 6) sa_nil))) (se_tup (sa_cons (se_cb cs_min2 (sa_cons (se_var 5) (sa_cons (se_var 6) sa_nil))) (sa_cons (se_cb cs_max2 (sa_cons (se_var 5) (sa_cons (se_var 6) sa_nil))) sa_nil))))))))
      (ss_ret (se_cb (cs_tup _) (sa_cons (se_var 2) sa_nil)))))) dr ga gc gr sub rs KK ?_⟩
    clear KK rs sub ga gc gr dr hr
    replace hS := sn1_inv hS
    obtain ⟨x1, rfl, hS⟩ := hS
    obtain ⟨n, rfl, n1, n8, hj, hk⟩ := hS
    refine ⟨by show 0 ≤ 1000000; decide, _, rfl, by omega, by decide, lg (b := 2) (by decide), fun way w0 w1 => ?_⟩
    refine ⟨by show 6 ≤ 1000000; decide, _, rfl, by omega, by decide, lg (b := 3) (by decide), fun t t0 t1 => ?_⟩
    obtain ⟨g, hg, g0, g1⟩ : ∃ g : Int, atI [PyData.int 0, .int 1, .int 2, .int 4, .int 7, .int 16] t = some (.int g) ∧ 0 ≤ g ∧ g ≤ 16 := by
      have e : t = 0 ∨ t = 1 ∨ t = 2 ∨ t = 3 ∨ t = 4 ∨ t = 5 := by omega
      rcases e with rfl | rfl | rfl | rfl | rfl | rfl
      · exact ⟨0, rfl, by decide, by decide⟩
      · exact ⟨1, rfl, by decide, by decide⟩
      · exact ⟨2, rfl, by decide, by decide⟩
      · exact ⟨4, rfl, by decide, by decide⟩
      · exact ⟨7, rfl, by decide, by decide⟩
      · exact ⟨16, rfl, by decide, by decide⟩
    refine ⟨_, _, rfl, hg, mw (a := 5) (b := 1) (by omega) (by split <;> decide), ?_⟩
    obtain ⟨c, hc, c16, c2⟩ : ∃ c : Nat, g * (if decide ((1 : Int) < (n : Nat)) = true then (1 : Int) else 0) = (c : Int) ∧ c ≤ 16 ∧ (0 < c → 2 ≤ n) := by
      by_cases z : (1 : Int) < (n : Nat)
      · rw [if_pos (decide_eq_true z)]
        exact ⟨g.toNat, by omega, by omega, fun _ => by omega⟩
      · rw [if_neg (by rw [decide_eq_false z]; exact Bool.false_ne_true)]
        exact ⟨0, by omega, by decide, fun h => absurd h (by decide)⟩
    show (_ ∧ _) ∧ _
    rw [hc]
    refine ⟨⟨by omega, by omega⟩, ?_⟩
    refine forL (fun i : Nat => .int (0 + (i : Nat))) (List.range c) (fun done e m => ∃ rls : List (Nat × Nat), rls.length = done.length ∧ (∀ q ∈ rls, q.1 < n ∧ q.2 < n ∧ q.1 ≠ q.2) ∧ m = [.drw (j + 2 + 2 * done.length), .lst (rls.map rlD)] ∧ ∃ y4 y5 y6, e = [some (.p 0), some (.d (.int n)), some (.p 1), some (.d (.int way)), y4, y5, y6]) ⟨[], rfl, (fun q hq => nomatch hq), rfl, none, none, none, rfl⟩ (fun done x r e m hx hJ C hC => ?_) (fun e m hJ => ?_)
    · obtain ⟨rls, hl, ok, rfl, y4, y5, y6, rfl⟩ := hJ
      have hlen : done.length < c := by
        have := congrArg List.length hx
        rw [List.length_range, List.length_append, List.length_cons] at this
        omega
      have n2 : 2 ≤ n := c2 (by omega)
      refine ⟨_, rfl, by omega, by omega, lg (b := 10) (by omega), fun v v0 v1 => ?_⟩
      refine ⟨_, rfl, by omega, by omega, lg (b := 10) (by omega), fun u u0 u1 => ?_⟩
      refine ⟨by omega, ?_⟩
      obtain ⟨a, rfl⟩ := Int.eq_ofNat_of_zero_le v0
      have hb0 := Int.emod_nonneg ((a : Int) + 1 + u) (show ((n : Nat) : Int) ≠ 0 by omega)
      have hb1 := Int.emod_lt_of_pos ((a : Int) + 1 + u) (show (0 : Int) < ((n : Nat) : Int) by omega)
      obtain ⟨b, hb⟩ := Int.eq_ofNat_of_zero_le hb0
      have hab : a ≠ b := by
        have := Int.emod_add_mul_ediv ((a : Int) + 1 + u) ((n : Nat) : Int)
        intro z
        subst z
        rw [hb] at this
        have hq : ((n : Nat) : Int) * (((a : Int) + 1 + u) / ((n : Nat) : Int)) = 1 + u := by omega
        have q1 : 0 < ((a : Int) + 1 + u) / ((n : Nat) : Int) := by
          by_cases h : 0 < ((a : Int) + 1 + u) / ((n : Nat) : Int)
          · exact h
          · replace h : ((a : Int) + 1 + u) / ((n : Nat) : Int) ≤ 0 := by omega
            have := Int.mul_nonpos_of_nonneg_of_nonpos (show (0 : Int) ≤ ((n : Nat) : Int) by omega) h
            omega
        have := Int.mul_le_mul_of_nonneg_left (show (1 : Int) ≤ ((a : Int) + 1 + u) / ((n : Nat) : Int) by omega) (show (0 : Int) ≤ ((n : Nat) : Int) by omega)
        omega
      rw [hb] at hb1
      dsimp only
      rw [hb]
      have fin : ∀ q : Nat × Nat, q.1 < n → q.2 < n → q.1 ≠ q.2 → C [some (.p 0), some (.d (.int n)), some (.p 1), some (.d (.int way)), some (.d (.int (0 + (x : Nat)))), some (.d (.int a)), some (.d (.int b))] [.drw (j + 2 + 2 * done.length + 1 + 1), .lst (rls.map rlD ++ [rlD q])] := fun q q1 q2 q3 => by
        refine hC _ _ ⟨rls ++ [q], ?_, ?_, ?_, _, _, _, rfl⟩
        · rw [List.length_append, List.length_append, hl]
          rfl
        · intro q' hq
          rcases List.mem_append.mp hq with hq | hq
          · exact ok q' hq
          · rw [List.mem_singleton.mp hq]
            exact ⟨q1, q2, q3⟩
        · rw [List.map_append, List.length_append]
          rw [show j + 2 + 2 * (done.length + [x].length) = j + 2 + 2 * done.length + 1 + 1 by simp only [List.length_cons, List.length_nil]; omega]
          rfl
      have lt : (rls.map rlD).length < 1000000 := by rw [List.length_map]; omega
      have e1 : ((if (b : Int) < (a : Int) then (b : Int) else (a : Int)) : Int) = ((min a b : Nat) : Int) := by
        split <;> omega
      have e2 : ((if (b : Int) > (a : Int) then (b : Int) else (a : Int)) : Int) = ((max a b : Nat) : Int) := by
        split <;> omega
      refine ⟨⟨_, rfl⟩, trivial, fun z => ⟨by show 2 ≤ 1000000; decide, _, rfl, lt, ?_⟩, fun z => ⟨by show 2 ≤ 1000000; decide, _, rfl, lt, ?_⟩⟩
      · exact fin (a, b) (by omega) (by omega) hab
      · have := fin (min a b, max a b) (by show min a b < n; omega) (by show max a b < n; omega) (by show min a b ≠ max a b; omega)
        dsimp only
        rw [e1, e2]
        exact this
    · obtain ⟨rls, hl, ok, rfl, y4, y5, y6, rfl⟩ := hJ
      rw [List.length_range] at hl
      refine ⟨_, rfl, ?_⟩
      exact hk rls _ (by rw [List.length_range]; omega) (by omega) ok
/-! ### a drawn panel -/
abbrev S__law_panel : SpN := sn1 fun j a k => ∃ n : Nat, a = .int n ∧ 1 ≤ n ∧ n ≤ 8 ∧ j + 800 < 900000 ∧ ∀ (its : List (Int × Int)) (rls : List (Nat × Nat)) (j' : Nat), j' ≤ j + 100 → PanOk n its rls → k (.d (pnD its rls)) j'
abbrev s__law_panel : Stmt := topS 33
abbrev N__law_panel : List Str := ["_law_drawn", "_law_most", "_law_count"]
abbrev P__law_panel : List Str := ["_law_drawn", "_law_most"]
theorem sc__law_panel : FnScope N__law_panel P__law_panel (defScope s__law_panel) := ⟨rfl, rfl, rfl, by decide +kernel, rfl, by decide +kernel, by decide +kernel⟩
set_option maxHeartbeats 8000000 in
theorem okD__law_panel (d : IsDef K mg "_law_panel" s__law_panel P__law_panel) (h__law_next : Ok P w K mg base 1 "_law_next" s__law_next P__law_next (prN S__law_next)) (h__law_items : Ok P w K mg base 3 "_law_items" s__law_items P__law_items (prN S__law_items)) (h__law_rules : Ok P w K mg base 2 "_law_rules" s__law_rules P__law_rules (prN S__law_rules)) : Ok P w K mg base 4 "_law_panel" s__law_panel P__law_panel (prN S__law_panel) := by
  obtain ⟨f0_, fd0_, D⟩ := d
  obtain ⟨f__law_next, fd__law_next, ⟨F__law_next, b__law_next, g__law_next⟩, G__law_next⟩ := h__law_next
  obtain ⟨f__law_items, fd__law_items, ⟨F__law_items, b__law_items, g__law_items⟩, G__law_items⟩ := h__law_items
  obtain ⟨f__law_rules, fd__law_rules, ⟨F__law_rules, b__law_rules, g__law_rules⟩, G__law_rules⟩ := h__law_rules
  refine ⟨f0_, fd0_, D, D.F.ok sc__law_panel (fun vs H Q E h => ?_) (fun cdv A outer s H vs Q E hr h => ?_)⟩
  · obtain ⟨G, a, c, r, j, ws, ds, k, rfl, _, _, _, _, _, rs, hS, _⟩ := h
    rw [List.length_cons, rs.length]
    exact congrArg (· + 1) (sn1_len hS)
  · obtain ⟨G, a, c, r, j, ws, ds, k, rfl, dr, ga, gc, gr, sub, rs, hS, KK⟩ := h
    refine ⟨_, (pss_cons (ps_set (i := 2) sc__law_panel.nd rfl (.inl rfl) (pe_op (show OpR _ _ (rAddA K) from op_addA) pe_int (pe_call G__law_next (hr.mono (by omega)) (by rfl) g__law_next F__law_next.kp b__law_next .nil pass0 (pa_cons (pv 0) (pa_cons (pv 1) pa_nil)))))
      (pss_one (ps_ret (pe_tup (pa_cons (pe_call G__law_items (hr.mono (by omega)) (by rfl) g__law_items F__law_items.kp b__law_items .nil pass0 (pa_cons (pv 0) (pa_cons (pv 2) pa_nil))) (pa_cons (pe_call G__law_rules (hr.mono (by omega)) (by rfl) g__law_rules F__law_rules.kp b__law_rules .nil pass0 (pa_cons (pv 0) (pa_cons (pv 2) pa_nil))) pa_nil)))))), runN (N := N__law_panel) (ss_seq (ss_asg (se_op (os_addA _) (se_int _) (se_callN (sa_cons (se_var 0) (sa_cons (se_var 1) sa_nil)))) (sg_name 2))
      (ss_ret (se_tup (sa_cons (se_callN (sa_cons (se_var 0) (sa_cons (se_var 2) sa_nil))) (sa_cons (se_callN (sa_cons (se_var 0) (sa_cons (se_var 2) sa_nil))) sa_nil))))) dr ga gc gr sub rs KK ?_⟩
    clear KK rs sub ga gc gr dr hr
    replace hS := sn1_inv hS
    obtain ⟨x1, rfl, hS⟩ := hS
    obtain ⟨n, rfl, n1, n8, hj, hk⟩ := hS
    refine ⟨_, rfl, by omega, by omega, lg (b := 10) (by omega), fun v v0 v1 => ?_⟩
    obtain ⟨c, rfl⟩ := Int.eq_ofNat_of_zero_le v0
    refine ⟨1 + c, congrArg PyData.int (show (1 : Int) + (c : Int) = ((1 + c : Nat) : Int) by omega), by omega, by omega, fun its hl ok => ?_⟩
    refine ⟨1 + c, congrArg PyData.int (show (1 : Int) + (c : Int) = ((1 + c : Nat) : Int) by omega), by omega, by omega, by omega, fun rls j' hj' r16 rl => ?_⟩
    exact ⟨by show 2 ≤ 1000000; decide, hk its rls j' (by omega) ⟨by omega, by omega, fun q hq => (ok q hq).1, fun q hq => (ok q hq).2, r16, by rw [hl]; exact rl⟩⟩
end
end PM

/-! promises of defs whose arguments may be dicts; sorted(d) -/
namespace PM
open PySem PySem.Spec PyProof.Rows L2 RZ
abbrev SpV := List DV → (DV → Prop) → Prop
def noP : List DV → Prop
  | [] => True
  | .p _ :: _ => False
  | .d _ :: r => noP r
  | .dic _ :: r => noP r
  | .any _ :: r => noP r
theorem RVs.noP {G : Hp} {pl : Nat → Pl} {n : Nat} : ∀ {vs : List V} {xs : List DV}, RVs G pl n vs xs → PM.noP xs → RVs G noPl 0 vs xs
  | _, _, .nil, _ => .nil
  | _, .d x :: _, .cons h t, np => .cons h (RVs.noP t np)
  | _, .dic x :: _, .cons h t, np => .cons h (RVs.noP t np)
  | _, .any x :: _, .cons h t, np => .cons h (RVs.noP t np)
def prV (S : SpV) : Sp := fun vs H Q _ => ∃ G ds k, Same G H ∧ RVs G noPl 0 vs ds ∧ S ds k ∧
  ∀ dv G' H' v, k dv → Same G G' → Same G' H' → Same H H' → Frs G H G' → RV G' noPl 0 v dv → Q v H'
def dCallV (S : SpV) (a : DA) : DE := fun e m k => a e m fun xs m1 => noP xs ∧ S xs fun z => k z m1
theorem se_callV {S : SpV} {E : XK} {ta : TA} {da : DA} (h : SA ta da) : SE (tCall (prV S) [] E ta) (dCallV S da) := fun c G pl σ H e m k Q sr d K => h _ _ _ _ _ _ _ _ _ sr d fun xs m1 G1 pl1 H1 vs d1 l1 sr1 r1 => by
  obtain ⟨np, d1⟩ := d1
  refine ⟨G1, xs, _, sr1.hp.sub, ?_, d1, fun dv G' H' v hk g s hh f r => ?_⟩
  · rw [List.append_nil]
    exact RVs.noP r1 np
  · have l2 : Le G1 pl1 m1.length G' pl1 m1.length := ⟨g, fun _ _ => rfl, Nat.le_refl _⟩
    exact K _ _ _ _ _ _ hk (l1.trans l2) ⟨sr1.env.le l2, sr1.hp.pure g s hh f⟩ r.any
theorem runV {t : TS} {d : DS} {N : List Str} {vs : List V} {ds : List DV} {k : DV → Prop} {G H : Hp} {Q : VK} (h : SS t d) (sub : Same G H) (r : RVs G noPl 0 vs ds)
    (K : ∀ dv G' H' v, k dv → Same G G' → Same G' H' → Same H H' → Frs G H G' → RV G' noPl 0 v dv → Q v H')
    (hd : d (eP k) (dStart N.length ds) []) : t { nx := fun _ H' => Q .non H', rt := Q } (L2.start N vs) H := by
  have hr : HR ⟨G, H, fun _ => False, fun _ => False⟩ G noPl H [] := ⟨sub, fun i o e => by simp at e, fun i o b e => by simp at e, fun i o b e => by simp at e, fun i j o o' b _ e => by simp at e, .refl G, fun b o _ _ e => e, fun b e => e, fun b e => .inl e⟩
  refine h _ _ _ _ _ _ _ _ _ (fun b z => z) ⟨ER.start r, hr⟩ hd ⟨fun G' pl' σ' H' e' m' q l sr => ?_, fun dv m' G' pl' H' v q l hr' rv => ?_, fun _ _ _ _ _ _ q => q.elim, fun _ _ _ _ _ _ q => q.elim⟩
  · exact K (.d .none) G' H' .non q l.g sr.hp.sub (fun b o e => sr.hp.h0 b o id id e) sr.hp.nw (show Da G' .non .none from .non)
  · obtain ⟨np, q⟩ := rtP_inv (k := k) (o := dN m') q
    exact K dv G' H' v q l.g hr'.sub (fun b o e => hr'.h0 b o id id e) hr'.nw (rv.none np)
def sv3 (F : DV → DV → DV → (DV → Prop) → Prop) : SpV := fun ds k => match ds with
  | [a, b, c] => F a b c k
  | _ => False
theorem sv3_inv {F} {ds : List DV} {k : DV → Prop} (h : sv3 F ds k) : ∃ a b c, ds = [a, b, c] ∧ F a b c k := by
  unfold sv3 at h
  split at h
  · exact ⟨_, _, _, rfl, h⟩
  · exact h.elim
theorem sv3_len {F} {ds : List DV} {k : DV → Prop} (h : sv3 F ds k) : ds.length = 3 := by
  obtain ⟨_, _, _, rfl, _⟩ := sv3_inv h
  rfl
/-! ### sorted(d) -/
theorem DaK.keys {G : Hp} : ∀ {kxs : List (Key × V)} {kvs : List (Int × PyData)}, DaK G kxs kvs → kxs.map (·.1) = (kvs.map (·.1)).map Sum.inl
  | _, _, .nil => rfl
  | _, _, .cons _ t => by rw [List.map_cons, List.map_cons, List.map_cons, DaK.keys t]
def rSrtD : List V → Hp → VK → Prop := fun xs H Q => ∃ (a : Addr) (kvs : List (Key × V)) (ks : List Int), xs = [.ref a] ∧ Rd H a (.dK kvs) ∧ kvs.map (·.1) = ks.map Sum.inl ∧ ks.length < 64 ∧
    ∀ (ys : List Int) (p : Addr), ys.Perm ks → ys.Pairwise (· ≤ ·) → H p = none → Q (.ref p) (upd H p (.lst (ys.map V.int)))
theorem cr_srtD {X : Cx} (hc : X.calm = true) : CallR X (.builtin "sorted") rSrtD := call_sortedDI hc
def fSrtD (m : Mu) (xs : List DV) (k : DV → Prop) : Prop := match xs with
  | [x] => ∃ kvs, rdD m x = some kvs ∧ kvs.length < 64 ∧ ∀ js : List Int, js.Perm (kvs.map (·.1)) → js.Pairwise (· ≤ ·) → k (.d (.list (js.map PyData.int)))
  | _ => False
theorem cs_srtD : CaS rSrtD fSrtD := fun c G pl σ H e m xs ds k Q sr r d KK => by
  unfold fSrtD at d
  split at d
  · cases r with
    | cons ra t =>
      cases t
      obtain ⟨kvs, h1, h64, d⟩ := d
      obtain ⟨a, kxs, e1, e2, e3⟩ := sr.dict ra h1
      exact ⟨a, kxs, kvs.map (·.1), by rw [e1], .inl e2, e3.keys, by rw [List.length_map]; exact h64, fun js p p1 p2 hp => KK.lst sr hp (d js p1 p2) (DaL_ints G js)⟩
  · exact d.elim
/-- two ways that meet: what holds behind the first statement -/
theorem seqN {a b : DS} {E : DEnds} {e : DEnv} {m : Mu} (J : DEnv → Mu → Prop) (h1 : ∀ C : DEnv → Mu → Prop, (∀ e m, J e m → C e m) → a { E with nx := C } e m) (h2 : ∀ e m, J e m → b E e m) : dSeq a b E e m := h1 _ h2
/-! ### x, y, z = a tuple of values, new lists among them -/
def dUnp (n : Nat) (a : DA) (b : DGs) : DS := fun E e m => a e m fun xs m1 => (xs.length = n ∧ n ≤ 1000000) ∧ b xs e m1 E.nx
theorem ss_unp (K : PySem.W.Frag) {n : Nat} {ta : TA} {gs : TGs} {da : DA} {b : DGs} (ha : SA ta da) (hb : SGs gs b) : SS (tAsg (tTup ta) (gTup K n gs)) (dUnp n da b) := fun c G pl σ H e m D E hL sr d KK =>
  ha _ _ _ _ _ _ _ _ _ sr d fun xs m1 G1 pl1 H1 vs d1 l1 sr1 r1 => by
    obtain ⟨⟨h1, h2⟩, d1⟩ := d1
    have len := r1.length
    refine ⟨bigS (by omega), fun p hp => ?_⟩
    have hh : HR c G1 pl1 (upd H1 p (.tup vs)) m1 := sr1.hp.grow fun b x _ e => by rw [upd_ne (ne_of_none e hp)]; exact e
    exact ⟨p, vs, rfl, .inl (.inl upd_same), by omega, hb _ _ _ _ _ _ _ _ _ _ _ ⟨sr1.env, hh⟩ r1 d1 fun e' σ' G' pl' H' m' d' l => KK.nx _ _ _ _ _ _ d' (l1.trans l)⟩
end PM

/-! dict comprehensions, `in` of dicts, at the level of data -/
namespace PM
open PySem PySem.Spec PyProof.Rows L2 RZ
section
variable {X : Cx}
/-- name = {k: v for ..} on one line, the name a local -/
theorem ps_setDc {i : Nat} {y : Str} {py : Pos} {kx vx tg iter : Expr} {ifs : List Expr} {scope : Scope} {own : List (Str × Nat)} {pos spos : Pos} {wi : TI} {g : TG} {tt : TT} {tk tv : TE} (hc : X.calm = true) (hN : X.N.Nodup) (hy : X.N[i]? = some y) (hyl : X.env.scope.names.lookup y = some .local)
    (hsw : swapsWith (.DictComp kx vx [⟨tg, iter, ifs, 0⟩] scope pos) (some (.Name y py)) spos.line X.env = pure true) (hi : PI X tg iter wi) (ok : BlkOk X.N X.env.scope scope own)
    (hg : ∀ (s : Shared) (H : Hp) (C : Addr) (cl : List (Str × Addr)) (fp : List Addr), PG (X.blk s H scope (compEnvC scope cl C X.env) fp) tg g) (ht : ∀ (s : Shared) (H : Hp) (C : Addr) (cl : List (Str × Addr)) (fp : List Addr), PTs (X.blk s H scope (compEnvC scope cl C X.env) fp) ifs tt)
    (hk : ∀ (s : Shared) (H : Hp) (C : Addr) (cl : List (Str × Addr)) (fp : List Addr), PE (X.blk s H scope (compEnvC scope cl C X.env) fp) kx tk)
    (he : ∀ (s : Shared) (H : Hp) (C : Addr) (cl : List (Str × Addr)) (fp : List Addr), PE (X.blk s H scope (compEnvC scope cl C X.env) fp) vx tv) (hs : ∀ x, foldedSetIterable iter X.env x = pure x := by intro _; rfl) :
    PS X (.Assign [.Name y py] (.DictComp kx vx [⟨tg, iter, ifs, 0⟩] scope pos) spos) (tAsg (tDc wi g tt tk tv (own.map (·.2))) (gName i)) := by
  refine ⟨fun pins s σ H D I h => ?_⟩
  rw [exec_Assign_Name_used _ _ _ _ hsw]
  refine wpAny_bind (wpAny_standAt (wpAny_bind ?_))
  show wpAny _ X.A (do let _ ← comprehension (.DictComp kx vx [⟨tg, iter, ifs, 0⟩] scope pos) scope X.env (firstIterPos [⟨tg, iter, ifs, 0⟩] pos) newDict false (eval iter X.env) (some (assign (.Name y py) X.env))) _ _ s
  have h : tDc wi g tt tk tv (own.map (·.2)) σ H (fun x H1 => gName i x σ H1 D.nx) := h
  refine wpAny_bind (thn (dc_core (Qf := fun _ s' => SP X pins D .next s') hc hN I hi ok hg ht hk he hs h fun L C s' m H' I' q hn f => ?_) fun _ s' hq => wpAny_pure (wpAny_pure hq))
  show wpAny _ _ (assign (.Name y py) X.env (.ref L)) _ _ _
  refine wpAny_assign_Name (store_ok2 (v := V.ref L) I' hN hy (.inl hyl) rfl (fun s2 I2 ⟨a, sb, ha⟩ => ?_) (.inr hyl))
  obtain ⟨f0, f1, f2, f3, f4, f5⟩ := f
  have haC : C ≠ a := by
    rcases ha with z | z
    · rw [z]; exact f1
    · exact fun e => f4 y a z e.symm
  refine ⟨m, hn.sameBut sb haC, fun h3 sb3 => ?_⟩
  exact ⟨_, H', I2.turned (t' := s2.toks) (fun b o hb e => (sb3.2 b hb).trans e) f0 f1 f3 f4 f5, q⟩
theorem sw_trueD {kx vx : Expr} {gs : List Comprehension} {scope : Scope} {pos py : Pos} {y : Str} {l : Nat} {env : Env} (hk : env.scope.kind = .function) (hy : env.scope.names.lookup y = some .local) (hl : (py.line == pos.line) = true)
    (ha : (scope.names.any fun (n, k) => n == y && (k == .local || k == .cell)) = false) : swapsWith (.DictComp kx vx gs scope pos) (some (.Name y py)) l env = pure true := by
  have ky : env.kindOf y = some .local := hy
  have hb : env.blockKind = .function := by unfold Env.blockKind; rw [hk]; rfl
  unfold swapsWith
  simp only [hb, ky, ha, Expr.pos, hl]
  rfl
end
theorem DaK.get {G : Hp} (k : Int) {kxs : List (Key × V)} {kvs : List (Int × PyData)} (h : DaK G kxs kvs) : (valV kxs (.inl k)).isSome = (valD kvs k).isSome := by
  cases e : valD kvs k with
  | none => rw [h.none k e]; rfl
  | some d =>
    obtain ⟨v, h1, _⟩ := h.val k e
    rw [h1]; rfl
/-- y in d -/
def dDIn (neg : Bool) (a b : DE) : DE := fun e m k => a e m fun y m1 => b e m1 fun x m2 => match y with
  | .d (.int i) => ∃ kvs, rdD m2 x = some kvs ∧ k (.d (.bool (if neg = true then !(valD kvs i).isSome else (valD kvs i).isSome))) m2
  | _ => False
theorem se_din {ta tb : TE} {da db : DE} (ha : SE ta da) (hb : SE tb db) : SE (tDIn ta tb) (dDIn false da db) := fun c G pl σ H e m k Q sr d K =>
  ha _ _ _ _ _ _ _ _ _ sr d fun y m1 G1 pl1 H1 v1 d1 l1 sr1 r1 => hb _ _ _ _ _ _ _ _ _ sr1 d1 fun x m2 G2 pl2 H2 v2 d2 l2 sr2 r2 => by
    split at d2
    · rename_i i
      obtain ⟨kvs, h1, d2⟩ := d2
      obtain ⟨a, kxs, e1, e2, e3⟩ := sr2.dict r2 h1
      cases r1.int_inv
      refine ⟨a, _, e1, DGet.k (k := .inl i) e2, ?_⟩
      rw [e3.get i]
      exact (K.le (l1.trans l2)).val sr2 d2 (show Da G2 _ _ from .bl _)
    · exact d2.elim
theorem se_dnotin {ta tb : TE} {da db : DE} (ha : SE ta da) (hb : SE tb db) : SE (tDNotIn ta tb) (dDIn true da db) := fun c G pl σ H e m k Q sr d K =>
  ha _ _ _ _ _ _ _ _ _ sr d fun y m1 G1 pl1 H1 v1 d1 l1 sr1 r1 => hb _ _ _ _ _ _ _ _ _ sr1 d1 fun x m2 G2 pl2 H2 v2 d2 l2 sr2 r2 => by
    split at d2
    · rename_i i
      obtain ⟨kvs, h1, d2⟩ := d2
      obtain ⟨a, kxs, e1, e2, e3⟩ := sr2.dict r2 h1
      cases r1.int_inv
      refine ⟨a, _, e1, DGet.k (k := .inl i) e2, ?_⟩
      rw [e3.get i]
      exact (K.le (l1.trans l2)).val sr2 d2 (show Da G2 _ _ from .bl _)
    · exact d2.elim
/-! ### {k: v for x in xs if ..} -/
def turnD (g : TG) (tt : TT) (tk tv : TE) (vs : List Nat) (σ : L2.St) (D : Addr) (x : V) (H : Hp) (Nx : Hp → Prop) : Prop := g x (wipe σ vs) H fun σ2 H2 => wipe σ2 vs = wipe σ vs ∧ tt σ2 H2 fun b H3 =>
    if b = true then tk σ2 H3 fun y H4 => tv σ2 H4 fun z H5 => ∃ kvs k, y = kV k ∧ H5 D = some (.dK kvs) ∧ kvs.length < sizeLine ∧ Nx (upd H5 D (.dK (putK kvs k z))) else Nx H3
theorem dc_it {J : It} {n : Nat} {G : Hp → Prop} {Y : Nat → Hp → V → Hp → Prop} (k : Walk J n G Y) {g : TG} {tt : TT} {tk tv : TE} {vs : List Nat} {σ : L2.St} {H1 : Hp} {D : Addr} {Qd : Hp → Prop} (P : Nat → Hp → Prop) (h0 : P 0 (upd H1 D (.dK []))) (hG : ∀ i H, i ≤ n → P i H → G H)
    (hs : ∀ i x H H', i < n → P i H → Y i H x H' → turnD g tt tk tv vs σ D x H' (P (i + 1))) (hd : ∀ H, P n H → Qd H) :
    ∃ W : Nat → Nat → Hp → Prop, (∃ m, W 0 m (upd H1 D (.dK []))) ∧ ∀ i m H, W i m H →
      (J.stop i H ∧ Qd H) ∨ (J.go i H ∧ ∃ Nx : Hp → Prop, (∀ H', Nx H' → ∃ m', m' < m ∧ W (i + 1) m' H') ∧ ∀ x H', J.yld i H x H' → turnD g tt tk tv vs σ D x H' Nx) := by
  refine ⟨fun i m H => m + i = n ∧ P i H, ⟨n, rfl, h0⟩, fun i m H z => ?_⟩
  obtain ⟨e, p⟩ := z
  have gg := hG i H (by omega) p
  rcases Nat.lt_or_ge i n with lt | ge
  · exact .inr ⟨k.goes i H lt gg, P (i + 1), fun H' p' => ⟨n - (i + 1), by omega, by omega, p'⟩, fun x H' y => hs i x H H' lt p (k.yields i H x H' lt gg y)⟩
  · have e2 : i = n := by omega
    subst e2
    exact .inl ⟨k.stops H gg, hd H p⟩
def dDcc (di : DI) (g : DG) (t : DT) (a b : DE) (vs : List Nat) : DE := fun e m k => di e m fun xs m1 => ∃ I : List PyData → List (Int × PyData) → Mu → Prop, I xs [] m1 ∧
  (∀ x r acc m, I (x :: r) acc m → g (.d x) (wp e vs) m fun e' m' => t e' m' fun b' m2 => br b' (a e' m2 fun y m3 => b e' m3 (plD fun z m4 => ∃ i : Int, y = .d (.int i) ∧ acc.length < 1000000 ∧ I r (putD acc i z) m4)) (I r acc m2)) ∧
  ∀ acc m, I [] acc m → k (.dic acc) m
theorem se_dcc {wi : TI} {g : TG} {tt : TT} {tk tv : TE} {vs : List Nat} {di : DI} {dg : DG} {dt : DT} {da db : DE} (hi : SI wi di) (hg : SG g dg) (hw : GW g vs) (ht : ST tt dt) (ha : SE tk da) (hb : SE tv db) :
    SE (tDc wi g tt tk tv vs) (dDcc di dg dt da db vs) := fun c G pl σ H e m k Q sr d KK => by
  refine hi _ _ _ _ _ _ _ _ _ sr d fun xs m1 G1 pl1 H1 J d1 l1 sr1 wk => ?_
  obtain ⟨I, i0, step, done⟩ := d1
  intro D hD
  obtain ⟨f1, f2, f3⟩ := sr1.hp.fresh hD
  refine dc_it wk.walk (fun i H' => ∃ G' pl' m' acc kxs, Le G1 pl1 m1.length G' pl' m'.length ∧ SR c G' pl' (wipe σ vs) H' (wp e vs) m' ∧ SR c G' pl' σ H' e m' ∧ H' D = some (.dK kxs) ∧ DaK G' kxs acc ∧ G' D = none ∧ (∀ j o, m'[j]? = some o → D ∉ foot (pl' j) o) ∧ I (xs.drop i) acc m') ?_ (fun i H' _ p => ?_) (fun i x H' H'' hlt p y => ?_) (fun H' p => ?_)
  · have h1 : HR c G1 pl1 (upd H1 D (.dK [])) m1 := sr1.hp.grow fun b x _ e => by rw [upd_ne (ne_of_none e hD)]; exact e
    exact ⟨G1, pl1, m1, [], [], .refl _ _ _, ⟨sr1.env.wipe vs, h1⟩, ⟨sr1.env, h1⟩, upd_same, .nil, f1, f3, i0⟩
  · obtain ⟨G', pl', m', acc, kxs, l, _, s', _⟩ := p
    exact l.g.trans s'.hp.sub
  · obtain ⟨G', pl', m', acc, kxs, l, sw, s', hl, hk, hg0, hf0, iv⟩ := p
    obtain ⟨dx, hx, y⟩ := y
    have ex : xs.drop i = dx :: xs.drop (i + 1) := by
      rw [List.drop_eq_getElem_cons hlt]
      rw [List.getElem?_eq_getElem hlt] at hx
      rw [Option.some.inj hx]
    rw [ex] at iv
    have here : SR ⟨G', H', fF pl' m', fL pl' m'⟩ G' pl' (wipe σ vs) H' (wp e vs) m' := ⟨sw.env, sw.hp.here⟩
    have nfF : ¬ fF pl' m' D := fun ⟨j, o, e1, _, e2⟩ => hf0 j o e1 e2
    have nfL : ¬ fL pl' m' D := fun ⟨j, o, e1, _, e2⟩ => hf0 j o e1 e2
    have safe : ∀ {G3 pl3 H3 m3}, HR ⟨G', H', fF pl' m', fL pl' m'⟩ G3 pl3 H3 m3 → H3 D = some (.dK kxs) ∧ G3 D = none ∧ ∀ j o, m3[j]? = some o → D ∉ foot (pl3 j) o := fun {G3 pl3 H3 m3} h => by
      refine ⟨h.h0 D _ nfF nfL hl, ?_, fun j o e1 e2 => ?_⟩
      · cases q : G3 D with
        | none => rfl
        | some o =>
          rcases h.nw D (by rw [q]; exact fun z => nomatch z) with z | z
          · exact absurd hg0 z
          · rw [show H' D = none from z] at hl; cases hl
      · rcases h.own j o D e1 e2 with z | z
        · cases qd : isDrw o with
          | true => rw [qd, if_pos rfl] at z; exact nfF z
          | false => rw [qd, if_neg Bool.false_ne_true] at z; exact nfL z
        · rw [show H' D = none from z] at hl; cases hl
    obtain ⟨G2, l2, s2, r2⟩ := y.sr l.g here
    refine gw_at hw (hg _ _ _ _ _ _ _ _ _ _ _ s2 r2 (step dx _ acc m' iv) fun e3 σ3 G3 pl3 H3 m3 d3 l3 s3 => ?_)
    refine ht _ _ _ _ _ _ _ _ _ s3 d3 fun b m4 G4 pl4 H4 v4 d4 l4 s4 r4 => ?_
    subst r4
    have lw := (l2.trans l3).trans l4
    refine br_ite ⟨fun z => ha _ _ _ _ _ _ _ _ _ s4 (d4.1 z) fun yk m5 G5 pl5 H5 v5 d5 l5 s5 r5 => hb _ _ _ _ _ _ _ _ _ s5 d5 fun yv m6 G6 pl6 H6 v6 d6 l6 s6 r6 => ?_, fun z => ?_⟩
    · unfold plD at d6
      split at d6
      · obtain ⟨i5, rfl, a6, d6⟩ := d6
        obtain ⟨h5, g5, n5⟩ := safe s6.hp
        have lt := (lw.trans l5).trans l6
        have hb' : HR c G6 pl6 H6 m6 := s'.hp.back s6.hp
        have hk6 : DaK G6 kxs acc := hk.same lt.g
        have ho : HR c G6 pl6 (upd H6 D (.dK (putK kxs (.inl i5) v6))) m6 := hb'.grow fun b x hk ex => by
          rw [upd_ne]
          · exact ex
          · intro zb
            subst zb
            rcases hk with hk | hk | hk
            · exact hk g5
            · obtain ⟨j, o, e1, e2⟩ := hk
              exact n5 j o e1 e2
            · exact hk f2
        refine ⟨kxs, .inl i5, r5.int_inv, h5, by rw [hk6.length]; exact Nat.lt_of_lt_of_le a6 (bigS (Nat.le_refl _)), G6, pl6, m6, putD acc i5 _, _, l.trans lt, ⟨(sw.env.le lt), ho⟩, ⟨s'.env.le lt, ho⟩, upd_same, hk6.put r6 i5, g5, n5, d6⟩
      · exact d6.elim
    · obtain ⟨h5, g5, n5⟩ := safe s4.hp
      have hb : HR c G4 pl4 H4 m4 := s'.hp.back s4.hp
      exact ⟨G4, pl4, m4, acc, kxs, l.trans lw, ⟨sw.env.le lw, hb⟩, ⟨s'.env.le lw, hb⟩, h5, hk.same lw.g, g5, n5, d4.2 z⟩
  · obtain ⟨G', pl', m', acc, kxs, l, sw, s', hl, hk, hg0, hf0, iv⟩ := p
    rw [List.drop_length] at iv
    have l2 : Le G' pl' m'.length (upd G' D (.dK kxs)) pl' m'.length := ⟨same_upd hg0, fun _ _ => rfl, Nat.le_refl _⟩
    exact KK _ _ _ _ _ _ (done acc m' iv) ((l1.trans l).trans l2) ⟨s'.env.le l2, s'.hp.adopt hl hg0 hf0 f2⟩ ⟨D, kxs, rfl, upd_same, hk.same l2.g⟩
theorem put_fresh {kvs : List (Int × PyData)} {k : Int} {d : PyData} (h : ∀ p ∈ kvs, p.1 ≠ k) : putD kvs k d = kvs ++ [(k, d)] := by
  unfold putD
  rw [if_neg]
  intro z
  obtain ⟨p, hp, e⟩ := List.any_eq_true.mp z
  exact h p hp (of_decide_eq_true e)
/-- .. that draws nothing -/
theorem dccM {α : Type} (f : α → PyData) (gk : α → Int) (gv : α → PyData) {L : List PyData} {dg : DG} {dt : DT} {da db : DE} {vs : List Nat} {e : DEnv} {m : Mu} {k : List (Int × PyData) → Mu → Prop} (xs : List α) (hL : L = xs.map f) (hz : xs.length ≤ 1000000) (nd : xs.Pairwise fun x y => gk x ≠ gk y)
    (h : ∀ x ∈ xs, ∀ (C : DV → PyData → Mu → Prop) (C0 : Mu → Prop), C (.d (.int (gk x))) (gv x) m → dg (.d (f x)) (wp e vs) m fun e' m' => dt e' m' fun b m2 => br b (da e' m2 fun y m3 => db e' m3 (plD fun z m4 => C y z m4)) (C0 m2))
    (hk : k (xs.map fun x => (gk x, gv x)) m) :
    ∃ I : List PyData → List (Int × PyData) → Mu → Prop, I L [] m ∧
      (∀ x r acc m, I (x :: r) acc m → dg (.d x) (wp e vs) m fun e' m' => dt e' m' fun b' m2 => br b' (da e' m2 fun y m3 => db e' m3 (plD fun z m4 => ∃ i : Int, y = .d (.int i) ∧ acc.length < 1000000 ∧ I r (putD acc i z) m4)) (I r acc m2)) ∧
      ∀ acc m, I [] acc m → k acc m := by
  subst hL
  refine ⟨fun rest acc m' => m' = m ∧ ∃ done r, rest = r.map f ∧ xs = done ++ r ∧ acc = done.map fun x => (gk x, gv x), ⟨rfl, [], xs, rfl, rfl, rfl⟩, ?_, ?_⟩
  · rintro x r acc m' ⟨rfl, done, l, h1, h2, rfl⟩
    obtain ⟨a, l', rfl, rfl, rfl⟩ := map_inv h1
    refine h a (by rw [h2]; simp) (fun y z m4 => ∃ i : Int, y = .d (.int i) ∧ (done.map fun x => (gk x, gv x)).length < 1000000 ∧ (m4 = m' ∧ ∃ done2 r2, l'.map f = r2.map f ∧ xs = done2 ++ r2 ∧ putD (done.map fun x => (gk x, gv x)) i z = done2.map fun x => (gk x, gv x))) _ ⟨gk a, rfl, ?_, rfl, done ++ [a], l', rfl, by rw [h2, List.append_assoc]; rfl, ?_⟩
    · rw [List.length_map]
      rw [h2, List.length_append, List.length_cons] at hz
      omega
    · rw [put_fresh fun p hp => ?_, List.map_append]
      · rfl
      · obtain ⟨x, hx, rfl⟩ := List.mem_map.mp hp
        rw [h2] at nd
        exact (List.pairwise_append.mp nd).2.2 x hx a List.mem_cons_self
  · rintro acc m' ⟨rfl, done, l, h1, h2, rfl⟩
    cases l with
    | nil =>
      rw [List.append_nil] at h2
      subst h2
      exact hk
    | cons a l => cases h1
def sv1 (F : DV → (DV → Prop) → Prop) : SpV := fun ds k => match ds with
  | [a] => F a k
  | _ => False
theorem sv1_inv {F} {ds : List DV} {k : DV → Prop} (h : sv1 F ds k) : ∃ a, ds = [a] ∧ F a k := by
  unfold sv1 at h
  split at h
  · exact ⟨_, rfl, h⟩
  · exact h.elim
theorem sv1_len {F} {ds : List DV} {k : DV → Prop} (h : sv1 F ds k) : ds.length = 1 := by
  obtain ⟨_, rfl, _⟩ := sv1_inv h
  rfl
def sv2 (F : DV → DV → (DV → Prop) → Prop) : SpV := fun ds k => match ds with
  | [a, b] => F a b k
  | _ => False
theorem sv2_inv {F} {ds : List DV} {k : DV → Prop} (h : sv2 F ds k) : ∃ a b, ds = [a, b] ∧ F a b k := by
  unfold sv2 at h
  split at h
  · exact ⟨_, _, rfl, h⟩
  · exact h.elim
theorem sv2_len {F} {ds : List DV} {k : DV → Prop} (h : sv2 F ds k) : ds.length = 2 := by
  obtain ⟨_, _, rfl, _⟩ := sv2_inv h
  rfl
end PM

namespace PM
open PySem PySem.Spec PyProof.Rows L2 RZ
/-! ### averages of groups: order and change -/
def sgI (z : Int) : Int := if z < 0 then -1 else if 0 < z then 1 else 0
theorem sgI_mul {z g : Int} (h : 0 < g) : sgI (z * g) = sgI z := by
  unfold sgI
  have a : z * g < 0 ↔ z < 0 := ⟨fun q => by
    rcases Int.lt_or_le z 0 with y | y
    · exact y
    · exact absurd (Int.mul_nonneg y (Int.le_of_lt h)) (by omega), fun q => Int.mul_neg_of_neg_of_pos q h⟩
  have b : 0 < z * g ↔ 0 < z := ⟨fun q => by
    rcases Int.lt_or_le 0 z with y | y
    · exact y
    · have := Int.mul_nonpos_of_nonpos_of_nonneg y (Int.le_of_lt h)
      omega, fun q => Int.mul_pos q h⟩
  by_cases h1 : z < 0
  · rw [if_pos (a.mpr h1), if_pos h1]
  · rw [if_neg (fun q => h1 (a.mp q)), if_neg h1]
    by_cases h2 : 0 < z
    · rw [if_pos (b.mpr h2), if_pos h2]
    · rw [if_neg (fun q => h2 (b.mp q)), if_neg h2]
theorem cmp_sg (x y : Int × Int) : Fr.cmp x y = sgI (x.1 * y.2 - y.1 * x.2) := by
  unfold Fr.cmp sgI
  by_cases h1 : x.1 * y.2 < y.1 * x.2
  · rw [if_pos h1, if_pos (Int.sub_neg_of_lt h1)]
  · rw [if_neg h1, if_neg (fun z => h1 (Int.lt_of_sub_neg z))]
    by_cases h2 : y.1 * x.2 < x.1 * y.2
    · rw [if_pos h2, if_pos (Int.sub_pos_of_lt h2)]
    · rw [if_neg h2, if_neg (fun z => h2 (Int.lt_of_sub_pos z))]
theorem gcd_pos' {n d : Int} (h : 0 < d) : (0 : Int) < (Int.gcd n d : Int) := by
  have : Int.gcd n d ≠ 0 := fun z => by
    rw [Int.gcd_eq_zero_iff] at z
    omega
  omega
theorem cmp_red {n d n' d' : Int} (hd : 0 < d) (hd' : 0 < d') : Fr.cmp (Fr.red n d) (Fr.red n' d') = sgI (n * d' - n' * d) := by
  rw [cmp_sg]
  obtain ⟨a, ha⟩ : ∃ a, a = Fr.red n d := ⟨_, rfl⟩
  obtain ⟨b, hb⟩ : ∃ b, b = Fr.red n' d' := ⟨_, rfl⟩
  obtain ⟨g, hg⟩ : ∃ g : Int, g = (Int.gcd n d : Int) := ⟨_, rfl⟩
  obtain ⟨g', hg'⟩ : ∃ g : Int, g = (Int.gcd n' d' : Int) := ⟨_, rfl⟩
  have e1 := Fr.red_mul1 n d
  have e2 := Fr.red_mul2 n d
  have e3 := Fr.red_mul1 n' d'
  have e4 := Fr.red_mul2 n' d'
  have p1 := gcd_pos' (n := n) hd
  have p2 := gcd_pos' (n := n') hd'
  rw [← ha, ← hg] at e1 e2
  rw [← hb, ← hg'] at e3 e4
  rw [← hg] at p1
  rw [← hg'] at p2
  rw [← ha, ← hb, ← sgI_mul (Int.mul_pos p1 p2), ← e1, ← e2, ← e3, ← e4]
  congr 1
  grind
/-- what the laws change in a panel's items -/
def tf (A T V : Int) (q : Int × Int) : Int × Int := (q.1 * T + A, q.2 * V)
theorem itm_map (f : Int × Int → Int × Int) {its : List (Int × Int)} {i : Nat} (h : i < its.length) : itm (its.map f) i = f (itm its i) := by
  have h1 := itm_get h
  have h2 : i < (its.map f).length := by rw [List.length_map]; exact h
  have h3 := itm_get h2
  rw [List.getElem?_map, h1] at h3
  exact (Option.some.inj h3).symm
theorem wsum_tf {its : List (Int × Int)} (A T V : Int) : ∀ {is : List Nat}, (∀ i ∈ is, i < its.length) → wsum (its.map (tf A T V)) is = V * (T * wsum its is + A * wgt its is) ∧ wgt (its.map (tf A T V)) is = V * wgt its is
  | [], _ => by simp [wsum, wgt]
  | i :: is, h => by
    have ih := wsum_tf A T V (is := is) fun j hj => h j (List.mem_cons_of_mem _ hj)
    have e := itm_map (tf A T V) (h i List.mem_cons_self)
    unfold wsum wgt at ih ⊢
    rw [List.map_cons, List.map_cons, List.map_cons, List.map_cons, List.sum_cons, List.sum_cons, List.sum_cons, List.sum_cons, ih.1, ih.2, e]
    unfold tf
    constructor <;> grind
theorem sum_perm {xs ys : List Int} (h : xs.Perm ys) : xs.sum = ys.sum := by
  induction h with
  | nil => rfl
  | cons x _ ih => rw [List.sum_cons, List.sum_cons, ih]
  | swap x y l => rw [List.sum_cons, List.sum_cons, List.sum_cons, List.sum_cons]; omega
  | trans _ _ a b => exact a.trans b
theorem wsum_perm {its : List (Int × Int)} {is js : List Nat} (h : is.Perm js) : wsum its is = wsum its js := sum_perm (h.map _)
theorem wgt_perm {its : List (Int × Int)} {is js : List Nat} (h : is.Perm js) : wgt its is = wgt its js := sum_perm (h.map _)
theorem sum_app (xs ys : List Int) : (xs ++ ys).sum = xs.sum + ys.sum := by
  induction xs with
  | nil => simp
  | cons x xs ih => rw [List.cons_append, List.sum_cons, List.sum_cons, ih]; omega
theorem wsum_app (its : List (Int × Int)) (is js : List Nat) : wsum its (is ++ js) = wsum its is + wsum its js := by
  unfold wsum
  rw [List.map_append, sum_app]
theorem wgt_app (its : List (Int × Int)) (is js : List Nat) : wgt its (is ++ js) = wgt its is + wgt its js := by
  unfold wgt
  rw [List.map_append, sum_app]
/-- items of a moderate size -/
def Wide (its : List (Int × Int)) : Prop := ∀ q ∈ its, q.1.natAbs < 2 ^ 60 ∧ 1 ≤ q.2 ∧ q.2 < 2 ^ 40
theorem Wide.sz {its : List (Int × Int)} (h : Wide its) : ∀ q ∈ its, q.1.natAbs < 2 ^ 100 ∧ q.2.natAbs < 2 ^ 100 := fun q hq => by
  have := h q hq
  omega
theorem Wide.sums {its : List (Int × Int)} (h : Wide its) : ∀ {is : List Nat}, (∀ i ∈ is, i < its.length) → (is.length : Int) ≤ wgt its is ∧ wgt its is ≤ is.length * 2 ^ 40 ∧ (wsum its is).natAbs ≤ is.length * 2 ^ 100
  | [], _ => by simp [wgt, wsum]
  | i :: is, hi => by
    obtain ⟨a, b, c⟩ := Wide.sums h (is := is) fun j hj => hi j (List.mem_cons_of_mem _ hj)
    obtain ⟨q1, q2, q3⟩ := h _ (itm_mem (hi i List.mem_cons_self))
    have e1 : wgt its (i :: is) = (itm its i).2 + wgt its is := by unfold wgt; rw [List.map_cons, List.sum_cons]
    have e2 : wsum its (i :: is) = (itm its i).2 * (itm its i).1 + wsum its is := by unfold wsum; rw [List.map_cons, List.sum_cons]
    rw [e1, e2, List.length_cons]
    have q4 : ((itm its i).2 * (itm its i).1).natAbs ≤ 2 ^ 100 := by
      rw [Int.natAbs_mul]
      exact Nat.le_trans (Nat.mul_le_mul (show _ ≤ 2 ^ 40 by omega) (show _ ≤ 2 ^ 60 by omega)) (by decide)
    refine ⟨by omega, by omega, ?_⟩
    omega
theorem Wide.pos {its : List (Int × Int)} (h : Wide its) {is : List Nat} (hi : ∀ i ∈ is, i < its.length) (ne : is ≠ []) (h9 : is.length ≤ 100) : 0 < wgt its is ∧ (wgt its is).natAbs < 2 ^ 110 ∧ (wsum its is).natAbs < 2 ^ 110 := by
  obtain ⟨a, b, c⟩ := h.sums hi
  have : 0 < is.length := List.length_pos_iff.mpr ne
  omega
theorem av_sz {its : List (Int × Int)} (h : Wide its) {is : List Nat} (hi : ∀ i ∈ is, i < its.length) (ne : is ≠ []) (h9 : is.length ≤ 100) : Fr.Sz 110 (Fr.red (wsum its is) (wgt its is)) := by
  obtain ⟨a, b, c⟩ := h.pos hi ne h9
  exact Fr.red_sz c b
theorem Wide.pos2 {its : List (Int × Int)} (h : Wide its) {is : List Nat} (hi : ∀ i ∈ is, i < its.length) (ne : is ≠ []) (h9 : is.length ≤ 100) : 0 < wgt its is ∧ (wgt its is).natAbs < 2 ^ 2000 := by
  obtain ⟨a, b, _⟩ := h.pos hi ne h9
  exact ⟨a, Nat.lt_of_lt_of_le b (Nat.pow_le_pow_right (by decide) (by decide))⟩
/-- a common amount on all marks -/
theorem red_shift {S W A : Int} (hw : 0 < W) : Fr.red (1 * (1 * S + A * W)) (1 * W) = Fr.add (Fr.red S W) (A, 1) := by
  have f1 := Fr.red_isF (n := S) hw
  have f2 : Fr.IsF (A, 1) := isF1 A
  have hw' : (W : Rat) ≠ 0 := by
    intro z
    have := Rat.intCast_inj.mp (z.trans (by rfl : (0 : Rat) = ((0 : Int) : Rat)))
    omega
  refine Fr.val_inj (Fr.red_isF (by omega)) (Fr.add_isF f1 f2) ?_
  rw [Fr.red_val (by omega), Fr.add_val f1 f2, Fr.red_val (by omega)]
  unfold Fr.val
  have : ((1 * (1 * S + A * W) : Int) : Rat) = (S : Rat) + (A : Rat) * (W : Rat) := by
    rw [Int.one_mul, Int.one_mul, Rat.intCast_add, Rat.intCast_mul]
  rw [this, Int.one_mul]
  grind
theorem red_times {S W T : Int} (hw : 0 < W) : Fr.red (1 * (T * S + 0 * W)) (1 * W) = Fr.mul (Fr.red S W) (T, 1) := by
  have f1 := Fr.red_isF (n := S) hw
  have f2 : Fr.IsF (T, 1) := isF1 T
  have hw' : (W : Rat) ≠ 0 := by
    intro z
    have := Rat.intCast_inj.mp (z.trans (by rfl : (0 : Rat) = ((0 : Int) : Rat)))
    omega
  refine Fr.val_inj (Fr.red_isF (by omega)) (Fr.mul_isF f1 f2) ?_
  rw [Fr.red_val (by omega), Fr.mul_val f1 f2, Fr.red_val (by omega)]
  unfold Fr.val
  have : ((1 * (T * S + 0 * W) : Int) : Rat) = (T : Rat) * (S : Rat) := by
    rw [Int.one_mul, Int.zero_mul, Int.add_zero, Rat.intCast_mul]
  rw [this, Int.one_mul]
  grind
theorem red_both {S W V : Int} (hw : 0 < W) (hv : 0 < V) : Fr.red (V * (1 * S + 0 * W)) (V * W) = Fr.red S W := by
  have vw := Int.mul_pos hv hw
  rw [Fr.red_eq vw hw]
  grind
/-- one mark greater -/
theorem itm_set {its : List (Int × Int)} {v : Nat} (q : Int × Int) (i : Nat) (h : v < its.length) : itm (its.set v q) i = if i = v then q else itm its i := by
  unfold itm
  rw [List.getD_eq_getElem?_getD, List.getD_eq_getElem?_getD, List.getElem?_set]
  by_cases z : v = i
  · subst z
    rw [if_pos rfl, if_pos h, if_pos rfl]
    rfl
  · rw [if_neg z, if_neg fun y => z y.symm]
theorem wsum_set {its : List (Int × Int)} {v : Nat} {c : Int} (h : v < its.length) : ∀ {is : List Nat}, is.Pairwise (· < ·) → wgt (its.set v ((itm its v).1 + c, (itm its v).2)) is = wgt its is ∧ wsum (its.set v ((itm its v).1 + c, (itm its v).2)) is = wsum its is + if v ∈ is then (itm its v).2 * c else 0
  | [], _ => by simp [wsum, wgt]
  | i :: is, hp => by
    obtain ⟨h1, h2⟩ := wsum_set (c := c) h (List.pairwise_cons.mp hp).2
    have e := itm_set (its := its) ((itm its v).1 + c, (itm its v).2) i h
    unfold wgt at h1
    unfold wsum at h2
    unfold wsum wgt
    rw [List.map_cons, List.map_cons, List.map_cons, List.map_cons, List.sum_cons, List.sum_cons, List.sum_cons, List.sum_cons, h1, h2, e]
    by_cases z : i = v
    · subst z
      have : i ∉ is := fun y => by have := (List.pairwise_cons.mp hp).1 i y; omega
      rw [if_pos rfl, if_neg this, if_pos List.mem_cons_self]
      constructor <;> grind
    · rw [if_neg z]
      by_cases y : v ∈ is
      · rw [if_pos y, if_pos (List.mem_cons_of_mem _ y)]
        constructor <;> omega
      · rw [if_neg y, if_neg fun x => (List.mem_cons.mp x).elim (fun w => z w.symm) y]
        constructor <;> omega
theorem set_parts {α : Type} (xs : List α) (v : Nat) (x : α) (h : v < xs.length) : xs.take v ++ [x] ++ xs.drop (v + 1) = xs.set v x := by
  rw [List.set_eq_take_append_cons_drop, if_pos h]
  simp
/-- ints that are indexes -/
theorem back_nats : ∀ {js : List Int} {is : List Nat}, js.Perm (is.map fun i : Nat => (i : Int)) → ∃ ks : List Nat, js = ks.map (fun i : Nat => (i : Int)) ∧ ks.Perm is := fun {js is} h => by
  refine ⟨js.map Int.toNat, ?_, ?_⟩
  · rw [List.map_map]
    have : ∀ j ∈ js, ((fun i : Nat => (i : Int)) ∘ Int.toNat) j = j := fun j hj => by
      obtain ⟨i, _, rfl⟩ := List.mem_map.mp (h.mem_iff.mp hj)
      rfl
    rw [List.map_congr_left this, List.map_id'']
    exact fun _ => rfl
  · have := h.map Int.toNat
    rw [List.map_map] at this
    rwa [List.map_id''] at this
    exact fun _ => rfl
end PM

namespace PM
open PySem PySem.Spec PyProof.Rows L2 RZ
/-! ### closed groups, in ascending order -/
/-- closed upward: the high item of each rule whose low item it has -/
def clo (rls : List (Nat × Nat)) (g : List Nat) : Bool := rls.all fun q => !decide (q.1 ∈ g) || decide (q.2 ∈ g)
theorem clo_iff {rls : List (Nat × Nat)} {g : List Nat} : clo rls g = true ↔ ∀ q ∈ rls, q.1 ∈ g → q.2 ∈ g := by
  unfold clo
  rw [List.all_eq_true]
  refine ⟨fun h q hq h1 => ?_, fun h q hq => ?_⟩
  · have := h q hq
    simpa [h1] using this
  · by_cases h1 : q.1 ∈ g
    · simp [h1, h q hq h1]
    · simp [h1]
theorem mem_grps {k lo : Nat} {g : List Nat} : g ∈ grps lo k ↔ (∀ i ∈ g, lo ≤ i ∧ i < lo + k) ∧ g.Pairwise (· < ·) := by
  refine ⟨grps_mem lo k g, fun h => ?_⟩
  obtain ⟨h1, h2⟩ := h
  induction k generalizing g lo with
  | zero =>
    cases g with
    | nil => exact List.mem_singleton.mpr rfl
    | cons i g =>
      have := h1 i List.mem_cons_self
      omega
  | succ k ih =>
    simp only [grps, List.mem_cons, List.mem_append, List.mem_map]
    cases g with
    | nil => exact .inl rfl
    | cons i g =>
      right
      obtain ⟨h3, h4⟩ := List.pairwise_cons.mp h2
      have hi := h1 i List.mem_cons_self
      by_cases z : i = lo
      · subst z
        refine .inl ⟨g, ih (fun j hj => ?_) h4, rfl⟩
        have := h3 j hj
        have := h1 j (List.mem_cons_of_mem _ hj)
        omega
      · right
        have m : (i :: g) ∈ grps (lo + 1) k := ih (g := i :: g) (fun j hj => by
          have := h1 j hj
          rcases List.mem_cons.mp hj with rfl | hj
          · omega
          · have := h3 j hj
            omega) h2
        cases k with
        | zero => exact absurd (List.mem_singleton.mp m) (by simp)
        | succ k =>
          simp only [grps, List.mem_cons] at m
          rcases m with m | m
          · cases m
          · exact m
abbrev gI (g : List Nat) : List Int := g.map fun i : Nat => (i : Int)
theorem in_gr (i : Nat) (is : List Nat) : decide (((i : Nat) : Int) ∈ gI is) = decide (i ∈ is) := by
  apply decide_eq_decide.mpr
  rw [List.mem_map]
  exact ⟨fun ⟨j, hj, e⟩ => by rw [← Int.ofNat.inj e]; exact hj, fun h => ⟨i, h, rfl⟩⟩
theorem gr_ints (is : List Nat) : is.map nD = (gI is).map PyData.int := by rw [List.map_map]; rfl
theorem tsD_gI (g : List Nat) : tsD (gI g) = grD g := by
  unfold tsD gI grD
  rw [List.map_map]
  rfl
theorem lex_cons_nat (i j : Nat) (g h : List Nat) : HT.lexLt (gI (i :: g)) (gI (j :: h)) = if i = j then HT.lexLt (gI g) (gI h) else decide (i < j) := by
  show (if (i : Int) = (j : Int) then HT.lexLt (gI g) (gI h) else decide ((i : Int) < (j : Int))) = _
  by_cases z : i = j
  · rw [if_pos (by omega), if_pos z]
  · rw [if_neg (by omega), if_neg z]
    exact decide_eq_decide.mpr (by omega)
theorem grps_up : ∀ (k lo : Nat), (grps lo k).Pairwise fun g h => HT.lexLt (gI g) (gI h) = true
  | 0, lo => List.pairwise_singleton _ _
  | k + 1, lo => by
    have ih := grps_up k (lo + 1)
    have hd : ∃ t, grps (lo + 1) k = [] :: t := by
      cases k with
      | zero => exact ⟨[], rfl⟩
      | succ k => exact ⟨_, rfl⟩
    obtain ⟨t, ht⟩ := hd
    have hm := grps_mem (lo + 1) k
    simp only [grps]
    rw [ht] at ih hm ⊢
    obtain ⟨i1, i2⟩ := List.pairwise_cons.mp ih
    have tn : ∀ x ∈ t, x ≠ [] := fun x hx z => by
      have := i1 x hx
      subst z
      cases this
    refine List.pairwise_cons.mpr ⟨fun x hx => ?_, List.pairwise_append.mpr ⟨?_, i2, fun x hx y hy => ?_⟩⟩
    · rcases List.mem_append.mp hx with h | h
      · obtain ⟨g, _, rfl⟩ := List.mem_map.mp h
        rfl
      · cases x with
        | nil => exact absurd rfl (tn _ h)
        | cons i x => rfl
    · refine List.pairwise_map.mpr (ih.imp fun {a b} h => ?_)
      rw [lex_cons_nat, if_pos rfl]
      exact h
    · obtain ⟨g, _, rfl⟩ := List.mem_map.mp hx
      cases y with
      | nil => exact absurd rfl (tn _ hy)
      | cons i y =>
        have := ((hm (i :: y) (List.mem_cons_of_mem _ hy)).1 i List.mem_cons_self).1
        rw [lex_cons_nat, if_neg (by omega)]
        exact decide_eq_true (by omega)
theorem grps_nodup (lo k : Nat) : (grps lo k).Nodup := (grps_up k lo).imp fun {a b} h z => by
  subst z
  rw [lexLt_asym h] at h
  cases h
/-- all groups, the way the program makes them -/
def subsF (is : List Nat) : List (List Nat) := is.foldl (fun G i => G ++ G.map (· ++ [i])) [[]]
theorem subsF_snoc (is : List Nat) (i : Nat) : subsF (is ++ [i]) = subsF is ++ (subsF is).map (· ++ [i]) := by
  unfold subsF
  rw [List.foldl_append]
  rfl
theorem subsF_head (is : List Nat) : ∃ t, subsF is = [] :: t := by
  have : ∀ (is : List Nat) (G : List (List Nat)), (∃ t, G = [] :: t) → ∃ t, is.foldl (fun G i => G ++ G.map (· ++ [i])) G = [] :: t := by
    intro is
    induction is with
    | nil => exact fun G h => h
    | cons i is ih =>
      rintro G ⟨t, rfl⟩
      exact ih _ ⟨_, rfl⟩
  exact this is _ ⟨[], rfl⟩
theorem subsF_len (is : List Nat) : (subsF is).length = 2 ^ is.length := by
  have : ∀ (is : List Nat) (G : List (List Nat)), (is.foldl (fun G i => G ++ G.map (· ++ [i])) G).length = G.length * 2 ^ is.length := by
    intro is
    induction is with
    | nil => intro G; simp
    | cons i is ih =>
      intro G
      rw [List.foldl_cons, ih, List.length_append, List.length_map, List.length_cons, Nat.pow_succ, ← Nat.two_mul]
      grind
  unfold subsF
  rw [this]
  simp
theorem subsF_mem : ∀ {n : Nat} {g : List Nat}, g ∈ subsF (List.range n) ↔ (∀ i ∈ g, i < n) ∧ g.Pairwise (· < ·)
  | 0, g => by
    show g ∈ [[]] ↔ _
    rw [List.mem_singleton]
    refine ⟨fun h => by subst h; exact ⟨(fun i h => nomatch h), .nil⟩, fun h => ?_⟩
    cases g with
    | nil => rfl
    | cons i g => exact absurd (h.1 i List.mem_cons_self) (by omega)
  | n + 1, g => by
    have ih := @subsF_mem n
    rw [List.range_succ, subsF_snoc, List.mem_append, List.mem_map]
    constructor
    · rintro (h | ⟨g', h, rfl⟩)
      · obtain ⟨h1, h2⟩ := ih.mp h
        exact ⟨fun i hi => by have := h1 i hi; omega, h2⟩
      · obtain ⟨h1, h2⟩ := ih.mp h
        refine ⟨fun i hi => ?_, List.pairwise_append.mpr ⟨h2, List.pairwise_singleton _ _, fun a ha b hb => ?_⟩⟩
        · rcases List.mem_append.mp hi with hi | hi
          · have := h1 i hi
            omega
          · rw [List.mem_singleton.mp hi]
            omega
        · rw [List.mem_singleton.mp hb]
          exact h1 a ha
    · rintro ⟨h1, h2⟩
      by_cases z : n ∈ g
      · right
        obtain ⟨a, b, rfl⟩ := List.append_of_mem z
        obtain ⟨p1, p2, p3⟩ := List.pairwise_append.mp h2
        have bn : b = [] := by
          cases b with
          | nil => rfl
          | cons x b =>
            have := (List.pairwise_cons.mp p2).1 x List.mem_cons_self
            have := h1 x (by simp)
            omega
        subst bn
        exact ⟨a, ih.mpr ⟨fun i hi => p3 i hi n List.mem_cons_self, p1⟩, rfl⟩
      · exact .inl (ih.mpr ⟨fun i hi => by
          have := h1 i hi
          have : i ≠ n := fun e => z (e ▸ hi)
          omega, h2⟩)
theorem subsF_nodup : ∀ n : Nat, (subsF (List.range n)).Nodup
  | 0 => by show [[]].Nodup; simp
  | n + 1 => by
    have ih := subsF_nodup n
    rw [List.range_succ, subsF_snoc]
    refine List.pairwise_append.mpr ⟨ih, List.pairwise_map.mpr (ih.imp fun {a b} h z => h (List.append_cancel_right z)), fun a ha b hb z => ?_⟩
    obtain ⟨b', _, rfl⟩ := List.mem_map.mp hb
    have := (subsF_mem.mp ha).1 n (by rw [z]; simp)
    omega
theorem subs_perm (n : Nat) : (subsF (List.range n)).Perm (grps 0 n) := by
  refine (List.perm_ext_iff_of_nodup (subsF_nodup n) (grps_nodup 0 n)).mpr fun g => ?_
  rw [subsF_mem, mem_grps (lo := 0)]
  simp
/-- the closed groups of n items, ascending -/
def upsets (n : Nat) (rls : List (Nat × Nat)) : List (List Nat) := (grps 0 n).filter (clo rls)
theorem lex_anti : ∀ {xs ys : List Int}, HT.lexLt xs ys = false → HT.lexLt ys xs = false → xs = ys
  | [], [], _, _ => rfl
  | [], _ :: _, h, _ => nomatch h
  | _ :: _, [], _, h => nomatch h
  | x :: xs, y :: ys, h1, h2 => by
    rw [HT.lexLt_cons] at h1 h2
    by_cases z : x = y
    · rw [if_pos z] at h1
      rw [if_pos z.symm] at h2
      rw [z, lex_anti h1 h2]
    · rw [if_neg z] at h1
      rw [if_neg fun e => z e.symm] at h2
      have := of_decide_eq_false h1
      have := of_decide_eq_false h2
      omega
/-- what sorting makes of them -/
theorem sorted_subs {n : Nat} {rls : List (Nat × Nat)} {hs : List (List Int)} (p : hs.Perm (((subsF (List.range n)).filter (clo rls)).map gI)) (u : UpL hs) : hs = (upsets n rls).map gI := by
  refine List.Perm.eq_of_pairwise (le := fun a b => HT.lexLt b a = false) (fun a b _ _ h1 h2 => lex_anti h2 h1) u ?_ (p.trans (((subs_perm n).filter _).map _))
  refine List.pairwise_map.mpr (((grps_up n 0).filter _).imp fun {a b} h => lexLt_asym h)
theorem mem_upsets {n : Nat} {rls : List (Nat × Nat)} {g : List Nat} : g ∈ upsets n rls ↔ (∀ i ∈ g, i < n) ∧ g.Pairwise (· < ·) ∧ ∀ q ∈ rls, q.1 ∈ g → q.2 ∈ g := by
  unfold upsets
  rw [List.mem_filter, mem_grps (lo := 0), clo_iff]
  simp [and_assoc]
theorem upsets_len (n : Nat) (rls : List (Nat × Nat)) : (upsets n rls).length ≤ 2 ^ n := Nat.le_trans (List.length_filter_le _ _) (by rw [grps_len]; exact Nat.le_refl _)
theorem up_len : ∀ {g : List Nat} {lo n : Nat}, g.Pairwise (· < ·) → (∀ i ∈ g, lo ≤ i ∧ i < n) → lo + g.length ≤ max lo n
  | [], lo, n, _, _ => by simp; omega
  | i :: g, lo, n, h, hi => by
    obtain ⟨h1, h2⟩ := List.pairwise_cons.mp h
    have a := hi i List.mem_cons_self
    have := up_len (lo := i + 1) (n := n) h2 fun j hj => ⟨h1 j hj, (hi j (List.mem_cons_of_mem _ hj)).2⟩
    rw [List.length_cons]
    omega
theorem up_short {g : List Nat} {n : Nat} (h : g.Pairwise (· < ·)) (hi : ∀ i ∈ g, i < n) : g.length ≤ n := by
  have := up_len (lo := 0) h fun i hj => ⟨Nat.zero_le _, hi i hj⟩
  omega
theorem plains_map : ∀ xs : List PyData, plains (xs.map DV.d) = some xs
  | [] => rfl
  | x :: xs => by
    rw [List.map_cons]
    unfold plains
    rw [plains_map xs]
/-- all closed groups, as the program hands them back -/
def upD (n : Nat) (rls : List (Nat × Nat)) : PyData := .tuple ((upsets n rls).map grD)
theorem gr_plain {g : List Nat} (h : g.length ≤ 1000) : plainD (grD g) = true := Bool.and_eq_true_iff.mpr ⟨decide_eq_true (by rw [List.length_map]; exact h), plain_map fun i _ => rfl⟩
theorem gr_dep (g : List Nat) : dep (grD g) ≤ 1 := Nat.add_le_add_right (depL_map (n := 0) fun i _ => Nat.le_refl _) 1
theorem up_plain {n : Nat} {rls : List (Nat × Nat)} (h : n ≤ 8) : plainD (upD n rls) = true := by
  refine Bool.and_eq_true_iff.mpr ⟨decide_eq_true ?_, plain_map fun g hg => gr_plain ?_⟩
  · rw [List.length_map]
    exact Nat.le_trans (upsets_len n rls) (Nat.le_trans (Nat.pow_le_pow_right (by decide) h) (by decide))
  · obtain ⟨h1, h2, _⟩ := mem_upsets.mp hg
    have := up_short h2 h1
    omega
theorem up_dep (n : Nat) (rls : List (Nat × Nat)) : dep (upD n rls) < 8 := Nat.lt_of_le_of_lt (Nat.add_le_add_right (depL_map (n := 1) fun g _ => gr_dep g) 1) (by decide)
end PM

namespace PM
/-! ### sums over lists of items -/
def rs (f : Nat → Rat) (g : List Nat) : Rat := (g.map f).sum
theorem rs_nil (f : Nat → Rat) : rs f [] = 0 := rfl
theorem rs_cons (f : Nat → Rat) (i : Nat) (g : List Nat) : rs f (i :: g) = f i + rs f g := by
  unfold rs
  rw [List.map_cons, List.sum_cons]
theorem rs_app (f : Nat → Rat) (g h : List Nat) : rs f (g ++ h) = rs f g + rs f h := by
  induction g with
  | nil => rw [List.nil_append, rs_nil]; grind
  | cons i g ih => rw [List.cons_append, rs_cons, rs_cons, ih]; grind
theorem rs_add (f h : Nat → Rat) (g : List Nat) : rs (fun i => f i + h i) g = rs f g + rs h g := by
  induction g with
  | nil => rw [rs_nil, rs_nil, rs_nil]; grind
  | cons i g ih => rw [rs_cons, rs_cons, rs_cons, ih]; grind
theorem rs_mul (c : Rat) (f : Nat → Rat) (g : List Nat) : rs (fun i => c * f i) g = c * rs f g := by
  induction g with
  | nil => rw [rs_nil, rs_nil]; grind
  | cons i g ih => rw [rs_cons, rs_cons, ih]; grind
theorem rs_sub (f h : Nat → Rat) (g : List Nat) : rs (fun i => f i - h i) g = rs f g - rs h g := by
  induction g with
  | nil => rw [rs_nil, rs_nil, rs_nil]; grind
  | cons i g ih => rw [rs_cons, rs_cons, rs_cons, ih]; grind
theorem rs_congr {f h : Nat → Rat} {g : List Nat} (e : ∀ i ∈ g, f i = h i) : rs f g = rs h g := by
  induction g with
  | nil => rfl
  | cons i g ih => rw [rs_cons, rs_cons, e i List.mem_cons_self, ih fun j hj => e j (List.mem_cons_of_mem _ hj)]
theorem rs_perm (f : Nat → Rat) {g h : List Nat} (p : g.Perm h) : rs f g = rs f h := by
  induction p with
  | nil => rfl
  | cons x _ ih => rw [rs_cons, rs_cons, ih]
  | swap x y l => rw [rs_cons, rs_cons, rs_cons, rs_cons]; grind
  | trans _ _ a b => exact a.trans b
theorem rs_split (f : Nat → Rat) (p : Nat → Bool) (g : List Nat) : rs f (g.filter p) + rs f (g.filter fun i => !p i) = rs f g := by
  induction g with
  | nil => rw [List.filter_nil, List.filter_nil, rs_nil]; grind
  | cons i g ih =>
    cases h : p i with
    | true => rw [List.filter_cons_of_pos h, List.filter_cons_of_neg (by rw [h]; decide), rs_cons, rs_cons, ← ih]; grind
    | false => rw [List.filter_cons_of_neg (by rw [h]; decide), List.filter_cons_of_pos (by rw [h]; rfl), rs_cons, rs_cons, ← ih]; grind
theorem rs_nonneg {f : Nat → Rat} {g : List Nat} (h : ∀ i ∈ g, 0 ≤ f i) : 0 ≤ rs f g := by
  induction g with
  | nil => rw [rs_nil]; grind
  | cons i g ih =>
    rw [rs_cons]
    have a := h i List.mem_cons_self
    have b := ih fun j hj => h j (List.mem_cons_of_mem _ hj)
    grind
theorem rs_zero {f : Nat → Rat} {g : List Nat} (h : ∀ i ∈ g, 0 ≤ f i) (z : rs f g ≤ 0) : ∀ i ∈ g, f i = 0 := by
  induction g with
  | nil => exact fun i hi => nomatch hi
  | cons i g ih =>
    rw [rs_cons] at z
    have a := h i List.mem_cons_self
    have b := rs_nonneg fun j hj => h j (List.mem_cons_of_mem _ hj)
    intro j hj
    rcases List.mem_cons.mp hj with rfl | hj
    · grind
    · exact ih (fun j hj => h j (List.mem_cons_of_mem _ hj)) (by grind) j hj
theorem least_of (s : Nat → Rat) : ∀ {L : List Nat}, L ≠ [] → ∃ i ∈ L, ∀ j ∈ L, s i ≤ s j
  | [], h => absurd rfl h
  | [i], _ => ⟨i, List.mem_cons_self, fun j hj => by rw [List.mem_singleton.mp hj]; exact Rat.le_refl⟩
  | i :: k :: L, _ => by
    obtain ⟨a, ha, h⟩ := least_of s (L := k :: L) (by simp)
    rcases Rat.le_total (a := s i) (b := s a) with z | z
    · refine ⟨i, List.mem_cons_self, fun j hj => ?_⟩
      rcases List.mem_cons.mp hj with rfl | hj
      · exact Rat.le_refl
      · exact Rat.le_trans z (h j hj)
    · refine ⟨a, List.mem_cons_of_mem _ ha, fun j hj => ?_⟩
      rcases List.mem_cons.mp hj with rfl | hj
      · exact z
      · exact h j hj
theorem filter_filter' (p q : Nat → Bool) (L : List Nat) : (L.filter p).filter q = L.filter fun i => q i && p i := by
  rw [List.filter_filter]
/-- sums by levels -/
theorem layers {f s : Nat → Rat} : ∀ (k : Nat) (L : List Nat) (b : Rat), L.length ≤ k → (∀ c, rs f (L.filter fun i => decide (c ≤ s i)) ≤ 0) → (∀ i ∈ L, b ≤ s i) → rs (fun i => f i * (s i - b)) L ≤ 0
  | 0, L, b, hk, _, _ => by
    have : L = [] := List.length_eq_zero_iff.mp (by omega)
    subst this
    rw [rs_nil]
    exact Rat.le_refl
  | k + 1, L, b, hk, h, hb => by
    by_cases e : L = []
    · subst e
      rw [rs_nil]
      exact Rat.le_refl
    · obtain ⟨a, ha, hm⟩ := least_of s e
      have all : ∀ c, c ≤ s a → L.filter (fun i => decide (c ≤ s i)) = L := fun c hc => List.filter_eq_self.mpr fun i hi => decide_eq_true (Rat.le_trans hc (hm i hi))
      have h1 := h (s a)
      rw [all _ Rat.le_refl] at h1
      have hlen : (L.filter fun i => !decide (s i = s a)).length ≤ k := by
        have : (L.filter fun i => !decide (s i = s a)).length < L.length := by
          rcases Nat.lt_or_ge (L.filter fun i => !decide (s i = s a)).length L.length with z | z
          · exact z
          · have e2 := List.length_filter_eq_length_iff.mp (Nat.le_antisymm (List.length_filter_le _ _) z)
            have := e2 a ha
            simp at this
        omega
      have ih := layers (f := f) (s := s) k (L.filter fun i => !decide (s i = s a)) (s a) hlen (fun c => ?_) fun i hi => hm i (List.mem_filter.mp hi).1
      · have e1 : rs (fun i => f i * (s i - b)) L = rs (fun i => f i * (s i - s a)) L + (s a - b) * rs f L := by
          rw [← rs_mul, ← rs_add]
          exact rs_congr fun i _ => by grind
        have e2 := rs_split (fun i => f i * (s i - s a)) (fun i => decide (s i = s a)) L
        have e3 : rs (fun i => f i * (s i - s a)) (L.filter fun i => decide (s i = s a)) = 0 := by
          have : rs (fun i => f i * (s i - s a)) (L.filter fun i => decide (s i = s a)) = rs (fun i => 0 * f i) (L.filter fun i => decide (s i = s a)) := rs_congr fun i hi => by
            have := of_decide_eq_true (List.mem_filter.mp hi).2
            rw [this]
            grind
          rw [this, rs_mul]
          grind
        have h2 : 0 ≤ s a - b := by
          have := hb a ha
          grind
        have h3 : (s a - b) * rs f L ≤ 0 := by
          have := Rat.mul_le_mul_of_nonneg_left h1 h2
          grind
        rw [e1, ← e2, e3]
        grind
      · rw [filter_filter']
        by_cases z : c ≤ s a
        · have e4 : (L.filter fun i => decide (c ≤ s i) && !decide (s i = s a)) = L.filter fun i => !decide (s i = s a) := List.filter_congr fun i hi => by
            rw [decide_eq_true (Rat.le_trans z (hm i hi))]
            rfl
          rw [e4]
          by_cases e5 : (L.filter fun i => !decide (s i = s a)) = []
          · rw [e5, rs_nil]
            exact Rat.le_refl
          · obtain ⟨a2, ha2, hm2⟩ := least_of s e5
            have e6 : (L.filter fun i => !decide (s i = s a)) = L.filter fun i => decide (s a2 ≤ s i) := List.filter_congr fun i hi => by
              obtain ⟨q1, q2⟩ := List.mem_filter.mp ha2
              have q2 : s a2 ≠ s a := by simpa using q2
              have q3 := hm a2 q1
              by_cases y : s i = s a
              · rw [decide_eq_true y, decide_eq_false (by grind)]
                rfl
              · rw [decide_eq_false y, decide_eq_true (hm2 i (List.mem_filter.mpr ⟨hi, by rw [decide_eq_false y]; rfl⟩))]
                rfl
            rw [e6]
            exact h _
        · have e4 : (L.filter fun i => decide (c ≤ s i) && !decide (s i = s a)) = L.filter fun i => decide (c ≤ s i) := List.filter_congr fun i hi => by
            by_cases y : c ≤ s i
            · rw [decide_eq_true y, decide_eq_false (fun x : s i = s a => z (by rw [← x]; exact y))]
              rfl
            · rw [decide_eq_false y]
              rfl
          rw [e4]
          exact h c
/-- each level's sum is 0: so is the sum with any factor that the levels have -/
theorem by_levels {f s : Nat → Rat} (φ : Rat → Rat) : ∀ (k : Nat) (L : List Nat), L.length ≤ k → (∀ c, rs f (L.filter fun i => decide (s i = c)) = 0) → rs (fun i => f i * φ (s i)) L = 0
  | 0, L, hk, _ => by
    have : L = [] := List.length_eq_zero_iff.mp (by omega)
    subst this
    exact rs_nil _
  | k + 1, [], _, _ => rs_nil _
  | k + 1, a :: L, hk, h => by
    rw [← rs_split _ (fun i => decide (s i = s a))]
    have e1 : rs (fun i => f i * φ (s i)) ((a :: L).filter fun i => decide (s i = s a)) = φ (s a) * rs f ((a :: L).filter fun i => decide (s i = s a)) := by
      rw [← rs_mul]
      refine rs_congr fun i hi => ?_
      rw [of_decide_eq_true (List.mem_filter.mp hi).2]
      grind
    rw [e1, h]
    have e2 : ((a :: L).filter fun i => !decide (s i = s a)) = L.filter fun i => !decide (s i = s a) := List.filter_cons_of_neg (by simp)
    have ih := by_levels (f := f) (s := s) φ k (L.filter fun i => !decide (s i = s a)) (Nat.le_trans (List.length_filter_le _ _) (by rw [List.length_cons] at hk; omega)) fun c => ?_
    · rw [e2, ih]
      grind
    · by_cases z : c = s a
      · have : ((L.filter fun i => !decide (s i = s a)).filter fun i => decide (s i = c)) = [] := List.filter_eq_nil_iff.mpr fun i hi => by
          have := (List.mem_filter.mp hi).2
          rw [z]
          simpa using this
        rw [this, rs_nil]
      · have := h c
        rw [List.filter_cons_of_neg (by simpa using fun y => z y.symm)] at this
        rw [filter_filter']
        have e3 : (L.filter fun i => decide (s i = c) && !decide (s i = s a)) = L.filter fun i => decide (s i = c) := List.filter_congr fun i hi => by
          by_cases y : s i = c
          · rw [decide_eq_true y, decide_eq_false (fun x => z (y.symm.trans x))]
            rfl
          · rw [decide_eq_false y]
            rfl
        rw [e3]
        exact this
/-! ### the best rating -/
def Wt (its : List (Int × Int)) (i : Nat) : Rat := ((itm its i).2 : Rat)
def Mk (its : List (Int × Int)) (i : Nat) : Rat := ((itm its i).1 : Rat)
/-- weight times (mark - rating) -/
def Fo (its : List (Int × Int)) (r : Nat → Rat) (i : Nat) : Rat := Wt its i * (Mk its i - r i)
structure Best (its : List (Int × Int)) (rls : List (Nat × Nat)) (r : Nat → Rat) : Prop where
  obey : ∀ q ∈ rls, r q.1 ≤ r q.2
  up : ∀ g ∈ upsets its.length rls, rs (Fo its r) g ≤ 0
  lev : ∀ c, rs (Fo its r) ((List.range its.length).filter fun i => decide (r i = c)) = 0
/-- what a panel's items and rules are known to be -/
structure PnOk (its : List (Int × Int)) (rls : List (Nat × Nat)) : Prop where
  wt : ∀ q ∈ its, 1 ≤ q.2
  rl : ∀ q ∈ rls, q.1 < its.length ∧ q.2 < its.length
theorem PnOk.pos {its : List (Int × Int)} {rls : List (Nat × Nat)} (h : PnOk its rls) {i : Nat} (hi : i < its.length) : 0 < Wt its i := by
  have := h.wt _ (itm_mem hi)
  unfold Wt
  exact Rat.intCast_pos.mpr (by omega)
theorem range_mem_up {n : Nat} {rls : List (Nat × Nat)} (p : Nat → Bool) (h : ∀ q ∈ rls, p q.1 = true → q.2 < n ∧ p q.2 = true) : (List.range n).filter p ∈ upsets n rls := by
  refine mem_upsets.mpr ⟨fun i hi => List.mem_range.mp (List.mem_filter.mp hi).1, List.pairwise_lt_range.filter _, fun q hq h1 => ?_⟩
  obtain ⟨_, h2⟩ := List.mem_filter.mp h1
  exact List.mem_filter.mpr ⟨List.mem_range.mpr (h q hq h2).1, (h q hq h2).2⟩
section
variable {its : List (Int × Int)} {rls : List (Nat × Nat)} {r s : Nat → Rat}
theorem Best.all0 (b : Best its rls r) : rs (Fo its r) (List.range its.length) = 0 := by
  have := by_levels (f := Fo its r) (s := r) (fun _ => 1) _ (List.range its.length) (Nat.le_refl _) b.lev
  rw [← this]
  exact rs_congr fun i _ => by grind
theorem Best.own0 (b : Best its rls r) : rs (fun i => Fo its r i * r i) (List.range its.length) = 0 := by_levels (f := Fo its r) (s := r) (fun x => x) _ (List.range its.length) (Nat.le_refl _) b.lev
/-- against any rating that obeys -/
theorem Best.vi (b : Best its rls r) (ok : PnOk its rls) (hs : ∀ q ∈ rls, s q.1 ≤ s q.2) : rs (fun i => Fo its r i * (s i - r i)) (List.range its.length) ≤ 0 := by
  by_cases e : List.range its.length = []
  · rw [e, rs_nil]
    exact Rat.le_refl
  · obtain ⟨a, ha, hm⟩ := least_of s e
    have h1 := layers (f := Fo its r) (s := s) _ (List.range its.length) (s a) (Nat.le_refl _) (fun c => b.up _ (range_mem_up _ fun q hq h => ⟨(ok.rl q hq).2, decide_eq_true (Rat.le_trans (of_decide_eq_true h) (hs q hq))⟩)) hm
    have h2 := b.all0
    have h3 := b.own0
    have e1 : rs (fun i => Fo its r i * (s i - r i)) (List.range its.length) = rs (fun i => Fo its r i * (s i - s a)) (List.range its.length) + s a * rs (Fo its r) (List.range its.length) - rs (fun i => Fo its r i * r i) (List.range its.length) := by
      rw [← rs_mul, ← rs_add, ← rs_sub]
      exact rs_congr fun i _ => by grind
    rw [e1, h2, h3]
    grind
/-- its cost is the least, by the distance -/
theorem Best.cost (b : Best its rls r) (ok : PnOk its rls) (hs : ∀ q ∈ rls, s q.1 ≤ s q.2) :
    rs (fun i => Wt its i * ((r i - Mk its i) * (r i - Mk its i))) (List.range its.length) + rs (fun i => Wt its i * ((s i - r i) * (s i - r i))) (List.range its.length) ≤ rs (fun i => Wt its i * ((s i - Mk its i) * (s i - Mk its i))) (List.range its.length) := by
  have h := b.vi ok hs
  have e1 : rs (fun i => Wt its i * ((s i - Mk its i) * (s i - Mk its i))) (List.range its.length) = rs (fun i => Wt its i * ((r i - Mk its i) * (r i - Mk its i))) (List.range its.length) + rs (fun i => Wt its i * ((s i - r i) * (s i - r i))) (List.range its.length) - 2 * rs (fun i => Fo its r i * (s i - r i)) (List.range its.length) := by
    rw [← rs_mul, ← rs_add, ← rs_sub]
    exact rs_congr fun i _ => by unfold Fo; grind
  rw [e1]
  grind
theorem Best.uniq (b : Best its rls r) (b' : Best its rls s) (ok : PnOk its rls) : ∀ i, i < its.length → r i = s i := by
  have h1 := b.vi ok b'.obey
  have h2 := b'.vi ok b.obey
  have e : rs (fun i => Wt its i * ((s i - r i) * (s i - r i))) (List.range its.length) = rs (fun i => Fo its r i * (s i - r i)) (List.range its.length) + rs (fun i => Fo its s i * (r i - s i)) (List.range its.length) := by
    rw [← rs_add]
    exact rs_congr fun i _ => by unfold Fo; grind
  have nn : ∀ i ∈ List.range its.length, 0 ≤ Wt its i * ((s i - r i) * (s i - r i)) := fun i hi => Rat.mul_nonneg (Rat.le_of_lt (ok.pos (List.mem_range.mp hi))) (by
    rcases Rat.nonneg_total (s i - r i) with z | z
    · exact Rat.mul_nonneg z z
    · have := Rat.mul_nonneg z z
      grind)
  have z := rs_zero nn (by rw [e]; grind)
  intro i hi
  have h := z i (List.mem_range.mpr hi)
  have p := ok.pos hi
  have q : (s i - r i) * (s i - r i) = 0 := by
    rcases Rat.mul_eq_zero.mp h with y | y
    · rw [y] at p
      exact absurd p (by decide)
    · exact y
  rcases Rat.mul_eq_zero.mp q with y | y <;> grind
end
end PM

namespace PM
/-! ### amounts on rules whose ends are rated alike -/
def ov (i : Nat) (p : (Nat × Nat) × Rat) : Rat := (if p.1.1 = i then p.2 else 0) - (if p.1.2 = i then p.2 else 0)
def oSum (ps : List ((Nat × Nat) × Rat)) (i : Nat) : Rat := (ps.map (ov i)).sum
theorem oSum_nil (i : Nat) : oSum [] i = 0 := rfl
theorem oSum_cons (p : (Nat × Nat) × Rat) (ps : List ((Nat × Nat) × Rat)) (i : Nat) : oSum (p :: ps) i = ov i p + oSum ps i := by
  unfold oSum
  rw [List.map_cons, List.sum_cons]
theorem rs_one {g : List Nat} (h : g.Nodup) (j : Nat) (a : Rat) : rs (fun i => if j = i then a else 0) g = if j ∈ g then a else 0 := by
  induction g with
  | nil => rw [rs_nil, if_neg (by simp)]
  | cons i g ih =>
    obtain ⟨h1, h2⟩ := List.nodup_cons.mp h
    rw [rs_cons, ih h2]
    by_cases z : j = i
    · subst z
      rw [if_pos rfl, if_neg h1, if_pos List.mem_cons_self]
      grind
    · rw [if_neg z]
      by_cases y : j ∈ g
      · rw [if_pos y, if_pos (List.mem_cons_of_mem _ y)]
        grind
      · rw [if_neg y, if_neg fun x => (List.mem_cons.mp x).elim z y]
        grind
theorem rs_flow {g : List Nat} (h : g.Nodup) : ∀ ps : List ((Nat × Nat) × Rat), rs (oSum ps) g = (ps.map fun p => (if p.1.1 ∈ g then p.2 else 0) - (if p.1.2 ∈ g then p.2 else 0)).sum
  | [] => by
    have : rs (oSum []) g = rs (fun i => 0 * (0 : Rat)) g := rs_congr fun i _ => by rw [oSum_nil]; grind
    rw [this, rs_mul]
    simp only [List.map_nil, List.sum_nil]
    grind
  | p :: ps => by
    have : rs (oSum (p :: ps)) g = rs (fun i => ov i p + oSum ps i) g := rs_congr fun i _ => oSum_cons p ps i
    rw [this, rs_add, rs_flow h ps, List.map_cons, List.sum_cons]
    have e : rs (fun i => ov i p) g = (if p.1.1 ∈ g then p.2 else 0) - (if p.1.2 ∈ g then p.2 else 0) := by
      rw [← rs_one h p.1.1 p.2, ← rs_one h p.1.2 p.2, ← rs_sub]
      rfl
    rw [e]
theorem sum_le0 : ∀ {xs : List Rat}, (∀ x ∈ xs, x ≤ 0) → xs.sum ≤ 0
  | [], _ => Rat.le_refl
  | x :: xs, h => by
    rw [List.sum_cons]
    have a := h x List.mem_cons_self
    have b := sum_le0 fun y hy => h y (List.mem_cons_of_mem _ hy)
    grind
theorem sum_eq0 : ∀ {xs : List Rat}, (∀ x ∈ xs, x = 0) → xs.sum = 0
  | [], _ => rfl
  | x :: xs, h => by
    rw [List.sum_cons, h x List.mem_cons_self, sum_eq0 fun y hy => h y (List.mem_cons_of_mem _ hy)]
    grind
theorem up_nodup {g : List Nat} (h : g.Pairwise (· < ·)) : g.Nodup := h.imp fun {a b} x z => by omega
/-- a rating that amounts support is the best one -/
theorem Best.of_flow {its : List (Int × Int)} {rls : List (Nat × Nat)} {r : Nat → Rat} (ps : List ((Nat × Nat) × Rat)) (obey : ∀ q ∈ rls, r q.1 ≤ r q.2) (ok : PnOk its rls) (mem : ∀ p ∈ ps, p.1 ∈ rls) (nn : ∀ p ∈ ps, 0 ≤ p.2) (tight : ∀ p ∈ ps, p.2 ≠ 0 → r p.1.1 = r p.1.2) (fl : ∀ i, i < its.length → Fo its r i = oSum ps i) : Best its rls r where
  obey := obey
  up := fun g hg => by
    obtain ⟨g1, g2, g3⟩ := mem_upsets.mp hg
    rw [rs_congr fun i hi => fl i (g1 i hi), rs_flow (up_nodup g2)]
    refine sum_le0 fun x hx => ?_
    obtain ⟨p, hp, rfl⟩ := List.mem_map.mp hx
    have a := nn p hp
    by_cases z : p.1.1 ∈ g
    · rw [if_pos z, if_pos (g3 _ (mem p hp) z)]
      grind
    · rw [if_neg z]
      by_cases y : p.1.2 ∈ g
      · rw [if_pos y]
        grind
      · rw [if_neg y]
        grind
  lev := fun c => by
    rw [rs_congr fun i hi => fl i (List.mem_range.mp (List.mem_filter.mp hi).1), rs_flow (up_nodup (List.pairwise_lt_range.filter _))]
    refine sum_eq0 fun x hx => ?_
    obtain ⟨p, hp, rfl⟩ := List.mem_map.mp hx
    by_cases e : p.2 = 0
    · rw [e]
      split <;> split <;> grind
    · have t := tight p hp e
      obtain ⟨l1, l2⟩ := ok.rl _ (mem p hp)
      by_cases z : r p.1.1 = c
      · rw [if_pos (List.mem_filter.mpr ⟨List.mem_range.mpr l1, decide_eq_true z⟩), if_pos (List.mem_filter.mpr ⟨List.mem_range.mpr l2, decide_eq_true (t ▸ z)⟩)]
        grind
      · have n1 : p.1.1 ∉ (List.range its.length).filter fun i => decide (r i = c) := fun y => z (by simpa using (List.mem_filter.mp y).2)
        have n2 : p.1.2 ∉ (List.range its.length).filter fun i => decide (r i = c) := fun y => z (t.trans (by simpa using (List.mem_filter.mp y).2))
        rw [if_neg n1, if_neg n2]
        grind
/-! ### the levels, as the program finds them -/
def better (its : List (Int × Int)) (b g : List Nat) : List Nat :=
  if 0 < wsum its g * wgt its b - wsum its b * wgt its g ∨ (wsum its g * wgt its b - wsum its b * wgt its g = 0 ∧ b.length < g.length) then g else b
def hiG (its : List (Int × Int)) : List (List Nat) → List Nat
  | [] => []
  | g :: gs => (g :: gs).foldl (better its) g
def restG (top g : List Nat) : List Nat := g.filter fun i => !decide (i ∈ top)
def keepG (top g : List Nat) : Bool := decide (0 < (restG top g).length) && decide (g.length = (restG top g).length + top.length)
def beyond (gs : List (List Nat)) (top : List Nat) : List (List Nat) := (gs.filter (keepG top)).map (restG top)
def avF (its : List (Int × Int)) (g : List Nat) : Int × Int := Fr.red (wsum its g) (wgt its g)
def levLoop (its : List (Int × Int)) : Nat → List (List Nat) → List ((Int × Int) × List Nat)
  | 0, _ => []
  | _ + 1, [] => []
  | k + 1, g :: gs => (avF its (hiG its (g :: gs)), hiG its (g :: gs)) :: levLoop its k (beyond (g :: gs) (hiG its (g :: gs)))
def ups1 (n : Nat) (rls : List (Nat × Nat)) : List (List Nat) := (upsets n rls).filter fun g => decide (0 < g.length)
/-- the levels, values falling -/
def levD (its : List (Int × Int)) (rls : List (Nat × Nat)) : List ((Int × Int) × List Nat) := levLoop its (ups1 its.length rls).length (ups1 its.length rls)
/-- average as a number -/
def avR (its : List (Int × Int)) (g : List Nat) : Rat := rs (fun i => Wt its i * Mk its i) g / rs (Wt its) g
theorem wsum_rs (its : List (Int × Int)) : ∀ g : List Nat, ((wsum its g : Int) : Rat) = rs (fun i => Wt its i * Mk its i) g
  | [] => rfl
  | i :: g => by
    have ih := wsum_rs its g
    rw [rs_cons, ← ih]
    unfold wsum Wt Mk
    rw [List.map_cons, List.sum_cons, Rat.intCast_add, Rat.intCast_mul]
theorem wgt_rs (its : List (Int × Int)) : ∀ g : List Nat, ((wgt its g : Int) : Rat) = rs (Wt its) g
  | [] => rfl
  | i :: g => by
    have ih := wgt_rs its g
    rw [rs_cons, ← ih]
    unfold wgt Wt
    rw [List.map_cons, List.sum_cons, Rat.intCast_add]
section
variable {its : List (Int × Int)} {rls : List (Nat × Nat)}
theorem PnOk.wpos (ok : PnOk its rls) : ∀ {g : List Nat}, (∀ i ∈ g, i < its.length) → g ≠ [] → 0 < rs (Wt its) g
  | [], _, h => absurd rfl h
  | [i], hi, _ => by
    rw [rs_cons, rs_nil]
    have := ok.pos (hi i List.mem_cons_self)
    grind
  | i :: j :: g, hi, _ => by
    rw [rs_cons]
    have a := ok.pos (hi i List.mem_cons_self)
    have b := PnOk.wpos ok (g := j :: g) (fun k hk => hi k (List.mem_cons_of_mem _ hk)) (by simp)
    grind
theorem PnOk.wposI (ok : PnOk its rls) {g : List Nat} (hi : ∀ i ∈ g, i < its.length) (h : g ≠ []) : 0 < wgt its g := by
  have := ok.wpos hi h
  rw [← wgt_rs] at this
  exact Rat.intCast_pos.mp this
theorem avF_val (ok : PnOk its rls) {g : List Nat} (hi : ∀ i ∈ g, i < its.length) (h : g ≠ []) : Fr.IsF (avF its g) ∧ Fr.val (avF its g) = avR its g := by
  have w := ok.wposI hi h
  refine ⟨Fr.red_isF w, ?_⟩
  unfold avF avR
  rw [Fr.red_val (by omega), wsum_rs, wgt_rs]
/-- comparing averages by cross products -/
theorem av_lt (ok : PnOk its rls) {g h : List Nat} (hg : ∀ i ∈ g, i < its.length) (hh : ∀ i ∈ h, i < its.length) (ng : g ≠ []) (nh : h ≠ []) :
    (0 < wsum its g * wgt its h - wsum its h * wgt its g ↔ avR its h < avR its g) ∧ (wsum its g * wgt its h - wsum its h * wgt its g = 0 ↔ avR its g = avR its h) := by
  have w1 := ok.wpos hg ng
  have w2 := ok.wpos hh nh
  have e : (((wsum its g * wgt its h - wsum its h * wgt its g) : Int) : Rat) = (avR its g - avR its h) * (rs (Wt its) g * rs (Wt its) h) := by
    rw [Rat.intCast_sub, Rat.intCast_mul, Rat.intCast_mul, wsum_rs, wsum_rs, wgt_rs, wgt_rs]
    unfold avR
    have n1 : rs (Wt its) g ≠ 0 := fun z => by rw [z] at w1; exact absurd w1 (by decide)
    have n2 : rs (Wt its) h ≠ 0 := fun z => by rw [z] at w2; exact absurd w2 (by decide)
    grind
  have p := Rat.mul_pos w1 w2
  refine ⟨?_, ?_⟩
  · rw [← Rat.intCast_pos, e, Rat.mul_pos_iff_of_pos_right p]
    constructor <;> intro z <;> grind
  · have : (wsum its g * wgt its h - wsum its h * wgt its g = 0) ↔ (((wsum its g * wgt its h - wsum its h * wgt its g) : Int) : Rat) = 0 := by
      constructor
      · intro z; rw [z]; rfl
      · intro z
        exact Rat.intCast_inj.mp z
    rw [this, e, Rat.mul_eq_zero]
    constructor
    · rintro (z | z)
      · grind
      · rw [z] at p
        exact absurd p (by decide)
    · intro z
      left
      grind
/-- b is at least as good a top as g -/
def Geq (its : List (Int × Int)) (b g : List Nat) : Prop := avR its g < avR its b ∨ (avR its g = avR its b ∧ g.length ≤ b.length)
theorem Geq.refl (b : List Nat) : Geq its b b := .inr ⟨rfl, Nat.le_refl _⟩
theorem Geq.trans {a b c : List Nat} (h : Geq its a b) (h' : Geq its b c) : Geq its a c := by
  rcases h with h | ⟨h, l⟩ <;> rcases h' with h' | ⟨h', l'⟩
  · exact .inl (by grind)
  · exact .inl (by grind)
  · exact .inl (by grind)
  · exact .inr ⟨by grind, by omega⟩
theorem better_geq (ok : PnOk its rls) {b g : List Nat} (hb : ∀ i ∈ b, i < its.length) (hg : ∀ i ∈ g, i < its.length) (nb : b ≠ []) (ng : g ≠ []) : Geq its (better its b g) b ∧ Geq its (better its b g) g := by
  obtain ⟨c1, c2⟩ := av_lt ok hg hb ng nb
  unfold better
  split
  · rename_i z
    refine ⟨?_, Geq.refl _⟩
    rcases z with z | ⟨z, l⟩
    · exact .inl (c1.mp z)
    · exact .inr ⟨(c2.mp z).symm, by omega⟩
  · rename_i z
    refine ⟨Geq.refl _, ?_⟩
    have z1 : ¬ avR its b < avR its g := fun y => z (.inl (c1.mpr y))
    rcases Rat.le_total (a := avR its g) (b := avR its b) with y | y
    · by_cases x : avR its g = avR its b
      · refine .inr ⟨x, ?_⟩
        rcases Nat.lt_or_ge b.length g.length with u | u
        · exact absurd (.inr ⟨c2.mpr x, u⟩) z
        · exact u
      · exact .inl (by grind)
    · have : avR its g = avR its b := by grind
      refine .inr ⟨this, ?_⟩
      rcases Nat.lt_or_ge b.length g.length with u | u
      · exact absurd (.inr ⟨c2.mpr this, u⟩) z
      · exact u
theorem hiG_spec (ok : PnOk its rls) {gs : List (List Nat)} (hs : ∀ g ∈ gs, (∀ i ∈ g, i < its.length) ∧ g ≠ []) (ne : gs ≠ []) : hiG its gs ∈ gs ∧ ∀ g ∈ gs, Geq its (hiG its gs) g := by
  have go : ∀ (l : List (List Nat)) (b : List Nat), (∀ g ∈ l, (∀ i ∈ g, i < its.length) ∧ g ≠ []) → ((∀ i ∈ b, i < its.length) ∧ b ≠ []) → (l.foldl (better its) b = b ∨ l.foldl (better its) b ∈ l) ∧ Geq its (l.foldl (better its) b) b ∧ ∀ g ∈ l, Geq its (l.foldl (better its) b) g := by
    intro l
    induction l with
    | nil => exact fun b _ _ => ⟨.inl rfl, Geq.refl _, fun g hg => nomatch hg⟩
    | cons g l ih =>
      intro b hl hb
      have hg := hl g List.mem_cons_self
      have bet := better_geq ok hb.1 hg.1 hb.2 hg.2
      have hb' : better its b g = b ∨ better its b g = g := by
        unfold better
        split
        · exact .inr rfl
        · exact .inl rfl
      obtain ⟨i1, i2, i3⟩ := ih (better its b g) (fun x hx => hl x (List.mem_cons_of_mem _ hx)) (by rcases hb' with z | z <;> rw [z] <;> assumption)
      rw [List.foldl_cons]
      refine ⟨?_, i2.trans bet.1, fun x hx => ?_⟩
      · rcases i1 with z | z
        · rw [z]
          rcases hb' with y | y <;> rw [y]
          · exact .inl rfl
          · exact .inr List.mem_cons_self
        · exact .inr (List.mem_cons_of_mem _ z)
      · rcases List.mem_cons.mp hx with rfl | hx
        · exact i2.trans bet.2
        · exact i3 x hx
  match gs, ne, hs with
  | g :: gs, _, hs =>
    obtain ⟨h1, _, h3⟩ := go (g :: gs) g hs (hs g List.mem_cons_self)
    refine ⟨?_, h3⟩
    rcases h1 with z | z
    · show (g :: gs).foldl (better its) g ∈ g :: gs
      rw [z]
      exact List.mem_cons_self
    · exact z
end
/-! ### what the levels are -/
theorem asc_ext {g h : List Nat} (hg : g.Pairwise (· < ·)) (hh : h.Pairwise (· < ·)) (e : ∀ i, i ∈ g ↔ i ∈ h) : g = h :=
  List.Perm.eq_of_pairwise (le := fun a b => a < b) (fun a b _ _ h1 h2 => by omega) hg hh ((List.perm_ext_iff_of_nodup (up_nodup hg) (up_nodup hh)).mpr e)
theorem restG_mem {top g : List Nat} {i : Nat} : i ∈ restG top g ↔ i ∈ g ∧ i ∉ top := by
  unfold restG
  rw [List.mem_filter]
  simp
theorem restG_asc {top g : List Nat} (h : g.Pairwise (· < ·)) : (restG top g).Pairwise (· < ·) := h.filter _
theorem restG_len (top g : List Nat) : g.length = (restG top g).length + (g.filter fun i => decide (i ∈ top)).length := by
  unfold restG
  induction g with
  | nil => rfl
  | cons i g ih =>
    by_cases z : i ∈ top
    · rw [List.filter_cons_of_neg (by simp [z]), List.filter_cons_of_pos (by simp [z]), List.length_cons, List.length_cons, ih]
      omega
    · rw [List.filter_cons_of_pos (by simp [z]), List.filter_cons_of_neg (by simp [z]), List.length_cons, List.length_cons, ih]
      omega
theorem keep_iff {top g : List Nat} (ht : top.Nodup) (hg : g.Nodup) : keepG top g = true ↔ restG top g ≠ [] ∧ ∀ i ∈ top, i ∈ g := by
  unfold keepG
  rw [Bool.and_eq_true_iff, decide_eq_true_eq, decide_eq_true_eq, List.length_pos_iff]
  refine and_congr_right fun _ => ?_
  have e := restG_len top g
  have nd : (g.filter fun i => decide (i ∈ top)).Nodup := hg.filter _
  have sub : (g.filter fun i => decide (i ∈ top)) ⊆ top := fun i hi => by simpa using (List.mem_filter.mp hi).2
  constructor
  · intro h i hi
    by_cases z : i ∈ g
    · exact z
    · have n2 : i ∉ g.filter fun i => decide (i ∈ top) := fun y => z (List.mem_filter.mp y).1
      have := List.Nodup.length_le_of_subset (List.nodup_cons.mpr ⟨n2, nd⟩) (l₂ := top) fun j hj => by
        rcases List.mem_cons.mp hj with rfl | hj
        · exact hi
        · exact sub hj
      rw [List.length_cons] at this
      omega
  · intro h
    have := ((List.perm_ext_iff_of_nodup nd ht).mpr fun i => ⟨fun hi => sub hi, fun hi => List.mem_filter.mpr ⟨h i hi, by simpa using hi⟩⟩).length_eq
    omega
/-- what is left of the closed groups that contain T -/
def RestOf (n : Nat) (rls : List (Nat × Nat)) (T : List Nat) (gs : List (List Nat)) : Prop := ∀ h, h ∈ gs ↔ ∃ g ∈ upsets n rls, (∀ i ∈ T, i ∈ g) ∧ h = restG T g ∧ h ≠ []
theorem RestOf.first (n : Nat) (rls : List (Nat × Nat)) : RestOf n rls [] (ups1 n rls) := fun h => by
  have e : ∀ g : List Nat, restG [] g = g := fun g => List.filter_eq_self.mpr fun i _ => by simp
  unfold ups1
  rw [List.mem_filter]
  constructor
  · rintro ⟨h1, h2⟩
    exact ⟨h, h1, (fun i hi => nomatch hi), (e h).symm, List.length_pos_iff.mp (of_decide_eq_true h2)⟩
  · rintro ⟨g, h1, _, rfl, h2⟩
    rw [e] at h2 ⊢
    exact ⟨h1, decide_eq_true (List.length_pos_iff.mpr h2)⟩
theorem RestOf.asc {n : Nat} {rls : List (Nat × Nat)} {T : List Nat} {gs : List (List Nat)} (R : RestOf n rls T gs) {h : List Nat} (hm : h ∈ gs) : h.Pairwise (· < ·) ∧ (∀ i ∈ h, i < n ∧ i ∉ T) ∧ h ≠ [] := by
  obtain ⟨g, h1, _, rfl, h3⟩ := (R h).mp hm
  obtain ⟨g1, g2, _⟩ := mem_upsets.mp h1
  exact ⟨restG_asc g2, fun i hi => ⟨g1 i (restG_mem.mp hi).1, (restG_mem.mp hi).2⟩, h3⟩
theorem RestOf.step {n : Nat} {rls : List (Nat × Nat)} {T top g0 : List Nat} {gs : List (List Nat)} (R : RestOf n rls T gs) (ht : top ∈ gs) (h0 : g0 ∈ upsets n rls) (hT : ∀ i ∈ T, i ∈ g0) (e : top = restG T g0) : RestOf n rls g0 (beyond gs top) := fun x => by
  have at' := R.asc ht
  have mt : ∀ i, i ∈ g0 ↔ i ∈ T ∨ i ∈ top := fun i => by
    rw [e, restG_mem]
    by_cases z : i ∈ T
    · simp [z, hT i z]
    · simp [z]
  have rr : ∀ g : List Nat, restG top (restG T g) = restG g0 g := fun g => by
    unfold restG
    rw [List.filter_filter]
    refine List.filter_congr fun i _ => ?_
    have := mt i
    by_cases a : i ∈ T <;> by_cases b : i ∈ top <;> simp [a, b, this]
  unfold beyond
  rw [List.mem_map]
  constructor
  · rintro ⟨h, hm, rfl⟩
    obtain ⟨h1, h2⟩ := List.mem_filter.mp hm
    obtain ⟨k1, k2⟩ := (keep_iff (up_nodup at'.1) (up_nodup (R.asc h1).1)).mp h2
    obtain ⟨g, g1, g2, rfl, g4⟩ := (R h).mp h1
    rw [rr] at k1 ⊢
    refine ⟨g, g1, fun i hi => ?_, rfl, k1⟩
    rcases (mt i).mp hi with z | z
    · exact g2 i z
    · exact (restG_mem.mp (k2 i z)).1
  · rintro ⟨g, g1, g2, rfl, g4⟩
    have ne : restG T g ≠ [] := fun z => by
      rw [← rr, z] at g4
      exact g4 rfl
    have hm : restG T g ∈ gs := (R _).mpr ⟨g, g1, fun i hi => g2 i ((mt i).mpr (.inl hi)), rfl, ne⟩
    refine ⟨restG T g, List.mem_filter.mpr ⟨hm, (keep_iff (up_nodup at'.1) (up_nodup (R.asc hm).1)).mpr ⟨by rw [rr]; exact g4, fun i hi => ?_⟩⟩, rr g⟩
    exact restG_mem.mpr ⟨g2 i ((mt i).mpr (.inr hi)), (at'.2.1 i hi).2⟩
theorem beyond_short {gs : List (List Nat)} {top : List Nat} (h : top ∈ gs) : (beyond gs top).length < gs.length := by
  unfold beyond
  rw [List.length_map]
  rcases Nat.lt_or_ge (gs.filter (keepG top)).length gs.length with z | z
  · exact z
  · have e := List.length_filter_eq_length_iff.mp (Nat.le_antisymm (List.length_filter_le _ _) z) top h
    have : restG top top = [] := List.filter_eq_nil_iff.mpr fun i hi => by simp [hi]
    unfold keepG at e
    rw [this] at e
    simp at e
structure LvOk (its : List (Int × Int)) (rls : List (Nat × Nat)) (T : List Nat) (lv : List ((Int × Int) × List Nat)) : Prop where
  each : ∀ x ∈ lv, x.1 = avF its x.2 ∧ x.2 ≠ [] ∧ x.2.Pairwise (· < ·) ∧ ∀ i ∈ x.2, i < its.length ∧ i ∉ T
  desc : lv.Pairwise fun x y => avR its y.2 < avR its x.2 ∧ ∀ i ∈ x.2, i ∉ y.2
  cover : ∀ i, i < its.length → i ∈ T ∨ ∃ x ∈ lv, i ∈ x.2
  up : ∀ x ∈ lv, ∀ g ∈ upsets its.length rls, rs (fun i => Wt its i * (Mk its i - avR its x.2)) (g.filter fun i => decide (i ∈ x.2)) ≤ 0
  rule : ∀ q ∈ rls, ∀ x ∈ lv, q.1 ∈ x.2 → q.2 ∈ T ∨ ∃ y ∈ lv, q.2 ∈ y.2 ∧ avR its x.2 ≤ avR its y.2
theorem rs_dev (its : List (Int × Int)) (c : Rat) (g : List Nat) : rs (fun i => Wt its i * (Mk its i - c)) g = rs (fun i => Wt its i * Mk its i) g - c * rs (Wt its) g := by
  rw [← rs_mul, ← rs_sub]
  exact rs_congr fun i _ => by grind
section
variable {its : List (Int × Int)} {rls : List (Nat × Nat)}
theorem avR_mul (ok : PnOk its rls) {g : List Nat} (hi : ∀ i ∈ g, i < its.length) (h : g ≠ []) : rs (fun i => Wt its i * Mk its i) g = avR its g * rs (Wt its) g := by
  have w := ok.wpos hi h
  have n1 : rs (Wt its) g ≠ 0 := fun z => by rw [z] at w; exact absurd w (by decide)
  unfold avR
  grind
theorem lev_ok (ok : PnOk its rls) : ∀ (k : Nat) (T : List Nat) (gs : List (List Nat)), gs.length ≤ k → T ∈ upsets its.length rls → RestOf its.length rls T gs →
    LvOk its rls T (levLoop its k gs) ∧ ∀ B : Rat, (∀ h ∈ gs, avR its h < B) → ∀ x ∈ levLoop its k gs, avR its x.2 < B
  | k, T, [], hk, hT, R => by
    have e : levLoop its k [] = [] := by cases k <;> rfl
    rw [e]
    refine ⟨⟨(fun x hx => nomatch hx), .nil, fun i hi => .inl ?_, (fun x hx => nomatch hx), fun q _ x hx => nomatch hx⟩, fun B _ x hx => nomatch hx⟩
    by_cases z : i ∈ T
    · exact z
    · obtain ⟨t1, t2, t3⟩ := mem_upsets.mp hT
      have full : (List.range its.length).filter (fun _ => true) ∈ upsets its.length rls := range_mem_up _ fun q hq _ => ⟨(ok.rl q hq).2, rfl⟩
      have m : i ∈ restG T ((List.range its.length).filter fun _ => true) := restG_mem.mpr ⟨List.mem_filter.mpr ⟨List.mem_range.mpr hi, rfl⟩, z⟩
      have := (R (restG T ((List.range its.length).filter fun _ => true))).mpr ⟨_, full, fun j hj => List.mem_filter.mpr ⟨List.mem_range.mpr (t1 j hj), rfl⟩, rfl, fun y => by rw [y] at m; exact nomatch m⟩
      exact nomatch this
  | 0, T, g :: gs, hk, _, _ => absurd hk (by rw [List.length_cons]; omega)
  | k + 1, T, g :: gs, hk, hT, R => by
    obtain ⟨ht, hb⟩ := hiG_spec ok (gs := g :: gs) (fun h hh => ⟨fun i hi => ((R.asc hh).2.1 i hi).1, (R.asc hh).2.2⟩) (by simp)
    obtain ⟨top, etop⟩ : ∃ top, top = hiG its (g :: gs) := ⟨_, rfl⟩
    have el : levLoop its (k + 1) (g :: gs) = (avF its top, top) :: levLoop its k (beyond (g :: gs) top) := by rw [etop]; rfl
    rw [← etop] at ht hb
    rw [el]
    obtain ⟨g0, h0, hT0, et, tne⟩ := (R top).mp ht
    have at' := R.asc ht
    have ti : ∀ i ∈ top, i < its.length := fun i hi => (at'.2.1 i hi).1
    have mt : ∀ i, i ∈ g0 ↔ i ∈ T ∨ i ∈ top := fun i => by
      rw [et, restG_mem]
      by_cases z : i ∈ T
      · simp [z, hT0 i z]
      · simp [z]
    have R' := R.step ht h0 hT0 et
    have sh := beyond_short ht
    obtain ⟨L, Bd⟩ := lev_ok ok k g0 (beyond (g :: gs) top) (by omega) h0 R'
    -- what comes after is lower
    have low : ∀ h ∈ beyond (g :: gs) top, avR its h < avR its top := fun h hh => by
      obtain ⟨h', hm, rfl⟩ := List.mem_map.mp hh
      obtain ⟨h1, h2⟩ := List.mem_filter.mp hm
      obtain ⟨k1, k2⟩ := (keep_iff (up_nodup at'.1) (up_nodup (R.asc h1).1)).mp h2
      have ah := R.asc h1
      have hi : ∀ i ∈ h', i < its.length := fun i hi => (ah.2.1 i hi).1
      have ri : ∀ i ∈ restG top h', i < its.length := fun i hi' => hi i (restG_mem.mp hi').1
      have pm : h'.Perm (top ++ restG top h') := (List.perm_ext_iff_of_nodup (up_nodup ah.1) (List.nodup_append.mpr ⟨up_nodup at'.1, up_nodup (restG_asc ah.1), fun a ha b hb z => (restG_mem.mp (z ▸ hb)).2 ha⟩)).mpr fun i => by
        rw [List.mem_append, restG_mem]
        by_cases z : i ∈ top
        · simp [z, k2 i z]
        · simp [z]
      have s1 := rs_perm (fun i => Wt its i * Mk its i) pm
      have s2 := rs_perm (Wt its) pm
      rw [rs_app] at s1 s2
      have a1 := avR_mul ok hi ah.2.2
      have a2 := avR_mul ok ti tne
      have a3 := avR_mul ok ri k1
      have w1 := ok.wpos ti tne
      have w2 := ok.wpos ri k1
      have w3 := ok.wpos hi ah.2.2
      have len := pm.length_eq
      rw [List.length_append] at len
      have l0 := List.length_pos_iff.mpr k1
      have ge := hb h' h1
      rcases Rat.le_total (a := avR its top) (b := avR its (restG top h')) with z | z
      · exfalso
        -- then the greater group were at least as good, and longer
        have m := Rat.mul_le_mul_of_nonneg_right z (Rat.le_of_lt w2)
        have m2 : avR its top * rs (Wt its) h' ≤ avR its h' * rs (Wt its) h' := by
          rw [← a1, s1, s2, a2, a3]
          grind
        have m3 := Rat.le_of_mul_le_mul_right m2 w3
        rcases ge with y | ⟨_, y⟩
        · grind
        · omega
      · by_cases y : avR its (restG top h') = avR its top
        · exfalso
          have m2 : avR its top * rs (Wt its) h' ≤ avR its h' * rs (Wt its) h' := by
            rw [← a1, s1, s2, a2, a3, y]
            grind
          have m3 := Rat.le_of_mul_le_mul_right m2 w3
          rcases ge with x | ⟨_, x⟩
          · grind
          · omega
        · grind
    have tl := Bd (avR its top) low
    refine ⟨⟨fun x hx => ?_, List.pairwise_cons.mpr ⟨fun x hx => ⟨tl x hx, fun i hi => fun hi' => ((L.each x hx).2.2.2 i hi').2 ((mt i).mpr (.inr hi))⟩, L.desc⟩, fun i hi => ?_, fun x hx G hG => ?_, fun q hq x hx h1 => ?_⟩, fun B hB x hx => ?_⟩
    · rcases List.mem_cons.mp hx with rfl | hx
      · exact ⟨rfl, tne, at'.1, at'.2.1⟩
      · obtain ⟨e1, e2, e3, e4⟩ := L.each x hx
        exact ⟨e1, e2, e3, fun i hi => ⟨(e4 i hi).1, fun z => (e4 i hi).2 (hT0 i z)⟩⟩
    · rcases L.cover i hi with z | ⟨x, hx, z⟩
      · rcases (mt i).mp z with y | y
        · exact .inl y
        · exact .inr ⟨_, List.mem_cons_self, y⟩
      · exact .inr ⟨x, List.mem_cons_of_mem _ hx, z⟩
    · rcases List.mem_cons.mp hx with rfl | hx
      · dsimp only
        obtain ⟨G1, G2, G3⟩ := mem_upsets.mp hG
        obtain ⟨_, _, u3⟩ := mem_upsets.mp h0
        obtain ⟨t1, _, t3⟩ := mem_upsets.mp hT
        by_cases ne : (G.filter fun i => decide (i ∈ top)) = []
        · rw [ne, rs_nil]
          exact Rat.le_refl
        · have gm : (List.range its.length).filter (fun i => decide (i ∈ T) || (decide (i ∈ G) && decide (i ∈ g0))) ∈ upsets its.length rls := range_mem_up _ fun q hq h => by
            refine ⟨(ok.rl q hq).2, ?_⟩
            have h : q.1 ∈ T ∨ (q.1 ∈ G ∧ q.1 ∈ g0) := by simpa using h
            have : q.2 ∈ T ∨ (q.2 ∈ G ∧ q.2 ∈ g0) := by
              rcases h with y | ⟨y1, y2⟩
              · exact .inl (t3 q hq y)
              · exact .inr ⟨G3 q hq y1, u3 q hq y2⟩
            simpa using this
          have e : (G.filter fun i => decide (i ∈ top)) = restG T ((List.range its.length).filter fun i => decide (i ∈ T) || (decide (i ∈ G) && decide (i ∈ g0))) := by
            refine asc_ext (G2.filter _) (restG_asc (List.pairwise_lt_range.filter _)) fun i => ?_
            rw [restG_mem, List.mem_filter, List.mem_filter, List.mem_range]
            have m := mt i
            have a1 := G1 i
            have a2 := ti i
            have a3 := fun y => (at'.2.1 i y).2
            simp only [decide_eq_true_eq, Bool.or_eq_true, Bool.and_eq_true]
            constructor
            · rintro ⟨y1, y2⟩
              exact ⟨⟨a1 y1, .inr ⟨y1, m.mpr (.inr y2)⟩⟩, a3 y2⟩
            · rintro ⟨⟨y1, y2 | ⟨y2, y3⟩⟩, y4⟩
              · exact absurd y2 y4
              · exact ⟨y2, (m.mp y3).resolve_left y4⟩
          have mem : (G.filter fun i => decide (i ∈ top)) ∈ g :: gs := (R _).mpr ⟨_, gm, fun i hi => List.mem_filter.mpr ⟨List.mem_range.mpr (t1 i hi), by simp [hi]⟩, e, ne⟩
          have ge := hb _ mem
          have fi : ∀ i ∈ G.filter (fun i => decide (i ∈ top)), i < its.length := fun i hi => G1 i (List.mem_filter.mp hi).1
          rw [rs_dev, avR_mul ok fi ne]
          have w := ok.wpos fi ne
          have le : avR its (G.filter fun i => decide (i ∈ top)) ≤ avR its top := by
            rcases ge with y | ⟨y, _⟩
            · exact Rat.le_of_lt y
            · rw [y]
              exact Rat.le_refl
          have := Rat.mul_le_mul_of_nonneg_right le (Rat.le_of_lt w)
          grind
      · exact L.up x hx G hG
    · rcases List.mem_cons.mp hx with rfl | hx
      · obtain ⟨_, _, u3⟩ := mem_upsets.mp h0
        rcases (mt q.2).mp (u3 q hq ((mt q.1).mpr (.inr h1))) with y | y
        · exact .inl y
        · exact .inr ⟨_, List.mem_cons_self, y, Rat.le_refl⟩
      · rcases L.rule q hq x hx h1 with y | ⟨y, hy, y1, y2⟩
        · rcases (mt q.2).mp y with z | z
          · exact .inl z
          · exact .inr ⟨_, List.mem_cons_self, z, Rat.le_of_lt (tl x hx)⟩
        · exact .inr ⟨y, List.mem_cons_of_mem _ hy, y1, y2⟩
    · have b1 := hB top ht
      rcases List.mem_cons.mp hx with rfl | hx
      · exact b1
      · have := tl x hx
        grind
theorem levD_ok (ok : PnOk its rls) : LvOk its rls [] (levD its rls) :=
  (lev_ok ok _ [] (ups1 its.length rls) (Nat.le_refl _) (mem_upsets.mpr ⟨(fun i hi => nomatch hi), .nil, fun q _ h => nomatch h⟩) (RestOf.first _ _)).1
end
end PM

namespace PM
open PySem PySem.Spec PyProof.Rows L2 RZ
/-! ### the rating that levels make -/
def ratL (lv : List ((Int × Int) × List Nat)) (i : Nat) : Int × Int := ((lv.find? fun x => decide (i ∈ x.2)).map (·.1)).getD (0, 1)
def bestF (its : List (Int × Int)) (rls : List (Nat × Nat)) : List (Int × Int) := (List.range its.length).map (ratL (levD its rls))
def bestR (its : List (Int × Int)) (rls : List (Nat × Nat)) (i : Nat) : Rat := Fr.val (ratL (levD its rls) i)
section
variable {its : List (Int × Int)} {rls : List (Nat × Nat)}
theorem find_lv {T : List Nat} : ∀ {lv : List ((Int × Int) × List Nat)} {x : (Int × Int) × List Nat} {i : Nat}, lv.Pairwise (fun x y => avR its y.2 < avR its x.2 ∧ ∀ i ∈ x.2, i ∉ y.2) → x ∈ lv → i ∈ x.2 → lv.find? (fun x => decide (i ∈ x.2)) = some x
  | [], x, i, _, h, _ => nomatch h
  | y :: lv, x, i, hp, h, hi => by
    obtain ⟨p1, p2⟩ := List.pairwise_cons.mp hp
    rcases List.mem_cons.mp h with rfl | h
    · exact List.find?_cons_of_pos (by simpa using hi)
    · rw [List.find?_cons_of_neg (by simpa using fun z => (p1 x h).2 i z hi)]
      exact find_lv (T := T) p2 h hi
theorem LvOk.rat {lv : List ((Int × Int) × List Nat)} (L : LvOk its rls [] lv) {x : (Int × Int) × List Nat} {i : Nat} (hx : x ∈ lv) (hi : i ∈ x.2) : ratL lv i = x.1 := by
  unfold ratL
  rw [find_lv (T := []) L.desc hx hi]
  rfl
theorem LvOk.at {lv : List ((Int × Int) × List Nat)} (L : LvOk its rls [] lv) {i : Nat} (hi : i < its.length) : ∃ x ∈ lv, i ∈ x.2 := (L.cover i hi).resolve_left fun h => nomatch h
theorem LvOk.vals (ok : PnOk its rls) {lv : List ((Int × Int) × List Nat)} (L : LvOk its rls [] lv) {x : (Int × Int) × List Nat} (hx : x ∈ lv) : Fr.IsF x.1 ∧ Fr.val x.1 = avR its x.2 := by
  obtain ⟨e1, e2, e3, e4⟩ := L.each x hx
  have := avF_val ok (fun i hi => (e4 i hi).1) e2
  rw [e1]
  exact this
/-- each item of a group is in one of the levels -/
theorem rs_parts (f : Nat → Rat) : ∀ (lv : List ((Int × Int) × List Nat)) (g : List Nat), lv.Pairwise (fun x y => ∀ i ∈ x.2, i ∉ y.2) → (∀ i ∈ g, ∃ x ∈ lv, i ∈ x.2) → rs f g = (lv.map fun x => rs f (g.filter fun i => decide (i ∈ x.2))).sum
  | [], g, _, h => by
    cases g with
    | nil => rfl
    | cons i g =>
      obtain ⟨x, hx, _⟩ := h i List.mem_cons_self
      exact nomatch hx
  | x :: lv, g, hp, h => by
    obtain ⟨p1, p2⟩ := List.pairwise_cons.mp hp
    have ih := rs_parts f lv (g.filter fun i => !decide (i ∈ x.2)) p2 fun i hi => by
      obtain ⟨h1, h2⟩ := List.mem_filter.mp hi
      obtain ⟨y, hy, h3⟩ := h i h1
      rcases List.mem_cons.mp hy with rfl | hy
      · simp [h3] at h2
      · exact ⟨y, hy, h3⟩
    rw [List.map_cons, List.sum_cons, ← rs_split f (fun i => decide (i ∈ x.2)) g, ih]
    congr 2
    refine List.map_congr_left fun y hy => ?_
    rw [filter_filter']
    congr 1
    refine List.filter_congr fun i _ => ?_
    by_cases z : i ∈ y.2
    · have : i ∉ x.2 := fun w => p1 y hy i w z
      simp [z, this]
    · simp [z]
theorem lv_inj : ∀ {lv : List ((Int × Int) × List Nat)} {x y : (Int × Int) × List Nat}, lv.Pairwise (fun x y => avR its y.2 < avR its x.2 ∧ ∀ i ∈ x.2, i ∉ y.2) → x ∈ lv → y ∈ lv → avR its x.2 = avR its y.2 → x = y
  | [], x, y, _, h, _, _ => nomatch h
  | z :: lv, x, y, hp, hx, hy, e => by
    obtain ⟨p1, p2⟩ := List.pairwise_cons.mp hp
    rcases List.mem_cons.mp hx with e1 | h1 <;> rcases List.mem_cons.mp hy with e2 | h2
    · rw [e1, e2]
    · subst e1
      have := (p1 y h2).1
      rw [e] at this
      exact absurd this (Rat.lt_irrefl)
    · subst e2
      have := (p1 x h1).1
      rw [e] at this
      exact absurd this (Rat.lt_irrefl)
    · exact lv_inj p2 h1 h2 e
theorem LvOk.best (ok : PnOk its rls) {lv : List ((Int × Int) × List Nat)} (L : LvOk its rls [] lv) : Best its rls fun i => Fr.val (ratL lv i) where
  obey := fun q hq => by
    obtain ⟨x, hx, h1⟩ := L.at (ok.rl q hq).1
    rcases L.rule q hq x hx h1 with z | ⟨y, hy, h2, h3⟩
    · exact nomatch z
    · show Fr.val (ratL lv q.1) ≤ Fr.val (ratL lv q.2)
      rw [L.rat hx h1, L.rat hy h2, (L.vals ok hx).2, (L.vals ok hy).2]
      exact h3
  up := fun g hg => by
    obtain ⟨g1, _, _⟩ := mem_upsets.mp hg
    rw [rs_parts _ lv g (L.desc.imp fun {a b} h => h.2) fun i hi => L.at (g1 i hi)]
    refine sum_le0 fun r hr => ?_
    obtain ⟨x, hx, rfl⟩ := List.mem_map.mp hr
    have := L.up x hx g hg
    rw [← rs_congr (f := Fo its fun i => Fr.val (ratL lv i)) fun i hi => ?_] at this
    · exact this
    · have hi : i ∈ x.2 := by simpa using (List.mem_filter.mp hi).2
      show Wt its i * (Mk its i - Fr.val (ratL lv i)) = _
      rw [L.rat hx hi, (L.vals ok hx).2]
  lev := fun c => by
    by_cases ex : ∃ x ∈ lv, Fr.val x.1 = c
    · obtain ⟨x, hx, hc⟩ := ex
      obtain ⟨e1, e2, e3, e4⟩ := L.each x hx
      have xi : ∀ i ∈ x.2, i < its.length := fun i hi => (e4 i hi).1
      have e : (List.range its.length).filter (fun i => decide (Fr.val (ratL lv i) = c)) = x.2 := by
        refine asc_ext (List.pairwise_lt_range.filter _) e3 fun i => ?_
        rw [List.mem_filter, List.mem_range, decide_eq_true_eq]
        constructor
        · rintro ⟨h1, h2⟩
          obtain ⟨y, hy, h3⟩ := L.at h1
          rw [L.rat hy h3, (L.vals ok hy).2, ← hc, (L.vals ok hx).2] at h2
          by_cases z : y = x
          · exact z ▸ h3
          · exfalso
            exact z (lv_inj L.desc hy hx h2)
        · intro h
          exact ⟨xi i h, by rw [L.rat hx h]; exact hc⟩
      rw [e, rs_congr (h := fun i => Wt its i * (Mk its i - avR its x.2)) fun i hi => by show Wt its i * (Mk its i - Fr.val (ratL lv i)) = _; rw [L.rat hx hi, (L.vals ok hx).2], rs_dev, avR_mul ok xi e2]
      grind
    · have e : (List.range its.length).filter (fun i => decide (Fr.val (ratL lv i) = c)) = [] := List.filter_eq_nil_iff.mpr fun i hi => by
        obtain ⟨x, hx, h1⟩ := L.at (List.mem_range.mp hi)
        rw [L.rat hx h1]
        simpa using fun z => ex ⟨x, hx, z⟩
      rw [e, rs_nil]
theorem best_ok (ok : PnOk its rls) : Best its rls (bestR its rls) := (levD_ok ok).best ok
theorem ratL_isF (ok : PnOk its rls) {i : Nat} (hi : i < its.length) : Fr.IsF (ratL (levD its rls) i) := by
  have L := levD_ok ok
  obtain ⟨x, hx, h1⟩ := L.at hi
  rw [L.rat hx h1]
  exact (L.vals ok hx).1
/-- a rating that is known to be the best one is what comes out -/
theorem bestF_eq (ok : PnOk its rls) {r : Nat → Int × Int} (hf : ∀ i, i < its.length → Fr.IsF (r i)) (b : Best its rls fun i => Fr.val (r i)) : bestF its rls = (List.range its.length).map r := by
  unfold bestF
  refine List.map_congr_left fun i hi => ?_
  have hi := List.mem_range.mp hi
  exact Fr.val_inj (ratL_isF ok hi) (hf i hi) ((best_ok ok).uniq b ok i hi)
end
theorem PanOk.wide {most : Nat} {its : List (Int × Int)} {rls : List (Nat × Nat)} (h : PanOk most its rls) : Wide its := fun q hq => ⟨by have := h.mrk q hq; omega, (h.wt q hq).1, by have := h.wt q hq; omega⟩
theorem PanOk.pn {most : Nat} {its : List (Int × Int)} {rls : List (Nat × Nat)} (h : PanOk most its rls) : PnOk its rls := ⟨fun q hq => (h.wt q hq).1, fun q hq => ⟨(h.rl q hq).1, (h.rl q hq).2.1⟩⟩
theorem bestF_len (its : List (Int × Int)) (rls : List (Nat × Nat)) : (bestF its rls).length = its.length := by
  unfold bestF
  rw [List.length_map, List.length_range]
/-! ### how many levels, how great their values -/
theorem levLoop_len (its : List (Int × Int)) : ∀ (k : Nat) (gs : List (List Nat)), (levLoop its k gs).length ≤ k
  | 0, _ => Nat.le_refl _
  | k + 1, [] => Nat.zero_le _
  | k + 1, g :: gs => Nat.succ_le_succ (levLoop_len its k _)
theorem levD_len {its : List (Int × Int)} {rls : List (Nat × Nat)} (h : its.length ≤ 10) : (levD its rls).length ≤ 1024 := by
  refine Nat.le_trans (levLoop_len _ _ _) (Nat.le_trans (List.length_filter_le _ _) (Nat.le_trans (upsets_len _ _) ?_))
  exact Nat.le_trans (Nat.pow_le_pow_right (by decide) h) (by decide)
def lvD (x : (Int × Int) × List Nat) : PyData := .tuple [fd x.1, grD x.2]
/-! ### a dict and its values -/
theorem valD_snoc (k j : Int) (d : PyData) : ∀ kvs : List (Int × PyData), (kvs.any fun kv => decide (kv.1 = k)) = false → valD (kvs ++ [(k, d)]) j = if j = k then some d else valD kvs j
  | [], _ => by
    unfold valD
    by_cases e : j = k
    · rw [if_pos e]
      simp [e]
    · rw [if_neg e]
      have e' : ¬ k = j := fun z => e z.symm
      simp [e']
  | p :: r, h => by
    rw [List.any_cons, Bool.or_eq_false_iff] at h
    have ih := valD_snoc k j d r h.2
    have hp : p.1 ≠ k := of_decide_eq_false h.1
    unfold valD at ih ⊢
    rw [List.cons_append]
    by_cases e : p.1 = j
    · rw [List.find?_cons_of_pos (by simpa using e), List.find?_cons_of_pos (by simpa using e), if_neg (fun z => hp (e.trans z))]
    · rw [List.find?_cons_of_neg (by simpa using e), List.find?_cons_of_neg (by simpa using e)]
      exact ih
theorem valD_map (k j : Int) (d : PyData) : ∀ kvs : List (Int × PyData), valD (kvs.map fun kv => if kv.1 = k then (kv.1, d) else kv) j = (valD kvs j).map fun x => if j = k then d else x
  | [] => rfl
  | p :: r => by
    have ih := valD_map k j d r
    unfold valD at ih ⊢
    rw [List.map_cons]
    by_cases h : p.1 = k
    · rw [if_pos h]
      by_cases e : p.1 = j
      · rw [List.find?_cons_of_pos (by simpa using e), List.find?_cons_of_pos (by simpa using e)]
        simp [e.symm.trans h]
      · rw [List.find?_cons_of_neg (by simpa using e), List.find?_cons_of_neg (by simpa using e)]
        exact ih
    · rw [if_neg h]
      by_cases e : p.1 = j
      · rw [List.find?_cons_of_pos (by simpa using e), List.find?_cons_of_pos (by simpa using e)]
        have e' : ¬ j = k := fun z => h (e.trans z)
        simp [e']
      · rw [List.find?_cons_of_neg (by simpa using e), List.find?_cons_of_neg (by simpa using e)]
        exact ih
theorem valD_any {kvs : List (Int × PyData)} {k : Int} : (kvs.any fun kv => decide (kv.1 = k)) = (valD kvs k).isSome := by
  unfold valD
  rw [Option.isSome_map]
  induction kvs with
  | nil => rfl
  | cons p r ih =>
    rw [List.any_cons]
    by_cases e : p.1 = k
    · rw [List.find?_cons_of_pos (by simpa using e)]
      simp [e]
    · rw [List.find?_cons_of_neg (by simpa using e), ← ih]
      simp [e]
theorem valD_put (kvs : List (Int × PyData)) (k j : Int) (d : PyData) : valD (putD kvs k d) j = if j = k then some d else valD kvs j := by
  unfold putD
  by_cases h : (kvs.any fun kv => decide (kv.1 = k)) = true
  · rw [if_pos h, valD_map]
    by_cases e : j = k
    · rw [if_pos e]
      rw [valD_any] at h
      rw [e]
      obtain ⟨x, hx⟩ := Option.isSome_iff_exists.mp h
      rw [hx]
      simp
    · rw [if_neg e]
      cases valD kvs j <;> simp [e]
  · rw [if_neg h, valD_snoc _ _ _ _ (Bool.not_eq_true _ ▸ h)]
theorem putD_len (kvs : List (Int × PyData)) (k : Int) (d : PyData) : (putD kvs k d).length ≤ kvs.length + 1 := by
  unfold putD
  split
  · rw [List.length_map]
    omega
  · rw [List.length_append]
    exact Nat.le_refl _
end PM

namespace PM
/-! ### the best rating by averages of closed groups -/
def turn (rls : List (Nat × Nat)) : List (Nat × Nat) := rls.map fun q => (q.2, q.1)
theorem mem_turn {rls : List (Nat × Nat)} {a b : Nat} : (a, b) ∈ turn rls ↔ (b, a) ∈ rls := by
  unfold turn
  rw [List.mem_map]
  constructor
  · rintro ⟨⟨x, y⟩, h, e⟩
    cases e
    exact h
  · intro h
    exact ⟨(b, a), h, rfl⟩
theorem mem_dn {n : Nat} {rls : List (Nat × Nat)} {g : List Nat} : g ∈ upsets n (turn rls) ↔ (∀ i ∈ g, i < n) ∧ g.Pairwise (· < ·) ∧ ∀ q ∈ rls, q.2 ∈ g → q.1 ∈ g := by
  rw [mem_upsets]
  refine and_congr Iff.rfl (and_congr Iff.rfl ⟨fun h q hq => h (q.2, q.1) (mem_turn.mpr hq), fun h q hq => ?_⟩)
  obtain ⟨a, b⟩ := q
  exact h (b, a) (mem_turn.mp hq)
theorem rs_filter (f : Nat → Rat) (p : Nat → Bool) (L : List Nat) : rs f (L.filter p) = rs (fun i => f i * (if p i = true then 1 else 0)) L := by
  induction L with
  | nil => rfl
  | cons i L ih =>
    rw [rs_cons]
    cases h : p i with
    | true => rw [List.filter_cons_of_pos h, rs_cons, ih, if_pos rfl]; grind
    | false => rw [List.filter_cons_of_neg (by rw [h]; decide), ih, if_neg (by decide)]; grind
section
variable {its : List (Int × Int)} {rls : List (Nat × Nat)} {r : Nat → Rat}
theorem Best.cut0 (b : Best its rls r) (p : Rat → Bool) : rs (Fo its r) ((List.range its.length).filter fun j => p (r j)) = 0 := by
  rw [rs_filter]
  exact by_levels (f := Fo its r) (s := r) (fun x => if p x = true then 1 else 0) _ (List.range its.length) (Nat.le_refl _) b.lev
theorem avR_of (ok : PnOk its rls) {g : List Nat} (hi : ∀ i ∈ g, i < its.length) (ne : g ≠ []) (c : Rat) : (0 ≤ rs (fun j => Wt its j * (Mk its j - c)) g → c ≤ avR its g) ∧ (rs (fun j => Wt its j * (Mk its j - c)) g ≤ 0 → avR its g ≤ c) := by
  have w := ok.wpos hi ne
  rw [rs_dev, avR_mul ok hi ne]
  refine ⟨fun h => ?_, fun h => ?_⟩
  · exact Rat.le_of_mul_le_mul_right (c := rs (Wt its) g) (by grind) w
  · exact Rat.le_of_mul_le_mul_right (c := rs (Wt its) g) (by grind) w
theorem Best.max_ge (b : Best its rls r) (ok : PnOk its rls) {i : Nat} (hi : i < its.length) {D : List Nat} (hD : ∀ q ∈ rls, q.2 ∈ D → q.1 ∈ D) (iD : i ∈ D) : r i ≤ avR its (((List.range its.length).filter fun j => decide (r i ≤ r j)).filter fun j => decide (j ∈ D)) := by
  have gi : ∀ j ∈ ((List.range its.length).filter fun j => decide (r i ≤ r j)).filter (fun j => decide (j ∈ D)), j < its.length ∧ r i ≤ r j := fun j hj => by
    obtain ⟨h1, h2⟩ := List.mem_filter.mp hj
    obtain ⟨h3, h4⟩ := List.mem_filter.mp h1
    exact ⟨List.mem_range.mp h3, of_decide_eq_true h4⟩
  have ne : ((List.range its.length).filter fun j => decide (r i ≤ r j)).filter (fun j => decide (j ∈ D)) ≠ [] := fun z => by
    have : i ∈ ((List.range its.length).filter fun j => decide (r i ≤ r j)).filter (fun j => decide (j ∈ D)) := List.mem_filter.mpr ⟨List.mem_filter.mpr ⟨List.mem_range.mpr hi, decide_eq_true Rat.le_refl⟩, decide_eq_true iD⟩
    rw [z] at this
    exact nomatch this
  refine (avR_of ok (fun j hj => (gi j hj).1) ne (r i)).1 ?_
  have e : rs (fun j => Wt its j * (Mk its j - r i)) (((List.range its.length).filter fun j => decide (r i ≤ r j)).filter fun j => decide (j ∈ D)) = rs (Fo its r) (((List.range its.length).filter fun j => decide (r i ≤ r j)).filter fun j => decide (j ∈ D)) + rs (fun j => Wt its j * (r j - r i)) (((List.range its.length).filter fun j => decide (r i ≤ r j)).filter fun j => decide (j ∈ D)) := by
    rw [← rs_add]
    exact rs_congr fun j _ => by unfold Fo; grind
  have nn : 0 ≤ rs (fun j => Wt its j * (r j - r i)) (((List.range its.length).filter fun j => decide (r i ≤ r j)).filter fun j => decide (j ∈ D)) := rs_nonneg fun j hj => by
    obtain ⟨h1, h2⟩ := gi j hj
    exact Rat.mul_nonneg (Rat.le_of_lt (ok.pos h1)) (by grind)
  have s := rs_split (Fo its r) (fun j => decide (j ∈ D)) ((List.range its.length).filter fun j => decide (r i ≤ r j))
  rw [b.cut0 fun x => decide (r i ≤ x)] at s
  have up : rs (Fo its r) (((List.range its.length).filter fun j => decide (r i ≤ r j)).filter fun j => !decide (j ∈ D)) ≤ 0 := by
    rw [filter_filter']
    refine b.up _ (range_mem_up _ fun q hq h => ⟨(ok.rl q hq).2, ?_⟩)
    obtain ⟨h1, h2⟩ := Bool.and_eq_true_iff.mp h
    have h1 : q.1 ∉ D := by simpa using h1
    refine Bool.and_eq_true_iff.mpr ⟨by simpa using fun z => h1 (hD q hq z), decide_eq_true (Rat.le_trans (of_decide_eq_true h2) (b.obey q hq))⟩
  rw [e]
  grind
theorem Best.min_le (b : Best its rls r) (ok : PnOk its rls) {i : Nat} (hi : i < its.length) {U : List Nat} (hU : U ∈ upsets its.length rls) (iU : i ∈ U) : avR its (U.filter fun j => decide (j ∈ (List.range its.length).filter fun j => decide (r j ≤ r i))) ≤ r i := by
  obtain ⟨u1, u2, u3⟩ := mem_upsets.mp hU
  have gi : ∀ j, j ∈ U.filter (fun j => decide (j ∈ (List.range its.length).filter fun j => decide (r j ≤ r i))) ↔ j ∈ U ∧ r j ≤ r i := fun j => by
    rw [List.mem_filter, decide_eq_true_eq, List.mem_filter, List.mem_range, decide_eq_true_eq]
    exact ⟨fun h => ⟨h.1, h.2.2⟩, fun h => ⟨h.1, u1 j h.1, h.2⟩⟩
  have ne : U.filter (fun j => decide (j ∈ (List.range its.length).filter fun j => decide (r j ≤ r i))) ≠ [] := fun z => by
    have := (gi i).mpr ⟨iU, Rat.le_refl⟩
    rw [z] at this
    exact nomatch this
  refine (avR_of ok (fun j hj => u1 j ((gi j).mp hj).1) ne (r i)).2 ?_
  have e : rs (fun j => Wt its j * (Mk its j - r i)) (U.filter fun j => decide (j ∈ (List.range its.length).filter fun j => decide (r j ≤ r i))) = rs (Fo its r) (U.filter fun j => decide (j ∈ (List.range its.length).filter fun j => decide (r j ≤ r i))) - rs (fun j => Wt its j * (r i - r j)) (U.filter fun j => decide (j ∈ (List.range its.length).filter fun j => decide (r j ≤ r i))) := by
    rw [← rs_sub]
    exact rs_congr fun j _ => by unfold Fo; grind
  have nn : 0 ≤ rs (fun j => Wt its j * (r i - r j)) (U.filter fun j => decide (j ∈ (List.range its.length).filter fun j => decide (r j ≤ r i))) := rs_nonneg fun j hj => by
    obtain ⟨h1, h2⟩ := (gi j).mp hj
    exact Rat.mul_nonneg (Rat.le_of_lt (ok.pos (u1 j h1))) (by grind)
  have s := rs_split (Fo its r) (fun j => decide (r i < r j)) ((List.range its.length).filter fun j => decide (j ∈ U) || decide (r i < r j))
  have V : rs (Fo its r) ((List.range its.length).filter fun j => decide (j ∈ U) || decide (r i < r j)) ≤ 0 := b.up _ (range_mem_up _ fun q hq h => ⟨(ok.rl q hq).2, by
    rcases Bool.or_eq_true_iff.mp h with h | h
    · exact Bool.or_eq_true_iff.mpr (.inl (decide_eq_true (u3 q hq (of_decide_eq_true h))))
    · exact Bool.or_eq_true_iff.mpr (.inr (decide_eq_true (Std.lt_of_lt_of_le (of_decide_eq_true h) (b.obey q hq))))⟩)
  have e1 : (((List.range its.length).filter fun j => decide (j ∈ U) || decide (r i < r j)).filter fun j => decide (r i < r j)) = (List.range its.length).filter fun j => decide (r i < r j) := by
    rw [filter_filter']
    refine List.filter_congr fun j _ => ?_
    cases decide (r i < r j) <;> simp
  have e2 : (((List.range its.length).filter fun j => decide (j ∈ U) || decide (r i < r j)).filter fun j => !decide (r i < r j)) = U.filter fun j => decide (j ∈ (List.range its.length).filter fun j => decide (r j ≤ r i)) := by
    refine asc_ext ((List.pairwise_lt_range.filter _).filter _) (u2.filter _) fun j => ?_
    rw [gi j, List.mem_filter, List.mem_filter, List.mem_range]
    constructor
    · rintro ⟨⟨h1, h2⟩, h3⟩
      have h3 : ¬ r i < r j := by simpa using h3
      rcases Bool.or_eq_true_iff.mp h2 with h | h
      · exact ⟨of_decide_eq_true h, by grind⟩
      · exact absurd (of_decide_eq_true h) h3
    · rintro ⟨h1, h2⟩
      have h3 : ¬ r i < r j := by grind
      exact ⟨⟨u1 j h1, by simp [h1]⟩, by simpa using h3⟩
  rw [e1, e2, b.cut0 fun x => decide (r i < x)] at s
  rw [e]
  grind
end
/-! ### the least of some, the greatest of the least -/
section
variable (A : List Nat → List Nat → Rat)
def LeastOf (U : List Nat) (done : List (List Nat)) (o : Option (Int × Int)) : Prop := (done = [] ∧ o = none) ∨ ∃ x, o = some x ∧ Fr.IsF x ∧ Fr.Sz 110 x ∧ (∃ D ∈ done, Fr.val x = A U D) ∧ ∀ D ∈ done, Fr.val x ≤ A U D
def GreatOf (downs done : List (List Nat)) (o : Option (Int × Int)) : Prop := (done = [] ∧ o = none) ∨ ∃ x, o = some x ∧ Fr.IsF x ∧ Fr.Sz 110 x ∧ (∃ U ∈ done, ∀ D ∈ downs, Fr.val x ≤ A U D) ∧ ∀ U ∈ done, ∃ D ∈ downs, A U D ≤ Fr.val x
variable {A}
theorem LeastOf.take {U : List Nat} {done : List (List Nat)} {o : Option (Int × Int)} {D : List Nat} {y : Int × Int} (h : LeastOf A U done o) (fy : Fr.IsF y) (sy : Fr.Sz 110 y) (vy : Fr.val y = A U D) (lt : ∀ x, o = some x → Fr.val y < Fr.val x) : LeastOf A U (done ++ [D]) (some y) := by
  refine .inr ⟨y, rfl, fy, sy, ⟨D, by simp, vy⟩, fun E hE => ?_⟩
  rcases List.mem_append.mp hE with hE | hE
  · rcases h with ⟨h, _⟩ | ⟨x, e, _, _, _, h⟩
    · rw [h] at hE
      exact nomatch hE
    · exact Rat.le_trans (Rat.le_of_lt (lt x e)) (h E hE)
  · rw [List.mem_singleton.mp hE, vy]
    exact Rat.le_refl
theorem LeastOf.leave {U : List Nat} {done : List (List Nat)} {x : Int × Int} {D : List Nat} {y : Int × Int} (h : LeastOf A U done (some x)) (vy : Fr.val y = A U D) (lt : ¬ Fr.val y < Fr.val x) : LeastOf A U (done ++ [D]) (some x) := by
  rcases h with ⟨_, h⟩ | ⟨x', e, fx, sx, ⟨D0, h0, v0⟩, h⟩
  · cases h
  · cases e
    refine .inr ⟨x, rfl, fx, sx, ⟨D0, by simp [h0], v0⟩, fun E hE => ?_⟩
    rcases List.mem_append.mp hE with hE | hE
    · exact h E hE
    · rw [List.mem_singleton.mp hE, ← vy]
      grind
theorem GreatOf.take {downs done : List (List Nat)} {o : Option (Int × Int)} {U : List Nat} {y : Int × Int} (h : GreatOf A downs done o) (fy : Fr.IsF y) (sy : Fr.Sz 110 y) (ly : LeastOf A U downs (some y)) (lt : ∀ x, o = some x → Fr.val x < Fr.val y) : GreatOf A downs (done ++ [U]) (some y) := by
  rcases ly with ⟨_, ly⟩ | ⟨y', e, _, _, ⟨D0, hD0, v0⟩, ly⟩
  · cases ly
  · cases e
    refine .inr ⟨y, rfl, fy, sy, ⟨U, by simp, ly⟩, fun V hV => ?_⟩
    rcases List.mem_append.mp hV with hV | hV
    · rcases h with ⟨h, _⟩ | ⟨x, e, _, _, _, h⟩
      · rw [h] at hV
        exact nomatch hV
      · obtain ⟨D, hD, z⟩ := h V hV
        exact ⟨D, hD, Rat.le_trans z (Rat.le_of_lt (lt x e))⟩
    · rw [List.mem_singleton.mp hV]
      exact ⟨D0, hD0, by rw [v0]; exact Rat.le_refl⟩
theorem GreatOf.leave {downs done : List (List Nat)} {x : Int × Int} {U : List Nat} {y : Int × Int} (h : GreatOf A downs done (some x)) (ly : LeastOf A U downs (some y)) (lt : ¬ Fr.val x < Fr.val y) : GreatOf A downs (done ++ [U]) (some x) := by
  rcases ly with ⟨_, ly⟩ | ⟨y', e, _, _, ⟨D0, hD0, v0⟩, ly⟩
  · cases ly
  · cases e
    rcases h with ⟨_, h⟩ | ⟨x', e, fx, sx, ⟨U0, h0, v0'⟩, h⟩
    · cases h
    · cases e
      refine .inr ⟨x, rfl, fx, sx, ⟨U0, by simp [h0], v0'⟩, fun V hV => ?_⟩
      rcases List.mem_append.mp hV with hV | hV
      · exact h V hV
      · rw [List.mem_singleton.mp hV]
        exact ⟨D0, hD0, by grind⟩
end
/-- the items that two groups have in common -/
abbrev capA (its : List (Int × Int)) (U D : List Nat) : Rat := avR its (U.filter fun j => decide (j ∈ D))
/-- what the search through all closed groups finds -/
theorem great_val {its : List (Int × Int)} {rls : List (Nat × Nat)} {r : Nat → Rat} (b : Best its rls r) (ok : PnOk its rls) {i : Nat} (hi : i < its.length) {x : Int × Int} (h : GreatOf (capA its) ((upsets its.length (turn rls)).filter fun g => decide (i ∈ g)) ((upsets its.length rls).filter fun g => decide (i ∈ g)) (some x)) : Fr.val x = r i := by
  rcases h with ⟨_, h⟩ | ⟨x', e, fx, _, ⟨U, hU, h1⟩, h2⟩
  · cases h
  · cases e
    obtain ⟨u1, u2⟩ := List.mem_filter.mp hU
    have mi : ∀ p : Nat → Bool, p i = true → decide (i ∈ (List.range its.length).filter p) = true := fun p h => decide_eq_true (List.mem_filter.mpr ⟨List.mem_range.mpr hi, h⟩)
    have dm0 : (List.range its.length).filter (fun j => decide (r j ≤ r i)) ∈ upsets its.length (turn rls) := range_mem_up (fun j => decide (r j ≤ r i)) fun q hq h => by
      have hq : (q.2, q.1) ∈ rls := mem_turn.mp hq
      exact ⟨(ok.rl _ hq).1, decide_eq_true (Rat.le_trans (b.obey _ hq) (of_decide_eq_true h))⟩
    have um0 : (List.range its.length).filter (fun j => decide (r i ≤ r j)) ∈ upsets its.length rls := range_mem_up (fun j => decide (r i ≤ r j)) fun q hq h => ⟨(ok.rl _ hq).2, decide_eq_true (Rat.le_trans (of_decide_eq_true h) (b.obey _ hq))⟩
    have dm := (List.mem_filter (p := fun g => decide (i ∈ g))).mpr ⟨dm0, mi _ (decide_eq_true Rat.le_refl)⟩
    have um := (List.mem_filter (p := fun g => decide (i ∈ g))).mpr ⟨um0, mi _ (decide_eq_true Rat.le_refl)⟩
    have le : Fr.val x ≤ r i := Rat.le_trans (h1 _ dm) (b.min_le ok hi u1 (of_decide_eq_true u2))
    obtain ⟨D, hD, h3⟩ := h2 _ um
    obtain ⟨d1, d2⟩ := List.mem_filter.mp hD
    have ge : r i ≤ Fr.val x := Rat.le_trans (b.max_ge ok hi (mem_dn.mp d1).2.2 (of_decide_eq_true d2)) h3
    exact Rat.le_antisymm le ge
theorem great_best {its : List (Int × Int)} {rls : List (Nat × Nat)} (ok : PnOk its rls) {i : Nat} (hi : i < its.length) {x : Int × Int} (h : GreatOf (capA its) ((upsets its.length (turn rls)).filter fun g => decide (i ∈ g)) ((upsets its.length rls).filter fun g => decide (i ∈ g)) (some x)) : x = ratL (levD its rls) i := by
  have fx : Fr.IsF x := by
    rcases h with ⟨_, h⟩ | ⟨x', e, fx, _⟩
    · cases h
    · cases e
      exact fx
  exact Fr.val_inj fx (ratL_isF ok hi) (great_val (best_ok ok) ok hi h)
/-- None or a fraction -/
def oD : Option (Int × Int) → PySem.PyData
  | none => .none
  | some x => fd x
theorem isN_oD (o : Option (Int × Int)) : isN (.d (oD o)) = o.isNone := by cases o <;> rfl
end PM

namespace PM
/-! ### surpluses over a threshold -/
/-- the surplus of a group over a threshold, times the threshold's denominator -/
def srp (its : List (Int × Int)) (x : Int × Int) (g : List Nat) : Int := (g.map fun i => (itm its i).2 * ((itm its i).1 * x.2 - x.1)).sum
def SpR (its : List (Int × Int)) (c : Rat) (g : List Nat) : Rat := rs (fun i => Wt its i * (Mk its i - c)) g
section
variable {its : List (Int × Int)} {rls : List (Nat × Nat)} {r : Nat → Rat}
theorem srp_cast {x : Int × Int} (hx : 0 < x.2) : ∀ g : List Nat, ((srp its x g : Int) : Rat) = (x.2 : Rat) * SpR its (Fr.val x) g
  | [] => by
    show ((0 : Int) : Rat) = _
    unfold SpR
    rw [rs_nil]
    simp
  | i :: g => by
    have ih := srp_cast hx g
    have e : srp its x (i :: g) = (itm its i).2 * ((itm its i).1 * x.2 - x.1) + srp its x g := by
      unfold srp
      rw [List.map_cons, List.sum_cons]
    have q : SpR its (Fr.val x) (i :: g) = Wt its i * (Mk its i - Fr.val x) + SpR its (Fr.val x) g := rs_cons _ _ _
    have hx' : (x.2 : Rat) ≠ 0 := Fr.cast_ne (by omega)
    rw [e, q, Rat.intCast_add, ih, Rat.intCast_mul, Rat.intCast_sub, Rat.intCast_mul]
    show (Wt its i) * (Mk its i * (x.2 : Rat) - (x.1 : Rat)) + _ = _
    have v : (x.1 : Rat) = Fr.val x * (x.2 : Rat) := by
      unfold Fr.val
      grind
    rw [v]
    grind
theorem SpR_split (c : Rat) (g : List Nat) : SpR its c g = rs (Fo its r) g + rs (fun i => Wt its i * (r i - c)) g := by
  unfold SpR
  rw [← rs_add]
  exact rs_congr fun i _ => by unfold Fo; grind
/-- what the ratings above the threshold give -/
def Mx (its : List (Int × Int)) (r : Nat → Rat) (c : Rat) : Rat := rs (fun i => Wt its i * (r i - c)) ((List.range its.length).filter fun j => decide (c < r j))
theorem rs_ge_part (ok : PnOk its rls) (c : Rat) {g : List Nat} (g1 : ∀ i ∈ g, i < its.length) (g2 : g.Pairwise (· < ·)) : rs (fun i => Wt its i * (r i - c)) g ≤ Mx its r c ∧ (Mx its r c ≤ rs (fun i => Wt its i * (r i - c)) g → (∀ i, i < its.length → c < r i → i ∈ g) ∧ ∀ i ∈ g, c ≤ r i) := by
  -- by membership, over all items
  have e1 : g = (List.range its.length).filter fun j => decide (j ∈ g) := asc_ext g2 (List.pairwise_lt_range.filter _) fun i => by
    rw [List.mem_filter, List.mem_range, decide_eq_true_eq]
    exact ⟨fun h => ⟨g1 i h, h⟩, fun h => h.2⟩
  have e2 : rs (fun i => Wt its i * (r i - c)) g = rs (fun i => Wt its i * (r i - c) * (if decide (i ∈ g) = true then 1 else 0)) (List.range its.length) := by
    conv => lhs; rw [e1]
    rw [rs_filter]
  have e3 : Mx its r c = rs (fun i => Wt its i * (r i - c) * (if decide (c < r i) = true then 1 else 0)) (List.range its.length) := by
    unfold Mx
    rw [rs_filter]
  have d : Mx its r c - rs (fun i => Wt its i * (r i - c)) g = rs (fun i => Wt its i * (r i - c) * ((if decide (c < r i) = true then 1 else 0) - (if decide (i ∈ g) = true then 1 else 0))) (List.range its.length) := by
    rw [e2, e3, ← rs_sub]
    exact rs_congr fun i _ => by grind
  have nn : ∀ i ∈ List.range its.length, 0 ≤ Wt its i * (r i - c) * ((if decide (c < r i) = true then 1 else 0) - (if decide (i ∈ g) = true then 1 else 0)) := fun i hi => by
    have w := ok.pos (List.mem_range.mp hi)
    by_cases h1 : c < r i
    · have h0 : 0 ≤ Wt its i * (r i - c) := Rat.mul_nonneg (Rat.le_of_lt w) (by grind)
      by_cases h2 : i ∈ g
      · simp only [h1, h2, decide_true, if_true]; grind
      · simp only [h1, h2, decide_true, decide_false, if_true]; grind
    · have h0 : 0 ≤ Wt its i * (c - r i) := Rat.mul_nonneg (Rat.le_of_lt w) (by grind)
      by_cases h2 : i ∈ g
      · simp only [h1, h2, decide_true, decide_false, if_true]; grind
      · simp only [h1, h2, decide_false]; grind
  have t := rs_nonneg nn
  refine ⟨by grind, fun h => ?_⟩
  have z := rs_zero nn (by rw [← d]; grind)
  refine ⟨fun i hi h1 => ?_, fun i hi => ?_⟩
  · have q := z i (List.mem_range.mpr hi)
    have w := ok.pos hi
    by_cases h2 : i ∈ g
    · exact h2
    · exfalso
      simp only [h1, h2, decide_true, decide_false, if_true] at q
      have p := Rat.mul_pos w (show 0 < r i - c by grind)
      grind
  · have q := z i (List.mem_range.mpr (g1 i hi))
    have w := ok.pos (g1 i hi)
    by_cases h1 : c ≤ r i
    · exact h1
    · exfalso
      have h3 : ¬ c < r i := by grind
      simp only [h3, hi, decide_true, decide_false, if_true] at q
      have p := Rat.mul_pos w (show 0 < c - r i by grind)
      grind
/-- no closed group has more -/
theorem Best.sp_le (b : Best its rls r) (ok : PnOk its rls) (c : Rat) {g : List Nat} (hg : g ∈ upsets its.length rls) : SpR its c g ≤ Mx its r c ∧ (Mx its r c ≤ SpR its c g → (∀ i, i < its.length → c < r i → i ∈ g) ∧ ∀ i ∈ g, c ≤ r i) := by
  obtain ⟨g1, g2, _⟩ := mem_upsets.mp hg
  obtain ⟨h1, h2⟩ := rs_ge_part (r := r) ok c g1 g2
  have h3 := b.up g hg
  have e := SpR_split (its := its) (r := r) c g
  exact ⟨by grind, fun h => h2 (by grind)⟩
theorem Best.sp_gt (b : Best its rls r) (ok : PnOk its rls) (c : Rat) : (List.range its.length).filter (fun j => decide (c < r j)) ∈ upsets its.length rls ∧ SpR its c ((List.range its.length).filter fun j => decide (c < r j)) = Mx its r c := by
  refine ⟨range_mem_up (fun j => decide (c < r j)) fun q hq h => ⟨(ok.rl q hq).2, decide_eq_true (Std.lt_of_lt_of_le (of_decide_eq_true h) (b.obey q hq))⟩, ?_⟩
  rw [SpR_split (r := r), b.cut0 fun x => decide (c < x)]
  unfold Mx
  grind
theorem Best.sp_ge (b : Best its rls r) (ok : PnOk its rls) (c : Rat) : (List.range its.length).filter (fun j => decide (c ≤ r j)) ∈ upsets its.length rls ∧ SpR its c ((List.range its.length).filter fun j => decide (c ≤ r j)) = Mx its r c := by
  refine ⟨range_mem_up (fun j => decide (c ≤ r j)) fun q hq h => ⟨(ok.rl q hq).2, decide_eq_true (Rat.le_trans (of_decide_eq_true h) (b.obey q hq))⟩, ?_⟩
  rw [SpR_split (r := r), b.cut0 fun x => decide (c ≤ x)]
  have e : rs (fun i => Wt its i * (r i - c)) ((List.range its.length).filter fun j => decide (c ≤ r j)) = Mx its r c := by
    unfold Mx
    rw [rs_filter, rs_filter]
    refine rs_congr fun i _ => ?_
    by_cases h1 : c < r i
    · have h2 : c ≤ r i := Rat.le_of_lt h1
      simp only [h1, h2, decide_true]
    · by_cases h2 : c ≤ r i
      · have : r i - c = 0 := by grind
        simp only [h1, h2, decide_true, decide_false, this]
        grind
      · simp only [h1, h2, decide_false]
  rw [e]
  grind
/-- the items in all, and in some, of the closed groups with the greatest surplus -/
theorem Best.tops (b : Best its rls r) (ok : PnOk its rls) {x : Int × Int} (hx : 0 < x.2) {z : Int} (hz : ∃ g ∈ upsets its.length rls, srp its x g = z) (hm : ∀ g ∈ upsets its.length rls, srp its x g ≤ z) {i : Nat} (hi : i < its.length) :
    ((∀ g ∈ upsets its.length rls, srp its x g = z → i ∈ g) ↔ Fr.val x < r i) ∧ ((∃ g ∈ upsets its.length rls, srp its x g = z ∧ i ∈ g) ↔ Fr.val x ≤ r i) := by
  have px : (0 : Rat) < (x.2 : Rat) := Rat.intCast_pos.mpr hx
  have cast : ∀ g, ((srp its x g : Int) : Rat) = (x.2 : Rat) * SpR its (Fr.val x) g := srp_cast hx
  -- z is the greatest one
  have zM : (z : Rat) = (x.2 : Rat) * Mx its r (Fr.val x) := by
    obtain ⟨g, hg, e⟩ := hz
    obtain ⟨m1, m2⟩ := b.sp_gt ok (Fr.val x)
    have h1 := hm _ m1
    have h1 : ((srp its x ((List.range its.length).filter fun j => decide (Fr.val x < r j)) : Int) : Rat) ≤ (z : Rat) := Rat.intCast_le_intCast.mpr h1
    rw [cast, m2] at h1
    have h2 := (b.sp_le ok (Fr.val x) hg).1
    have h3 : (z : Rat) = (x.2 : Rat) * SpR its (Fr.val x) g := by rw [← e, cast]
    have h4 := Rat.mul_le_mul_of_nonneg_left h2 (Rat.le_of_lt px)
    rw [h3] at h1 ⊢
    exact Rat.le_antisymm h4 h1
  have top : ∀ g ∈ upsets its.length rls, srp its x g = z → (∀ i, i < its.length → Fr.val x < r i → i ∈ g) ∧ ∀ i ∈ g, Fr.val x ≤ r i := fun g hg e => by
    refine (b.sp_le ok (Fr.val x) hg).2 ?_
    have h : (x.2 : Rat) * Mx its r (Fr.val x) = (x.2 : Rat) * SpR its (Fr.val x) g := by rw [← zM, ← e, cast]
    have := Rat.le_of_mul_le_mul_left (show (x.2 : Rat) * Mx its r (Fr.val x) ≤ (x.2 : Rat) * SpR its (Fr.val x) g by rw [h]; exact Rat.le_refl) px
    exact this
  have is : ∀ g, SpR its (Fr.val x) g = Mx its r (Fr.val x) → srp its x g = z := fun g e => by
    have : ((srp its x g : Int) : Rat) = (z : Rat) := by rw [cast, e, zM]
    exact Rat.intCast_inj.mp this
  obtain ⟨a1, a2⟩ := b.sp_gt ok (Fr.val x)
  obtain ⟨c1, c2⟩ := b.sp_ge ok (Fr.val x)
  refine ⟨⟨fun h => ?_, fun h g hg e => (top g hg e).1 i hi h⟩, ⟨fun ⟨g, hg, e, h⟩ => (top g hg e).2 i h, fun h => ⟨_, c1, is _ c2, List.mem_filter.mpr ⟨List.mem_range.mpr hi, decide_eq_true h⟩⟩⟩⟩
  exact of_decide_eq_true (List.mem_filter.mp (h _ a1 (is _ a2))).2
end
theorem srp_eq (its : List (Int × Int)) (x : Int × Int) : ∀ g : List Nat, srp its x g = wsum its g * x.2 - wgt its g * x.1
  | [] => by simp [srp, wsum, wgt]
  | i :: g => by
    have ih := srp_eq its x g
    unfold srp wsum wgt at *
    rw [List.map_cons, List.sum_cons, List.map_cons, List.sum_cons, List.map_cons, List.sum_cons, ih]
    grind
theorem Wide.bnd {its : List (Int × Int)} (h : Wide its) {is : List Nat} (hi : ∀ i ∈ is, i < its.length) (h9 : is.length ≤ 100) : (wsum its is).natAbs < 2 ^ 110 ∧ (wgt its is).natAbs < 2 ^ 110 := by
  by_cases e : is = []
  · subst e
    exact ⟨by show (0 : Int).natAbs < 2 ^ 110; decide, by show (0 : Int).natAbs < 2 ^ 110; decide⟩
  · have := h.pos hi e h9
    exact ⟨this.2.2, this.2.1⟩
theorem srp_split (its : List (Int × Int)) (x : Int × Int) (p : Nat → Bool) : ∀ g : List Nat, srp its x (g.filter p) + srp its x (g.filter fun i => !p i) = srp its x g
  | [] => rfl
  | i :: g => by
    have ih := srp_split its x p g
    have e : ∀ h : List Nat, srp its x (i :: h) = (itm its i).2 * ((itm its i).1 * x.2 - x.1) + srp its x h := fun h => by
      unfold srp
      rw [List.map_cons, List.sum_cons]
    cases h : p i with
    | true => rw [List.filter_cons_of_pos h, List.filter_cons_of_neg (by rw [h]; decide), e, e, ← ih]; omega
    | false => rw [List.filter_cons_of_neg (by rw [h]; decide), List.filter_cons_of_pos (by rw [h]; rfl), e, e, ← ih]; omega
theorem srp_sz {its : List (Int × Int)} {x : Int × Int} {n : Nat} (wd : Wide its) {g : List Nat} (hi : ∀ i ∈ g, i < its.length) (h9 : g.length ≤ 100) (sx : Fr.Sz n x) : (srp its x g).natAbs < 2 ^ (110 + n + 1) := by
  have b := wd.bnd hi h9
  rw [srp_eq]
  have h1 := Fr.mul_lt2 b.1 sx.2
  have h2 := Fr.mul_lt2 b.2 sx.1
  have h3 := Fr.add_lt2 h1 (show (-(wgt its g * x.1)).natAbs < 2 ^ (110 + n) by rw [Int.natAbs_neg]; exact h2)
  rw [Int.sub_eq_add_neg]
  exact h3
theorem red_cross {n d : Int} (hd : 0 < d) : (Fr.red n d).1 * d = n * (Fr.red n d).2 := by
  have f := Fr.red_isF (n := n) hd
  have e : Fr.red (Fr.red n d).1 (Fr.red n d).2 = Fr.red n d := Fr.red_self f
  exact (Fr.red_eq f.1 hd).mp e
theorem pair_id {a1 a2 c1 c2 x1 x2 y1 y2 W w : Int} (ca : a1 * x2 = (W * x2 - w * x1) * a2) (cc : c1 * y2 = (W * y2 - w * y1) * c2) : (a1 * c2 - c1 * a2) * x2 * y2 = w * (y1 * x2 - x1 * y2) * a2 * c2 := by
  have e : (a1 * c2 - c1 * a2) * x2 * y2 = (a1 * x2) * (c2 * y2) - (c1 * y2) * (a2 * x2) := by clear ca cc; grind
  rw [e, ca, cc]
  clear ca cc e
  grind
theorem sub_lt2 {a b : Int} {n : Nat} (ha : a.natAbs < 2 ^ n) (hb : b.natAbs < 2 ^ n) : (a - b).natAbs < 2 ^ (n + 1) := by
  have := Fr.add_lt2 ha (show (-b).natAbs < 2 ^ n by rw [Int.natAbs_neg]; exact hb)
  rw [Int.sub_eq_add_neg]
  exact this
theorem bestF_sz {its : List (Int × Int)} {rls : List (Nat × Nat)} (wd : Wide its) (ok : PnOk its rls) (l10 : its.length ≤ 100) : ∀ y ∈ bestF its rls, Fr.Sz 110 y := fun y hy => by
  unfold bestF at hy
  obtain ⟨i, hi, rfl⟩ := List.mem_map.mp hy
  have L := levD_ok ok
  obtain ⟨x, hx, h⟩ := L.at (List.mem_range.mp hi)
  rw [L.rat hx h]
  obtain ⟨e1, e2, e3, e4⟩ := L.each x hx
  rw [e1]
  have := up_short e3 fun i hi => (e4 i hi).1
  exact av_sz wd (fun i hi => (e4 i hi).1) e2 (by omega)
theorem cmp_pos {x y : Int × Int} (hx : 0 < x.2) (hy : 0 < y.2) : 0 < Fr.cmp x y ↔ Fr.val y < Fr.val x := by
  have l1 := Fr.lt_iff hx hy
  have l2 := Fr.lt_iff hy hx
  rw [← l2]
  unfold Fr.cmp
  split
  · exact ⟨fun h => absurd h (by decide), fun h => by omega⟩
  · split
    · exact ⟨fun _ => by omega, fun _ => by decide⟩
    · exact ⟨fun h => absurd h (by decide), fun h => by omega⟩
theorem cmp_nonneg {x y : Int × Int} (hx : 0 < x.2) (hy : 0 < y.2) : 0 ≤ Fr.cmp x y ↔ Fr.val y ≤ Fr.val x := by
  have l1 := Fr.lt_iff hx hy
  have e : Fr.val y ≤ Fr.val x ↔ ¬ Fr.val x < Fr.val y := ⟨fun h z => by grind, fun h => by grind⟩
  rw [e, ← l1]
  unfold Fr.cmp
  split
  · exact ⟨fun h => absurd h (by decide), fun h => by omega⟩
  · split
    · exact ⟨fun _ => by omega, fun _ => by decide⟩
    · exact ⟨fun _ => by omega, fun _ => by decide⟩
end PM

namespace PM
open PySem PySem.Spec PyProof.Rows L2 RZ
theorem enum_range (f : Nat → PyData) (n : Nat) : enumD 0 ((List.range n).map f) = (List.range n).map fun i => .tuple [nD i, f i] := by
  rw [enum_map f 0]
  simp only [Nat.zero_add, List.length_range]
  refine List.map_congr_left fun i hi => ?_
  rw [List.getD_eq_getElem?_getD, List.getElem?_range (List.mem_range.mp hi)]
  rfl
theorem cmp_nonpos {x y : Int × Int} (hx : 0 < x.2) (hy : 0 < y.2) : Fr.cmp x y ≤ 0 ↔ Fr.val x ≤ Fr.val y := by
  have := cmp_pos hx hy
  constructor
  · intro h
    have : ¬ Fr.val y < Fr.val x := fun z => by have := this.mpr z; omega
    grind
  · intro h
    have : ¬ 0 < Fr.cmp x y := fun z => by have := this.mp z; grind
    omega
/-- what witnesses are, as data -/
def upG (its : List (Int × Int)) (rls : List (Nat × Nat)) (i : Nat) : List Nat := (List.range its.length).filter fun j => decide (bestR its rls i ≤ bestR its rls j)
def dnG (its : List (Int × Int)) (rls : List (Nat × Nat)) (i : Nat) : List Nat := (List.range its.length).filter fun j => decide (bestR its rls j ≤ bestR its rls i)
def witD (its : List (Int × Int)) (rls : List (Nat × Nat)) (i : Nat) : PyData := .tuple [fd (ratL (levD its rls) i), grD (upG its rls i), grD (dnG its rls i)]
theorem upG_len (its : List (Int × Int)) (rls : List (Nat × Nat)) (i : Nat) : (upG its rls i).length ≤ its.length := Nat.le_trans (List.length_filter_le _ _) (by rw [List.length_range]; exact Nat.le_refl _)
theorem dnG_len (its : List (Int × Int)) (rls : List (Nat × Nat)) (i : Nat) : (dnG its rls i).length ≤ its.length := Nat.le_trans (List.length_filter_le _ _) (by rw [List.length_range]; exact Nat.le_refl _)
theorem wit_plain {its : List (Int × Int)} (rls : List (Nat × Nat)) (i : Nat) (h : its.length ≤ 1000) : plainD (witD its rls i) = true := by
  show (decide (3 ≤ 1000) && (plainD (fd (ratL (levD its rls) i)) && (plainD (grD (upG its rls i)) && (plainD (grD (dnG its rls i)) && true)))) = true
  rw [gr_plain (Nat.le_trans (upG_len _ _ _) h), gr_plain (Nat.le_trans (dnG_len _ _ _) h)]
  rfl
theorem wit_dep (its : List (Int × Int)) (rls : List (Nat × Nat)) (i : Nat) : dep (witD its rls i) < 8 := by
  have a := gr_dep (upG its rls i)
  have b := gr_dep (dnG its rls i)
  have c := dep_fd (ratL (levD its rls) i)
  show max (dep (fd (ratL (levD its rls) i))) (max (dep (grD (upG its rls i))) (max (dep (grD (dnG its rls i))) 0)) + 1 < 8
  omega
end PM

namespace PM
open PySem PySem.Spec PyProof.Rows L2 RZ
/-! ### what a value of any kind is -/
def pInt : PyData → Bool
  | .int _ => true
  | _ => false
def isFr : PyData → Bool
  | .tuple [.int n, .int d] => decide (1 ≤ d) && decide (Int.gcd n d = 1)
  | _ => false
def isIx (n : Int) : PyData → Bool
  | .int i => decide (0 ≤ i) && decide (i < n)
  | _ => false
def grOk (n : Int) : Int → List PyData → Bool
  | _, [] => true
  | l, x :: r => match x with
    | .int i => if 0 ≤ i ∧ i < n ∧ l ≤ i then grOk n (i + 1) r else false
    | _ => false
def isGr (n : Int) : PyData → Bool
  | .tuple ds => grOk n 0 ds
  | _ => false
def natD : PyData → Nat
  | .int i => i.toNat
  | _ => 0
def natsOf : PyData → List Nat
  | .tuple ds => ds.map natD
  | _ => []
theorem isFr_iff {v : PyData} : isFr v = true ↔ ∃ x : Int × Int, v = fd x ∧ Fr.IsF x := by
  constructor
  · intro h
    unfold isFr at h
    split at h
    · rename_i n d
      obtain ⟨h1, h2⟩ := Bool.and_eq_true_iff.mp h
      exact ⟨(n, d), rfl, by show (0 : Int) < d; have := of_decide_eq_true h1; omega, of_decide_eq_true h2⟩
    · cases h
  · rintro ⟨x, rfl, h1, h2⟩
    show (decide (1 ≤ x.2) && decide (Int.gcd x.1 x.2 = 1)) = true
    rw [decide_eq_true (show (1 : Int) ≤ x.2 by omega), decide_eq_true h2]
    rfl
theorem grOk_iff {n : Nat} : ∀ {ds : List PyData} {l : Int}, grOk n l ds = true ↔ ∃ g : List Nat, ds = g.map nD ∧ (∀ i ∈ g, i < n ∧ l ≤ i) ∧ g.Pairwise (· < ·)
  | [], l => ⟨fun _ => ⟨[], rfl, (fun i hi => nomatch hi), .nil⟩, fun _ => rfl⟩
  | x :: r, l => by
    constructor
    · intro h
      cases x with
      | int i =>
        simp only [grOk] at h
        split at h
        · rename_i z
          obtain ⟨g, rfl, g1, g2⟩ := grOk_iff.mp h
          obtain ⟨a, rfl⟩ := Int.eq_ofNat_of_zero_le z.1
          refine ⟨a :: g, rfl, fun j hj => ?_, List.pairwise_cons.mpr ⟨fun j hj => ?_, g2⟩⟩
          · rcases List.mem_cons.mp hj with rfl | hj
            · exact ⟨by omega, z.2.2⟩
            · have := g1 j hj
              exact ⟨this.1, by omega⟩
          · have := (g1 j hj).2
            omega
        · cases h
      | _ => simp [grOk] at h
    · rintro ⟨g, e, g1, g2⟩
      cases g with
      | nil => cases e
      | cons a g =>
        rw [List.map_cons] at e
        injection e with e1 e2
        subst e1
        obtain ⟨p1, p2⟩ := List.pairwise_cons.mp g2
        have ha := g1 a List.mem_cons_self
        show (if (0 : Int) ≤ (a : Int) ∧ (a : Int) < n ∧ l ≤ (a : Int) then grOk n ((a : Int) + 1) r else false) = true
        rw [if_pos ⟨by omega, by omega, ha.2⟩]
        exact grOk_iff.mpr ⟨g, e2, fun j hj => ⟨(g1 j (List.mem_cons_of_mem _ hj)).1, by have := p1 j hj; omega⟩, p2⟩
theorem isGr_iff {n : Nat} {v : PyData} : isGr n v = true ↔ ∃ g : List Nat, v = grD g ∧ (∀ i ∈ g, i < n) ∧ g.Pairwise (· < ·) := by
  constructor
  · intro h
    cases v with
    | tuple ds =>
      obtain ⟨g, rfl, g1, g2⟩ := grOk_iff.mp h
      exact ⟨g, rfl, fun i hi => (g1 i hi).1, g2⟩
    | _ => cases h
  · rintro ⟨g, rfl, g1, g2⟩
    exact grOk_iff.mpr ⟨g, rfl, fun i hi => ⟨g1 i hi, by omega⟩, g2⟩
theorem natsOf_gr (g : List Nat) : natsOf (grD g) = g := by
  show (g.map nD).map natD = g
  rw [List.map_map]
  exact (List.map_congr_left (g := id) fun i _ => rfl).trans (List.map_id g)
def isUp (n : Nat) (rls : List (Nat × Nat)) (v : PyData) : Bool := isGr n v && clo rls (natsOf v)
theorem isUp_iff {n : Nat} {rls : List (Nat × Nat)} {v : PyData} : isUp n rls v = true ↔ ∃ g ∈ upsets n rls, v = grD g := by
  unfold isUp
  rw [Bool.and_eq_true_iff, isGr_iff]
  constructor
  · rintro ⟨⟨g, rfl, g1, g2⟩, h⟩
    rw [natsOf_gr] at h
    exact ⟨g, mem_upsets.mpr ⟨g1, g2, clo_iff.mp h⟩, rfl⟩
  · rintro ⟨g, h, rfl⟩
    obtain ⟨g1, g2, g3⟩ := mem_upsets.mp h
    rw [natsOf_gr]
    exact ⟨⟨g, rfl, g1, g2⟩, clo_iff.mpr g3⟩
/-! ### witnesses of any kind -/
structure WitOk (its : List (Int × Int)) (rls : List (Nat × Nat)) (it : Nat) (x : Int × Int) (U D : List Nat) : Prop where
  fr : Fr.IsF x
  up : U ∈ upsets its.length rls
  iu : it ∈ U
  dn : D ∈ upsets its.length (turn rls)
  id : it ∈ D
  lo : ∀ E ∈ upsets its.length (turn rls), it ∈ E → Fr.val x ≤ avR its (U.filter fun j => decide (j ∈ E))
  hi : ∀ V ∈ upsets its.length rls, it ∈ V → avR its (D.filter fun j => decide (j ∈ V)) ≤ Fr.val x
theorem cap_comm {n : Nat} {U D : List Nat} (h1 : U.Pairwise (· < ·)) (h2 : D.Pairwise (· < ·)) : (U.filter fun j => decide (j ∈ D)) = D.filter fun j => decide (j ∈ U) :=
  asc_ext (h1.filter _) (h2.filter _) fun i => by
    rw [List.mem_filter, List.mem_filter, decide_eq_true_eq, decide_eq_true_eq]
    exact ⟨fun h => ⟨h.2, h.1⟩, fun h => ⟨h.2, h.1⟩⟩
section
variable {its : List (Int × Int)} {rls : List (Nat × Nat)} {r : Nat → Rat} {it : Nat}
theorem Best.dn_mem (b : Best its rls r) (ok : PnOk its rls) : (List.range its.length).filter (fun j => decide (r j ≤ r it)) ∈ upsets its.length (turn rls) := range_mem_up (fun j => decide (r j ≤ r it)) fun q hq h => by
  have hq : (q.2, q.1) ∈ rls := mem_turn.mp hq
  exact ⟨(ok.rl _ hq).1, decide_eq_true (Rat.le_trans (b.obey _ hq) (of_decide_eq_true h))⟩
theorem Best.up_mem (b : Best its rls r) (ok : PnOk its rls) : (List.range its.length).filter (fun j => decide (r it ≤ r j)) ∈ upsets its.length rls := range_mem_up (fun j => decide (r it ≤ r j)) fun q hq h => ⟨(ok.rl _ hq).2, decide_eq_true (Rat.le_trans (of_decide_eq_true h) (b.obey _ hq))⟩
theorem self_le (hi : it < its.length) : it ∈ (List.range its.length).filter (fun j => decide (r j ≤ r it)) ∧ it ∈ (List.range its.length).filter (fun j => decide (r it ≤ r j)) := ⟨List.mem_filter.mpr ⟨List.mem_range.mpr hi, decide_eq_true Rat.le_refl⟩, List.mem_filter.mpr ⟨List.mem_range.mpr hi, decide_eq_true Rat.le_refl⟩⟩
/-- whatever witnesses there are, they have the best rating's value -/
theorem WitOk.valR {x : Int × Int} {U D : List Nat} (w : WitOk its rls it x U D) (b : Best its rls r) (ok : PnOk its rls) (hi : it < its.length) : Fr.val x = r it := by
  obtain ⟨s1, s2⟩ := self_le (r := r) hi
  refine Rat.le_antisymm ?_ ?_
  · exact Rat.le_trans (w.lo _ (b.dn_mem ok) s1) (b.min_le ok hi w.up w.iu)
  · have m := b.max_ge ok hi (mem_dn.mp w.dn).2.2 w.id
    have um0 := b.up_mem (it := it) ok
    have h := w.hi _ um0 s2
    rw [cap_comm (n := 0) (mem_upsets.mp w.dn).2.1 (mem_upsets.mp um0).2.1] at h
    exact Rat.le_trans m h
theorem WitOk.val {x : Int × Int} {U D : List Nat} (w : WitOk its rls it x U D) (ok : PnOk its rls) (hi : it < its.length) : x = ratL (levD its rls) it := Fr.val_inj w.fr (ratL_isF ok hi) (w.valR (best_ok ok) ok hi)
theorem Best.wit (b : Best its rls r) (ok : PnOk its rls) (hi : it < its.length) {x : Int × Int} (fx : Fr.IsF x) (hx : Fr.val x = r it) : WitOk its rls it x ((List.range its.length).filter fun j => decide (r it ≤ r j)) ((List.range its.length).filter fun j => decide (r j ≤ r it)) := by
  obtain ⟨s1, s2⟩ := self_le (r := r) hi
  have dm0 := b.dn_mem (it := it) ok
  refine ⟨fx, b.up_mem ok, s2, dm0, s1, fun E hE hi' => ?_, fun V hV hi' => ?_⟩
  · rw [hx]
    exact b.max_ge ok hi (mem_dn.mp hE).2.2 hi'
  · have := b.min_le ok hi hV hi'
    rw [cap_comm (n := 0) (mem_upsets.mp hV).2.1 (mem_upsets.mp dm0).2.1] at this
    rw [hx]
    exact this
theorem wit_self (ok : PnOk its rls) (hi : it < its.length) : WitOk its rls it (ratL (levD its rls) it) (upG its rls it) (dnG its rls it) := (best_ok ok).wit ok hi (ratL_isF ok hi) rfl
end
/-- a rule in the right order changes nothing -/
theorem Best.more {its : List (Int × Int)} {rls : List (Nat × Nat)} {r : Nat → Rat} (b : Best its rls r) {q : Nat × Nat} (h : r q.1 ≤ r q.2) : Best its (rls ++ [q]) r where
  obey := fun p hp => by
    rcases List.mem_append.mp hp with hp | hp
    · exact b.obey p hp
    · rw [List.mem_singleton.mp hp]
      exact h
  up := fun g hg => by
    obtain ⟨g1, g2, g3⟩ := mem_upsets.mp hg
    exact b.up g (mem_upsets.mpr ⟨g1, g2, fun p hp => g3 p (List.mem_append_left _ hp)⟩)
  lev := b.lev
theorem fd_inj {x y : Int × Int} (h : fd x = fd y) : x = y := by
  unfold fd at h
  simp only [PyData.tuple.injEq, List.cons.injEq, PyData.int.injEq, and_true] at h
  exact Prod.ext h.1 h.2
end PM

namespace PM
open PySem PySem.Spec PyProof.Rows L2 RZ
/-! values of all kinds at the data level: {}, x != () -/
def dDNew : DE := fun _ m k => k (.d (.dict [])) m
theorem se_dnew : SE tDNewK dDNew := fun c G pl σ H e m k Q sr d K p hp => K.new sr hp d (show Da _ _ _ from .dic upd_same)
/-! ### sizes -/
def fine (b : Nat) : PyData → Bool
  | .int i => decide (i.natAbs < 2 ^ b)
  | .tuple ds => fineL b ds
  | .list ds => fineL b ds
  | .dict kvs => kvs.isEmpty
  | _ => true
where fineL (b : Nat) : List PyData → Bool
  | [] => true
  | d :: ds => fine b d && fineL b ds
def shwN : PyData → Nat
  | .none => 4
  | .bool _ => 5
  | .int _ => 1921
  | .str x => (reprText x).length
  | .tuple ds => shwNL ds + 3
  | .list ds => shwNL ds + 3
  | .dict _ => 2
where shwNL : List PyData → Nat
  | [] => 0
  | d :: ds => shwN d + 2 + shwNL ds
mutual
theorem fine_shw {b : Nat} (h0 : 0 < b) (h9 : b ≤ 1920) : ∀ {d : PyData}, fine b d = true → Shw d (shwN d) d.depth
  | .none, _ => ⟨rfl, Nat.le_refl _, by decide⟩
  | .bool x, _ => (Shw.bool x).mono (Nat.le_refl _) (Nat.zero_le _)
  | .int i, h => (Shw.int (of_decide_eq_true h) h0 h9).mono (Nat.le_refl _) (Nat.zero_le _)
  | .str x, _ => (Shw.str (Nat.le_refl _)).mono (Nat.le_refl _) (Nat.zero_le _)
  | .tuple ds, h => by
    have := Shw.tup (fineL_shw h0 h9 (ds := ds) h)
    simp only [PyData.depth]
    exact this.mono (Nat.le_refl _) (by omega)
  | .list ds, h => by
    have := Shw.lst (fineL_shw h0 h9 (ds := ds) h)
    simp only [PyData.depth]
    exact this.mono (Nat.le_refl _) (by omega)
  | .dict kvs, h => by
    cases kvs with
    | nil => exact Shw.dict.mono (Nat.le_refl _) (by decide)
    | cons x y => cases h
theorem fineL_shw {b : Nat} (h0 : 0 < b) (h9 : b ≤ 1920) : ∀ {ds : List PyData}, fine.fineL b ds = true → ShwL ds (shwN.shwNL ds) (PyData.depthAll ds)
  | [], _ => .nil _
  | d :: ds, h => by
    unfold fine.fineL at h
    have h := Bool.and_eq_true_iff.mp h
    have a := fine_shw h0 h9 h.1
    have b := fineL_shw h0 h9 h.2
    have c := ShwL.cons (a.mono (Nat.le_refl _) (show d.depth ≤ PyData.depthAll (d :: ds) by simp only [PyData.depthAll]; exact Nat.le_max_left _ _)) (k := shwN.shwNL ds) ⟨b.sh, Nat.le_trans b.dp (by simp only [PyData.depthAll]; exact Nat.le_max_right _ _), b.ln⟩
    exact c
end
mutual
theorem fine_up {b : Nat} : ∀ {d : PyData}, fine b d = true → fine (b + 1) d = true
  | .none, _ => rfl
  | .bool _, _ => rfl
  | .int i, h => decide_eq_true (by have := of_decide_eq_true h; rw [Nat.pow_succ]; omega)
  | .str _, _ => rfl
  | .tuple ds, h => fineL_up (ds := ds) h
  | .list ds, h => fineL_up (ds := ds) h
  | .dict _, h => h
theorem fineL_up {b : Nat} : ∀ {ds : List PyData}, fine.fineL b ds = true → fine.fineL (b + 1) ds = true
  | [], _ => rfl
  | d :: ds, h => by
    unfold fine.fineL at h ⊢
    have h := Bool.and_eq_true_iff.mp h
    rw [fine_up h.1, fineL_up h.2]
    rfl
end
theorem fine_low {b : Nat} (hb : 100 ≤ b) {d : PyData} (h : fine 100 d = true) : fine b d = true := by
  obtain ⟨k, rfl⟩ : ∃ k, b = 100 + k := ⟨b - 100, by omega⟩
  clear hb
  induction k with
  | zero => exact h
  | succ k ih => exact fine_up ih
theorem fineL_append {b : Nat} : ∀ {ds es : List PyData}, fine.fineL b ds = true → fine.fineL b es = true → fine.fineL b (ds ++ es) = true
  | [], _, _, k => k
  | d :: ds, es, h, k => by
    unfold fine.fineL at h
    have h := Bool.and_eq_true_iff.mp h
    show (fine b d && fine.fineL b (ds ++ es)) = true
    rw [h.1, fineL_append h.2 k]
    rfl
theorem fineL_take {b : Nat} : ∀ {ds : List PyData} (n : Nat), fine.fineL b ds = true → fine.fineL b (ds.take n) = true
  | _, 0, _ => by simp only [List.take_zero]; rfl
  | [], n + 1, _ => rfl
  | d :: ds, n + 1, h => by
    unfold fine.fineL at h
    have h := Bool.and_eq_true_iff.mp h
    show (fine b d && fine.fineL b (ds.take n)) = true
    rw [h.1, fineL_take n h.2]
    rfl
theorem fineL_drop {b : Nat} : ∀ {ds : List PyData} (n : Nat), fine.fineL b ds = true → fine.fineL b (ds.drop n) = true
  | _, 0, h => h
  | [], n + 1, _ => rfl
  | d :: ds, n + 1, h => by
    unfold fine.fineL at h
    exact fineL_drop n (Bool.and_eq_true_iff.mp h).2
theorem fineL_reverse {b : Nat} : ∀ {ds : List PyData}, fine.fineL b ds = true → fine.fineL b ds.reverse = true
  | [], _ => rfl
  | d :: ds, h => by
    unfold fine.fineL at h
    have h := Bool.and_eq_true_iff.mp h
    rw [List.reverse_cons]
    exact fineL_append (fineL_reverse h.2) (by show (fine b d && true) = true; rw [h.1]; rfl)
theorem fineL_get {b : Nat} : ∀ {ds : List PyData} {i : Nat} {d : PyData}, fine.fineL b ds = true → ds[i]? = some d → fine b d = true
  | [], i, d, _, e => by simp at e
  | x :: xs, 0, d, h, e => by
    have e := Option.some.inj e
    subst e
    unfold fine.fineL at h
    exact (Bool.and_eq_true_iff.mp h).1
  | x :: xs, i + 1, d, h, e => by
    unfold fine.fineL at h
    exact fineL_get (Bool.and_eq_true_iff.mp h).2 e
theorem shwNL_append : ∀ (ds es : List PyData), shwN.shwNL (ds ++ es) = shwN.shwNL ds + shwN.shwNL es
  | [], es => by show shwN.shwNL es = 0 + shwN.shwNL es; omega
  | d :: ds, es => by
    show shwN d + 2 + shwN.shwNL (ds ++ es) = shwN d + 2 + shwN.shwNL ds + shwN.shwNL es
    rw [shwNL_append ds es]
    omega
theorem shwNL_cut (ds : List PyData) (n : Nat) : shwN.shwNL (ds.take n) + shwN.shwNL (ds.drop n) = shwN.shwNL ds := by
  rw [← shwNL_append, List.take_append_drop]
theorem shwNL_reverse : ∀ (ds : List PyData), shwN.shwNL ds.reverse = shwN.shwNL ds
  | [] => rfl
  | d :: ds => by
    rw [List.reverse_cons, shwNL_append, shwNL_reverse ds]
    show shwN.shwNL ds + (shwN d + 2 + 0) = shwN d + 2 + shwN.shwNL ds
    omega
theorem shwNL_get : ∀ {ds : List PyData} {i : Nat} {d : PyData}, ds[i]? = some d → shwN.shwNL ds = shwN.shwNL (ds.take i) + (shwN d + 2) + shwN.shwNL (ds.drop (i + 1))
  | [], i, d, e => by simp at e
  | x :: xs, 0, d, e => by
    have e := Option.some.inj e
    subst e
    show shwN x + 2 + shwN.shwNL xs = 0 + (shwN x + 2) + shwN.shwNL xs
    omega
  | x :: xs, i + 1, d, e => by
    have ih := shwNL_get (ds := xs) (i := i) e
    show shwN x + 2 + shwN.shwNL xs = shwN x + 2 + shwN.shwNL (xs.take i) + (shwN d + 2) + shwN.shwNL (xs.drop (i + 1))
    omega
theorem shwNL_len : ∀ (ds : List PyData), 2 * ds.length ≤ shwN.shwNL ds
  | [] => Nat.le_refl _
  | d :: ds => by
    have := shwNL_len ds
    show 2 * (ds.length + 1) ≤ shwN d + 2 + shwN.shwNL ds
    omega
theorem dpA_append : ∀ (ds es : List PyData), PyData.depthAll (ds ++ es) = max (PyData.depthAll ds) (PyData.depthAll es)
  | [], es => by
    show PyData.depthAll es = max (PyData.depthAll []) (PyData.depthAll es)
    simp [PyData.depthAll]
  | d :: ds, es => by
    show PyData.depthAll (d :: (ds ++ es)) = _
    simp only [PyData.depthAll]
    rw [dpA_append ds es, Nat.max_assoc]
theorem dpA_cut (ds : List PyData) (n : Nat) : PyData.depthAll (ds.take n) ≤ PyData.depthAll ds ∧ PyData.depthAll (ds.drop n) ≤ PyData.depthAll ds := by
  have := dpA_append (ds.take n) (ds.drop n)
  rw [List.take_append_drop] at this
  omega
theorem dpA_reverse : ∀ (ds : List PyData), PyData.depthAll ds.reverse = PyData.depthAll ds
  | [] => rfl
  | d :: ds => by
    rw [List.reverse_cons, dpA_append, dpA_reverse ds]
    simp only [PyData.depthAll]
    omega
theorem dpA_get : ∀ {ds : List PyData} {i : Nat} {d : PyData}, ds[i]? = some d → d.depth ≤ PyData.depthAll ds
  | [], i, d, e => by simp at e
  | x :: xs, 0, d, e => by
    have e := Option.some.inj e
    subst e
    simp only [PyData.depthAll]
    exact Nat.le_max_left _ _
  | x :: xs, i + 1, d, e => by
    simp only [PyData.depthAll]
    exact Nat.le_trans (dpA_get (i := i) e) (Nat.le_max_right _ _)
/-- what a changed value keeps -/
structure Near (b : Nat) (d d' : PyData) : Prop where
  fi : fine (b + 1) d' = true
  sz : shwN d' ≤ 2 * shwN d + 4000
  dp : d'.depth ≤ d.depth + 3
theorem Near.odd {b : Nat} {d d' : PyData} (hb : 100 ≤ b) (f : fine 100 d' = true) (s : shwN d' ≤ 4000) (p : d'.depth ≤ 3) : Near b d d' := ⟨fine_low (by omega) f, by omega, by omega⟩
theorem Near.put {b : Nat} {ds : List PyData} {i : Nat} {x x' : PyData} (f : fine b (.tuple ds) = true) (e : ds[i]? = some x) (n : Near b x x') : Near b (.tuple ds) (.tuple (ds.take i ++ [x'] ++ ds.drop (i + 1))) := by
  have g := shwNL_get e
  have p := dpA_get e
  have c1 := dpA_cut ds i
  have c2 := dpA_cut ds (i + 1)
  refine ⟨?_, ?_, ?_⟩
  · show fine.fineL (b + 1) _ = true
    refine fineL_append (fineL_append (fineL_take i (fineL_up f)) ?_) (fineL_drop (i + 1) (fineL_up f))
    show (fine (b + 1) x' && true) = true
    rw [n.fi]
    rfl
  · show shwN.shwNL (ds.take i ++ [x'] ++ ds.drop (i + 1)) + 3 ≤ 2 * (shwN.shwNL ds + 3) + 4000
    rw [shwNL_append, shwNL_append]
    have := n.sz
    show shwN.shwNL (ds.take i) + (shwN x' + 2 + 0) + shwN.shwNL (ds.drop (i + 1)) + 3 ≤ _
    omega
  · simp only [PyData.depth]
    rw [dpA_append, dpA_append]
    have := n.dp
    simp only [PyData.depthAll]
    omega
theorem Near.lst {b : Nat} {ds : List PyData} (f : fine b (.tuple ds) = true) : Near b (.tuple ds) (.list ds) :=
  ⟨fineL_up f, by show shwN.shwNL ds + 3 ≤ 2 * (shwN.shwNL ds + 3) + 4000; omega, by simp only [PyData.depth]; omega⟩
theorem Near.back {b : Nat} {ds : List PyData} (f : fine b (.tuple ds) = true) : Near b (.tuple ds) (.tuple ds.reverse) :=
  ⟨fineL_reverse (fineL_up f), by show shwN.shwNL ds.reverse + 3 ≤ 2 * (shwN.shwNL ds + 3) + 4000; rw [shwNL_reverse]; omega, by simp only [PyData.depth]; rw [dpA_reverse]; omega⟩
theorem Near.less {b : Nat} {ds : List PyData} (n : Nat) (f : fine b (.tuple ds) = true) : Near b (.tuple ds) (.tuple (ds.take n)) := by
  have c := shwNL_cut ds n
  have d := dpA_cut ds n
  exact ⟨fineL_take n (fineL_up f), by show shwN.shwNL (ds.take n) + 3 ≤ 2 * (shwN.shwNL ds + 3) + 4000; omega, by simp only [PyData.depth]; omega⟩
theorem Near.more {b : Nat} {ds : List PyData} (n : Nat) (f : fine b (.tuple ds) = true) : Near b (.tuple ds) (.tuple (ds ++ ds.take n)) := by
  have c := shwNL_cut ds n
  have d := dpA_cut ds n
  refine ⟨fineL_append (fineL_up f) (fineL_take n (fineL_up f)), ?_, ?_⟩
  · show shwN.shwNL (ds ++ ds.take n) + 3 ≤ 2 * (shwN.shwNL ds + 3) + 4000
    rw [shwNL_append]
    omega
  · simp only [PyData.depth]
    rw [dpA_append]
    omega
theorem Near.num {b : Nat} {i j : Int} (hb : 100 ≤ b) (h : i.natAbs < 2 ^ b) (k : j.natAbs ≤ i.natAbs + 1) : Near b (.int i) (.int j) := by
  refine ⟨decide_eq_true ?_, by show 1921 ≤ 2 * 1921 + 4000; decide, by show (0 : Nat) ≤ 0 + 3; decide⟩
  rw [Nat.pow_succ]
  have : 1 ≤ 2 ^ b := Nat.one_le_two_pow
  omega
/-! ### slices -/
def rNeU (K : PySem.W.Frag) : R2 := fun x y H Q => ∃ p e xs, x = .ref p ∧ y = .ref e ∧ SqT K H p xs ∧ SqT K H e [] ∧ Q (.bl (!xs.isEmpty)) H
section
variable {X : Cx}
/-- t != () -/
theorem op_neU (hu : X.A.units < cLine) : OpR X (compareOp .NotEq) (rNeU X.K) := by
  intro pins s σ H x y v u Q I rx ry h
  obtain ⟨p, e, xs, rfl, rfl, hp, he, q⟩ := h
  cases rx
  cases ry
  obtain ⟨its, r, ht, _⟩ := I.tuple hp
  obtain ⟨its2, r2, ht2, _⟩ := I.tuple he
  cases r2
  refine SeqAt.RcNeAt.tuples (e := fun _ => true) ht ht2 hu (fun j _ h2 => absurd h2 (by simp)) X.prog X.w _ _ ?_
  refine ⟨.bl (!xs.isEmpty), H, I, ?_, q⟩
  have len := r.length
  show Value.bool _ = Value.bool _
  cases xs with
  | nil =>
    cases r
    rfl
  | cons x y =>
    cases r
    simp
end
def fNeU (m : Mu) (x y : DV) (k : DV → Prop) : Prop := match x, y with
  | .d (.tuple ds), .d (.tuple []) => k (.d (.bool (!ds.isEmpty)))
  | _, _ => False
theorem os_neU (K : PySem.W.Frag) : OpS (rNeU K) fNeU := fun c G pl σ H e m x y dx dy k Q sr rx ry d KK => by
  unfold fNeU at d
  split at d
  · rename_i ds
    cases (show Da G x (.tuple ds) from rx) with
    | @tup _ xs1 _ e1 l1 =>
      cases (show Da G y (.tuple []) from ry) with
      | tup e2 l2 =>
        cases l2
        refine ⟨_, _, _, rfl, rfl, .inl (.inl (sr.hp.sub _ _ e1)), .inl (.inl (sr.hp.sub _ _ e2)), ?_⟩
        have : xs1.isEmpty = ds.isEmpty := by
          cases l1 <;> rfl
        rw [this]
        exact KK.val sr d (show Da G _ _ from .bl _)
  · exact d.elim
/-- what is known of an odd value -/
structure OddD (d : PyData) : Prop where
  fi : fine 100 d = true
  sz : shwN d ≤ 4000
  dp : d.depth ≤ 3
def rNeUL (K : PySem.W.Frag) : R2 := fun x y H Q => ∃ p e xs, x = .ref p ∧ y = .ref e ∧ SqL K H p xs ∧ SqL K H e [] ∧ Q (.bl (!xs.isEmpty)) H
theorem op_neUL {X : Cx} (hu : X.A.units < cLine) : OpR X (compareOp .NotEq) (rNeUL X.K) := by
  intro pins s σ H x y v u Q I rx ry h
  obtain ⟨p, e, xs, rfl, rfl, hp, he, q⟩ := h
  cases rx
  cases ry
  obtain ⟨its, r, ht, _⟩ := I.list hp
  obtain ⟨its2, r2, ht2, _⟩ := I.list he
  cases r2
  cases xs with
  | nil =>
    cases r
    refine SeqAt.RcNeAt.lists (e := fun _ => true) ht.isList ht2.isList rfl hu (fun j _ h2 => absurd h2 (by simp)) X.prog X.w _ _ ?_
    exact ⟨.bl false, H, I, rfl, q⟩
  | cons x y =>
    cases r
    refine SeqAt.RcNeAt.lists_lengths ht.isList ht2.isList (by simp) hu X.prog X.w _ _ ?_
    exact ⟨.bl true, H, I, rfl, q⟩
def fNeUL (m : Mu) (x y : DV) (k : DV → Prop) : Prop := match x, y with
  | .d (.list ds), .d (.list []) => k (.d (.bool (!ds.isEmpty)))
  | _, _ => False
theorem os_neUL (K : PySem.W.Frag) : OpS (rNeUL K) fNeUL := fun c G pl σ H e m x y dx dy k Q sr rx ry d KK => by
  unfold fNeUL at d
  split at d
  · rename_i ds
    cases (show Da G x (.list ds) from rx) with
    | @lst _ xs1 _ e1 l1 =>
      cases (show Da G y (.list []) from ry) with
      | lst e2 l2 =>
        cases l2
        refine ⟨_, _, _, rfl, rfl, .inl (.inl (sr.hp.sub _ _ e1)), .inl (.inl (sr.hp.sub _ _ e2)), ?_⟩
        have : xs1.isEmpty = ds.isEmpty := by
          cases l1 <;> rfl
        rw [this]
        exact KK.val sr d (show Da G _ _ from .bl _)
  · exact d.elim
/-- values small enough to be shown -/
structure ValD (b n m : Nat) (d : PyData) : Prop where
  fi : fine b d = true
  sz : shwN d ≤ n
  dp : d.depth ≤ m
end PM

/-! small values, by what they are made of -/
namespace PM
open PySem PySem.Spec PyProof.Rows L2 RZ
theorem vdL {b n m : Nat} : ∀ {ds : List PyData}, (∀ d ∈ ds, ValD b n m d) → fine.fineL b ds = true ∧ shwN.shwNL ds ≤ (n + 2) * ds.length ∧ PyData.depthAll ds ≤ m
  | [], _ => ⟨rfl, Nat.zero_le _, by simp [PyData.depthAll]⟩
  | d :: ds, h => by
    have a := h d List.mem_cons_self
    obtain ⟨h1, h2, h3⟩ := vdL (ds := ds) fun x hx => h x (List.mem_cons_of_mem _ hx)
    refine ⟨?_, ?_, ?_⟩
    · show (fine b d && fine.fineL b ds) = true
      rw [a.fi, h1]
      rfl
    · show shwN d + 2 + shwN.shwNL ds ≤ (n + 2) * (ds.length + 1)
      have := a.sz
      rw [Nat.mul_succ]
      omega
    · simp only [PyData.depthAll]
      have := a.dp
      omega
theorem ValD.tup {b n m : Nat} {ds : List PyData} (h : ∀ d ∈ ds, ValD b n m d) : ValD b ((n + 2) * ds.length + 3) (m + 1) (.tuple ds) := by
  obtain ⟨h1, h2, h3⟩ := vdL h
  exact ⟨h1, by show shwN.shwNL ds + 3 ≤ _; omega, by simp only [PyData.depth]; omega⟩
theorem ValD.lst {b n m : Nat} {ds : List PyData} (h : ∀ d ∈ ds, ValD b n m d) : ValD b ((n + 2) * ds.length + 3) (m + 1) (.list ds) := by
  obtain ⟨h1, h2, h3⟩ := vdL h
  exact ⟨h1, by show shwN.shwNL ds + 3 ≤ _; omega, by simp only [PyData.depth]; omega⟩
theorem ValD.tupM {α : Type} {b n m l : Nat} {f : α → PyData} {xs : List α} (h : ∀ x ∈ xs, ValD b n m (f x)) (hl : xs.length ≤ l) : ValD b ((n + 2) * l + 3) (m + 1) (.tuple (xs.map f)) := by
  have := ValD.tup (ds := xs.map f) fun d hd => by
    obtain ⟨x, hx, rfl⟩ := List.mem_map.mp hd
    exact h x hx
  rw [List.length_map] at this
  exact ⟨this.fi, Nat.le_trans this.sz (Nat.add_le_add_right (Nat.mul_le_mul_left _ hl) 3), this.dp⟩
theorem ValD.lstM {α : Type} {b n m l : Nat} {f : α → PyData} {xs : List α} (h : ∀ x ∈ xs, ValD b n m (f x)) (hl : xs.length ≤ l) : ValD b ((n + 2) * l + 3) (m + 1) (.list (xs.map f)) := by
  have := ValD.lst (ds := xs.map f) fun d hd => by
    obtain ⟨x, hx, rfl⟩ := List.mem_map.mp hd
    exact h x hx
  rw [List.length_map] at this
  exact ⟨this.fi, Nat.le_trans this.sz (Nat.add_le_add_right (Nat.mul_le_mul_left _ hl) 3), this.dp⟩
theorem fine_more {b c : Nat} (hc : b ≤ c) {d : PyData} (h : fine b d = true) : fine c d = true := by
  obtain ⟨k, rfl⟩ : ∃ k, c = b + k := ⟨c - b, by omega⟩
  clear hc
  induction k with
  | zero => exact h
  | succ k ih => exact fine_up ih
theorem ValD.mono {b n m b' n' m' : Nat} {d : PyData} (h : ValD b n m d) (hb : b ≤ b') (hn : n ≤ n') (hm : m ≤ m') : ValD b' n' m' d := ⟨fine_more hb h.fi, Nat.le_trans h.sz hn, Nat.le_trans h.dp hm⟩
theorem ValD.int {b : Nat} {i : Int} (h : i.natAbs < 2 ^ b) : ValD b 1921 0 (.int i) := ⟨decide_eq_true h, Nat.le_refl _, Nat.le_refl _⟩
theorem ValD.two {b n m : Nat} {x y : PyData} (hx : ValD b n m x) (hy : ValD b n m y) : ValD b (2 * n + 7) (m + 1) (.tuple [x, y]) := by
  have := ValD.tup (ds := [x, y]) (b := b) (n := n) (m := m) fun d hd => by
    simp only [List.mem_cons, List.not_mem_nil, or_false] at hd
    rcases hd with rfl | rfl
    · exact hx
    · exact hy
  exact ⟨this.fi, by have := this.sz; simp only [List.length_cons, List.length_nil] at this; omega, this.dp⟩
theorem ValD.fd {b : Nat} {x : Int × Int} (h : Fr.Sz b x) : ValD b 3849 1 (fd x) := ValD.two (n := 1921) (m := 0) (.int h.1) (.int h.2)
theorem ValD.shw {b n m : Nat} {d : PyData} (h : ValD b n m d) (h0 : 0 < b) (h9 : b ≤ 1920) : Shw d n m := (fine_shw h0 h9 h.fi).mono h.sz h.dp
theorem OddD.vd {d : PyData} (h : OddD d) : ValD 100 4000 3 d := ⟨h.fi, h.sz, h.dp⟩
theorem Near.val {b n m : Nat} {d d' : PyData} (h : Near b d d') (v : ValD b n m d) : ValD (b + 1) (2 * n + 4000) (m + 3) d' := ⟨h.fi, by have := h.sz; have := v.sz; omega, by have := h.dp; have := v.dp; omega⟩
theorem fine_fd {b : Nat} {x : Int × Int} (h : fine b (PM.fd x) = true) : Fr.Sz b x := by
  have h : (decide (x.1.natAbs < 2 ^ b) && (decide (x.2.natAbs < 2 ^ b) && true)) = true := h
  obtain ⟨h1, h2⟩ := Bool.and_eq_true_iff.mp h
  exact ⟨of_decide_eq_true h1, of_decide_eq_true (Bool.and_eq_true_iff.mp h2).1⟩
theorem PanOk.vd {most : Nat} {its : List (Int × Int)} {rls : List (Nat × Nat)} (h : PanOk most its rls) (hm : most ≤ 8) : ValD 100 62000 2 (.tuple (its.map itD)) ∧ ValD 100 62000 2 (.tuple (rls.map rlD)) ∧ ValD 100 130000 3 (pnD its rls) := by
  have n8 := h.n8
  have a : ValD 100 62000 2 (.tuple (its.map itD)) := (ValD.tupM (b := 100) (n := 3849) (m := 1) (l := 16) (fun q hq => ValD.two (.int (by have := h.mrk q hq; omega)) (.int (by have := h.wt q hq; omega))) (by omega)).mono (Nat.le_refl _) (by decide) (by decide)
  have b : ValD 100 62000 2 (.tuple (rls.map rlD)) := (ValD.tupM (b := 100) (n := 3849) (m := 1) (l := 16) (fun q hq => ValD.two (.int (by have := h.rl q hq; omega)) (.int (by have := h.rl q hq; omega))) h.r16).mono (Nat.le_refl _) (by decide) (by decide)
  exact ⟨a, b, (ValD.two a b).mono (Nat.le_refl _) (by decide) (by decide)⟩
theorem tgt0 {A : Prop} (h : A) : A := h
theorem fineL_mem {b : Nat} : ∀ {ds : List PyData}, fine.fineL b ds = true → ∀ d ∈ ds, fine b d = true
  | d :: ds, h, x, hx => by
    unfold fine.fineL at h
    obtain ⟨h1, h2⟩ := Bool.and_eq_true_iff.mp h
    rcases List.mem_cons.mp hx with rfl | hx
    · exact h1
    · exact fineL_mem h2 x hx
end PM

/-! the first fault of a value as a panel -/
namespace PM
open PySem PySem.Spec PyProof.Rows L2 RZ
def inI (lo hi : Int) : PyData → Bool
  | .int i => decide (lo ≤ i) && decide (i ≤ hi)
  | _ => false
def flt (p : List Nat) (s : Str) : PyData := .tuple [.tuple (p.map nD), .str s]
def fltW : List Str := ["panel", "items", "rules", "item", "rule", "mark", "weight", "low", "high"]
def itF (n : Nat) (v : PyData) : PyData := match v with
  | .tuple [m, w] => if inI (-1000000000) 1000000000 m = true then (if inI 1 1000000 w = true then .none else flt [0, n, 1] "weight") else flt [0, n, 0] "mark"
  | _ => flt [0, n] "item"
def sameI : PyData → PyData → Bool
  | .int i, .int j => decide (i = j)
  | _, _ => false
def rlF (c n : Nat) (v : PyData) : PyData := match v with
  | .tuple [l, h] => if isIx c l = true then (if isIx c h = true ∧ sameI l h = false then .none else flt [1, n, 1] "high") else flt [1, n, 0] "low"
  | _ => flt [1, n] "rule"
def firstF : List PyData → PyData
  | [] => .none
  | .none :: r => firstF r
  | d :: _ => d
def itFs (is : List PyData) : List PyData := (List.range is.length).map fun t => itF t (is.getD t .none)
def rlFs (c : Nat) (rs : List PyData) : List PyData := (List.range rs.length).map fun t => rlF c t (rs.getD t .none)
def fltB (is : List PyData) (b : PyData) : PyData := match b with
  | .tuple rs => if rs.length ≤ 16 then firstF (itFs is ++ rlFs is.length rs) else flt [1] "rules"
  | _ => flt [1] "rules"
def fltP (v : PyData) : PyData := match v with
  | .tuple [a, b] => match a with
    | .tuple is => if 1 ≤ is.length ∧ is.length ≤ 8 then fltB is b else flt [0] "items"
    | _ => flt [0] "items"
  | _ => flt [] "panel"
theorem firstF_nons : ∀ {xs : List PyData} (B : List PyData), (∀ x ∈ xs, x = .none) → firstF (xs ++ B) = firstF B
  | [], _, _ => rfl
  | x :: xs, B, h => by
    have e := h x List.mem_cons_self
    have ih := firstF_nons (xs := xs) B fun y hy => h y (List.mem_cons_of_mem _ hy)
    subst e
    exact ih
theorem firstF_hit {d : PyData} (h : d ≠ .none) (r : List PyData) : firstF (d :: r) = d := by
  cases d <;> first | rfl | exact absurd rfl h
theorem first_at {n t : Nat} (F : Nat → PyData) (B : List PyData) (ht : t < n) (h : ∀ s, s < t → F s = .none) (hf : F t ≠ .none) : firstF ((List.range n).map F ++ B) = F t := by
  obtain ⟨k, rfl⟩ : ∃ k, n = t + (1 + k) := ⟨n - t - 1, by omega⟩
  rw [List.range_add, List.map_append, List.append_assoc, firstF_nons _ fun x hx => by
    obtain ⟨s, hs, rfl⟩ := List.mem_map.mp hx
    exact h s (List.mem_range.mp hs)]
  rw [show 1 + k = k + 1 by omega, List.range_succ_eq_map, List.map_cons, List.map_cons, List.cons_append, Nat.add_zero]
  exact firstF_hit hf _
theorem first_none {n : Nat} (F : Nat → PyData) (B : List PyData) (h : ∀ s, s < n → F s = .none) : firstF ((List.range n).map F ++ B) = firstF B := firstF_nons _ fun x hx => by
  obtain ⟨s, hs, rfl⟩ := List.mem_map.mp hx
  exact h s (List.mem_range.mp hs)
theorem flt_ne {p : List Nat} {s : Str} : flt p s ≠ .none := fun h => by cases h
theorem itF_ok (n : Nat) (v : PyData) : itF n v = .none ∨ ∃ p s, itF n v = flt p s ∧ p.length ≤ 3 ∧ (∀ i ∈ p, i ≤ n + 1) ∧ s ∈ fltW := by
  have key : ∀ p s, p.length ≤ 3 → (∀ i ∈ p, i ≤ n + 1) → s ∈ fltW → flt p s = .none ∨ ∃ p' s', flt p s = flt p' s' ∧ p'.length ≤ 3 ∧ (∀ i ∈ p', i ≤ n + 1) ∧ s' ∈ fltW := fun p s h1 h2 h3 => .inr ⟨p, s, rfl, h1, h2, h3⟩
  unfold itF
  split
  · split
    · split
      · exact .inl rfl
      · exact key _ _ (by simp) (by simp) (by simp [fltW])
    · exact key _ _ (by simp) (by simp) (by simp [fltW])
  · exact key _ _ (by simp) (by simp) (by simp [fltW])
theorem rlF_ok (c n : Nat) (v : PyData) : rlF c n v = .none ∨ ∃ p s, rlF c n v = flt p s ∧ p.length ≤ 3 ∧ (∀ i ∈ p, i ≤ n + 1) ∧ s ∈ fltW := by
  have key : ∀ p s, p.length ≤ 3 → (∀ i ∈ p, i ≤ n + 1) → s ∈ fltW → flt p s = .none ∨ ∃ p' s', flt p s = flt p' s' ∧ p'.length ≤ 3 ∧ (∀ i ∈ p', i ≤ n + 1) ∧ s' ∈ fltW := fun p s h1 h2 h3 => .inr ⟨p, s, rfl, h1, h2, h3⟩
  unfold rlF
  split
  · split
    · split
      · exact .inl rfl
      · exact key _ _ (by simp) (by simp) (by simp [fltW])
    · exact key _ _ (by simp) (by simp) (by simp [fltW])
  · exact key _ _ (by simp) (by simp) (by simp [fltW])
theorem firstF_in : ∀ (xs : List PyData), firstF xs = .none ∨ firstF xs ∈ xs
  | [] => .inl rfl
  | d :: r => by
    by_cases h : d = .none
    · subst h
      rcases firstF_in r with e | e
      · exact .inl e
      · exact .inr (List.mem_cons_of_mem _ e)
    · rw [firstF_hit h]
      exact .inr List.mem_cons_self
theorem fltP_ok (v : PyData) : fltP v = .none ∨ ∃ p s, fltP v = flt p s ∧ p.length ≤ 3 ∧ (∀ i ∈ p, i ≤ 20) ∧ s ∈ fltW := by
  have key : ∀ p s, p.length ≤ 3 → (∀ i ∈ p, i ≤ 20) → s ∈ fltW → flt p s = .none ∨ ∃ p' s', flt p s = flt p' s' ∧ p'.length ≤ 3 ∧ (∀ i ∈ p', i ≤ 20) ∧ s' ∈ fltW := fun p s h1 h2 h3 => .inr ⟨p, s, rfl, h1, h2, h3⟩
  unfold fltP
  split
  · split
    · split
      · unfold fltB
        split
        · split
          · rename_i is hi b rs hr
            rcases firstF_in (itFs is ++ rlFs is.length rs) with e | e
            · exact .inl e
            · rcases List.mem_append.mp e with h | h
              · obtain ⟨t, ht, e2⟩ := List.mem_map.mp h
                have ht := List.mem_range.mp ht
                rw [← e2]
                rcases itF_ok t (is.getD t .none) with o | ⟨p, s, o, h1, h2, h3⟩
                · exact .inl o
                · rw [o]
                  exact key _ _ h1 (fun i hi => by have := h2 i hi; omega) h3
              · obtain ⟨t, ht, e2⟩ := List.mem_map.mp h
                have ht := List.mem_range.mp ht
                rw [← e2]
                rcases rlF_ok is.length t (rs.getD t .none) with o | ⟨p, s, o, h1, h2, h3⟩
                · exact .inl o
                · rw [o]
                  exact key _ _ h1 (fun i hi => by have := h2 i hi; omega) h3
          · exact key _ _ (by simp) (by simp) (by simp [fltW])
        · exact key _ _ (by simp) (by simp) (by simp [fltW])
      · exact key _ _ (by simp) (by simp) (by simp [fltW])
    · exact key _ _ (by simp) (by simp) (by simp [fltW])
  · exact key _ _ (by simp) (by simp) (by simp [fltW])
theorem plain_nats (p : List Nat) : plainD.plainL (p.map nD) = true := by
  induction p with
  | nil => rfl
  | cons a r ih =>
    show (true && plainD.plainL (r.map nD)) = true
    rw [ih]
    rfl
theorem dep_nats (p : List Nat) : dep.depL (p.map nD) = 0 := by
  induction p with
  | nil => rfl
  | cons a r ih =>
    show max 0 (dep.depL (r.map nD)) = 0
    rw [ih]
    rfl
theorem fltW_ok {s : Str} (h : s ∈ fltW) : PyData.strOk s = true ∧ shwN (.str s) ≤ 100 := by
  simp only [fltW, List.mem_cons, List.not_mem_nil, or_false] at h
  rcases h with rfl | rfl | rfl | rfl | rfl | rfl | rfl | rfl | rfl <;> exact ⟨by decide +kernel, by decide +kernel⟩
theorem fltP_plain (v : PyData) : plainD (fltP v) = true ∧ dep (fltP v) < 8 ∧ ValD 100 20000 2 (fltP v) := by
  rcases fltP_ok v with e | ⟨p, s, e, h1, h2, h3⟩
  · rw [e]
    exact ⟨rfl, by decide, rfl, by decide, by decide⟩
  · rw [e]
    obtain ⟨w1, w2⟩ := fltW_ok h3
    refine ⟨?_, ?_, ?_⟩
    · show (decide (2 ≤ 1000) && ((decide ((p.map nD).length ≤ 1000) && plainD.plainL (p.map nD)) && (PyData.strOk s && true))) = true
      rw [plain_nats, w1, decide_eq_true (show (p.map nD).length ≤ 1000 by rw [List.length_map]; omega)]
      rfl
    · show max (dep.depL (p.map nD) + 1) (max 0 0) + 1 < 8
      rw [dep_nats]
      decide
    · refine (ValD.two (b := 100) (n := 6000) (m := 1) ((ValD.tupM (n := 1921) (m := 0) (l := 3) (fun i hi => ValD.int (by have := h2 i hi; omega)) h1).mono (Nat.le_refl _) (by decide) (by decide)) ⟨rfl, Nat.le_trans w2 (by decide), by simp [PyData.depth]⟩).mono (Nat.le_refl _) (by decide) (by decide)
end PM

namespace PM
open PySem PySem.Spec PyProof.Rows L2 RZ
/-! ### defs that may raise an error of one own class -/
/-- two ways on: a value, or the error -/
abbrev SpX := List PyData → (DV → Prop) → Prop → Prop
def prX (C : Addr) (S : SpX) : Sp := fun vs H Q E => ∃ G ds k r, Same G H ∧ DaL G vs ds ∧ S ds k r ∧
  (∀ dv G' H' v, k dv → Same G G' → Same G' H' → Same H H' → Frs G H G' → RV G' noPl 0 v dv → Q v H') ∧
  ∀ G' H', r → Same G G' → Same G' H' → Same H H' → Frs G H G' → E (.ref C) none H'
def sx3 (F : PyData → PyData → PyData → (DV → Prop) → Prop → Prop) : SpX := fun ds k r => match ds with
  | [a, b, c] => F a b c k r
  | _ => False
theorem sx3_inv {F} {ds : List PyData} {k : DV → Prop} {r : Prop} (h : sx3 F ds k r) : ∃ a b c, ds = [a, b, c] ∧ F a b c k r := by
  unfold sx3 at h
  split at h
  · exact ⟨_, _, _, rfl, h⟩
  · exact h.elim
theorem sx3_len {F} {ds : List PyData} {k : DV → Prop} {r : Prop} (h : sx3 F ds k r) : ds.length = 3 := by
  obtain ⟨_, _, _, rfl, _⟩ := sx3_inv h
  rfl
/-! ### statements in one frame -/
def SSc (c : Fr0) (t : TS) (d : DS) : Prop := ∀ G pl σ H e m D E, (∀ b, ¬ c.L b) → SR c G pl σ H e m → d E e m → ED c G pl m.length D E → t D σ H
theorem ssc_of {c : Fr0} {t : TS} {d : DS} (h : SS t d) : SSc c t d := fun G pl σ H e m D E hL sr q K => h _ _ _ _ _ _ _ _ _ hL sr q K
theorem ssc_seq {c : Fr0} {t u : TS} {d f : DS} (h1 : SS t d) (h2 : SSc c u f) : SSc c (tSeq t u) (dSeq d f) := fun G pl σ H e m D E hL sr d K =>
  h1 _ _ _ _ _ _ _ _ _ hL sr d ⟨fun G' pl' σ' H' e' m' q l sr' => h2 _ _ _ _ _ _ _ _ hL sr' q (K.le l), K.rt, K.bk, K.ct⟩
theorem ssc_seq' {c : Fr0} {t u : TS} {d f : DS} (h1 : SSc c t d) (h2 : SSc c u f) : SSc c (tSeq t u) (dSeq d f) := fun G pl σ H e m D E hL sr d K =>
  h1 _ _ _ _ _ _ _ _ hL sr d ⟨fun G' pl' σ' H' e' m' q l sr' => h2 _ _ _ _ _ _ _ _ hL sr' q (K.le l), K.rt, K.bk, K.ct⟩
theorem ssc_if {c : Fr0} {tc : TT} {t u : TS} {dc : DT} {d f : DS} (hc : ST tc dc) (ha : SSc c t d) (hb : SSc c u f) : SSc c (tIfS tc t u) (dIf dc d f) := fun G pl σ H e m D E hL sr d K =>
  hc _ _ _ _ _ _ _ _ _ sr d fun x m1 G1 pl1 H1 v1 d1 l1 sr1 r1 => by
    subst r1
    exact br_ite ⟨fun z => ha _ _ _ _ _ _ _ _ hL sr1 (d1.1 z) (K.le l1), fun z => hb _ _ _ _ _ _ _ _ hL sr1 (d1.2 z) (K.le l1)⟩
def dRaise (r : Prop) : DS := fun _ _ _ => r
theorem ssc_raise {c : Fr0} {C : Addr} {E0' : XK} {r : Prop} (h : ∀ G pl σ H e m, r → SR c G pl σ H e m → E0' (.ref C) none H) : SSc c (fun _ _ H => E0' (.ref C) none H) (dRaise r) := fun G pl σ H e m D E hL sr d K => h _ _ _ _ _ _ d sr
abbrev frX (G H : Hp) : Fr0 := ⟨G, H, fun _ => False, fun _ => False⟩
/-- a def's body -/
theorem runX {t : TS} {d : DS} {N : List Str} {vs : List V} {ds : List PyData} {k : DV → Prop} {r : Prop} {G H : Hp} {Q : VK} {E' : XK} {C : Addr} (h : (∀ G' pl σ H' e m, r → SR (frX G H) G' pl σ H' e m → E' (.ref C) none H') → SSc (frX G H) t d) (sub : Same G H) (rs : DaL G vs ds)
    (K : ∀ dv G' H' v, k dv → Same G G' → Same G' H' → Same H H' → Frs G H G' → RV G' noPl 0 v dv → Q v H')
    (KX : ∀ G' H', r → Same G G' → Same G' H' → Same H H' → Frs G H G' → E' (.ref C) none H')
    (hd : d (eP k) (dStart N.length (ds.map DV.d)) []) : t { nx := fun _ H' => Q .non H', rt := Q } (L2.start N vs) H := by
  have hr : HR (frX G H) G noPl H [] := ⟨sub, fun i o e => by simp at e, fun i o b e => by simp at e, fun i o b e => by simp at e, fun i j o o' b _ e => by simp at e, .refl G, fun b o _ _ e => e, fun b e => e, fun b e => .inl e⟩
  refine h (fun G' pl σ H' e m hr' sr => KX G' H' hr' sr.hp.g0 sr.hp.sub (fun b o e => sr.hp.h0 b o id id e) sr.hp.nw) _ _ _ _ _ _ _ _ (fun b z => z) ⟨ER.start (.ofL rs), hr⟩ hd ⟨fun G' pl' σ' H' e' m' q l sr => ?_, fun dv m' G' pl' H' v q l hr' rv => ?_, fun _ _ _ _ _ _ q => q.elim, fun _ _ _ _ _ _ q => q.elim⟩
  · exact K (.d .none) G' H' .non q l.g sr.hp.sub (fun b o e => sr.hp.h0 b o id id e) sr.hp.nw (show Da G' .non .none from .non)
  · obtain ⟨np, q⟩ := rtP_inv (k := k) (o := dN m') q
    exact K dv G' H' v q l.g hr'.sub (fun b o e => hr'.h0 b o id id e) hr'.nw (rv.none np)
/-- such a def -/
def OkX (P : Program) (w : World) (K : PySem.W.Frag) (mg : Str → Option Value) (base : Heap) (k : Nat) (x : Str) (st : Stmt) (ps : List Str) (sp : Sp) : Prop :=
  ∃ f fd, Def1 K mg x st ps f fd ∧ FnOk P w K mg base (L2.CX P w) k f fd ps sp
/-! ### isinstance of the error that the suite holds, and a tuple of classes -/
def rIsET (K : PySem.W.Frag) (D a : Addr) : List V → Hp → VK → Prop := fun xs H Q => ∃ (tp : Addr) (cs : List V) (us : List Value) (b : Bool), xs = [.ref a, .ref tp] ∧ H tp = some (.tup cs) ∧ Paired ClsV cs us ∧ PySem.W.kitAny K (.ref D) us = some b ∧ Q (.bl b) H
theorem call_heldT {X : Cx} {a : Addr} {oe : Obj} {cls : Value} {d : Option Addr} {pn : List (Addr × Obj)} (hz : Zc cls d oe) (hf : ∃ vs, oe.data = .fields vs) :
    CallR (X.suite a ((a, oe) :: pn)) (.builtin "isinstance") (fun xs H Q => ∃ D, cls = .ref D ∧ d = none ∧ ExcC X.K D ∧ rIsET X.K D a xs H Q) := by
  intro pins s σ H xs us Q I r h
  obtain ⟨D, rfl, rfl, C, tp, cs, ws, b, rfl, hT, k, e, q⟩ := h
  obtain ⟨u1, u2, rfl, r1, r2⟩ := vals2 r
  cases (show u2 = Value.ref tp from r2)
  cases (show u1 = Value.ref a from r1)
  obtain ⟨hget, _⟩ := I.pin (a, oe) (List.mem_append.mpr (.inl List.mem_cons_self))
  obtain ⟨vs, hv⟩ := hf
  have J : PySem.W.InstAt s.heap a oe D none := by
    obtain ⟨oc, od, oda, osl⟩ := oe
    obtain ⟨h1, h2⟩ := hz
    dsimp only at h1 h2 hv
    subst h1 h2 hv
    exact ⟨hget, rfl, rfl, trivial⟩
  obtain ⟨_, its, rv, o, h1, h2, n, h3⟩ := (show ObjOk X.prog X.w H s.heap tp (.tup cs) from I.hok tp _ hT)
  have e3 := ClsV.all k rv
  subst e3
  obtain ⟨oc, od, dt, sl⟩ := o
  simp only at h2 h3
  subst h2 h3
  exact PySem.W.kia_tup (PySem.W.handS_kitx_exc C.hg C.hk C.hs C.hd C.ha C.hn C.ht C.hm) I.kIn J h1 e (fun z => nomatch z) fun tk => ⟨.bl b, H, I.kept (t' := tk) fun _ _ z => z, rfl, q⟩
end PM

set_option maxHeartbeats 2000000
/-! lambdas that a def hands to another def; the tables of code objects among what changes -/
namespace PM
open PySem PySem.Spec PyProof.Rows L2 RZ
def lamQ (q : Str) : Str := q ++ "<lambda>"
def locQ (x : Str) : Str := x ++ ".<locals>."
/-- behind the making of a lambda: its code object was there, or is new -/
def LamTo (q : Str) (P : Addr) (ps : Array Value) (H H1 : Hp) : Prop :=
  H1 = H ∨ ∃ (at_ : Pos) (n : Addr), H n = none ∧ H1 = upd (upd H P (.tbl (ps ++ #[rawInt at_.line, rawInt at_.col, .ref n]))) n (LamX.CodeO n q)
/-- the table at P: what it lists stands -/
def TabOk (q : Str) (P : Addr) (ps : Array Value) (H : Hp) : Prop :=
  H P = some (.tbl ps) ∧ TriplesOk ps.toList ∧ ∀ at_ cv, codeAmong at_ ps.toList = some cv → ∃ n, cv = .ref n ∧ H n = some (LamX.CodeO n q)
section
variable {X : Cx} {pins : List (Addr × Obj)} {σ : L2.St} {H : Hp} {s : Shared}
theorem lam_new {c P : Addr} {ps : Array Value} {params : Arguments} {body : Expr} {scope : Scope} {pos : Pos} {E Q : Value → Shared → Prop} (I : Inv X pins σ H s) (B : LamX.TabB X.base X.mg c P) (own : X.env.code = .ref c) (tab : TabOk (lamQ X.env.qual) P ps H)
    (dfl : defaultsOf params X.env = ([], [])) (caught : ∀ y ∈ scope.names, y.2 = .free → ∃ cell, X.env.cells.lookup y.1 = some cell)
    (go : ∀ (f n : Addr) (pm ct : Value) (H1 : Hp) (s1 : Shared), LamTo (lamQ X.env.qual) P ps H H1 → Inv X pins σ H1 s1 →
      s1.heap.get? f = some (PySem.W.kla_obj "<lambda>" (lamQ X.env.qual) params body scope (cloFrom X.env.cells scope.names []) pm n ct) → H1 f = none → f ∉ frs X.stack → H1 n = some (LamX.CodeO n (lamQ X.env.qual)) → Q (.ref f) s1) :
    wpAny (model X.prog X.w) X.A (eval (.Lambda params body scope pos) X.env) Q E s := by
  obtain ⟨tP, tri, all⟩ := tab
  refine PySem.W.kla_eval dfl ?_
  have atP : s.heap.get? P = some { cls := .none, data := .fields ps } := I.hok P _ tP
  have blt : s.heap.BuiltinsAt X.mg P := B.bm.keeps I.bk
  have offStack : ∀ f, s.heap.objs.size ≤ f → f ∉ frs X.stack := by
    intro f big inS
    rcases List.mem_cons.mp (I.stkSub _ inS) with here | there
    · have small := I.lt
      rw [← here] at small
      exact absurd big (Nat.not_le.mpr small)
    · exact I.nofs big there
  generalize hn : codeAmong pos ps.toList = found
  match found, hn with
  | some cv, hn =>
    obtain ⟨n, rfl, stands⟩ := all pos cv hn
    refine PySem.W.kla_makeFunctionHit (mg := X.mg) (c := c) (P := P) (ps := ps) (closure_ok caught) I.ok.glob (I.mod.glob.keeps I.bk) own (B.code.keeps I.bk) atP tri hn blt ?_
    intro ct hp tk keeps above
    have J : Inv X pins σ H { s with heap := hp.push (PySem.W.kla_obj "<lambda>" (lamQ X.env.qual) params body scope (cloFrom X.env.cells scope.names []) ((X.mg "__name__").getD .none) n ct), toks := tk } :=
      I.kept fun b o is => Heap.get?_push_of_some _ (keeps b o is)
    exact go _ n _ ct H _ (.inl rfl) J (Heap.get?_push_size _ rfl) (I.hok.fresh above) (offStack _ above) stands
  | none, hn =>
    refine PySem.W.kla_makeFunction (mg := X.mg) (c := c) (P := P) (ps := ps) (closure_ok caught) I.ok.glob (I.mod.glob.keeps I.bk) own (B.code.keeps I.bk) atP tri hn B.gP blt ?_
    intro n ct hp tk ext low high rec_ newTab
    obtain ⟨n', oc, vs, t, same, isO, isF, named⟩ := rec_
    cases same
    have free : H n = none := I.hok.fresh low
    have above : s.heap.objs.size ≤ hp.objs.size := Nat.le_trans low (Nat.le_of_lt high)
    have J := LamX.inv_table (t' := tk) (more := #[rawInt pos.line, rawInt pos.col, .ref n]) (h' := hp.push (PySem.W.kla_obj "<lambda>" (lamQ X.env.qual) params body scope (cloFrom X.env.cells scope.names []) ((X.mg "__name__").getD .none) n ct)) I tP
      (fun b o off is => Heap.get?_push_of_some _ (ext b o off is)) (Heap.get?_push_of_some _ newTab) low ⟨oc, vs, t, Heap.get?_push_of_some _ isO, isF, named⟩
    refine go hp.objs.size n _ ct _ _ (.inr ⟨pos, n, free, rfl⟩) J (Heap.get?_push_size _ rfl) ?_ (offStack _ above) upd_same
    have offP : hp.objs.size ≠ P := fun z => absurd (Heap.lt_size atP) (Nat.not_lt.mpr (by rw [← z]; exact above))
    rw [upd_ne (fun z => absurd high (by rw [z]; exact Nat.lt_irrefl _)), upd_ne offP]
    exact I.hok.fresh above
end
/-- the call of a lambda that was handed over: what it lets out is told at the very slots -/
theorem act_at {X : Cx} {pins : List (Addr × Obj)} {σ : L2.St} {H : Hp} {s : Shared} {Eg : XK} {Ng : List Str} {qg : Str} {sg : Scope} {g f n : Addr} {cdg pm ct : Value} {params : Arguments} {body : Expr} {scope : Scope} {k i : Nat} {a : Str} {pn : List (Addr × Obj)} {xe : Value → Shared → Prop} {W : WX} {t : XK → TE} {p1 p2 : Pos}
    (I : Inv X pins σ H s) (L : LamX.LamS X.env.scope scope) (isF : s.heap.get? f = some (PySem.W.kla_obj "<lambda>" (lamQ X.env.qual) params body scope (cloFrom X.env.cells scope.names []) pm n ct)) (gone : H f = none) (off : f ∉ frs X.stack)
    (bare : bindArgs (PySem.W.kla_fn "<lambda>" (lamQ X.env.qual) params body scope (cloFrom X.env.cells scope.names []) pm (.ref n) ct) ⟨[], []⟩ = pure [])
    (tk : Takes ((cxOf C8.CX0 X.prog X.w X.K X.mg X.base Ng qg sg g cdg X.A X.stack s H Eg).tr pn xe) W) (room : Room (k + 1) (X.A.deeper (envOfC qg sg s.heap.objs.size g cdg)))
    (inside : ∀ (A : Around) (outer : List Env) (s' : Shared) (H' : Hp) (E : XK), Room k (A.deeper (LamX.lamEnv X scope s'.heap.objs.size f n)) → PE (LamX.lamCx X A outer s' H' E scope f n) body (t E))
    (at_ : Ng[i]? = some a) (vis : Vis sg a) (n2 : (a == ("__debug__" : Str)) = false) (n3 : (a == ("__classdict__" : Str)) = false) :
    PE ((cxOf C8.CX0 X.prog X.w X.K X.mg X.base Ng qg sg g cdg X.A X.stack s H Eg).tr pn xe) (.Call (.Name a p1) [] [] p2)
      (fun σZ HZ Q => σZ[i]? = some (some (.ref f)) ∧ HZ n = some (LamX.CodeO n (lamQ X.env.qual)) ∧ ∃ E : XK, (∀ cls d H', E cls d H' → W cls d σZ H') ∧ t E σ HZ Q) := by
  refine ⟨fun pinsZ sZ σZ HZ Q IZ rd => ?_⟩
  obtain ⟨slot, isC, E, out, rd⟩ := rd
  have got := (pe_var (pos := p1) (i := i) at_ vis n2 n3).run pinsZ sZ σZ HZ (fun v H1 => v = .ref f ∧ H1 = HZ) IZ ⟨.ref f, slot, rfl, rfl⟩
  refine wpAny_Call_Name_kw (thn got fun u s1 z => ?_)
  obtain ⟨v, H1, I1, ru, rfl, rfl⟩ := z
  cases (show u = Value.ref f from ru)
  have there := I1.base.keep f _ isF gone off (fun z => nomatch (show f ∈ ([] : List Addr) from z))
  refine PySem.W.callWith_F0 ⟨_, _, _, _, there⟩ ?_
  obtain ⟨⟨oc, fs, tq, getC, isFs, named⟩, _, _⟩ := I1.hok n _ isC
  have ran : codeAny (model X.prog X.w) (X.A.deeper (envOfC qg sg s.heap.objs.size g cdg)) (.call (.ref f) ⟨[], []⟩) (CR (L2.CX X.prog X.w) (envOfC qg sg s.heap.objs.size g cdg :: X.stack) X.prog X.w H1 s1 Q E) s1 := by
    refine PySem.W.kla_callFunE room.depth there rfl L.co L.gen rfl ⟨n, oc, fs, tq, rfl, getC, isFs, named⟩ ?_
    rw [bare]
    refine wpAny_pure (wpAny_newFunctionEnv (fun y mem => (L.own y mem).2) (fun y mem => (List.not_mem_nil mem).elim) (fun hp isNs sub => ⟨I1.nolimit.fresh _ sub, PySem.W.kla_codeExpr ?_⟩) L.kind)
    have J := LamX.lam_start2 (tk := s1.toks + ([] : List (Str × Value)).length) (E := E) (c' := n) (f := f) I L I1.env0 room.hd I1.base isNs fun b o e => sub.extBut b o (Nat.ne_of_lt (Heap.lt_size e)) (Heap.get?_push_of_some _ e)
    refine wpAny_mono ((inside _ _ s1 H1 E (room.deeper _)).run [] _ _ H1 Q J rd) (fun v s' z => ?_) fun _ _ z => z
    obtain ⟨v', H', J', rv, q⟩ := z
    exact ⟨v', H', J'.os, J'.bare, J'.base, J'.hok, rv, q⟩
  refine wpAny_call (codeAny_mono ran fun r s' z => ?_)
  match r, z with
  | .error e, z => exact tk e s' (XE.of_call I1 (fun cls d H' h => out cls d H' h) z)
  | .ok (.ret u), z => exact I1.after z
  | .ok .next, z => exact (show False from z).elim
  | .ok .brk, z => exact (show False from z).elim
  | .ok .cont, z => exact (show False from z).elim
/-- a def that calls what it got: TT tells what it makes of it -/
def GivesS (X : Cx) (Ng : List Str) (x : Str) (sg : Scope) (g : Addr) (cdg : Value) (bg : List Stmt) (a : Str) (q : Str) (TT : (XK → Hp → VK → Prop) → Hp → VK → Prop) : Prop :=
  ∀ (f n : Addr) (s : Shared) (H : Hp) (Q : VK) (tl : XK → Hp → VK → Prop),
    (∀ (W : WX) (pn : List (Addr × Obj)) (xe : Value → Shared → Prop) (p1 p2 : Pos), Takes ((cxOf C8.CX0 X.prog X.w X.K X.mg X.base Ng x sg g cdg X.A X.stack s H C8.E0).tr pn xe) W →
      PE ((cxOf C8.CX0 X.prog X.w X.K X.mg X.base Ng x sg g cdg X.A X.stack s H C8.E0).tr pn xe) (.Call (.Name a p1) [] [] p2) (fun σZ HZ Q => σZ[0]? = some (some (.ref f)) ∧ HZ n = some (LamX.CodeO n q) ∧ ∃ E : XK, (∀ cls d H', E cls d H' → W cls d σZ H') ∧ tl E HZ Q)) →
    H n = some (LamX.CodeO n q) → TT tl H Q →
    ∃ t, PSs (cxOf C8.CX0 X.prog X.w X.K X.mg X.base Ng x sg g cdg X.A X.stack s H C8.E0).nox bg t ∧ t { nx := fun _ H' => Q .non H', rt := Q } (L2.start Ng [.ref f]) H
/-- x(lambda: ..) where x makes TT of what the lambda does -/
def tLamC (q : Str) (P : Addr) (TT : (XK → Hp → VK → Prop) → Hp → VK → Prop) (t : XK → TE) : TE := fun σ H Q => ∃ ps, TabOk q P ps H ∧ ∀ H1, LamTo q P ps H H1 → TT (fun E H2 Q2 => t E σ H2 Q2) H1 Q
theorem pe_lamC {X : Cx} {qn : Str} {TT : (XK → Hp → VK → Prop) → Hp → VK → Prop} {x a : Str} {g c P : Addr} {k : Nat} {st : Stmt} {fd : FuncData} {Ng : List Str} {params : Arguments} {body : Expr} {scope : Scope} {t : XK → TE} {p lpos pos : Pos}
    (hq : X.env.qual = qn) (D : Def1 X.K X.mg x st [a] g fd) (hg : Gl X x) (Sg : FnScope Ng [a] (defScope st)) (first : Ng[0]? = some a) (vis : Vis (defScope st) a)
    (gives : ∀ cdv, GivesS X Ng x (defScope st) g cdv (defBody st) a (lamQ X.env.qual) TT)
    (B : LamX.TabB X.base X.mg c P) (own : X.env.code = .ref c) (hr : Room (k + 2) X.A) (L : LamX.LamS X.env.scope scope) (dfl : defaultsOf params X.env = ([], []))
    (bare : ∀ (q : Str) (cl : List (Str × Addr)) (pm cv ct : Value), bindArgs (PySem.W.kla_fn "<lambda>" q params body scope cl pm cv ct) ⟨[], []⟩ = pure [])
    (inside : ∀ (A : Around) (outer : List Env) (s : Shared) (H : Hp) (E : XK) (f n : Addr), Room k (A.deeper (LamX.lamEnv X scope s.heap.objs.size f n)) → PE (LamX.lamCx X A outer s H E scope f n) body (t E))
    (n1 : (x == ("__debug__" : Str)) = false := by decide) (n2 : (a == ("__debug__" : Str)) = false := by decide) (n3 : (a == ("__classdict__" : Str)) = false := by decide) :
    PE X (.Call (.Name x p) [.Lambda params body scope lpos] [] pos) (tLamC (lamQ qn) P TT t) := by
  subst hq
  obtain ⟨oc, od, kV, doc, pm0, an, cdv, ct0, osl, rfl, lk, hcd⟩ := D.F.ex
  refine ⟨fun pins s σ H Q I h => ?_⟩
  obtain ⟨ps, tab, h⟩ := h
  refine wpAny_Call_Name_kw (ld_glob I hg D.g ?_ n1)
  refine PySem.W.callWith_K (h₀ := X.base) I.ok.mod.kin D.F.kp ?_ (by rfl) (by rfl)
  show wpAny _ _ (spliced ((false, eval (.Lambda params body scope lpos) X.env) :: backTo pos (starEach [] X.env))) _ _ s
  refine Calls.spliced_cons (lam_new I B own tab dfl (L.has I.ok) fun f n pm ct H1 s1 to I1 isF gone off isC => Calls.spliced_nil ⟨I1.kIn, ?_⟩)
  have ran : codeAny (model X.prog X.w) X.A (.call (.ref g) ⟨[.ref f], []⟩) (CR C8.CX0 X.stack X.prog X.w H1 s1 Q C8.E0) s1 := by
    refine LamX.run_ofS (N := Ng) (ps := [a]) (us := [.ref f]) (vs := [.ref f]) lk hcd Sg hr I1.env0 (D.b s1 [.ref f] I1.kIn rfl) (.cons rfl .nil) rfl fun room => ?_
    obtain ⟨u, der, rd⟩ := gives cdv f n s1 H1 Q (fun E H2 Q2 => t E σ H2 Q2)
      (fun W pn xe p1 p2 tk => act_at (i := 0) I1 L isF gone off (bare _ _ _ _ _) tk room (fun A outer s2 H2 E r2 => inside A outer s2 H2 E f n r2) first vis n2 n3) isC (h H1 to)
    exact ⟨u, der.nox, rd⟩
  refine wpAny_call (codeAny_mono ran fun r s2 q => ?_)
  match r, q with
  | .error _, q => exact (show False from q).elim
  | .ok .next, q => exact q.elim
  | .ok .brk, q => exact q.elim
  | .ok .cont, q => exact q.elim
  | .ok (.ret u), q => exact I1.after q
end PM

set_option maxHeartbeats 2000000
/-! the tables of code objects among what changes; promises of defs that make lambdas -/
namespace PM
open PySem PySem.Spec PyProof.Rows L2 RZ
/-- tables with the names of the code objects that they list -/
abbrev Tbs := List (Addr × Str)
/-- the tables and the code objects made so far -/
def feet (T : Tbs) (Cs : List Addr) : List Addr := T.map (·.1) ++ Cs
def KT (T : Tbs) (Cs : List Addr) (H : Hp) : Prop :=
  (∀ p ∈ T, ∃ ps, TabOk p.2 p.1 ps H ∧ ∀ at_ n, codeAmong at_ ps.toList = some (.ref n) → n ∈ Cs) ∧ ∀ n ∈ Cs, ∃ q, H n = some (LamX.CodeO n q)
theorem feet_tab {T : Tbs} {Cs : List Addr} {p : Addr × Str} (h : p ∈ T) : p.1 ∈ feet T Cs := List.mem_append.mpr (.inl (List.mem_map.mpr ⟨p, h, rfl⟩))
theorem feet_cod {T : Tbs} {Cs : List Addr} {n : Addr} (h : n ∈ Cs) : n ∈ feet T Cs := List.mem_append.mpr (.inr h)
theorem feet_more {T : Tbs} {B Cs C2 : List Addr} {b : Addr} (h : b ∈ feet T (B ++ (Cs ++ C2))) : b ∈ feet T (B ++ Cs) ∨ b ∈ C2 := by
  unfold feet at *
  simp only [List.mem_append] at *
  rcases h with h | h | h | h
  · exact .inl (.inl h)
  · exact .inl (.inr (.inl h))
  · exact .inl (.inr (.inr h))
  · exact .inr h
theorem KT.stand {T : Tbs} {Cs : List Addr} {H : Hp} {b : Addr} (h : KT T Cs H) (f : b ∈ feet T Cs) : H b ≠ none := by
  rcases List.mem_append.mp f with f | f
  · obtain ⟨p, hp, rfl⟩ := List.mem_map.mp f
    obtain ⟨ps, t, _⟩ := h.1 p hp
    rw [t.1]; exact fun z => nomatch z
  · obtain ⟨q, e⟩ := h.2 b f
    rw [e]; exact fun z => nomatch z
theorem KT.keep {T : Tbs} {Cs : List Addr} {H H' : Hp} (h : KT T Cs H) (k : ∀ b x, b ∈ feet T Cs → H b = some x → H' b = some x) : KT T Cs H' := by
  refine ⟨fun p hp => ?_, fun n hn => ?_⟩
  · obtain ⟨ps, ⟨t1, t2, t3⟩, u⟩ := h.1 p hp
    refine ⟨ps, ⟨k _ _ (feet_tab hp) t1, t2, fun at_ cv e => ?_⟩, u⟩
    obtain ⟨n, rfl, e2⟩ := t3 at_ cv e
    exact ⟨n, rfl, k _ _ (feet_cod (u at_ n e)) e2⟩
  · obtain ⟨q, e⟩ := h.2 n hn
    exact ⟨q, k _ _ (feet_cod hn) e⟩
def kTab (T : Tbs) (B Cs : List Addr) : Knd where
  ft := fun _ => feet T (B ++ Cs)
  ok := fun _ H _ => KT T (B ++ Cs) H
  stand := fun h f => h.stand f
  keep := fun _ h k => h.keep k
  fr := none
  frz := fun f z => nomatch z
/-- behind the making of a lambda -/
theorem KT.to {T : Tbs} {Cs : List Addr} {H H1 : Hp} {P : Addr} {q : Str} {ps : Array Value} (h : KT T Cs H) (hT : (P, q) ∈ T) (hu : ∀ p ∈ T, p.1 = P → p.2 = q) (tP : H P = some (.tbl ps)) (to : LamTo q P ps H H1) :
    (∀ b o, b ∉ feet T Cs → H b = some o → H1 b = some o) ∧ (∀ b, H b ≠ none → H1 b ≠ none) ∧ ∃ C2, KT T (Cs ++ C2) H1 ∧ ∀ b ∈ C2, H b = none := by
  rcases to with rfl | ⟨at_, n, free, rfl⟩
  · exact ⟨fun _ _ _ e => e, fun _ e => e, [], by rw [List.append_nil]; exact h, fun b z => nomatch z⟩
  · have nP : P ≠ n := ne_of_none tP free
    have isP : upd (upd H P (.tbl (ps ++ #[rawInt at_.line, rawInt at_.col, .ref n]))) n (LamX.CodeO n q) P = some (.tbl (ps ++ #[rawInt at_.line, rawInt at_.col, .ref n])) := by rw [upd_ne nP, upd_same]
    have off : ∀ b, b ≠ P → b ≠ n → upd (upd H P (.tbl (ps ++ #[rawInt at_.line, rawInt at_.col, .ref n]))) n (LamX.CodeO n q) b = H b := fun b h1 h2 => by rw [upd_ne h2, upd_ne h1]
    have cod : ∀ m q', H m = some (LamX.CodeO m q') → upd (upd H P (.tbl (ps ++ #[rawInt at_.line, rawInt at_.col, .ref n]))) n (LamX.CodeO n q) m = some (LamX.CodeO m q') := fun m q' e => by
      rw [off m (fun z => LamX.codeO_ne ps (Option.some.inj (e.symm.trans (by rw [z]; exact tP)))) (ne_of_none e free)]
      exact e
    refine ⟨fun b o nf e => ?_, fun b e => ?_, [n], ⟨fun p hp => ?_, fun m hm => ?_⟩, fun b hb => by cases List.mem_singleton.mp hb; exact free⟩
    · rw [off b (fun z => nf (by rw [z]; exact feet_tab hT)) (ne_of_none e free)]
      exact e
    · by_cases z1 : b = n
      · rw [z1, upd_same]; exact fun z => nomatch z
      · by_cases z2 : b = P
        · rw [z2, isP]; exact fun z => nomatch z
        · rw [off b z2 z1]; exact e
    · by_cases hb : p.1 = P
      · obtain ⟨ps', ⟨t1, t2, t3⟩, u⟩ := h.1 p hp
        rw [hb, tP] at t1
        cases t1
        have e2 := hu p hp hb
        rw [e2, hb]
        rw [e2] at t3
        have el : (ps ++ #[rawInt at_.line, rawInt at_.col, .ref n]).toList = ps.toList ++ [rawInt at_.line, rawInt at_.col, .ref n] := by simp
        refine ⟨_, ⟨isP, by rw [el]; exact PySem.TriplesOk_snoc _ _ _ _ t2, fun p' cv e => ?_⟩, fun p' m e => ?_⟩
        · rw [el] at e
          rcases LamX.among_app _ t2 e with z | z
          · obtain ⟨m, rfl, e3⟩ := t3 p' cv z
            exact ⟨m, rfl, cod m q e3⟩
          · exact ⟨n, z, upd_same⟩
        · rw [el] at e
          rcases LamX.among_app _ t2 e with z | z
          · exact List.mem_append.mpr (.inl (u p' m z))
          · cases z
            exact List.mem_append.mpr (.inr (List.mem_singleton.mpr rfl))
      · obtain ⟨ps', ⟨t1, t2, t3⟩, u⟩ := h.1 p hp
        refine ⟨ps', ⟨by rw [off _ hb (ne_of_none t1 free)]; exact t1, t2, fun p' cv e => ?_⟩, fun p' m e => List.mem_append.mpr (.inl (u p' m e))⟩
        obtain ⟨m, rfl, e3⟩ := t3 p' cv e
        exact ⟨m, rfl, cod m _ e3⟩
    · rcases List.mem_append.mp hm with hm | hm
      · obtain ⟨q', e⟩ := h.2 m hm
        exact ⟨q', cod m q' e⟩
      · cases List.mem_singleton.mp hm
        exact ⟨q, upd_same⟩
/-- drawn numbers and tables changed -/
theorem HR.both {c : Fr0} {G H G' H' : Hp} {pl : Nat → Pl} {j j' : Nat} {T : Tbs} {B Cs C2 : List Addr} {ms : Mu} (h : HR c G pl H (.drw j :: .any (kTab T B Cs) :: ms)) (g : Same G G') (s : Same G' H')
    (hh : ∀ b o, b ≠ (pl 0).a → b ≠ (pl 0).c → b ≠ (pl 0).r → b ∉ feet T (B ++ Cs) → H b = some o → H' b = some o) (hu : ∀ b, H b ≠ none → H' b ≠ none) (f : Frs G H G') (dr : Drw H' (pl 0).a (pl 0).c (pl 0).r j')
    (kt : KT T (B ++ (Cs ++ C2)) H') (out : ∀ b ∈ C2, G' b = none) (new : ∀ b ∈ C2, b ∈ feet T (B ++ Cs) ∨ H b = none) : HR c G' pl H' (.drw j' :: .any (kTab T B (Cs ++ C2)) :: ms) := by
  have e0 : (MO.drw j :: .any (kTab T B Cs) :: ms)[0]? = some (.drw j) := rfl
  have e1 : (MO.drw j :: .any (kTab T B Cs) :: ms)[1]? = some (.any (kTab T B Cs)) := rfl
  have mem : ∀ b, b ∈ foot (pl 0) (.drw j) ↔ b = (pl 0).a ∨ b = (pl 0).c ∨ b = (pl 0).r := fun b => by simp [foot]
  have old : ∀ i o, (MO.drw j' :: .any (kTab T B (Cs ++ C2)) :: ms)[i]? = some o → (i = 0 ∧ o = .drw j') ∨ (i = 1 ∧ o = .any (kTab T B (Cs ++ C2))) ∨ (i ≠ 0 ∧ i ≠ 1 ∧ (MO.drw j :: .any (kTab T B Cs) :: ms)[i]? = some o) := fun i o e => by
    match i, e with
    | 0, e => cases e; exact .inl ⟨rfl, rfl⟩
    | 1, e => cases e; exact .inr (.inl ⟨rfl, rfl⟩)
    | i + 2, e => exact .inr (.inr ⟨by omega, by omega, e⟩)
  have cut : ∀ b, b ∈ feet T (B ++ (Cs ++ C2)) → b ∈ feet T (B ++ Cs) ∨ (b ∈ C2 ∧ H b = none) := fun b z => by
    rcases feet_more z with z | z
    · exact .inl z
    · rcases new b z with w | w
      · exact .inl w
      · exact .inr ⟨z, w⟩
  have gone : ∀ i o b, (MO.drw j :: .any (kTab T B Cs) :: ms)[i]? = some o → b ∈ foot (pl i) o → G' b = none := fun i o b e q => by
    cases z : G' b with
    | none => rfl
    | some x =>
      rcases f b (by rw [z]; exact fun w => nomatch w) with w | w
      · exact absurd (h.out i o b e q) w
      · exact absurd w (h.standF e q)
  have cH : ∀ b, H b = none → c.H b = none := fun b w => by
    cases z : c.H b with
    | none => rfl
    | some x => exact absurd w (h.up b (by rw [z]; exact fun w => nomatch w))
  refine ⟨s, fun i o e => ?_, fun i o b e q => ?_, fun i o b e q => ?_, fun i i' o o' b ne e1' e2' q1 q2 => ?_, h.g0.trans g, fun b o n1 n2 e => ?_, fun b e => hu b (h.up b e), fun b e => ?_⟩
  · rcases old i o e with ⟨rfl, rfl⟩ | ⟨rfl, rfl⟩ | ⟨n0, n1, e⟩
    · exact dr
    · exact kt
    · refine (h.mo i o e).keep g fun b x q e' => hh b x (fun z => ?_) (fun z => ?_) (fun z => ?_) (fun z => ?_) e'
      · exact h.dj 0 i _ o b (Ne.symm n0) e0 e ((mem b).mpr (.inl z)) q
      · exact h.dj 0 i _ o b (Ne.symm n0) e0 e ((mem b).mpr (.inr (.inl z))) q
      · exact h.dj 0 i _ o b (Ne.symm n0) e0 e ((mem b).mpr (.inr (.inr z))) q
      · exact h.dj 1 i _ o b (Ne.symm n1) e1 e z q
  · rcases old i o e with ⟨rfl, rfl⟩ | ⟨rfl, rfl⟩ | ⟨n0, n1, e⟩
    · exact gone 0 _ b e0 q
    · rcases cut b q with z | ⟨z, _⟩
      · exact gone 1 _ b e1 z
      · exact out b z
    · exact gone i o b e q
  · rcases old i o e with ⟨rfl, rfl⟩ | ⟨rfl, rfl⟩ | ⟨n0, n1, e⟩
    · exact h.own 0 (.drw j) b e0 q
    · rcases cut b q with z | ⟨_, z⟩
      · exact h.own 1 (.any (kTab T B Cs)) b e1 z
      · exact .inr (cH b z)
    · exact h.own i o b e q
  · rcases old i o e1' with ⟨z1, w1⟩ | ⟨z1, w1⟩ | ⟨n0, n1, g1⟩ <;> rcases old i' o' e2' with ⟨z2, w2⟩ | ⟨z2, w2⟩ | ⟨m0, m1, g2⟩
    · exact ne (z1.trans z2.symm)
    · subst z1 w1 z2 w2
      rcases cut b q2 with z | ⟨_, z⟩
      · exact h.dj 0 1 _ _ b ne e0 e1 q1 z
      · exact h.standF e0 q1 z
    · subst z1 w1
      exact h.dj 0 i' _ o' b ne e0 g2 q1 q2
    · subst z1 w1 z2 w2
      rcases cut b q1 with z | ⟨_, z⟩
      · exact h.dj 1 0 _ _ b ne e1 e0 z q2
      · exact h.standF e0 q2 z
    · exact ne (z1.trans z2.symm)
    · subst z1 w1
      rcases cut b q1 with z | ⟨_, z⟩
      · exact h.dj 1 i' _ o' b ne e1 g2 z q2
      · exact h.standF g2 q2 z
    · subst z2 w2
      exact h.dj i 0 o _ b ne g1 e0 q1 q2
    · subst z2 w2
      rcases cut b q2 with z | ⟨_, z⟩
      · exact h.dj i 1 o _ b ne g1 e1 q1 z
      · exact h.standF g1 q1 z
    · exact h.dj i i' o o' b ne g1 g2 q1 q2
  · have q := h.h0 b o n1 n2 e
    have no : b ∉ foot (pl 0) (.drw j) := fun z => by
      have := h.own 0 _ b e0 z
      rw [show isDrw (.drw j) = true from rfl, if_pos rfl, e] at this
      rcases this with w | w
      · exact n1 w
      · cases w
    have no2 : b ∉ feet T (B ++ Cs) := fun z => by
      have := h.own 1 _ b e1 z
      rw [show isDrw (.any (kTab T B Cs)) = false from rfl, if_neg Bool.false_ne_true, e] at this
      rcases this with w | w
      · exact n2 w
      · cases w
    exact hh b o (fun z => no ((mem b).mpr (.inl z))) (fun z => no ((mem b).mpr (.inr (.inl z)))) (fun z => no ((mem b).mpr (.inr (.inr z)))) no2 q
  · rcases f b e with w | w
    · exact h.nw b w
    · exact .inr (cH b w)
/-! ### a lambda handed to the def that tells which error a call raises -/
/-- told: "ok" without an error, else the name of the error's class -/
def TRef (C : Addr) (nm : Str) : (XK → Hp → VK → Prop) → Hp → VK → Prop := fun tl H Q => tl (fun cls d H' => cls = .ref C ∧ d = none ∧ ∀ H2, Same H' H2 → Q (.str nm) H2) H fun _ H' => Q (.str "ok") H'
def dLam (T : Tbs) (S : SpX) (nm : Str) (da : DA) : DE := fun e m k => match m with
  | .drw j :: .any K0 :: ms => ∃ B Cs, K0 = kTab T B Cs ∧ ∀ C2, da e (.drw j :: .any (kTab T B C2) :: ms) fun xs m1 => match plains xs with
    | some ds => S ds (fun _ => k (.d (.str "ok")) m1) (k (.d (.str nm)) m1)
    | none => False
  | _ => False
theorem se_lamC {T : Tbs} {S : SpX} {C P : Addr} {nm q : Str} {ta : TA} {da : DA} (hT : (P, q) ∈ T) (hu : ∀ p ∈ T, p.1 = P → p.2 = q) (h : SA ta da) :
    SE (tLamC q P (TRef C nm) fun E => tCallS (prX C S) (WE fun cls d _ H => E cls d H) ta) (dLam T S nm da) := fun c G pl σ H e m k Q sr d K => by
  unfold dLam at d
  split at d
  · rename_i j K0 ms
    obtain ⟨B, Cs, rfl, d⟩ := d
    have kt : KT T (B ++ Cs) H := sr.hp.mo 1 _ rfl
    obtain ⟨ps, tab, _⟩ := kt.1 (P, q) hT
    refine ⟨ps, tab, fun H1 to => ?_⟩
    obtain ⟨off, up, C2, kt2, new⟩ := kt.to hT hu tab.1 to
    rw [List.append_assoc] at kt2
    have d0 : Drw H (pl 0).a (pl 0).c (pl 0).r j := sr.hp.mo 0 _ rfl
    have nf : ∀ b, b ∈ foot (pl 0) (.drw j) → b ∉ feet T (B ++ Cs) := fun b z w => sr.hp.dj 0 1 _ _ b (by decide) rfl rfl z w
    have sub1 : Same G H1 := fun b o z => off b o (fun w => by
      have q := sr.hp.out 1 _ b rfl w
      rw [z] at q; cases q) (sr.hp.sub b o z)
    have d1 : Drw H1 (pl 0).a (pl 0).c (pl 0).r j := MOk.keep (o := .drw j) (.refl G) d0 fun b x z w => off b x (nf b z) w
    have hr1 : HR c G pl H1 (.drw j :: .any (kTab T B (Cs ++ C2)) :: ms) := sr.hp.both (.refl G) sub1 (fun b o _ _ _ z w => off b o z w) up (fun b z => .inl z) d1 kt2 (fun b z => by
      cases w : G b with
      | none => rfl
      | some x =>
        have := new b z
        rw [sr.hp.sub b x w] at this; cases this) (fun b z => .inr (new b z))
    have sr1 : SR c G pl σ H1 e (.drw j :: .any (kTab T B (Cs ++ C2)) :: ms) := ⟨sr.env, hr1⟩
    refine h _ _ _ _ _ _ _ _ _ sr1 (d (Cs ++ C2)) fun xs m1 G1 pl1 H2 vs d1 l1 sr2 r1 => ?_
    have l1 : Le G pl (MO.drw j :: .any (kTab T B Cs) :: ms).length G1 pl1 m1.length := l1
    split at d1
    · rename_i ds eq
      refine ⟨G1, ds, _, _, sr2.hp.sub, r1.plain eq, d1, fun dv G' H' v hk g s hh f r => ?_, fun G' H' hk g s hh f => ⟨rfl, rfl, fun H3 s3 => ?_⟩⟩
      · have l2 : Le G1 pl1 m1.length G' pl1 m1.length := ⟨g, fun _ _ => rfl, Nat.le_refl _⟩
        exact K _ _ _ _ _ _ hk (l1.trans l2) ⟨sr2.env.le l2, sr2.hp.pure g s hh f⟩ (show Da G' _ _ from .str _)
      · have l2 : Le G1 pl1 m1.length G' pl1 m1.length := ⟨g, fun _ _ => rfl, Nat.le_refl _⟩
        exact K _ _ _ _ _ _ hk (l1.trans l2) ⟨sr2.env.le l2, sr2.hp.pure g (s.trans s3) (hh.trans s3) f⟩ (show Da G' _ _ from .str _)
    · exact d1.elim
  · exact d.elim
/-! ### promises of defs that make lambdas -/
abbrev SpW := Nat → List DV → (DV → Nat → Prop) → Prop
def prW (T : Tbs) (S : SpW) : Sp := fun vs H Q _ => ∃ G a c r j Cs ds k, Drw H a c r j ∧ KT T Cs H ∧ (∀ b, b = a ∨ b = c ∨ b = r ∨ b ∈ feet T Cs → G b = none) ∧ (∀ b, b = a ∨ b = c ∨ b = r → b ∉ feet T Cs) ∧ Same G H ∧ RVs G (fun _ => ⟨a, c, r⟩) 1 vs ds ∧ S j ds k ∧
  ∀ dv j' C2 G' H' v, k dv j' → Same G G' → Same G' H' → (∀ b o, b ≠ a → b ≠ c → b ≠ r → b ∉ feet T Cs → H b = some o → H' b = some o) → (∀ b, H b ≠ none → H' b ≠ none) → Frs G H G' → Drw H' a c r j' →
    KT T (Cs ++ C2) H' → (∀ b ∈ C2, G' b = none) → (∀ b ∈ C2, b ∈ feet T Cs ∨ H b = none) → RV G' noPl 0 v dv → Q v H'
/-- data, or the drawn numbers -/
def okW : List DV → Prop
  | [] => True
  | .d _ :: r => okW r
  | .p 0 :: r => okW r
  | _ => False
theorem RVs.okW {G : Hp} {pl : Nat → Pl} {n : Nat} : ∀ {vs : List V} {ds : List DV}, RVs G pl n vs ds → okW ds → RVs G (fun _ => pl 0) 1 vs ds
  | _, _, .nil, _ => .nil
  | _, _, .cons (d := .d x) h t, k => .cons (show Da G _ x from h) (RVs.okW t k)
  | _, _, .cons (d := .p 0) h t, k => .cons ⟨Nat.zero_lt_one, h.2⟩ (RVs.okW t k)
  | _, _, .cons (d := .p (i + 1)) h t, k => k.elim
  | _, _, .cons (d := .dic x) h t, k => k.elim
  | _, _, .cons (d := .any x) h t, k => k.elim
def dCallW (T : Tbs) (S : SpW) (a : DA) : DE := fun e m k => a e m fun xs m1 => match m1 with
  | .drw j :: .any K0 :: ms => ∃ B Cs, K0 = kTab T B Cs ∧ okW xs ∧ S j xs fun z j' => ∀ C2, k z (.drw j' :: .any (kTab T B C2) :: ms)
  | _ => False
theorem se_callW {T : Tbs} {S : SpW} {E : XK} {ta : TA} {da : DA} (h : SA ta da) : SE (tCall (prW T S) [] E ta) (dCallW T S da) := fun c G pl σ H e m k Q sr d K => h _ _ _ _ _ _ _ _ _ sr d fun xs m1 G1 pl1 H1 vs d1 l1 sr1 r1 => by
  split at d1
  · rename_i j K0 ms
    obtain ⟨B, Cs, rfl, ok, d1⟩ := d1
    rw [List.append_nil]
    refine ⟨G1, (pl1 0).a, (pl1 0).c, (pl1 0).r, j, B ++ Cs, xs, _, sr1.hp.mo 0 _ rfl, sr1.hp.mo 1 _ rfl, fun b z => ?_, fun b z w => ?_, sr1.hp.sub, r1.okW ok, d1, fun dv j' C2 G' H' v hk g s hh hu f dr kt out new r => ?_⟩
    · rcases z with z | z | z | z
      · exact sr1.hp.out 0 (.drw j) b rfl (by simp [foot, z])
      · exact sr1.hp.out 0 (.drw j) b rfl (by simp [foot, z])
      · exact sr1.hp.out 0 (.drw j) b rfl (by simp [foot, z])
      · exact sr1.hp.out 1 _ b rfl z
    · exact sr1.hp.dj 0 1 (.drw j) _ b (by decide) rfl rfl (by simpa [foot] using z) w
    · rw [List.append_assoc] at kt
      have l2 : Le G1 pl1 (MO.drw j :: .any (kTab T B Cs) :: ms).length G' pl1 (MO.drw j' :: .any (kTab T B (Cs ++ C2)) :: ms).length := ⟨g, fun _ _ => rfl, Nat.le_refl _⟩
      exact K _ _ _ _ _ _ (hk (Cs ++ C2)) (l1.trans l2) ⟨sr1.env.le l2, sr1.hp.both g s hh hu f dr kt out new⟩ r.any
  · exact d1.elim
/-! ### statements whose end is known -/
abbrev DSm := (DV → Mu → Prop) → DEnv → Mu → Prop
def SSm (t : TS) (d : DSm) : Prop := ∀ c G pl σ H e m (D : Ends) (k : DV → Mu → Prop), (∀ b, ¬ c.L b) → SR c G pl σ H e m → d k e m →
  (∀ dv m' G' pl' H' v, k dv m' → Le G pl m.length G' pl' m'.length → HR c G' pl' H' m' → RV G' pl' m'.length v dv → D.rt v H') → t D σ H
def eNo (C : DEnv → Mu → Prop) : DEnds := { nx := C, rt := fun _ _ => False, bk := fun _ _ => False, ct := fun _ _ => False }
def dSeqM (d : DS) (f : DSm) : DSm := fun k e m => d (eNo (f k)) e m
theorem ssm_seq {t u : TS} {d : DS} {f : DSm} (h1 : SS t d) (h2 : SSm u f) : SSm (tSeq t u) (dSeqM d f) := fun c G pl σ H e m D k hL sr d K =>
  h1 _ _ _ _ _ _ _ _ _ hL sr d ⟨fun G' pl' σ' H' e' m' q l sr' => h2 _ _ _ _ _ _ _ _ _ hL sr' q fun dv m2 G2 pl2 H2 v hk l2 => K dv m2 G2 pl2 H2 v hk (l.trans l2), fun _ _ _ _ _ _ q => q.elim, fun _ _ _ _ _ _ q => q.elim, fun _ _ _ _ _ _ q => q.elim⟩
theorem ssm_ret {te : TE} {de : DE} (h : SE te de) : SSm (tRet te) (fun k e m => de e m k) := fun c G pl σ H e m D k hL sr d K =>
  h _ _ _ _ _ _ _ _ _ sr d fun x m1 G1 pl1 H1 v1 d1 l1 sr1 r1 => K _ _ _ _ _ _ d1 l1 sr1.hp r1
/-- the end of such a def -/
def eW (T : Tbs) (B : List Addr) (k : DV → Nat → Prop) : DV → Mu → Prop := fun x m => match x, m with
  | .p _, _ => False
  | x, .drw j :: .any K0 :: _ => (∃ C2, K0 = kTab T B C2) ∧ k x j
  | _, _ => False
theorem eW_inv {T : Tbs} {B : List Addr} {k : DV → Nat → Prop} {x : DV} {m : Mu} (h : eW T B k x m) : (∀ i, x ≠ .p i) ∧ ∃ j C2 ms, m = .drw j :: .any (kTab T B C2) :: ms ∧ k x j := by
  unfold eW at h
  split at h
  · exact h.elim
  · rename_i x m j K0 ms np
    obtain ⟨⟨C2, rfl⟩, h⟩ := h
    exact ⟨fun i z => np i z, j, C2, ms, rfl, h⟩
  · exact h.elim
theorem runW {t : TS} {d : DSm} {N : List Str} {T : Tbs} {Cs : List Addr} {a c r : Addr} {j : Nat} {vs : List V} {ds : List DV} {k : DV → Nat → Prop} {G H : Hp} {D : Ends} (h : SSm t d) (dr : Drw H a c r j) (kt : KT T Cs H) (gn : ∀ b, b = a ∨ b = c ∨ b = r ∨ b ∈ feet T Cs → G b = none) (dj : ∀ b, b = a ∨ b = c ∨ b = r → b ∉ feet T Cs) (sub : Same G H)
    (rs : RVs G (fun _ => ⟨a, c, r⟩) 1 vs ds)
    (K : ∀ dv j' C2 G' H' v, k dv j' → Same G G' → Same G' H' → (∀ b o, b ≠ a → b ≠ c → b ≠ r → b ∉ feet T Cs → H b = some o → H' b = some o) → (∀ b, H b ≠ none → H' b ≠ none) → Frs G H G' → Drw H' a c r j' →
      KT T (Cs ++ C2) H' → (∀ b ∈ C2, G' b = none) → (∀ b ∈ C2, b ∈ feet T Cs ∨ H b = none) → RV G' noPl 0 v dv → D.rt v H')
    (hd : d (eW T Cs k) (dStart N.length ds) [.drw j, .any (kTab T Cs [])]) : t D (L2.start N vs) H := by
  classical
  let isO : Addr → Prop := fun b => b = a ∨ b = c ∨ b = r ∨ b ∈ feet T Cs
  let cH : Hp := fun b => if isO b then none else H b
  have two : ∀ i o, ([MO.drw j, .any (kTab T Cs [])] : Mu)[i]? = some o → (i = 0 ∧ o = .drw j) ∨ (i = 1 ∧ o = .any (kTab T Cs [])) := fun i o e => by
    match i, e with
    | 0, e => cases e; exact .inl ⟨rfl, rfl⟩
    | 1, e => cases e; exact .inr ⟨rfl, rfl⟩
    | i + 2, e => simp at e
  have mem : ∀ b, b ∈ foot ⟨a, c, r⟩ (.drw j) ↔ b = a ∨ b = c ∨ b = r := fun b => by simp [foot]
  have mem1 : ∀ b, b ∈ foot ⟨a, c, r⟩ (.any (kTab T Cs [])) → b ∈ feet T Cs := fun b z => by
    have z : b ∈ feet T (Cs ++ []) := z
    rw [List.append_nil] at z
    exact z
  have isN : ∀ b, isO b → cH b = none := fun b z => if_pos z
  have isS : ∀ b, ¬ isO b → cH b = H b := fun b z => if_neg z
  have of : ∀ b o, cH b = some o → ¬ isO b ∧ H b = some o := fun b o e => by
    by_cases z : isO b
    · rw [isN b z] at e; cases e
    · rw [isS b z] at e; exact ⟨z, e⟩
  have stO : ∀ b, isO b → H b ≠ none := fun b z => by
    rcases z with z | z | z | z
    · obtain ⟨⟨cells, rests, t, h1, h2, h3, _⟩, _⟩ := dr
      rw [z, h1]; exact fun w => nomatch w
    · obtain ⟨⟨cells, rests, t, h1, h2, h3, _⟩, _⟩ := dr
      rw [z, h2]; exact fun w => nomatch w
    · obtain ⟨⟨cells, rests, t, h1, h2, h3, _⟩, _⟩ := dr
      rw [z, h3]; exact fun w => nomatch w
    · exact kt.stand z
  have hr : HR ⟨G, cH, fun _ => False, fun _ => False⟩ G (fun _ => ⟨a, c, r⟩) H [.drw j, .any (kTab T Cs [])] := by
    refine ⟨sub, fun i o e => ?_, fun i o b e f => ?_, fun i o b e f => .inr ?_, fun i i' o o' b ne e e' f f' => ?_, .refl G, fun b o _ _ e => (of b o e).2, fun b e => ?_, fun b e => .inl e⟩
    · rcases two i o e with ⟨rfl, rfl⟩ | ⟨rfl, rfl⟩
      · exact dr
      · show KT T (Cs ++ []) H
        rw [List.append_nil]; exact kt
    · rcases two i o e with ⟨rfl, rfl⟩ | ⟨rfl, rfl⟩
      · rcases (mem b).mp f with z | z | z
        · exact gn b (.inl z)
        · exact gn b (.inr (.inl z))
        · exact gn b (.inr (.inr (.inl z)))
      · exact gn b (.inr (.inr (.inr (mem1 b f))))
    · rcases two i o e with ⟨rfl, rfl⟩ | ⟨rfl, rfl⟩
      · refine isN b ?_
        rcases (mem b).mp f with z | z | z
        · exact .inl z
        · exact .inr (.inl z)
        · exact .inr (.inr (.inl z))
      · exact isN b (.inr (.inr (.inr (mem1 b f))))
    · rcases two i o e with ⟨rfl, rfl⟩ | ⟨rfl, rfl⟩ <;> rcases two i' o' e' with ⟨rfl, rfl⟩ | ⟨rfl, rfl⟩
      · exact ne rfl
      · exact dj b ((mem b).mp f) (mem1 b f')
      · exact dj b ((mem b).mp f') (mem1 b f)
      · exact ne rfl
    · cases z : cH b with
      | none => exact absurd z e
      | some x => rw [(of b x z).2]; exact fun w => nomatch w
  have er : ER G (fun _ => ⟨a, c, r⟩) ([MO.drw j, .any (kTab T Cs [])] : Mu).length (L2.start N vs) (dStart N.length ds) := (ER.start rs).le ⟨.refl G, fun _ _ => rfl, by simp⟩
  refine h _ _ _ _ _ _ _ _ _ (fun b z => z) ⟨er, hr⟩ hd fun dv m' G' pl' H' v q l hr' rv => ?_
  obtain ⟨np, j', C2, ms, rfl, hk⟩ := eW_inv q
  have p0 : pl' 0 = ⟨a, c, r⟩ := l.p 0 (by simp)
  have d' : Drw H' (pl' 0).a (pl' 0).c (pl' 0).r j' := hr'.mo 0 (.drw j') rfl
  rw [p0] at d'
  have kt' : KT T (Cs ++ C2) H' := hr'.mo 1 _ rfl
  have notO : ∀ b, ¬ isO b → ∀ o, H b = some o → H' b = some o := fun b z o e => hr'.h0 b o id id (by show cH b = some o; rw [isS b z]; exact e)
  refine K dv j' C2 G' H' v hk l.g hr'.sub (fun b o n1 n2 n3 n4 e => ?_) (fun b e => ?_) (fun b e => ?_) d' kt' (fun b z => hr'.out 1 _ b rfl (feet_cod (List.mem_append.mpr (.inr z)))) (fun b z => ?_) (rv.none np)
  · refine notO b (fun z => ?_) o e
    rcases z with z | z | z | z
    · exact n1 z
    · exact n2 z
    · exact n3 z
    · exact n4 z
  · by_cases z : isO b
    · rcases z with z | z | z | z
      · exact hr'.standF (i := 0) (o := .drw j') rfl (by rw [p0]; simp [foot, z])
      · exact hr'.standF (i := 0) (o := .drw j') rfl (by rw [p0]; simp [foot, z])
      · exact hr'.standF (i := 0) (o := .drw j') rfl (by rw [p0]; simp [foot, z])
      · refine kt'.stand ?_
        rcases List.mem_append.mp z with z | z
        · exact List.mem_append.mpr (.inl z)
        · exact List.mem_append.mpr (.inr (List.mem_append.mpr (.inl z)))
    · cases q : H b with
      | none => exact absurd q e
      | some x => rw [notO b z x q]; exact fun w => nomatch w
  · rcases hr'.nw b e with w | w
    · exact .inl w
    · by_cases z : isO b
      · exfalso
        rcases z with z | z | z | z
        · exact e (hr'.out 0 (.drw j') b rfl (by rw [p0]; simp [foot, z]))
        · exact e (hr'.out 0 (.drw j') b rfl (by rw [p0]; simp [foot, z]))
        · exact e (hr'.out 0 (.drw j') b rfl (by rw [p0]; simp [foot, z]))
        · refine e (hr'.out 1 _ b rfl ?_)
          show b ∈ feet T (Cs ++ C2)
          rcases List.mem_append.mp z with z | z
          · exact List.mem_append.mpr (.inl z)
          · exact List.mem_append.mpr (.inr (List.mem_append.mpr (.inl z)))
      · have w : cH b = none := w
        rw [isS b z] at w
        exact .inr w
  · have hn := hr'.own 1 _ b rfl (feet_cod (List.mem_append.mpr (.inr z)))
    rw [show isDrw (.any (kTab T Cs C2)) = false from rfl, if_neg Bool.false_ne_true] at hn
    rcases hn with w | w
    · exact w.elim
    · by_cases y : isO b
      · have no : ∀ b, b = a ∨ b = c ∨ b = r → b ∈ C2 → False := fun b y z => hr'.dj 0 1 (.drw j') _ b (by decide) rfl rfl (by rw [p0]; simp [foot]; exact y) (feet_cod (List.mem_append.mpr (.inr z)))
        rcases y with y | y | y | y
        · exact (no b (.inl y) z).elim
        · exact (no b (.inr (.inl y)) z).elim
        · exact (no b (.inr (.inr y)) z).elim
        · exact .inl y
      · have w : cH b = none := w
        rw [isS b y] at w
        exact .inr w
end PM

set_option maxHeartbeats 2000000
/-! defs that know their code objects; raising inside loops; the end of a law with tables -/
namespace PM
open PySem PySem.Spec PyProof.Rows L2 RZ
/-! ### a def that knows its code object -/
def IsDefC (K : PySem.W.Frag) (mg : Str → Option Value) (x : Str) (st : Stmt) (ps : List Str) (c : Addr) : Prop := ∃ f fd, Def1 K mg x st ps f fd ∧ fd.code = .ref c
theorem fun_okC {P : Program} {w : World} {K : PySem.W.Frag} {mg : Str → Option Value} {base : Heap} {x qual : Str} {st : Stmt} {f c : Addr} {fd : FuncData} {N ps : List Str} {k : Nat} {sp : Sp} (F : Fun K x qual st f fd) (code : fd.code = .ref c) (S : FnScope N ps (defScope st))
    (len : ∀ vs H Q E, sp vs H Q E → vs.length = ps.length)
    (hbody : ∀ (A : Around) (outer : List Env) (s : Shared) (H : Hp) (vs : List V) (Q : VK) (E : XK), Room k (A.deeper (envOfC qual (defScope st) s.heap.objs.size f (.ref c))) → sp vs H Q E →
      ∃ t, PSs (cxOf CX0 P w K mg base N qual (defScope st) f (.ref c) A outer s H E).nox (defBody st) t ∧ t { nx := fun _ H' => Q .non H', rt := Q } (start N vs) H) : FnOk P w K mg base CX0 (k + 1) f fd ps sp := by
  obtain ⟨oc, od, kV, doc, pm, an, cdv, ct, osl, rfl, lk, hcd⟩ := F.ex
  cases (show cdv = .ref c from code)
  refine fn_of lk hcd S len fun A outer s H vs Q E hr hsp => ?_
  obtain ⟨t, h, q⟩ := hbody A outer s H vs Q E hr hsp
  exact ⟨t, h.nox, q⟩
/-! ### raising -/
def sx2 (F : PyData → PyData → (DV → Prop) → Prop → Prop) : SpX := fun ds k r => match ds with
  | [a, b] => F a b k r
  | _ => False
theorem sx2_inv {F} {ds : List PyData} {k : DV → Prop} {r : Prop} (h : sx2 F ds k r) : ∃ a b, ds = [a, b] ∧ F a b k r := by
  unfold sx2 at h
  split at h
  · exact ⟨_, _, rfl, h⟩
  · exact h.elim
theorem sx2_len {F} {ds : List PyData} {k : DV → Prop} {r : Prop} (h : sx2 F ds k r) : ds.length = 2 := by
  obtain ⟨_, _, rfl, _⟩ := sx2_inv h
  rfl
theorem ssc_for {c : Fr0} {wi : TI} {g : TG} {tb : TS} {di : DI} {dg : DG} {db : DS} (hi : SI wi di) (hg : SG g dg) (hb : SSc c tb db) : SSc c (tFor wi g tb) (dFor di dg db) := fun G pl σ H e m D E hL sr d K => by
  refine hi _ _ _ _ _ _ _ _ _ sr d fun xs m1 G1 pl1 H1 J d1 l1 sr1 wk => ?_
  obtain ⟨I, i0, step, done⟩ := d1
  refine for_it wk.walk (fun i σ' H' => ∃ G' pl' e' m', Le G1 pl1 m1.length G' pl' m'.length ∧ SR c G' pl' σ' H' e' m' ∧ I (xs.drop i) e' m') ⟨G1, pl1, e, m1, .refl _ _ _, sr1, i0⟩ (fun i σ' H' _ p => ?_) (fun i x σ' H' H'' hi p y => ?_) (fun σ' H' p => ?_)
  · obtain ⟨G', pl', e', m', l, s', _⟩ := p
    exact l.g.trans s'.hp.sub
  · obtain ⟨G', pl', e', m', l, s', iv⟩ := p
    obtain ⟨dx, hx, y⟩ := y
    obtain ⟨G2, l2, s2, r2⟩ := y.sr l.g s'
    have ex : xs.drop i = dx :: xs.drop (i + 1) := by
      rw [List.drop_eq_getElem_cons hi]
      rw [List.getElem?_eq_getElem hi] at hx
      rw [Option.some.inj hx]
    rw [ex] at iv
    refine hg _ _ _ _ _ _ _ _ _ _ _ s2 r2 (step dx _ e' m' iv) fun e3 σ3 G3 pl3 H3 m3 d3 l3 s3 => ?_
    have lw := (l.trans l2).trans l3
    refine hb _ _ _ _ _ _ _ _ hL s3 d3 ⟨fun G4 pl4 σ4 H4 e4 m4 q4 l4 s4 => ⟨G4, pl4, e4, m4, lw.trans l4, s4, q4⟩, ?_, ?_, fun G4 pl4 σ4 H4 e4 m4 q4 l4 s4 => ⟨G4, pl4, e4, m4, lw.trans l4, s4, q4⟩⟩
    · exact (K.le (l1.trans lw)).rt
    · exact (K.le (l1.trans lw)).nx
  · obtain ⟨G', pl', e', m', l, s', iv⟩ := p
    rw [List.drop_length] at iv
    exact K.nx _ _ _ _ _ _ (done _ _ iv) (l1.trans l) s'
/-- return f(..), f may raise what this def raises -/
def dRetX (S : SpX) (r : Prop) (da : DA) : DS := fun E e m => da e m fun xs m1 => match plains xs with
  | some ds => S ds (fun z => E.rt z (dN m1)) r
  | none => False
theorem ssc_retX {c : Fr0} {C : Addr} {S : SpX} {E0' : XK} {r : Prop} {ta : TA} {da : DA} (h : ∀ G pl σ H e m, r → SR c G pl σ H e m → E0' (.ref C) none H) (ha : SA ta da) :
    SSc c (tRet (tCallS (prX C S) (WE fun cls d _ H => E0' cls d H) ta)) (dRetX S r da) := fun G pl σ H e m D E hL sr d K => by
  refine ha _ _ _ _ _ _ _ _ _ sr d fun xs m1 G1 pl1 H1 vs d1 l1 sr1 r1 => ?_
  split at d1
  · rename_i ds eq
    refine ⟨G1, ds, _, _, sr1.hp.sub, r1.plain eq, d1, fun dv G' H' v hk g s hh f rv => ?_, fun G' H' hk g s hh f => ?_⟩
    · have l2 : Le G1 pl1 m1.length G' pl1 m1.length := ⟨g, fun _ _ => rfl, Nat.le_refl _⟩
      exact K.rt dv m1 G' pl1 H' v hk (l1.trans l2) (sr1.hp.pure g s hh f) rv.any
    · have l2 : Le G1 pl1 m1.length G' pl1 m1.length := ⟨g, fun _ _ => rfl, Nat.le_refl _⟩
      exact h G' pl1 σ H' e m1 hk ⟨sr1.env.le l2, sr1.hp.pure g s hh f⟩
  · exact d1.elim
/-! ### how often a truth value stands in a list of them -/
def rCountB (K : PySem.W.Frag) : V → List V → Hp → VK → Prop := fun x xs H Q => ∃ (a : Addr) (bs : List Bool) (b : Bool), x = V.ref a ∧ xs = [.bl b] ∧ SqL K H a (bs.map V.bl) ∧ Q (.int ((bs.countP fun y => decide (y = b) : Nat) : Int)) H
theorem hold_bools {h : Heap} : ∀ {bs : List Bool} {us : List Value}, Vals (bs.map V.bl) us → PySem.W.HoldAll h us bs
  | [], _, .nil => .nil
  | b :: bs, _, .cons r t => by
    cases (show _ = Value.bool b from r)
    exact .cons (PySem.W.holds_bool b) (hold_bools t)
theorem mt_countB {X : Cx} (hu : X.A.units + 1 < cLine) : MtR X "list.count" (rCountB X.K) := by
  intro pins s σ H x xs v us Q I rx rxs h
  obtain ⟨a, bs, b, rfl, rfl, hs, q⟩ := h
  cases rx
  cases rxs with
  | cons ry rt =>
    cases rt
    rename_i uy
    cases (show uy = Value.bool b from ry)
    obtain ⟨its, rv, hl, _⟩ := I.list hs
    exact PySem.W.count_list_datum (α := Bool) hl.isList (by simpa using hold_bools rv) (PySem.W.holds_bool b) hu ⟨.int _, H, I.tok _, ⟨_, rfl⟩, q⟩
end PM

namespace PM
open PySem PySem.Spec PyProof.Rows L2 RZ
section
variable {P : Program} {w : World} {K : PySem.W.Frag} {mg : Str → Option Value} {base : Heap}
/-! ### integers that are no bools -/
abbrev S_is_plain_integer : SpP := sp1 fun a k => k (.d (.bool (pInt a)))
abbrev s_is_plain_integer : Stmt := topS 13
abbrev N_is_plain_integer : List Str := ["value"]
abbrev P_is_plain_integer : List Str := ["value"]
theorem sc_is_plain_integer : FnScope N_is_plain_integer P_is_plain_integer (defScope s_is_plain_integer) := ⟨rfl, rfl, rfl, by decide +kernel, rfl, by decide +kernel, by decide +kernel⟩
set_option maxHeartbeats 8000000 in
theorem okD_is_plain_integer (d : IsDef K mg "is_plain_integer" s_is_plain_integer P_is_plain_integer) (m_bool : mg "bool" = none) (m_isinstance : mg "isinstance" = none) (m_int : mg "int" = none) : Ok P w K mg base 1 "is_plain_integer" s_is_plain_integer P_is_plain_integer (prP S_is_plain_integer) := by
  obtain ⟨f0_, fd0_, D⟩ := d
  refine ⟨f0_, fd0_, D, D.F.ok sc_is_plain_integer (fun vs H Q E h => ?_) (fun cdv A outer s H vs Q E hr h => ?_)⟩
  · obtain ⟨G, ds, k, _, rs, hS, _⟩ := h
    rw [rs.length]
    exact sp1_len hS
  · obtain ⟨G, ds, k, sub, rs, hS, KK⟩ := h
    refine ⟨_, (pss_one (ps_ret (pe_and (pe_callB (show CallR _ _ (rIsi K) from call_isi) (by rfl) m_isinstance (by decide +kernel) (pa_cons (pv 0) (pa_cons (pe_bltn (v := .ty "int") (by rfl) m_int (by decide +kernel) rfl) pa_nil))) (pe_one (pe_not (pe_callB (show CallR _ _ (rIsi K) from call_isi) (by rfl) m_isinstance (by decide +kernel) (pa_cons (pv 0) (pa_cons (pe_bltn (v := .ty "bool") (by rfl) m_bool (by decide +kernel) rfl) pa_nil)))))))), runP (N := N_is_plain_integer) (ss_ret (se_and (se_isI _ (se_var 0)) (se_not (se_isB _ (se_var 0))))) sub rs KK ?_⟩
    clear KK rs sub hr
    replace hS := sp1_inv hS
    obtain ⟨x1, rfl, hS⟩ := hS
    cases x1 with
    | int i => exact ⟨fun _ => hS, fun z => nomatch z⟩
    | bool b => exact ⟨fun _ => hS, fun z => nomatch z⟩
    | none => exact ⟨(fun z => nomatch z), fun _ => hS⟩
    | str s => exact ⟨(fun z => nomatch z), fun _ => hS⟩
    | list s => exact ⟨(fun z => nomatch z), fun _ => hS⟩
    | tuple s => exact ⟨(fun z => nomatch z), fun _ => hS⟩
    | dict s => exact ⟨(fun z => nomatch z), fun _ => hS⟩
/-! ### the first fault of any value as a panel; needs Flt and the piece is_group's is_index -/
abbrev S_is_mark : SpP := sp1 fun a k => k (.d (.bool (inI (-1000000000) 1000000000 a)))
abbrev s_is_mark : Stmt := topS 15
abbrev N_is_mark : List Str := ["value"]
abbrev P_is_mark : List Str := ["value"]
theorem sc_is_mark : FnScope N_is_mark P_is_mark (defScope s_is_mark) := ⟨rfl, rfl, rfl, by decide +kernel, rfl, by decide +kernel, by decide +kernel⟩
set_option maxHeartbeats 8000000 in
theorem okD_is_mark (d : IsDef K mg "is_mark" s_is_mark P_is_mark) (h_is_plain_integer : Ok P w K mg base 1 "is_plain_integer" s_is_plain_integer P_is_plain_integer (prP S_is_plain_integer)) {t_MARK : Tok} (g_MARK : mg "MARK" = some (.int (1000000000) t_MARK)) : Ok P w K mg base 2 "is_mark" s_is_mark P_is_mark (prP S_is_mark) := by
  obtain ⟨f0_, fd0_, D⟩ := d
  obtain ⟨f_is_plain_integer, fd_is_plain_integer, ⟨F_is_plain_integer, b_is_plain_integer, g_is_plain_integer⟩, G_is_plain_integer⟩ := h_is_plain_integer
  refine ⟨f0_, fd0_, D, D.F.ok sc_is_mark (fun vs H Q E h => ?_) (fun cdv A outer s H vs Q E hr h => ?_)⟩
  · obtain ⟨G, ds, k, _, rs, hS, _⟩ := h
    rw [rs.length]
    exact sp1_len hS
  · obtain ⟨G, ds, k, sub, rs, hS, KK⟩ := h
    refine ⟨_, (pss_one (ps_ret (pe_and (pe_call G_is_plain_integer (hr.mono (by omega)) (by rfl) g_is_plain_integer F_is_plain_integer.kp b_is_plain_integer .nil pass0 (pa_cons (pv 0) pa_nil)) (pe_one (pe_chain op_le op_le (pe_un un_neg (pe_glob (v := .int (1000000000)) rfl g_MARK ⟨_, rfl⟩)) (pv 0) (pe_glob (v := .int (1000000000)) rfl g_MARK ⟨_, rfl⟩)))))), runP (N := N_is_mark) (ss_ret (se_and (se_callP (sa_cons (se_var 0) sa_nil)) (se_chain os_le os_le (se_un us_neg (se_int _)) (se_var 0) (se_int _)))) sub rs KK ?_⟩
    clear KK rs sub hr
    replace hS := sp1_inv hS
    obtain ⟨x1, rfl, hS⟩ := hS
    cases x1 with
    | int i =>
      have hS : k (.d (.bool (decide (-1000000000 ≤ i) && decide (i ≤ 1000000000)))) := hS
      refine ⟨fun _ => ⟨fun z => ?_, fun z => ?_⟩, fun z => nomatch z⟩
      · rw [z, Bool.true_and] at hS
        exact hS
      · rw [z, Bool.false_and] at hS
        exact hS
    | _ => exact ⟨(fun z => nomatch z), fun _ => hS⟩
abbrev S_is_weight : SpP := sp1 fun a k => k (.d (.bool (inI 1 1000000 a)))
abbrev s_is_weight : Stmt := topS 16
abbrev N_is_weight : List Str := ["value"]
abbrev P_is_weight : List Str := ["value"]
theorem sc_is_weight : FnScope N_is_weight P_is_weight (defScope s_is_weight) := ⟨rfl, rfl, rfl, by decide +kernel, rfl, by decide +kernel, by decide +kernel⟩
set_option maxHeartbeats 8000000 in
theorem okD_is_weight (d : IsDef K mg "is_weight" s_is_weight P_is_weight) (h_is_plain_integer : Ok P w K mg base 1 "is_plain_integer" s_is_plain_integer P_is_plain_integer (prP S_is_plain_integer)) {t_WEIGHT : Tok} (g_WEIGHT : mg "WEIGHT" = some (.int (1000000) t_WEIGHT)) : Ok P w K mg base 2 "is_weight" s_is_weight P_is_weight (prP S_is_weight) := by
  obtain ⟨f0_, fd0_, D⟩ := d
  obtain ⟨f_is_plain_integer, fd_is_plain_integer, ⟨F_is_plain_integer, b_is_plain_integer, g_is_plain_integer⟩, G_is_plain_integer⟩ := h_is_plain_integer
  refine ⟨f0_, fd0_, D, D.F.ok sc_is_weight (fun vs H Q E h => ?_) (fun cdv A outer s H vs Q E hr h => ?_)⟩
  · obtain ⟨G, ds, k, _, rs, hS, _⟩ := h
    rw [rs.length]
    exact sp1_len hS
  · obtain ⟨G, ds, k, sub, rs, hS, KK⟩ := h
    refine ⟨_, (pss_one (ps_ret (pe_and (pe_call G_is_plain_integer (hr.mono (by omega)) (by rfl) g_is_plain_integer F_is_plain_integer.kp b_is_plain_integer .nil pass0 (pa_cons (pv 0) pa_nil)) (pe_one (pe_chain op_le op_le pe_int (pv 0) (pe_glob (v := .int (1000000)) rfl g_WEIGHT ⟨_, rfl⟩)))))), runP (N := N_is_weight) (ss_ret (se_and (se_callP (sa_cons (se_var 0) sa_nil)) (se_chain os_le os_le (se_int _) (se_var 0) (se_int _)))) sub rs KK ?_⟩
    clear KK rs sub hr
    replace hS := sp1_inv hS
    obtain ⟨x1, rfl, hS⟩ := hS
    cases x1 with
    | int i =>
      have hS : k (.d (.bool (decide (1 ≤ i) && decide (i ≤ 1000000)))) := hS
      refine ⟨fun _ => ⟨fun z => ?_, fun z => ?_⟩, fun z => nomatch z⟩
      · rw [z, Bool.true_and] at hS
        exact hS
      · rw [z, Bool.false_and] at hS
        exact hS
    | _ => exact ⟨(fun z => nomatch z), fun _ => hS⟩
/-! ### changed panels, or the error -/
abbrev S_with_items : SpX := sx2 fun p l k r => ∃ (its its' : List (Int × Int)) (rls : List (Nat × Nat)), p = pnD its rls ∧ l = .list (its'.map itD) ∧ its'.length ≤ 1000 ∧ (ItsOk its' → k (.d (pnD its' rls))) ∧ (¬ ItsOk its' → r)
abbrev s_with_items : Stmt := topS 18
abbrev N_with_items : List Str := ["panel", "items", "mark", "weight"]
abbrev P_with_items : List Str := ["panel", "items"]
theorem sc_with_items : FnScope N_with_items P_with_items (defScope s_with_items) := ⟨rfl, rfl, rfl, by decide +kernel, rfl, by decide +kernel, by decide +kernel⟩
set_option maxHeartbeats 8000000 in
theorem okD_with_items {C_OutOfRange : Addr} (d : IsDef K mg "with_items" s_with_items P_with_items) (h_is_mark : Ok P w K mg base 2 "is_mark" s_is_mark P_is_mark (prP S_is_mark)) (h_is_weight : Ok P w K mg base 2 "is_weight" s_is_weight P_is_weight (prP S_is_weight)) (m_tuple : mg "tuple" = none) (Z_OutOfRange : ErrC K mg "OutOfRange" C_OutOfRange) : OkX P w K mg base 3 "with_items" s_with_items P_with_items (prX C_OutOfRange S_with_items) := by
  obtain ⟨f0_, fd0_, D⟩ := d
  obtain ⟨f_is_mark, fd_is_mark, ⟨F_is_mark, b_is_mark, g_is_mark⟩, G_is_mark⟩ := h_is_mark
  obtain ⟨f_is_weight, fd_is_weight, ⟨F_is_weight, b_is_weight, g_is_weight⟩, G_is_weight⟩ := h_is_weight
  refine ⟨f0_, fd0_, D, D.F.okX sc_with_items (fun vs H Q E h => ?_) (fun cdv A outer s H vs Q E hr h => ?_)⟩
  · obtain ⟨G, ds, k, r, _, rs, hS, _⟩ := h
    rw [rs.length]
    exact sx2_len hS
  · obtain ⟨G, ds, k, r, sub, rs, hS, KK, KX⟩ := h
    refine ⟨_, (pss_cons (ps_for (passes_of rfl) rfl (show PI _ _ _ (iSeq K _) from pi_seq (pv 1)) (show PG _ _ (gTup K 2 _) from pg_tup (n := 2) (by rfl) (pgs_cons (pg_name (i := 2) sc_with_items.nd rfl (.inl rfl)) (pgs_cons (pg_name (i := 3) sc_with_items.nd rfl (.inl rfl)) pgs_nil))) (pss_one (ps_if (PW.pt (pw_or (pt_not (pt_val (pe_call G_is_mark (hr.mono (by omega)) (by rfl) g_is_mark F_is_mark.kp b_is_mark .nil pass0 (pa_cons (pv 2) pa_nil)))) (pw_or1 (pt_not (pt_val (pe_call G_is_weight (hr.mono (by omega)) (by rfl) g_is_weight F_is_weight.kp b_is_weight .nil pass0 (pa_cons (pv 3) pa_nil))))))) (pss_one (ps_raise rfl (takes_of rfl rfl rfl rfl) (pmk_bare PySem.F.excBase_ValueError Z_OutOfRange.x Z_OutOfRange.g Z_OutOfRange.k (raises_own Z_OutOfRange.b Z_OutOfRange.t) (by rfl)))) pss_nil)))
      (pss_one (ps_ret (pe_tup (pa_cons (pe_callTy (show CallR _ _ (rTupK K) from call_tupK) (by rfl) m_tuple (by decide +kernel) (pa_cons (pv 1) pa_nil)) (pa_cons (pe_ix (show IxR _ (rIx K) from ix_seq) (pv 0) pe_int (fun _ _ => rfl)) pa_nil)))))), runX (N := N_with_items) (E' := E) (C := C_OutOfRange) (fun hR => (ssc_seq' (ssc_for (si_seq _ (se_var 1)) (sg_tup _ (sg_cons (sg_name 2) (sg_cons (sg_name 3) sg_nil))) (ssc_if (st_or (st_not (st_b (se_callP (sa_cons (se_var 2) sa_nil)))) (st_not (st_b (se_callP (sa_cons (se_var 3) sa_nil))))) (ssc_raise hR) (ssc_of ss_nil)))
      (ssc_of (ss_ret (se_tup (sa_cons (se_cb (cs_tup _) (sa_cons (se_var 1) sa_nil)) (sa_cons (se_op (os_ix _) (se_var 0) (se_int _)) sa_nil))))))) sub rs KK KX ?_⟩
    clear KK KX rs sub hr
    replace hS := sx2_inv hS
    obtain ⟨x1, x2, rfl, hS⟩ := hS
    obtain ⟨its, its', rls, rfl, rfl, n9, hk, hno⟩ := hS
    refine forL itD its' (fun done e m => ItsOk done ∧ ∃ (y2 y3 : Option DV), m = [] ∧ e = [some (.d (pnD its rls)), some (.d (.list (its'.map itD))), y2, y3]) ⟨(fun q hq => nomatch hq), none, none, rfl, rfl⟩ (fun done q r e m hx hJ C hC => ?_) (fun e m hJ => ?_)
    · obtain ⟨ok, y2, y3, rfl, rfl⟩ := hJ
      have bad : (¬ ((-1000000000 ≤ q.1 ∧ q.1 ≤ 1000000000) ∧ 1 ≤ q.2 ∧ q.2 ≤ 1000000)) → ¬ ItsOk its' := fun z y => z (y q (by rw [hx]; simp))
      refine ⟨_, rfl, rfl, fun z => ⟨fun _ => hno (bad fun y => ?_), fun z => nomatch z⟩, fun z1 => ⟨fun z => hno (bad fun y => ?_), fun z2 => hC _ _ ⟨fun q' hq' => ?_, _, _, rfl, rfl⟩⟩⟩
      · have z : (!(decide (-1000000000 ≤ q.1) && decide (q.1 ≤ 1000000000))) = true := z
        rw [decide_eq_true y.1.1, decide_eq_true y.1.2] at z
        cases z
      · have z : (!(decide (1 ≤ q.2) && decide (q.2 ≤ 1000000))) = true := z
        rw [decide_eq_true y.2.1, decide_eq_true y.2.2] at z
        cases z
      · rcases List.mem_append.mp hq' with y | y
        · exact ok q' y
        · cases List.mem_singleton.mp y
          have z1 : (!(decide (-1000000000 ≤ q.1) && decide (q.1 ≤ 1000000000))) = false := z1
          have z2 : (!(decide (1 ≤ q.2) && decide (q.2 ≤ 1000000))) = false := z2
          rw [Bool.not_eq_false', Bool.and_eq_true, decide_eq_true_eq, decide_eq_true_eq] at z1 z2
          exact ⟨z1, z2⟩
    · obtain ⟨ok, y2, y3, rfl, rfl⟩ := hJ
      exact ⟨_, rfl, _, _, rfl, rfl, by show 2 ≤ 1000000; decide, hk ok⟩
abbrev S_shift_panel : SpX := sx2 fun p a k r => ∃ (its : List (Int × Int)) (rls : List (Nat × Nat)) (x : Int), p = pnD its rls ∧ a = .int x ∧ its.length ≤ 1000 ∧ (ItsOk (its.map fun q => (q.1 + x, q.2)) → k (.d (pnD (its.map fun q => (q.1 + x, q.2)) rls))) ∧ (¬ ItsOk (its.map fun q => (q.1 + x, q.2)) → r)
abbrev s_shift_panel : Stmt := topS 19
abbrev N_shift_panel : List Str := ["panel", "amount", "mark", "weight"]
abbrev P_shift_panel : List Str := ["panel", "amount"]
theorem sc_shift_panel : FnScope N_shift_panel P_shift_panel (defScope s_shift_panel) := ⟨rfl, rfl, rfl, by decide +kernel, rfl, by decide +kernel, by decide +kernel⟩
set_option maxHeartbeats 8000000 in
theorem okD_shift_panel {C_OutOfRange : Addr} (d : IsDef K mg "shift_panel" s_shift_panel P_shift_panel) (h_with_items : OkX P w K mg base 3 "with_items" s_with_items P_with_items (prX C_OutOfRange S_with_items)) (Z_OutOfRange : ErrC K mg "OutOfRange" C_OutOfRange) : OkX P w K mg base 4 "shift_panel" s_shift_panel P_shift_panel (prX C_OutOfRange S_shift_panel) := by
  obtain ⟨f0_, fd0_, D⟩ := d
  obtain ⟨f_with_items, fd_with_items, ⟨F_with_items, b_with_items, g_with_items⟩, G_with_items⟩ := h_with_items
  refine ⟨f0_, fd0_, D, D.F.okX sc_shift_panel (fun vs H Q E h => ?_) (fun cdv A outer s H vs Q E hr h => ?_)⟩
  · obtain ⟨G, ds, k, r, _, rs, hS, _⟩ := h
    rw [rs.length]
    exact sx2_len hS
  · obtain ⟨G, ds, k, r, sub, rs, hS, KK, KX⟩ := h
    refine ⟨_, (pss_one (ps_ret (pe_callS G_with_items (hr.mono (by omega)) (by rfl) g_with_items F_with_items.kp b_with_items (fun σ => passAt (takes_of rfl rfl rfl rfl) σ) (pa_cons (pv 0) (pa_cons (pe_lc (own := [("mark", 2), ("weight", 3)]) (g := (gTup K 2 (gCons (gName 2) (gCons (gName 3) gNil)))) (by rfl) sc_shift_panel.nd (show PI _ _ _ (iSeq K _) from pi_seq (pe_ix (show IxR _ (rIx K) from ix_seq) (pv 0) pe_int (fun _ _ => rfl))) (blkOk_by (own := [("mark", 2), ("weight", 3)]) (N := N_shift_panel) (sc := defScope s_shift_panel) (by decide +kernel)) (fun _ _ _ _ _ => by exact (show PG _ _ (gTup K 2 _) from pg_tup (n := 2) (by rfl) (pgs_cons (pg_name (i := 2) sc_shift_panel.nd rfl (by first | exact .inl rfl | exact .inr rfl)) (pgs_cons (pg_name (i := 3) sc_shift_panel.nd rfl (by first | exact .inl rfl | exact .inr rfl)) pgs_nil)))) (fun _ _ _ _ _ => pts_nil) (fun _ _ _ _ _ => by exact (pe_tup (pa_cons (pe_op (show OpR _ _ (rAddA K) from op_addA) (pv 2) (pv 1)) (pa_cons (pv 3) pa_nil))))) pa_nil))))), runX (N := N_shift_panel) (E' := E) (C := C_OutOfRange) (fun hR => (ssc_retX hR (sa_cons (se_var 0) (sa_cons (SL.se (sl_lc (vs := [2, 3]) (si_seq _ (se_op (os_ix _) (se_var 0) (se_int _))) (sg_tup _ (sg_cons (sg_name 2) (sg_cons (sg_name 3) sg_nil))) (gw_tup (gw_cons (gw_name (i := 2) (by decide)) (gm_name 2) (gm_cons (gm_name 3) gm_nil) (gw_cons (gw_name (i := 3) (by decide)) (gm_name 3) gm_nil gw_nil))) st_yes (se_tup (sa_cons (se_op (os_addA _) (se_var 2) (se_var 1)) (sa_cons (se_var 3) sa_nil))))) sa_nil)))) sub rs KK KX ?_⟩
    clear KK KX rs sub hr
    replace hS := sx2_inv hS
    obtain ⟨x1, x2, rfl, hS⟩ := hS
    obtain ⟨its, rls, x, rfl, rfl, n9, hk, hno⟩ := hS
    refine ⟨_, _, rfl, rfl, lcM itD (fun q => itD (q.1 + x, q.2)) its (by omega) (fun q hq C _ h2 => ⟨_, rfl, rfl, fun _ => ⟨by show 2 ≤ 1000000; decide, h2⟩, fun z => nomatch z⟩) ⟨its, its.map fun q : Int × Int => (q.1 + x, q.2), rls, rfl, by rw [List.map_map]; rfl, by rw [List.length_map]; exact n9, hk, hno⟩⟩
abbrev S_scale_panel : SpX := sx2 fun p a k r => ∃ (its : List (Int × Int)) (rls : List (Nat × Nat)) (x : Int), p = pnD its rls ∧ a = .int x ∧ its.length ≤ 1000 ∧ (∀ q ∈ its, q.1.natAbs < 2 ^ 100 ∧ q.2.natAbs < 2 ^ 100) ∧ x.natAbs < 2 ^ 200 ∧ (ItsOk (its.map fun q => (q.1 * x, q.2)) → k (.d (pnD (its.map fun q => (q.1 * x, q.2)) rls))) ∧ (¬ ItsOk (its.map fun q => (q.1 * x, q.2)) → r)
abbrev s_scale_panel : Stmt := topS 20
abbrev N_scale_panel : List Str := ["panel", "factor", "mark", "weight"]
abbrev P_scale_panel : List Str := ["panel", "factor"]
theorem sc_scale_panel : FnScope N_scale_panel P_scale_panel (defScope s_scale_panel) := ⟨rfl, rfl, rfl, by decide +kernel, rfl, by decide +kernel, by decide +kernel⟩
set_option maxHeartbeats 8000000 in
theorem okD_scale_panel {C_OutOfRange : Addr} (d : IsDef K mg "scale_panel" s_scale_panel P_scale_panel) (h_with_items : OkX P w K mg base 3 "with_items" s_with_items P_with_items (prX C_OutOfRange S_with_items)) (Z_OutOfRange : ErrC K mg "OutOfRange" C_OutOfRange) : OkX P w K mg base 4 "scale_panel" s_scale_panel P_scale_panel (prX C_OutOfRange S_scale_panel) := by
  obtain ⟨f0_, fd0_, D⟩ := d
  obtain ⟨f_with_items, fd_with_items, ⟨F_with_items, b_with_items, g_with_items⟩, G_with_items⟩ := h_with_items
  refine ⟨f0_, fd0_, D, D.F.okX sc_scale_panel (fun vs H Q E h => ?_) (fun cdv A outer s H vs Q E hr h => ?_)⟩
  · obtain ⟨G, ds, k, r, _, rs, hS, _⟩ := h
    rw [rs.length]
    exact sx2_len hS
  · obtain ⟨G, ds, k, r, sub, rs, hS, KK, KX⟩ := h
    refine ⟨_, (pss_one (ps_ret (pe_callS G_with_items (hr.mono (by omega)) (by rfl) g_with_items F_with_items.kp b_with_items (fun σ => passAt (takes_of rfl rfl rfl rfl) σ) (pa_cons (pv 0) (pa_cons (pe_lc (own := [("mark", 2), ("weight", 3)]) (g := (gTup K 2 (gCons (gName 2) (gCons (gName 3) gNil)))) (by rfl) sc_scale_panel.nd (show PI _ _ _ (iSeq K _) from pi_seq (pe_ix (show IxR _ (rIx K) from ix_seq) (pv 0) pe_int (fun _ _ => rfl))) (blkOk_by (own := [("mark", 2), ("weight", 3)]) (N := N_scale_panel) (sc := defScope s_scale_panel) (by decide +kernel)) (fun _ _ _ _ _ => by exact (show PG _ _ (gTup K 2 _) from pg_tup (n := 2) (by rfl) (pgs_cons (pg_name (i := 2) sc_scale_panel.nd rfl (by first | exact .inl rfl | exact .inr rfl)) (pgs_cons (pg_name (i := 3) sc_scale_panel.nd rfl (by first | exact .inl rfl | exact .inr rfl)) pgs_nil)))) (fun _ _ _ _ _ => pts_nil) (fun _ _ _ _ _ => by exact (pe_tup (pa_cons (pe_op (show OpR _ _ (rMulA K) from op_mulA) (pv 2) (pv 1)) (pa_cons (pv 3) pa_nil))))) pa_nil))))), runX (N := N_scale_panel) (E' := E) (C := C_OutOfRange) (fun hR => (ssc_retX hR (sa_cons (se_var 0) (sa_cons (SL.se (sl_lc (vs := [2, 3]) (si_seq _ (se_op (os_ix _) (se_var 0) (se_int _))) (sg_tup _ (sg_cons (sg_name 2) (sg_cons (sg_name 3) sg_nil))) (gw_tup (gw_cons (gw_name (i := 2) (by decide)) (gm_name 2) (gm_cons (gm_name 3) gm_nil) (gw_cons (gw_name (i := 3) (by decide)) (gm_name 3) gm_nil gw_nil))) st_yes (se_tup (sa_cons (se_op (os_mulA _) (se_var 2) (se_var 1)) (sa_cons (se_var 3) sa_nil))))) sa_nil)))) sub rs KK KX ?_⟩
    clear KK KX rs sub hr
    replace hS := sx2_inv hS
    obtain ⟨x1, x2, rfl, hS⟩ := hS
    obtain ⟨its, rls, x, rfl, rfl, n9, sz, sx, hk, hno⟩ := hS
    refine ⟨_, _, rfl, rfl, lcM itD (fun q => itD (q.1 * x, q.2)) its (by omega) (fun q hq C _ h2 => ⟨_, rfl, rfl, fun _ => ⟨mw (sz q hq).1 sx, by show 2 ≤ 1000000; decide, h2⟩, fun z => nomatch z⟩) ⟨its, its.map fun q : Int × Int => (q.1 * x, q.2), rls, rfl, by rw [List.map_map]; rfl, by rw [List.length_map]; exact n9, hk, hno⟩⟩
abbrev S_weigh_panel : SpX := sx2 fun p a k r => ∃ (its : List (Int × Int)) (rls : List (Nat × Nat)) (x : Int), p = pnD its rls ∧ a = .int x ∧ its.length ≤ 1000 ∧ (∀ q ∈ its, q.1.natAbs < 2 ^ 100 ∧ q.2.natAbs < 2 ^ 100) ∧ x.natAbs < 2 ^ 200 ∧ (ItsOk (its.map fun q => (q.1, q.2 * x)) → k (.d (pnD (its.map fun q => (q.1, q.2 * x)) rls))) ∧ (¬ ItsOk (its.map fun q => (q.1, q.2 * x)) → r)
abbrev s_weigh_panel : Stmt := topS 21
abbrev N_weigh_panel : List Str := ["panel", "factor", "mark", "weight"]
abbrev P_weigh_panel : List Str := ["panel", "factor"]
theorem sc_weigh_panel : FnScope N_weigh_panel P_weigh_panel (defScope s_weigh_panel) := ⟨rfl, rfl, rfl, by decide +kernel, rfl, by decide +kernel, by decide +kernel⟩
set_option maxHeartbeats 8000000 in
theorem okD_weigh_panel {C_OutOfRange : Addr} (d : IsDef K mg "weigh_panel" s_weigh_panel P_weigh_panel) (h_with_items : OkX P w K mg base 3 "with_items" s_with_items P_with_items (prX C_OutOfRange S_with_items)) (Z_OutOfRange : ErrC K mg "OutOfRange" C_OutOfRange) : OkX P w K mg base 4 "weigh_panel" s_weigh_panel P_weigh_panel (prX C_OutOfRange S_weigh_panel) := by
  obtain ⟨f0_, fd0_, D⟩ := d
  obtain ⟨f_with_items, fd_with_items, ⟨F_with_items, b_with_items, g_with_items⟩, G_with_items⟩ := h_with_items
  refine ⟨f0_, fd0_, D, D.F.okX sc_weigh_panel (fun vs H Q E h => ?_) (fun cdv A outer s H vs Q E hr h => ?_)⟩
  · obtain ⟨G, ds, k, r, _, rs, hS, _⟩ := h
    rw [rs.length]
    exact sx2_len hS
  · obtain ⟨G, ds, k, r, sub, rs, hS, KK, KX⟩ := h
    refine ⟨_, (pss_one (ps_ret (pe_callS G_with_items (hr.mono (by omega)) (by rfl) g_with_items F_with_items.kp b_with_items (fun σ => passAt (takes_of rfl rfl rfl rfl) σ) (pa_cons (pv 0) (pa_cons (pe_lc (own := [("mark", 2), ("weight", 3)]) (g := (gTup K 2 (gCons (gName 2) (gCons (gName 3) gNil)))) (by rfl) sc_weigh_panel.nd (show PI _ _ _ (iSeq K _) from pi_seq (pe_ix (show IxR _ (rIx K) from ix_seq) (pv 0) pe_int (fun _ _ => rfl))) (blkOk_by (own := [("mark", 2), ("weight", 3)]) (N := N_weigh_panel) (sc := defScope s_weigh_panel) (by decide +kernel)) (fun _ _ _ _ _ => by exact (show PG _ _ (gTup K 2 _) from pg_tup (n := 2) (by rfl) (pgs_cons (pg_name (i := 2) sc_weigh_panel.nd rfl (by first | exact .inl rfl | exact .inr rfl)) (pgs_cons (pg_name (i := 3) sc_weigh_panel.nd rfl (by first | exact .inl rfl | exact .inr rfl)) pgs_nil)))) (fun _ _ _ _ _ => pts_nil) (fun _ _ _ _ _ => by exact (pe_tup (pa_cons (pv 2) (pa_cons (pe_op (show OpR _ _ (rMulA K) from op_mulA) (pv 3) (pv 1)) pa_nil))))) pa_nil))))), runX (N := N_weigh_panel) (E' := E) (C := C_OutOfRange) (fun hR => (ssc_retX hR (sa_cons (se_var 0) (sa_cons (SL.se (sl_lc (vs := [2, 3]) (si_seq _ (se_op (os_ix _) (se_var 0) (se_int _))) (sg_tup _ (sg_cons (sg_name 2) (sg_cons (sg_name 3) sg_nil))) (gw_tup (gw_cons (gw_name (i := 2) (by decide)) (gm_name 2) (gm_cons (gm_name 3) gm_nil) (gw_cons (gw_name (i := 3) (by decide)) (gm_name 3) gm_nil gw_nil))) st_yes (se_tup (sa_cons (se_var 2) (sa_cons (se_op (os_mulA _) (se_var 3) (se_var 1)) sa_nil))))) sa_nil)))) sub rs KK KX ?_⟩
    clear KK KX rs sub hr
    replace hS := sx2_inv hS
    obtain ⟨x1, x2, rfl, hS⟩ := hS
    obtain ⟨its, rls, x, rfl, rfl, n9, sz, sx, hk, hno⟩ := hS
    refine ⟨_, _, rfl, rfl, lcM itD (fun q => itD (q.1, q.2 * x)) its (by omega) (fun q hq C _ h2 => ⟨_, rfl, rfl, fun _ => ⟨mw (sz q hq).2 sx, by show 2 ≤ 1000000; decide, h2⟩, fun z => nomatch z⟩) ⟨its, its.map fun q : Int × Int => (q.1, q.2 * x), rls, rfl, by rw [List.map_map]; rfl, by rw [List.length_map]; exact n9, hk, hno⟩⟩
end
end PM

namespace PM
open PySem PySem.Spec PyProof.Rows L2 RZ
section
variable {P : Program} {w : World} {K : PySem.W.Frag} {mg : Str → Option Value} {base : Heap}
/-! ### items renamed -/
def rnR (f : Nat → Option Nat) (rls : List (Nat × Nat)) : List (Nat × Nat) := (rls.filter fun q => (f q.1).isSome && (f q.2).isSome).map fun q => ((f q.1).getD 0, (f q.2).getD 0)
theorem rnR_all {f : Nat → Option Nat} {g : Nat → Nat} {rls : List (Nat × Nat)} (h : ∀ q ∈ rls, f q.1 = some (g q.1) ∧ f q.2 = some (g q.2)) : rnR f rls = rls.map fun q => (g q.1, g q.2) := by
  unfold rnR
  rw [List.filter_eq_self.mpr fun q hq => by rw [(h q hq).1, (h q hq).2]; rfl]
  exact List.map_congr_left fun q hq => by rw [(h q hq).1, (h q hq).2]; rfl
theorem val_find {α : Type} (gk : α → Int) (gv : α → PyData) (L : List α) (k : Int) : valD (L.map fun x => (gk x, gv x)) k = (L.find? fun x => decide (gk x = k)).map gv := by
  unfold valD
  rw [List.find?_map, Option.map_map]
  rfl
abbrev S_renamed_rules : SpV := sv2 fun r n k => ∃ (rls : List (Nat × Nat)) (kvs : List (Int × PyData)) (f : Nat → Option Nat), r = .d (.tuple (rls.map rlD)) ∧ n = .dic kvs ∧ rls.length ≤ 1000 ∧ (∀ i : Nat, valD kvs (i : Int) = (f i).map nD) ∧ k (.d (.tuple ((rnR f rls).map rlD)))
abbrev s_renamed_rules : Stmt := topS 22
abbrev N_renamed_rules : List Str := ["rules", "names", "low", "high"]
abbrev P_renamed_rules : List Str := ["rules", "names"]
theorem sc_renamed_rules : FnScope N_renamed_rules P_renamed_rules (defScope s_renamed_rules) := ⟨rfl, rfl, rfl, by decide +kernel, rfl, by decide +kernel, by decide +kernel⟩
set_option maxHeartbeats 8000000 in
theorem okD_renamed_rules (d : IsDef K mg "renamed_rules" s_renamed_rules P_renamed_rules) (m_tuple : mg "tuple" = none) : Ok P w K mg base 1 "renamed_rules" s_renamed_rules P_renamed_rules (prV S_renamed_rules) := by
  obtain ⟨f0_, fd0_, D⟩ := d
  refine ⟨f0_, fd0_, D, D.F.ok sc_renamed_rules (fun vs H Q E h => ?_) (fun cdv A outer s H vs Q E hr h => ?_)⟩
  · obtain ⟨G, ds, k, _, rs, hS, _⟩ := h
    rw [rs.length]
    exact sv2_len hS
  · obtain ⟨G, ds, k, sub, rs, hS, KK⟩ := h
    refine ⟨_, (pss_one (ps_ret (pe_callTy (show CallR _ _ (rTupK K) from call_tupK) (by rfl) m_tuple (by decide +kernel) (pa_cons (pe_lc (own := [("low", 2), ("high", 3)]) (g := (gTup K 2 (gCons (gName 2) (gCons (gName 3) gNil)))) (by rfl) sc_renamed_rules.nd (show PI _ _ _ (iSeq K _) from pi_seq (pv 0)) (blkOk_by (own := [("low", 2), ("high", 3)]) (N := N_renamed_rules) (sc := defScope s_renamed_rules) (by decide +kernel)) (fun _ _ _ _ _ => by exact (show PG _ _ (gTup K 2 _) from pg_tup (n := 2) (by rfl) (pgs_cons (pg_name (i := 2) sc_renamed_rules.nd rfl (by first | exact .inl rfl | exact .inr rfl)) (pgs_cons (pg_name (i := 3) sc_renamed_rules.nd rfl (by first | exact .inl rfl | exact .inr rfl)) pgs_nil)))) (fun _ _ _ _ _ => (pts_one (PW.pt (pw_and (pt_cmp (pc_din (hu1 hr.units) (pv 2) (pv 1))) (pw_and1 (pt_cmp (pc_din (hu1 hr.units) (pv 3) (pv 1)))))))) (fun _ _ _ _ _ => by exact (pe_tup (pa_cons (pe_dget (hu1 hr.units) (pv 1) (pv 2) (fun _ _ => rfl)) (pa_cons (pe_dget (hu1 hr.units) (pv 1) (pv 3) (fun _ _ => rfl)) pa_nil))))) pa_nil)))), runV (N := N_renamed_rules) (ss_ret (se_cb (cs_tup _) (sa_cons (SL.se (sl_lc (vs := [2, 3]) (si_seq _ (se_var 0)) (sg_tup _ (sg_cons (sg_name 2) (sg_cons (sg_name 3) sg_nil))) (gw_tup (gw_cons (gw_name (i := 2) (by decide)) (gm_name 2) (gm_cons (gm_name 3) gm_nil) (gw_cons (gw_name (i := 3) (by decide)) (gm_name 3) gm_nil gw_nil))) (st_and (st_b (se_din (se_var 2) (se_var 1))) (st_b (se_din (se_var 3) (se_var 1)))) (se_tup (sa_cons (se_dget (se_var 1) (se_var 2)) (sa_cons (se_dget (se_var 1) (se_var 3)) sa_nil))))) sa_nil))) sub rs KK ?_⟩
    clear KK rs sub hr
    replace hS := sv2_inv hS
    obtain ⟨x1, x2, rfl, hS⟩ := hS
    obtain ⟨rls, kvs, f, rfl, rfl, r9, hf, hk⟩ := hS
    have hs : ∀ i : Nat, (valD kvs (i : Int)).isSome = (f i).isSome := fun i => by rw [hf, Option.isSome_map]
    refine lcFM rlD (fun q => rlD ((f q.1).getD 0, (f q.2).getD 0)) (fun q => (f q.1).isSome && (f q.2).isSome) rls (by omega) (fun q hq C C0 h1 h0 => ?_) ⟨_, rfl, ?_⟩
    · refine ⟨_, rfl, rfl, _, rfl, fun z => ⟨_, rfl, fun y => ?_, fun y => ?_⟩, fun z => ?_⟩
      · have z : (valD kvs (q.1 : Int)).isSome = true := z
        have y : (valD kvs (q.2 : Int)).isSome = true := y
        rw [hs] at z y
        obtain ⟨a, ha⟩ := Option.isSome_iff_exists.mp z
        obtain ⟨b, hb⟩ := Option.isSome_iff_exists.mp y
        rw [z, y, ha, hb] at h1
        exact ⟨_, nD a, rfl, by rw [hf, ha]; rfl, _, nD b, rfl, by rw [hf, hb]; rfl, by show 2 ≤ 1000000; decide, h1 rfl⟩
      · have z : (valD kvs (q.1 : Int)).isSome = true := z
        have y : (valD kvs (q.2 : Int)).isSome = false := y
        rw [hs] at z y
        rw [z, y] at h0
        exact h0 rfl
      · have z : (valD kvs (q.1 : Int)).isSome = false := z
        rw [hs] at z
        rw [z] at h0
        exact ⟨(fun z => nomatch z), fun _ => h0 rfl⟩
    · unfold rnR at hk
      rw [List.map_map] at hk
      exact hk
/-! ### two panels as one, or the error -/
def shR (n : Nat) (rls : List (Nat × Nat)) : List (Nat × Nat) := rls.map fun q => (n + q.1, n + q.2)
abbrev S_combine_panels : SpX := sx2 fun p o k r => ∃ (its its' : List (Int × Int)) (rls rls' : List (Nat × Nat)), p = pnD its rls ∧ o = pnD its' rls' ∧ its.length ≤ 100 ∧ its'.length ≤ 100 ∧ rls.length ≤ 100 ∧ rls'.length ≤ 100 ∧ (∀ q ∈ rls', q.1 < its'.length ∧ q.2 < its'.length) ∧ (its.length + its'.length ≤ 8 → rls.length + rls'.length ≤ 16 → k (.d (pnD (its ++ its') (rls ++ shR its.length rls')))) ∧ (¬ (its.length + its'.length ≤ 8 ∧ rls.length + rls'.length ≤ 16) → r)
abbrev s_combine_panels : Stmt := topS 23
abbrev N_combine_panels : List Str := ["one", "other", "items", "names", "rules", "item"]
abbrev P_combine_panels : List Str := ["one", "other"]
theorem sc_combine_panels : FnScope N_combine_panels P_combine_panels (defScope s_combine_panels) := ⟨rfl, rfl, rfl, by decide +kernel, rfl, by decide +kernel, by decide +kernel⟩
set_option maxHeartbeats 8000000 in
theorem okD_combine_panels {C_Full : Addr} (d : IsDef K mg "combine_panels" s_combine_panels P_combine_panels) (h_renamed_rules : Ok P w K mg base 1 "renamed_rules" s_renamed_rules P_renamed_rules (prV S_renamed_rules)) (m_len : mg "len" = none) (m_range : mg "range" = none) {t_RULES : Tok} (g_RULES : mg "RULES" = some (.int (16) t_RULES)) {t_ITEMS : Tok} (g_ITEMS : mg "ITEMS" = some (.int (8) t_ITEMS)) (Z_Full : ErrC K mg "Full" C_Full) : OkX P w K mg base 2 "combine_panels" s_combine_panels P_combine_panels (prX C_Full S_combine_panels) := by
  obtain ⟨f0_, fd0_, D⟩ := d
  obtain ⟨f_renamed_rules, fd_renamed_rules, ⟨F_renamed_rules, b_renamed_rules, g_renamed_rules⟩, G_renamed_rules⟩ := h_renamed_rules
  refine ⟨f0_, fd0_, D, D.F.okX sc_combine_panels (fun vs H Q E h => ?_) (fun cdv A outer s H vs Q E hr h => ?_)⟩
  · obtain ⟨G, ds, k, r, _, rs, hS, _⟩ := h
    rw [rs.length]
    exact sx2_len hS
  · obtain ⟨G, ds, k, r, sub, rs, hS, KK, KX⟩ := h
    refine ⟨_, (pss_cons (ps_set (i := 2) sc_combine_panels.nd rfl (.inl rfl) (pe_op (show OpR _ _ (rAddA K) from op_addA) (pe_ix (show IxR _ (rIx K) from ix_seq) (pv 0) pe_int (fun _ _ => rfl)) (pe_ix (show IxR _ (rIx K) from ix_seq) (pv 1) pe_int (fun _ _ => rfl))))
      (pss_cons (ps_setDc (i := 3) (own := [("item", 5)]) (g := (gName 5)) (by rfl) sc_combine_panels.nd rfl rfl (sw_trueD rfl rfl rfl (by decide +kernel)) (pi_range1 (by rfl) m_range (pa_cons (pe_callB (show CallR _ _ (rLenK K) from call_lenK) (by rfl) m_len (by decide +kernel) (pa_cons (pe_ix (show IxR _ (rIx K) from ix_seq) (pv 1) pe_int (fun _ _ => rfl)) pa_nil)) pa_nil)) (blkOk_by (own := [("item", 5)]) (N := N_combine_panels) (sc := defScope s_combine_panels) (by decide +kernel)) (fun _ _ _ _ _ => by exact (pg_name (i := 5) sc_combine_panels.nd rfl (by first | exact .inl rfl | exact .inr rfl))) (fun _ _ _ _ _ => pts_nil) (fun _ _ _ _ _ => by exact (pv 5)) (fun _ _ _ _ _ => by exact (pe_op (show OpR _ _ (rAddA K) from op_addA) (pe_callB (show CallR _ _ (rLenK K) from call_lenK) (by rfl) m_len (by decide +kernel) (pa_cons (pe_ix (show IxR _ (rIx K) from ix_seq) (pv 0) pe_int (fun _ _ => rfl)) pa_nil)) (pv 5))))
      (pss_cons (ps_set (i := 4) sc_combine_panels.nd rfl (.inl rfl) (pe_op (show OpR _ _ (rAddA K) from op_addA) (pe_ix (show IxR _ (rIx K) from ix_seq) (pv 0) pe_int (fun _ _ => rfl)) (pe_call G_renamed_rules (hr.mono (by omega)) (by rfl) g_renamed_rules F_renamed_rules.kp b_renamed_rules .nil pass0 (pa_cons (pe_ix (show IxR _ (rIx K) from ix_seq) (pv 1) pe_int (fun _ _ => rfl)) (pa_cons (pv 3) pa_nil)))))
      (pss_cons (ps_if (PW.pt (pw_or (pt_cmpR op_gt (pe_callB (show CallR _ _ (rLenK K) from call_lenK) (by rfl) m_len (by decide +kernel) (pa_cons (pv 2) pa_nil)) (pe_glob (v := .int (8)) rfl g_ITEMS ⟨_, rfl⟩) (nomark _)) (pw_or1 (pt_cmpR op_gt (pe_callB (show CallR _ _ (rLenK K) from call_lenK) (by rfl) m_len (by decide +kernel) (pa_cons (pv 4) pa_nil)) (pe_glob (v := .int (16)) rfl g_RULES ⟨_, rfl⟩) (nomark _))))) (pss_one (ps_raise rfl (takes_of rfl rfl rfl rfl) (pmk_bare PySem.F.excBase_ValueError Z_Full.x Z_Full.g Z_Full.k (raises_own Z_Full.b Z_Full.t) (by rfl)))) pss_nil)
      (pss_one (ps_ret (pe_tup (pa_cons (pv 2) (pa_cons (pv 4) pa_nil))))))))), runX (N := N_combine_panels) (E' := E) (C := C_Full) (fun hR => (ssc_seq' (ssc_of (ss_asg (se_op (os_addA _) (se_op (os_ix _) (se_var 0) (se_int _)) (se_op (os_ix _) (se_var 1) (se_int _))) (sg_name 2)))
      (ssc_seq' (ssc_of (ss_asg (se_dcc (vs := [5]) (si_rng1 (sa_cons (se_cb (cs_len _) (sa_cons (se_op (os_ix _) (se_var 1) (se_int _)) sa_nil)) sa_nil)) (sg_name 5) (gw_name (i := 5) (by decide)) st_yes (se_var 5) (se_op (os_addA _) (se_cb (cs_len _) (sa_cons (se_op (os_ix _) (se_var 0) (se_int _)) sa_nil)) (se_var 5))) (sg_name 3)))
      (ssc_seq' (ssc_of (ss_asg (se_op (os_addA _) (se_op (os_ix _) (se_var 0) (se_int _)) (se_callV (sa_cons (se_op (os_ix _) (se_var 1) (se_int _)) (sa_cons (se_var 3) sa_nil)))) (sg_name 4)))
      (ssc_seq' (ssc_if (st_or (st_test (se_op os_gt (se_cb (cs_len _) (sa_cons (se_var 2) sa_nil)) (se_int _))) (st_test (se_op os_gt (se_cb (cs_len _) (sa_cons (se_var 4) sa_nil)) (se_int _)))) (ssc_raise hR) (ssc_of ss_nil))
      (ssc_of (ss_ret (se_tup (sa_cons (se_var 2) (sa_cons (se_var 4) sa_nil)))))))))) sub rs KK KX ?_⟩
    clear KK KX rs sub hr
    replace hS := sx2_inv hS
    obtain ⟨x1, x2, rfl, hS⟩ := hS
    obtain ⟨its, its', rls, rls', rfl, rfl, n1, n2, m1, m2, hr, hk, hno⟩ := hS
    have e0 : rgD 0 ((its'.map itD).length : Int).toNat = (List.range its'.length).map nD := by
      rw [List.length_map, Int.toNat_natCast]
      unfold rgD nD
      simp
    have nl : (((its.map itD).length : Nat) : Int) = (its.length : Int) := by rw [List.length_map]
    refine ⟨_, _, rfl, rfl, _, _, rfl, rfl, by rw [List.length_map, List.length_map]; omega, ?_⟩
    refine ⟨_, _, rfl, rfl, _, rfl, ⟨by omega, by rw [List.length_map]; omega⟩, ?_⟩
    refine dccM nD (fun i => (i : Int)) (fun i => nD (its.length + i)) (List.range its'.length) e0 (by rw [List.length_range]; omega) (List.pairwise_lt_range.imp fun h z => by omega) (fun i hi C C0 h => ⟨fun _ => ?_, fun z => nomatch z⟩) ?_
    · refine ⟨_, _, rfl, rfl, _, rfl, ?_⟩
      show C _ (.int ((((its.map itD).length : Nat) : Int) + (i : Int))) _
      rw [nl]
      exact h
    obtain ⟨f, hf⟩ : ∃ f : Nat → Option Nat, f = fun i => if i < its'.length then some (its.length + i) else none := ⟨_, rfl⟩
    refine ⟨_, _, rfl, rfl, _, _, rfl, rfl, trivial, rls', _, f, rfl, rfl, by omega, fun i => ?_, ?_⟩
    · rw [val_find, hf]
      dsimp only
      by_cases h : i < its'.length
      · rw [if_pos h]
        have : (List.range its'.length).find? (fun x : Nat => decide ((x : Int) = (i : Int))) = some i := by
          rw [List.find?_range_eq_some]
          exact ⟨decide_eq_true rfl, List.mem_range.mpr h, fun j hj => by rw [Bool.not_eq_true', decide_eq_false_iff_not]; omega⟩
        rw [this]
        rfl
      · rw [if_neg h]
        have : (List.range its'.length).find? (fun x : Nat => decide ((x : Int) = (i : Int))) = none := List.find?_eq_none.mpr fun x hx z => by
          have := List.mem_range.mp hx
          have := of_decide_eq_true z
          omega
        rw [this]
        rfl
    have er : rnR f rls' = shR its.length rls' := rnR_all fun q hq => by
      rw [hf]
      exact ⟨if_pos (hr q hq).1, if_pos (hr q hq).2⟩
    rw [er]
    have ls : (shR its.length rls').length = rls'.length := by unfold shR; rw [List.length_map]
    have lr : (rls.map rlD).length + ((shR its.length rls').map rlD).length ≤ 1000000 := by
      rw [List.length_map, List.length_map, ls]
      omega
    have l8 : (((its.map itD ++ its'.map itD).length : Nat) : Int) = (its.length : Int) + (its'.length : Int) := by
      rw [List.length_append, List.length_map, List.length_map]
      omega
    have l16 : (((rls.map rlD ++ (shR its.length rls').map rlD).length : Nat) : Int) = (rls.length : Int) + (rls'.length : Int) := by
      rw [List.length_append, List.length_map, List.length_map, ls]
      omega
    refine ⟨lr, _, rfl, fun z => ⟨fun _ => hno fun y => ?_, fun z => nomatch z⟩, fun z1 => ⟨_, rfl, fun z => hno fun y => ?_, fun z2 => ⟨by show 2 ≤ 1000000; decide, ?_⟩⟩⟩
    · have z : (((its.map itD ++ its'.map itD).length : Nat) : Int) > 8 := of_decide_eq_true z
      rw [l8] at z
      omega
    · have z : (((rls.map rlD ++ (shR its.length rls').map rlD).length : Nat) : Int) > 16 := of_decide_eq_true z
      rw [l16] at z
      omega
    · have z1 : ¬ (((its.map itD ++ its'.map itD).length : Nat) : Int) > 8 := of_decide_eq_false z1
      have z2 : ¬ (((rls.map rlD ++ (shR its.length rls').map rlD).length : Nat) : Int) > 16 := of_decide_eq_false z2
      rw [l8] at z1
      rw [l16] at z2
      have hk := hk (by omega) (by omega)
      unfold pnD at hk
      rw [List.map_append, List.map_append] at hk
      exact hk
/-! ### items in another order, or some of them -/
def chF (os : List Nat) (j : Nat) : Option Nat := if j ∈ os then some (os.idxOf j) else none
theorem find_range {n : Nat} {p : Nat → Bool} {i : Nat} (hi : i < n) (hp : p i = true) (hm : ∀ j, j < i → p j = false) : (List.range n).find? p = some i := by
  rw [List.find?_range_eq_some]
  exact ⟨hp, List.mem_range.mpr hi, fun j hj => by rw [hm j hj]; rfl⟩
theorem chF_val {os : List Nat} (nd : os.Nodup) (j : Nat) : valD ((List.range os.length).map fun i => (((os.getD i 0 : Nat) : Int), nD i)) (j : Int) = (chF os j).map nD := by
  rw [val_find]
  unfold chF
  have gd : ∀ i, (h : i < os.length) → os.getD i 0 = os[i] := fun i h => by rw [List.getD_eq_getElem?_getD, List.getElem?_eq_getElem h]; rfl
  by_cases h : j ∈ os
  · rw [if_pos h]
    have hl := List.idxOf_lt_length_iff.mpr h
    have e : os.getD (os.idxOf j) 0 = j := by rw [gd _ hl]; exact List.getElem_idxOf hl
    rw [find_range (i := os.idxOf j) hl (decide_eq_true (by rw [e])) fun i hi => decide_eq_false fun z => ?_]
    have z : os.getD i 0 = j := by omega
    rw [gd i (by omega)] at z
    have := nd.idxOf_getElem i (by omega)
    rw [z] at this
    omega
  · rw [if_neg h]
    have : (List.range os.length).find? (fun x => decide (((os.getD x 0 : Nat) : Int) = (j : Int))) = none := List.find?_eq_none.mpr fun x hx z => by
      have hx := List.mem_range.mp hx
      have z := of_decide_eq_true z
      have z : os.getD x 0 = j := by omega
      rw [gd x hx] at z
      exact h (z ▸ List.getElem_mem hx)
    rw [this]
abbrev S_chosen_items : SpP := sp2 fun p o k => ∃ (its : List (Int × Int)) (rls : List (Nat × Nat)) (os : List Nat), p = pnD its rls ∧ (o = .list (os.map nD) ∨ o = .tuple (os.map nD)) ∧ os.length ≤ 1000 ∧ (∀ i ∈ os, i < its.length) ∧ os.Nodup ∧ rls.length ≤ 1000 ∧ k (.d (pnD (os.map (itm its)) (rnR (chF os) rls)))
abbrev s_chosen_items : Stmt := topS 24
abbrev N_chosen_items : List Str := ["panel", "order", "items", "rules", "names", "at", "item"]
abbrev P_chosen_items : List Str := ["panel", "order"]
theorem sc_chosen_items : FnScope N_chosen_items P_chosen_items (defScope s_chosen_items) := ⟨rfl, rfl, rfl, by decide +kernel, rfl, by decide +kernel, by decide +kernel⟩
set_option maxHeartbeats 8000000 in
theorem okD_chosen_items (d : IsDef K mg "chosen_items" s_chosen_items P_chosen_items) (h_renamed_rules : Ok P w K mg base 1 "renamed_rules" s_renamed_rules P_renamed_rules (prV S_renamed_rules)) (m_tuple : mg "tuple" = none) (m_enumerate : mg "enumerate" = none) : Ok P w K mg base 2 "chosen_items" s_chosen_items P_chosen_items (prP S_chosen_items) := by
  obtain ⟨f0_, fd0_, D⟩ := d
  obtain ⟨f_renamed_rules, fd_renamed_rules, ⟨F_renamed_rules, b_renamed_rules, g_renamed_rules⟩, G_renamed_rules⟩ := h_renamed_rules
  refine ⟨f0_, fd0_, D, D.F.ok sc_chosen_items (fun vs H Q E h => ?_) (fun cdv A outer s H vs Q E hr h => ?_)⟩
  · obtain ⟨G, ds, k, _, rs, hS, _⟩ := h
    rw [rs.length]
    exact sp2_len hS
  · obtain ⟨G, ds, k, sub, rs, hS, KK⟩ := h
    refine ⟨_, (pss_cons (ps_asg (pv 0) (show PG _ _ (gTup K 2 _) from pg_tup (n := 2) (by rfl) (pgs_cons (pg_name (i := 2) sc_chosen_items.nd rfl (.inr rfl)) (pgs_cons (pg_name (i := 3) sc_chosen_items.nd rfl (.inl rfl)) pgs_nil))))
      (pss_cons (ps_setDc (i := 4) (own := [("at", 5), ("item", 6)]) (g := (gTup K 2 (gCons (gName 5) (gCons (gName 6) gNil)))) (by rfl) sc_chosen_items.nd rfl rfl (sw_trueD rfl rfl rfl (by decide +kernel)) (show PI _ _ _ (iEnumA K _) from pi_enumA (by rfl) m_enumerate (pa_cons (pv 1) pa_nil)) (blkOk_by (own := [("at", 5), ("item", 6)]) (N := N_chosen_items) (sc := defScope s_chosen_items) (by decide +kernel)) (fun _ _ _ _ _ => by exact (show PG _ _ (gTup K 2 _) from pg_tup (n := 2) (by rfl) (pgs_cons (pg_name (i := 5) sc_chosen_items.nd rfl (by first | exact .inl rfl | exact .inr rfl)) (pgs_cons (pg_name (i := 6) sc_chosen_items.nd rfl (by first | exact .inl rfl | exact .inr rfl)) pgs_nil)))) (fun _ _ _ _ _ => pts_nil) (fun _ _ _ _ _ => by exact (pv 6)) (fun _ _ _ _ _ => by exact (pv 5)))
      (pss_one (ps_ret (pe_tup (pa_cons (pe_callTy (show CallR _ _ (rTupK K) from call_tupK) (by rfl) m_tuple (by decide +kernel) (pa_cons (pe_lc (own := [("item", 6)]) (g := (gName 6)) (by rfl) sc_chosen_items.nd (show PI _ _ _ (iSeq K _) from pi_seq (pv 1)) (blkOk_by (own := [("item", 6)]) (N := N_chosen_items) (sc := defScope s_chosen_items) (by decide +kernel)) (fun _ _ _ _ _ => by exact (pg_name (i := 6) sc_chosen_items.nd rfl (by first | exact .inl rfl | exact .inr rfl))) (fun _ _ _ _ _ => pts_nil) (fun _ _ _ _ _ => by exact (pe_ix (show IxR _ (rIx K) from ix_seq) (pv 2) (pv 6) (fun _ _ => rfl)))) pa_nil)) (pa_cons (pe_call G_renamed_rules (hr.mono (by omega)) (by rfl) g_renamed_rules F_renamed_rules.kp b_renamed_rules .nil pass0 (pa_cons (pv 3) (pa_cons (pv 4) pa_nil))) pa_nil))))))), runP (N := N_chosen_items) (ss_seq (ss_asg (se_var 0) (sg_tup _ (sg_cons (sg_name 2) (sg_cons (sg_name 3) sg_nil))))
      (ss_seq (ss_asg (se_dcc (vs := [5, 6]) (si_enum _ (sa_cons (se_var 1) sa_nil)) (sg_tup _ (sg_cons (sg_name 5) (sg_cons (sg_name 6) sg_nil))) (gw_tup (gw_cons (gw_name (i := 5) (by decide)) (gm_name 5) (gm_cons (gm_name 6) gm_nil) (gw_cons (gw_name (i := 6) (by decide)) (gm_name 6) gm_nil gw_nil))) st_yes (se_var 6) (se_var 5)) (sg_name 4))
      (ss_ret (se_tup (sa_cons (se_cb (cs_tup _) (sa_cons (SL.se (sl_lc (vs := [6]) (si_seq _ (se_var 1)) (sg_name 6) (gw_name (i := 6) (by decide)) st_yes (se_op (os_ix _) (se_var 2) (se_var 6)))) sa_nil)) (sa_cons (se_callV (sa_cons (se_var 3) (sa_cons (se_var 4) sa_nil))) sa_nil)))))) sub rs KK ?_⟩
    clear KK rs sub hr
    replace hS := sp2_inv hS
    obtain ⟨x1, x2, rfl, hS⟩ := hS
    obtain ⟨its, rls, os, rfl, ho, o9, oi, nd, r9, hk⟩ := hS
    have en : enumD 0 (os.map nD) = (List.range os.length).map fun i => .tuple [nD i, nD (os.getD i 0)] := by
      rw [enum_map nD 0]
      simp only [Nat.zero_add]
    have gd : ∀ i, (h : i < os.length) → os.getD i 0 = os[i] := fun i h => by rw [List.getD_eq_getElem?_getD, List.getElem?_eq_getElem h]; rfl
    rcases ho with rfl | rfl
    all_goals
      refine ⟨_, rfl, rfl, ?_⟩
      refine dccM (fun i : Nat => .tuple [nD i, nD (os.getD i 0)]) (fun i => ((os.getD i 0 : Nat) : Int)) nD (List.range os.length) en (by rw [List.length_range]; omega) (List.pairwise_lt_range.imp_of_mem fun ha hb h z => ?_) (fun i hi C C0 h => ⟨_, rfl, rfl, fun _ => h, fun z => nomatch z⟩) ?_
      · have ha := List.mem_range.mp ha
        have hb := List.mem_range.mp hb
        have z : os.getD _ 0 = os.getD _ 0 := Int.ofNat.inj z
        rw [gd _ ha, gd _ hb] at z
        exact List.pairwise_iff_getElem.mp nd _ _ ha hb h z
      · refine lcM nD (fun j => itD (itm its j)) os (by omega) (fun j hj C _ h2 => ⟨fun _ => ⟨_, _, rfl, at_item (oi j hj), h2⟩, fun z => nomatch z⟩) ⟨_, rfl, trivial, rls, _, chF os, rfl, rfl, r9, fun i => chF_val nd i, by show 2 ≤ 1000000; decide, ?_⟩
        unfold pnD at hk
        rw [List.map_map] at hk
        exact hk
/-! ### the items but one, or the error -/
def lfI (n i : Nat) : List Nat := (List.range n).filter fun j => !decide (j = i)
abbrev S_without_item : SpX := sx2 fun p a k r => ∃ (its : List (Int × Int)) (rls : List (Nat × Nat)) (i : Nat), p = pnD its rls ∧ a = nD i ∧ 1 ≤ its.length ∧ its.length ≤ 1000 ∧ i < its.length ∧ rls.length ≤ 1000 ∧ (its.length ≠ 1 → k (.d (pnD ((lfI its.length i).map (itm its)) (rnR (chF (lfI its.length i)) rls)))) ∧ (its.length = 1 → r)
abbrev s_without_item : Stmt := topS 25
abbrev N_without_item : List Str := ["panel", "item", "size", "other"]
abbrev P_without_item : List Str := ["panel", "item"]
theorem sc_without_item : FnScope N_without_item P_without_item (defScope s_without_item) := ⟨rfl, rfl, rfl, by decide +kernel, rfl, by decide +kernel, by decide +kernel⟩
set_option maxHeartbeats 8000000 in
theorem okD_without_item {C_LastItem : Addr} (d : IsDef K mg "without_item" s_without_item P_without_item) (h_chosen_items : Ok P w K mg base 2 "chosen_items" s_chosen_items P_chosen_items (prP S_chosen_items)) (m_range : mg "range" = none) (m_len : mg "len" = none) (Z_LastItem : ErrC K mg "LastItem" C_LastItem) : OkX P w K mg base 3 "without_item" s_without_item P_without_item (prX C_LastItem S_without_item) := by
  obtain ⟨f0_, fd0_, D⟩ := d
  obtain ⟨f_chosen_items, fd_chosen_items, ⟨F_chosen_items, b_chosen_items, g_chosen_items⟩, G_chosen_items⟩ := h_chosen_items
  refine ⟨f0_, fd0_, D, D.F.okX sc_without_item (fun vs H Q E h => ?_) (fun cdv A outer s H vs Q E hr h => ?_)⟩
  · obtain ⟨G, ds, k, r, _, rs, hS, _⟩ := h
    rw [rs.length]
    exact sx2_len hS
  · obtain ⟨G, ds, k, r, sub, rs, hS, KK, KX⟩ := h
    refine ⟨_, (pss_cons (ps_set (i := 2) sc_without_item.nd rfl (.inl rfl) (pe_callB (show CallR _ _ (rLenK K) from call_lenK) (by rfl) m_len (by decide +kernel) (pa_cons (pe_ix (show IxR _ (rIx K) from ix_seq) (pv 0) pe_int (fun _ _ => rfl)) pa_nil)))
      (pss_cons (ps_if (pt_cmpR (show OpR _ _ (rEqA K) from op_eqA hr.units) (pv 2) pe_int (nomark _)) (pss_one (ps_raise rfl (takes_of rfl rfl rfl rfl) (pmk_bare PySem.F.excBase_ValueError Z_LastItem.x Z_LastItem.g Z_LastItem.k (raises_own Z_LastItem.b Z_LastItem.t) (by rfl)))) pss_nil)
      (pss_one (ps_ret (pe_call G_chosen_items (hr.mono (by omega)) (by rfl) g_chosen_items F_chosen_items.kp b_chosen_items .nil pass0 (pa_cons (pv 0) (pa_cons (pe_lc (own := [("other", 3)]) (g := (gName 3)) (by rfl) sc_without_item.nd (pi_range1 (by rfl) m_range (pa_cons (pv 2) pa_nil)) (blkOk_by (own := [("other", 3)]) (N := N_without_item) (sc := defScope s_without_item) (by decide +kernel)) (fun _ _ _ _ _ => by exact (pg_name (i := 3) sc_without_item.nd rfl (by first | exact .inl rfl | exact .inr rfl))) (fun _ _ _ _ _ => (pts_one (pt_cmpR (show OpR _ _ (rNeA K) from op_neA hr.units) (pv 3) (pv 1) (nomark _)))) (fun _ _ _ _ _ => by exact (pv 3))) pa_nil))))))), runX (N := N_without_item) (E' := E) (C := C_LastItem) (fun hR => (ssc_seq' (ssc_of (ss_asg (se_cb (cs_len _) (sa_cons (se_op (os_ix _) (se_var 0) (se_int _)) sa_nil)) (sg_name 2)))
      (ssc_seq' (ssc_if (st_test (se_op (os_eq _) (se_var 2) (se_int _))) (ssc_raise hR) (ssc_of ss_nil))
      (ssc_of (ss_ret (se_callP (sa_cons (se_var 0) (sa_cons (SL.se (sl_lc (vs := [3]) (si_rng1 (sa_cons (se_var 2) sa_nil)) (sg_name 3) (gw_name (i := 3) (by decide)) (st_test (se_op (os_ne _) (se_var 3) (se_var 1))) (se_var 3))) sa_nil)))))))) sub rs KK KX ?_⟩
    clear KK KX rs sub hr
    replace hS := sx2_inv hS
    obtain ⟨x1, x2, rfl, hS⟩ := hS
    obtain ⟨its, rls, i, rfl, rfl, n2, n9, hi, r9, hk, hno⟩ := hS
    have nl : (((its.map itD).length : Nat) : Int) = (its.length : Int) := by rw [List.length_map]
    have e0 : rgD 0 ((its.map itD).length : Int).toNat = (List.range its.length).map nD := by
      rw [List.length_map, Int.toNat_natCast]
      unfold rgD nD
      simp
    refine ⟨_, _, rfl, rfl, _, rfl, trivial, fun z => hno ?_, fun z0 => ⟨⟨by omega, by rw [List.length_map]; omega⟩, ?_⟩⟩
    · have z : (((its.map itD).length : Nat) : Int) = 1 := of_decide_eq_true z
      rw [nl] at z
      omega
    have z0 : ¬ (((its.map itD).length : Nat) : Int) = 1 := of_decide_eq_false z0
    rw [nl] at z0
    have hk := hk (by omega)
    rw [e0]
    refine lcFM nD nD (fun j => !decide (j = i)) (List.range its.length) (by rw [List.length_range]; omega) (fun j hj C C0 h1 h0 => ⟨trivial, fun z => h1 ?_, fun z => h0 ?_⟩) ⟨its, rls, lfI its.length i, rfl, .inl rfl, ?_, fun j hj => List.mem_range.mp (List.mem_filter.mp hj).1, List.nodup_range.filter _, r9, hk⟩
    · have z : (!decide ((j : Int) = (i : Int))) = true := z
      rw [← z]
      exact congrArg _ (decide_eq_decide.mpr ⟨fun e => by omega, fun e => by omega⟩)
    · have z : (!decide ((j : Int) = (i : Int))) = false := z
      rw [← z]
      exact congrArg _ (decide_eq_decide.mpr ⟨fun e => by omega, fun e => by omega⟩)
    · have := List.length_filter_le (fun j => !decide (j = i)) (List.range its.length)
      rw [List.length_range] at this
      unfold lfI
      omega
end
end PM

set_option maxHeartbeats 2000000
/-! the end of a law whose defs make lambdas -/
namespace PM
open PySem PySem.Spec PyProof.Rows L2 RZ
section
variable {P : Program} {w : World} {K : PySem.W.Frag} {mg : Str → Option Value} {base : Heap}
/-- the tracked part that the law starts with: the script (locked) or nothing, and the empty tables -/
structure LoneT (K : PySem.W.Frag) (H : Hp) (scr : Addr) (cs : List (Addr × Addr)) : Prop where
  at_ : ∀ b, H b = none ∨ (b = scr ∧ K.lookup scr = none ∧ ∃ o xs, H b = some (.frz o (.lst xs))) ∨ (∃ p ∈ cs, b = p.2)
  tab : ∀ p ∈ cs, H p.2 = some (.tbl #[])
theorem lone_envT {mb : Str → Option Value} {H : Hp} {scr : Addr} {cs : List (Addr × Addr)} {sh : Shared} {vs : List Value} (L : LoneT K H scr cs) (inK : K.In sh.heap) (glob : sh.heap.Ns mainGlobals mg) (blt : sh.heap.Ns builtinsNs mb) (boot : ∀ x : Str, x ≠ "__name__" → mb x = bootBuiltins x)
    (lim : sh.heap.NoLimit) (gens : sh.gens = #[]) (obj : sh.heap.get? scr = some { cls := .type "list", data := .seq vs.toArray }) (hok : HOk P w H sh.heap) (tabs : PySem.W.TabsAt cs sh.heap) (nT : ∀ p ∈ cs, K.lookup p.2 = none)
    (bmain : ∃ (bm : Addr) (ob : Obj), mg "__builtins__" = some (.ref bm) ∧ bm ≠ builtinsNs ∧ sh.heap.get? bm = some ob ∧ ob.cls = .type "module" ∧ ob.dict = some builtinsNs ∧ ob.data = .plain) :
    K.In (hidT sh.heap H) ∧ (hidT sh.heap H).Ns mainGlobals mg ∧ (∀ p ∈ cs, LamX.TabB (hidT sh.heap H) mg p.1 p.2) ∧ Env0 P w K mg (hidT sh.heap H) callerA [] sh H := by
  have off : ∀ {b : Addr} {o : Obj}, sh.heap.get? b = some o → (∀ vs n, o.data ≠ .seq vs n) → o.data ≠ .fields #[] → H b = none := fun {b o} get n1 n2 => by
    rcases L.at_ b with z | ⟨rfl, _⟩ | ⟨p, hp, rfl⟩
    · exact z
    · cases obj.symm.trans get
      exact absurd rfl (n1 _ _)
    · cases (tabs p hp).2.symm.trans get
      exact absurd rfl n2
  have names : ∀ {b : Addr} {m : Str → Option Value}, sh.heap.Ns b m → (hidT sh.heap H).Ns b m := by
    rintro b m ⟨o, es, ep, get, isD, rest⟩
    refine ⟨o, es, ep, hidT_get get (off get (fun vs n z => ?_) fun z => ?_), isD, rest⟩
    · cases (isD.symm.trans z)
    · cases (isD.symm.trans z)
  have inB : K.In (hidT sh.heap H) := by
    intro b o z
    refine hidT_get (inK b o z) ?_
    rcases L.at_ b with y | ⟨rfl, non, _⟩ | ⟨p, hp, rfl⟩
    · exact y
    · cases non.symm.trans z
    · cases (nT p hp).symm.trans z
  have notG : ∀ p ∈ cs, mainGlobals ≠ p.2 := fun p hp z => by
    obtain ⟨o, es, ep, get, isD, _⟩ := glob
    rw [z] at get
    cases (tabs p hp).2.symm.trans get
    cases isD
  have TB : ∀ p ∈ cs, LamX.TabB (hidT sh.heap H) mg p.1 p.2 := fun p hp => by
    obtain ⟨⟨o, us, file, tf, flags, tg, inF, text, tt, get, isC, isF, at11, more⟩, _⟩ := tabs p hp
    refine ⟨⟨o, us, file, tf, flags, tg, inF, text, tt, hidT_get get (off get (fun vs n z => ?_) fun z => ?_), isC, isF, at11, more⟩, ?_, notG p hp⟩
    · cases (isF.symm.trans z)
    · cases (isF.symm.trans z)
      simp at at11
    · obtain ⟨bm, ob, b1, b2, b3, b4, b5, b6⟩ := bmain
      refine ⟨bm, ob, b1, b2, fun z => ?_, fun z => ?_, hidT_get b3 (off b3 (fun vs n z => ?_) fun z => ?_), b4, b5, b6⟩
      · obtain ⟨o, es, ep, get, isD, _⟩ := glob
        rw [← z] at get
        cases b3.symm.trans get
        cases (b6.symm.trans isD)
      · rw [z] at b3
        cases (tabs p hp).2.symm.trans b3
        cases b6
      · cases (b6.symm.trans z)
      · cases (b6.symm.trans z)
  obtain ⟨mc, l1, l2⟩ := lim
  exact ⟨inB, names glob, TB, ⟨rfl, ⟨inB, names glob, ⟨mb, names blt, boot⟩, ⟨mc, names l1, l2⟩⟩, fun b o z => of_hidT z, Nat.le_of_eq (hidT_size _ _), trivial, fun b z => (List.not_mem_nil (show b ∈ ([] : List Addr) from z)).elim, hok, .of_eq gens⟩⟩
theorem lone_lawT {H : Hp} {scr fn : Addr} {cs : List (Addr × Addr)} {sh : Shared} (L : LoneT K H scr cs) (hok : HOk P w H sh.heap) (tabs : PySem.W.TabsAt cs sh.heap)
    (run : codeAny (model P w) callerA (.call (.ref fn) ⟨[.ref scr], []⟩) (CR CX0 [] P w H sh (fun v _ => v = .bl true) E0) sh) :
    codeAny (model P w) callerA (.call (.ref fn) ⟨[.ref scr], []⟩) (fun r sh' => r = .ok (.ret (.bool true)) ∧ OldK sh.heap sh'.heap ∧ sh'.os = sh.os ∧ AllBare sh'.gens) sh := by
  refine codeAny_mono run fun r sh' z => ?_
  match r, z with
  | .error _, z => exact (show False from z).elim
  | .ok .next, z => exact (show False from z).elim
  | .ok .brk, z => exact (show False from z).elim
  | .ok .cont, z => exact (show False from z).elim
  | .ok (.ret u), ⟨v, H2, hos, bare, un, hok2, rv, (q : v = .bl true)⟩ =>
    subst q
    cases (show u = Value.bool true from rv)
    have grown : ∀ p ∈ cs, ∃ more : Array Value, sh'.heap.get? p.2 = some { cls := .none, data := .fields more } := fun p hp => by
      obtain ⟨more, z⟩ := un.tbls p.2 #[] (L.tab p hp)
      exact ⟨_, hok2 p.2 _ z⟩
    have was : ∀ b o, sh.heap.get? b = some o → sh'.heap.get? b = some o ∨ ∃ p ∈ cs, b = p.2 := fun b o get => by
      rcases L.at_ b with no | ⟨_, _, ob, xs, is⟩ | z
      · exact .inl (un.keep b o get no (fun z => (List.not_mem_nil (show b ∈ ([] : List Addr) from z)).elim) (by simp))
      · obtain ⟨g1, _⟩ := hok b _ is
        obtain ⟨g2, _⟩ := hok2 b _ (un.frzs b ob _ is)
        cases get.symm.trans g1
        exact .inl g2
      · exact .inr z
    refine ⟨rfl, ⟨fun b o get => ?_, fun b o get => ?_⟩, hos, bare⟩
    · rcases was b o get with z | ⟨p, hp, rfl⟩
      · exact .inl z
      · obtain ⟨more, z⟩ := grown p hp
        cases (tabs p hp).2.symm.trans get
        exact .inr (.inl ⟨((tabs p hp).1.tab (tabs p hp).2).isCodeTable, rfl, #[], more, rfl, by rw [Array.empty_append]; exact z⟩)
    · rcases was b o get with z | ⟨p, hp, rfl⟩
      · exact ⟨o, z⟩
      · obtain ⟨more, z⟩ := grown p hp
        exact ⟨_, z⟩
theorem law_atT {mb : Str → Option Value} {fn scr : Addr} {cs : List (Addr × Addr)} {sh : Shared} {vs : List Value} {ns : List Int} (inK : K.In sh.heap) (glob : sh.heap.Ns mainGlobals mg) (blt : sh.heap.Ns builtinsNs mb) (boot : ∀ x : Str, x ≠ "__name__" → mb x = bootBuiltins x)
    (lim : sh.heap.NoLimit) (gens : sh.gens = #[]) (obj : sh.heap.get? scr = some { cls := .type "list", data := .seq vs.toArray }) (areI : IntsAre vs ns) (few : ns.length ≤ sizeLine) (tabs : PySem.W.TabsAt cs sh.heap) (nT : ∀ p ∈ cs, K.lookup p.2 = none)
    (bmain : ∃ (bm : Addr) (ob : Obj), mg "__builtins__" = some (.ref bm) ∧ bm ≠ builtinsNs ∧ sh.heap.get? bm = some ob ∧ ob.cls = .type "module" ∧ ob.dict = some builtinsNs ∧ ob.data = .plain)
    (run : ∀ (base : Heap) (H : Hp), K.In base → base.Ns mainGlobals mg → (∀ p ∈ cs, LamX.TabB base mg p.1 p.2) → (∀ p ∈ cs, H p.2 = some (.tbl #[])) → SqL K H scr (ns.map V.int) → Env0 P w K mg base callerA [] sh H →
      codeAny (model P w) callerA (.call (.ref fn) ⟨[.ref scr], []⟩) (CR CX0 [] P w H sh (fun v _ => v = .bl true) E0) sh) :
    codeAny (model P w) callerA (.call (.ref fn) ⟨[.ref scr], []⟩) (fun r sh' => r = .ok (.ret (.bool true)) ∧ OldK sh.heap sh'.heap ∧ sh'.os = sh.os ∧ AllBare sh'.gens) sh := by
  have rel : Vals (ns.map V.int) vs := vals_ints areI
  have go : ∀ H : Hp, LoneT K H scr cs → HOk P w H sh.heap → SqL K H scr (ns.map V.int) → codeAny (model P w) callerA (.call (.ref fn) ⟨[.ref scr], []⟩) (fun r sh' => r = .ok (.ret (.bool true)) ∧ OldK sh.heap sh'.heap ∧ sh'.os = sh.os ∧ AllBare sh'.gens) sh :=
    fun H L hok seq => by
      obtain ⟨h1, h2, h3, h4⟩ := lone_envT L inK glob blt boot lim gens obj hok tabs nT bmain
      exact lone_lawT L hok tabs (run _ H h1 h2 h3 L.tab seq h4)
  classical
  have scrT : ∀ p ∈ cs, p.2 ≠ scr := fun p hp z => by
    have := (tabs p hp).2
    rw [z, obj] at this
    have z' : Data.seq vs.toArray _ = Data.fields #[] := congrArg Obj.data (Option.some.inj this)
    cases z'
  cases written : K.lookup scr with
  | some o =>
    cases obj.symm.trans (inK scr o written)
    refine go (fun b => if ∃ p ∈ cs, b = p.2 then some (.tbl #[]) else none) ⟨fun b => ?_, fun p hp => if_pos ⟨p, hp, rfl⟩⟩ (fun b u z => ?_) (.inr ⟨_, vs.toArray, _, written, rfl, rfl, rfl, ?_, rel⟩)
    · by_cases h : ∃ p ∈ cs, b = p.2
      · exact .inr (.inr h)
      · exact .inl (if_neg h)
    · by_cases h : ∃ p ∈ cs, b = p.2
      · cases (if_pos h).symm.trans z
        obtain ⟨p, hp, rfl⟩ := h
        exact (tabs p hp).2
      · cases (if_neg h).symm.trans z
    · rw [List.size_toArray, areI.length]
      exact few
  | none =>
    let H : Hp := fun b => if b = scr then some (.frz { cls := .type "list", data := .seq vs.toArray } (.lst (ns.map V.int))) else if ∃ p ∈ cs, b = p.2 then some (.tbl #[]) else none
    have yes : H scr = some (.frz { cls := .type "list", data := .seq vs.toArray } (.lst (ns.map V.int))) := if_pos rfl
    have tb : ∀ p ∈ cs, H p.2 = some (.tbl #[]) := fun p hp => (if_neg (scrT p hp)).trans (if_pos ⟨p, hp, rfl⟩)
    have no : ∀ b, b ≠ scr → (¬ ∃ p ∈ cs, b = p.2) → H b = none := fun b z1 z2 => (if_neg z1).trans (if_neg z2)
    refine go H ⟨fun b => ?_, tb⟩ (fun b u z => ?_) (.inl (.inr ⟨_, yes⟩))
    · by_cases e : b = scr
      · exact .inr (.inl ⟨e, written, _, _, by rw [e]; exact yes⟩)
      · by_cases h : ∃ p ∈ cs, b = p.2
        · exact .inr (.inr h)
        · exact .inl (no b e h)
    · by_cases e : b = scr
      · subst e
        cases yes.symm.trans z
        exact ⟨obj, by rw [List.length_map]; exact few, vs, _, rel, obj⟩
      · by_cases h : ∃ p ∈ cs, b = p.2
        · obtain ⟨p, hp, rfl⟩ := h
          cases (tb p hp).symm.trans z
          exact (tabs p hp).2
        · cases (no b e h).symm.trans z
end
/-- the end of a law whose defs make lambdas -/
theorem walk_atT {l : PySem.W.OpenLaw} {n : Nat} {q : Program} {loose : List Str} {XP : (Str → Option Value) → Heap → Prop} {YP : World → Heap → Prop} {d : DefRec} {K : Params → PySem.W.Frag}
    (most : l.most = some n) (few : n ≤ sizeLine) (dfl : d.params.defaults = []) (inY : ∀ (w : World) (h : Heap), YP w h → (K w.params).In h)
    (F : ∀ (w : World) (mean : ExcName → Option Value) (mg mb : Str → Option Value) (fa : Addr) (h : Heap), (K w.params).In h → Top q (PySem.W.looseW q loose) mean mg mb h → mg d.name = some (.ref fa) →
      ∃ cs : List (Addr × Addr), PySem.W.TabsAt cs h ∧ (∀ p ∈ cs, (K w.params).lookup p.2 = none) ∧
      ∀ (base : Heap) (H : Hp) (sh : Shared) (scr : Addr) (ns : List Int), ns.length ≤ n → (K w.params).In base → base.Ns mainGlobals mg → (∀ p ∈ cs, LamX.TabB base mg p.1 p.2) → (∀ p ∈ cs, H p.2 = some (.tbl #[])) → SqL (K w.params) H scr (ns.map V.int) →
        Env0 l.prog w (K w.params) mg base callerA [] sh H → codeAny (model l.prog w) callerA (.call (.ref fa) ⟨[.ref scr], []⟩) (CR CX0 [] l.prog w H sh (fun v _ => v = .bl true) E0) sh) :
    PySem.W.WalkO q loose XP YP l.row.toRowW d [] (fun f vs => PySem.call f vs) := by
  refine Att.attach_call most dfl fun w s0 s1 mg mb fa o pm cd doc a vs ns G Y ho hd hcd hmg hobj hints hlen hg => ?_
  have KX := inY w _ Y
  obtain ⟨cs, tabs, nT, run⟩ := F w _ mg mb fa _ KX G.T hmg
  exact law_atT KX G.T.g G.T.b G.T.builtins G.T.nolimit hg hobj hints (Nat.le_trans hlen few) tabs nT G.T.bmain fun base H inB glob TB tb seq e0 => run base H s1 a ns hlen inB glob TB tb seq e0
/-! ### a law's body behind the drawn numbers, with tables -/
theorem KT.start {T : Tbs} {H : Hp} (h : ∀ p ∈ T, H p.1 = some (.tbl #[])) : KT T [] H := by
  refine ⟨fun p hp => ⟨#[], ⟨h p hp, True.intro, fun at_ cv e => ?_⟩, fun at_ n e => ?_⟩, fun n z => nomatch z⟩
  · have e : codeAmong at_ [] = some cv := e
    simp [codeAmong] at e
  · have e : codeAmong at_ [] = some (.ref n) := e
    simp [codeAmong] at e
theorem runLW {t : TS} {d : DS} {n : Nat} {pa c r : Addr} {H : Hp} {σ : L2.St} {T : Tbs} (h : SS t d) (dr : Drw H pa c r 0) (kt : KT T [] H) (dj : ∀ b, b = pa ∨ b = c ∨ b = r → b ∉ feet T []) (hs : σ[1]? = some (some (.ref pa))) (hn : σ.length = n + 2)
    (hd : d eL (none :: some (.p 0) :: List.replicate n none) [.drw 0, .any (kTab T [] [])]) : t { nx := fun _ _ => V.non = .bl true, rt := fun v _ => v = .bl true } σ H := by
  have two : ∀ i o, ([MO.drw 0, .any (kTab T [] [])] : Mu)[i]? = some o → (i = 0 ∧ o = .drw 0) ∨ (i = 1 ∧ o = .any (kTab T [] [])) := fun i o e => by
    match i, e with
    | 0, e => cases e; exact .inl ⟨rfl, rfl⟩
    | 1, e => cases e; exact .inr ⟨rfl, rfl⟩
    | i + 2, e => simp at e
  have mem : ∀ b, b ∈ foot ⟨pa, c, r⟩ (.drw 0) → b = pa ∨ b = c ∨ b = r := fun b z => by simpa [foot] using z
  have hr : HR ⟨fun _ => none, fun _ => none, fun _ => False, fun _ => False⟩ (fun _ => none) (fun _ => ⟨pa, c, r⟩) H [.drw 0, .any (kTab T [] [])] := by
    refine ⟨(fun b o e => by cases e), fun i o e => ?_, fun i o b e f => rfl, fun i o b e f => .inr rfl, fun i i' o o' b ne e e' f f' => ?_, (fun b o e => by cases e), (fun b o _ _ e => by cases e), fun b e => absurd rfl e, fun b e => absurd rfl e⟩
    · rcases two i o e with ⟨rfl, rfl⟩ | ⟨rfl, rfl⟩
      · exact dr
      · exact kt
    · rcases two i o e with ⟨rfl, rfl⟩ | ⟨rfl, rfl⟩ <;> rcases two i' o' e' with ⟨rfl, rfl⟩ | ⟨rfl, rfl⟩
      · exact ne rfl
      · exact dj b (mem b f) f'
      · exact dj b (mem b f') f
      · exact ne rfl
  have er : ER (fun _ => none) (fun _ => ⟨pa, c, r⟩) ([MO.drw 0, .any (kTab T [] [])] : Mu).length σ (none :: some (.p 0) :: List.replicate n none) := by
    refine ⟨by rw [hn, List.length_cons, List.length_cons, List.length_replicate], fun i dv e => ?_⟩
    match i, e with
    | 0, e => cases e
    | 1, e =>
      cases e
      exact ⟨_, hs, by simp, rfl⟩
    | i + 2, e =>
      have e : lk (List.replicate n none) i = some dv := e
      rw [lk_none] at e
      cases e
  refine h _ _ _ _ _ _ _ _ _ (fun b z => z) ⟨er, hr⟩ hd ⟨fun G' pl' σ' H' e' m' q l sr => q.elim, fun dv m' G' pl' H' v q l hr' rv => ?_, fun _ _ _ _ _ _ q => q.elim, fun _ _ _ _ _ _ q => q.elim⟩
  have q : dv = .d (.bool true) := q
  subst q
  exact rv.bl_inv
/-! ### promises by the number of arguments -/
def sw2 (F : Nat → PyData → PyData → (DV → Nat → Prop) → Prop) : SpW := fun j ds k => match ds with
  | [.d a, .d b] => F j a b k
  | _ => False
theorem sw2_inv {F} {j : Nat} {ds : List DV} {k : DV → Nat → Prop} (h : sw2 F j ds k) : ∃ a b, ds = [.d a, .d b] ∧ F j a b k := by
  unfold sw2 at h
  split at h
  · exact ⟨_, _, rfl, h⟩
  · exact h.elim
theorem sw2_len {F} {j : Nat} {ds : List DV} {k : DV → Nat → Prop} (h : sw2 F j ds k) : ds.length = 2 := by
  obtain ⟨_, _, rfl, _⟩ := sw2_inv h
  rfl
def swn1 (F : Nat → PyData → (DV → Nat → Prop) → Prop) : SpW := fun j ds k => match ds with
  | [.p 0, .d a] => F j a k
  | _ => False
theorem swn1_inv {F} {j : Nat} {ds : List DV} {k : DV → Nat → Prop} (h : swn1 F j ds k) : ∃ a, ds = [.p 0, .d a] ∧ F j a k := by
  unfold swn1 at h
  split at h
  · exact ⟨_, rfl, h⟩
  · exact h.elim
theorem swn1_len {F} {j : Nat} {ds : List DV} {k : DV → Nat → Prop} (h : swn1 F j ds k) : ds.length = 2 := by
  obtain ⟨_, rfl, _⟩ := swn1_inv h
  rfl
theorem seqMN {d : DS} {f : DSm} {k : DV → Mu → Prop} {e : DEnv} {m : Mu} (J : DEnv → Mu → Prop) (h1 : ∀ C : DEnv → Mu → Prop, (∀ e m, J e m → C e m) → d (eNo C) e m) (h2 : ∀ e m, J e m → f k e m) : dSeqM d f k e m := h1 _ h2
theorem no_feet {T : Tbs} {H : Hp} {pa c r : Addr} (tabs : ∀ p ∈ T, H p.1 = some (.tbl #[])) (np : H pa = none) (nc : H c = none) (nr : H r = none) (b : Addr) (hb : b = pa ∨ b = c ∨ b = r) (f : b ∈ feet T []) : False := by
  unfold feet at f
  rw [List.append_nil] at f
  obtain ⟨p, hp, rfl⟩ := List.mem_map.mp f
  have t := tabs p hp
  rcases hb with z | z | z <;> rw [z] at t
  · rw [np] at t; cases t
  · rw [nc] at t; cases t
  · rw [nr] at t; cases t
theorem tabIn_mk {K : PySem.W.Frag} {x : Str} {f c tP : Addr} {oc o1 : Value} {od o2 : Option Addr} {sl o3 : Array (Option Value)} {fd : FuncData} {vs : Array Value} (a : PySem.W.nsIn K mainGlobals x = some (some (.ref f))) (l : K.lookup f = some ⟨oc, od, .func fd, sl⟩) (e : fd.code = .ref c) (h : K.lookup c = some ⟨o1, o2, .fields vs, o3⟩) (v : vs[11]? = some (.ref tP)) : PySem.W.tabIn K x = some (c, tP) := by
  unfold PySem.W.tabIn
  rw [a]
  dsimp only
  rw [l]
  dsimp only
  rw [e]
  dsimp only
  rw [h]
  dsimp only
  rw [v]
end PM

namespace PM
open PySem PySem.Spec PyProof.Rows L2 RZ
section
variable {P : Program} {w : World} {K : PySem.W.Frag} {mg : Str → Option Value} {base : Heap}
abbrev s__law_refused : Stmt := topS 35
abbrev N__law_refused : List Str := ["_law_call", "error", "_law_flags"]
abbrev P__law_refused : List Str := ["_law_call"]
theorem sc__law_refused : FnScope N__law_refused P__law_refused (defScope s__law_refused) := ⟨rfl, rfl, rfl, by decide +kernel, rfl, by decide +kernel, by decide +kernel⟩
/-- what the top says of the error classes -/
structure Cls (mg : Str → Option Value) (CM CF CL CO CI CW CN : Addr) : Prop where
  m : mg "MarksError" = some (.ref CM)
  f : mg "Full" = some (.ref CF)
  l : mg "LastItem" = some (.ref CL)
  o : mg "OutOfRange" = some (.ref CO)
  i : mg "InvalidMark" = some (.ref CI)
  w : mg "InvalidWeight" = some (.ref CW)
  n : mg "NotFalling" = some (.ref CN)
  b : mg "isinstance" = none
  v : mg "ValueError" = none
/-- the class C: which flags an error of it has, and its name -/
structure OneOf (K : PySem.W.Frag) (C CM CF CL CO CI CW CN : Addr) (bF bL bO : Bool) (nm : Str) : Prop where
  e : ExcC K C
  t : PySem.W.exmOne K (.ref C) (.ref CM) = some true
  f : PySem.W.kitOne K (.ref C) (.ref CF) = some bF
  l : PySem.W.kitOne K (.ref C) (.ref CL) = some bL
  o : PySem.W.kitOne K (.ref C) (.ref CO) = some bO
  v : PySem.W.kitOne K (.ref C) (.type "ValueError") = some true
  a : PySem.W.kitAny K (.ref C) [.ref CI, .ref CW, .ref CN] = some false
  one : (bF = true ∧ bL = false ∧ bO = false ∧ nm = "Full") ∨ (bF = false ∧ bL = true ∧ bO = false ∧ nm = "LastItem") ∨ (bF = false ∧ bL = false ∧ bO = true ∧ nm = "OutOfRange")
set_option maxHeartbeats 8000000 in
theorem refused_gives {X : Cx} {g C CM CF CL CO CI CW CN : Addr} {cdg : Value} {bF bL bO : Bool} {nm q : Str} {k : Nat} (hr : Room (k + 1) X.A) (Z : Cls X.mg CM CF CL CO CI CW CN) (O : OneOf X.K C CM CF CL CO CI CW CN bF bL bO nm) :
    GivesS X N__law_refused "_law_refused" (defScope s__law_refused) g cdg (defBody s__law_refused) "_law_call" q (TRef C nm) := by
  intro f n s H Q tl act isC h
  have hr : Room k (X.A.deeper (envOfC "_law_refused" (defScope s__law_refused) s.heap.objs.size g cdg)) := hr.deeper _
  have hu : (X.A.deeper (envOfC "_law_refused" (defScope s__law_refused) s.heap.objs.size g cdg)).units + 1 < cLine := by
    have := hr.units
    omega
  refine ⟨_, pss_cons (ps_try_as (i := 1) (Wout := fun _ _ _ _ => False) rfl rfl sc__law_refused.nd rfl rfl ⟨rfl, by decide, Or.inl Z.m⟩ takes0
      (fun W pn xe tk _ => pss_one (ps_expr (act W pn xe _ _ tk)))
      (fun a oe cls d pn hz hf => pss_cons (ps_set (i := 2) sc__law_refused.nd rfl (.inl rfl) (pe_lst (pa_cons (pe_callB (call_held hz hf) (by rfl) Z.b (by decide +kernel) (pa_cons (pv 1) (pa_cons (pe_glob (v := .ref CF) rfl Z.f rfl) pa_nil)))
          (pa_cons (pe_callB (call_held hz hf) (by rfl) Z.b (by decide +kernel) (pa_cons (pv 1) (pa_cons (pe_glob (v := .ref CL) rfl Z.l rfl) pa_nil)))
          (pa_cons (pe_callB (call_held hz hf) (by rfl) Z.b (by decide +kernel) (pa_cons (pv 1) (pa_cons (pe_glob (v := .ref CO) rfl Z.o rfl) pa_nil))) pa_nil)))))
        (pss_cons (ps_if (PW.pt (pw_or (pt_cmpR op_ne (show PE _ _ (tBM X.K "list" (rCountB X.K) _ _) from pe_bm PySem.F.plainAttrs_list PySem.F.slot_list_count PySem.F.type_list_count (show MtR _ _ (rCountB X.K) from mt_countB hu) (pv 2) (pa_cons pe_bl pa_nil)) pe_int (nomark _))
            (pw_or1 (pt_not (pt_val (pe_callB (call_held hz hf) (by rfl) Z.b (by decide +kernel) (pa_cons (pv 1) (pa_cons (pe_bltn (v := .ty "ValueError") (by rfl) Z.v (by decide +kernel) rfl) pa_nil))))))))
          (pss_one (ps_ret pe_str)) pss_nil)
        (pss_cons (ps_if (pt_val (pe_callB (call_heldT hz hf) (by rfl) Z.b (by decide +kernel) (pa_cons (pv 1) (pa_cons (pe_tup (pa_cons (pe_glob (v := .ref CI) rfl Z.i rfl) (pa_cons (pe_glob (v := .ref CW) rfl Z.w rfl) (pa_cons (pe_glob (v := .ref CN) rfl Z.n rfl) pa_nil)))) pa_nil))))
          (pss_one (ps_ret pe_str)) pss_nil)
        (pss_one (ps_ret (pe_ix (show IxR _ (rIx X.K) from ix_seq) (pe_lst (pa_cons pe_str (pa_cons pe_str (pa_cons pe_str pa_nil))))
          (show PE _ _ (tBM X.K "list" (rIndex X.K) _ _) from pe_bm PySem.F.plainAttrs_list PySem.F.slot_list_index PySem.F.type_list_index (show MtR _ _ (rIndex X.K) from mt_index) (pv 2) (pa_cons pe_bl pa_nil)) (fun _ _ => rfl))))))))
    (pss_one (ps_ret pe_str)), ?_⟩
  refine ⟨rfl, isC, fun cls d H' => cls = .ref C ∧ d = none ∧ ∀ H2, Same H' H2 → Q (.str nm) H2, fun cls d H' z => ?_, h⟩
  obtain ⟨rfl, rfl, fin⟩ := z
  refine ⟨true, O.t, fun _ a na => ?_, fun z => nomatch z⟩
  refine ⟨.ref a, rfl, C, rfl, rfl, O.e, .ref CF, _, bF, rfl, fun u r => r, O.f, ?_⟩
  refine ⟨.ref a, rfl, C, rfl, rfl, O.e, .ref CL, _, bL, rfl, fun u r => r, O.l, ?_⟩
  refine ⟨.ref a, rfl, C, rfl, rfl, O.e, .ref CO, _, bO, rfl, fun u r => r, O.o, ?_⟩
  refine ⟨toks (by show 3 ≤ 1000; decide), fun p np => ?_⟩
  have cnt : ((([bF, bL, bO] : List Bool).countP fun y => decide (y = true) : Nat) : Int) = 1 := by
    rcases O.one with ⟨rfl, rfl, rfl, _⟩ | ⟨rfl, rfl, rfl, _⟩ | ⟨rfl, rfl, rfl, _⟩ <;> rfl
  obtain ⟨j, hj, hm, hn⟩ : ∃ j : Nat, ([V.bl bF, V.bl bL, V.bl bO] : List V)[j]? = some (.bl true) ∧ (∀ (m : Nat) (z' : V), m < j → ([V.bl bF, V.bl bL, V.bl bO] : List V)[m]? = some z' → eqV z' (.bl true) = false) ∧ atI [V.str "Full", .str "LastItem", .str "OutOfRange"] (j : Int) = some (.str nm) := by
    rcases O.one with ⟨rfl, rfl, rfl, rfl⟩ | ⟨rfl, rfl, rfl, rfl⟩ | ⟨rfl, rfl, rfl, rfl⟩
    · exact ⟨0, rfl, fun m z' hm => absurd hm (Nat.not_lt_zero m), rfl⟩
    · refine ⟨1, rfl, fun m z' hm hz => ?_, rfl⟩
      match m, hm, hz with
      | 0, _, hz => cases hz; rfl
    · refine ⟨2, rfl, fun m z' hm hz => ?_, rfl⟩
      match m, hm, hz with
      | 0, _, hz => cases hz; rfl
      | 1, _, hz => cases hz; rfl
  have isL : upd H' p (.lst [V.bl bF, .bl bL, .bl bO]) p = some (.lst [V.bl bF, .bl bL, .bl bO]) := upd_same
  refine ⟨.ref p, rfl, .inl ⟨rfl, _, .inl (.inl isL)⟩, p, [bF, bL, bO], true, rfl, rfl, .inl (.inl isL), ?_⟩
  rw [cnt]
  refine ⟨rfl, false, congrArg V.bl (by decide), ?_⟩
  refine iteF ?_
  refine ⟨.ref a, rfl, C, rfl, rfl, O.e, .ty "ValueError", _, true, rfl, fun u r => r, O.v, true, rfl, ?_⟩
  refine iteF ?_
  refine ⟨.ref a, rfl, toks (by show 3 ≤ 1000; decide), fun p2 np2 => ?_⟩
  refine ⟨C, rfl, rfl, O.e, p2, _, [.ref CI, .ref CW, .ref CN], false, rfl, upd_same, .cons (.own _) (.cons (.own _) (.cons (.own _) .nil)), O.a, false, rfl, ?_⟩
  refine iteF ?_
  refine ⟨toks (by show 3 ≤ 1000; decide), fun p3 np3 => ?_⟩
  have st := ((same_upd (ob := .lst [V.bl bF, .bl bL, .bl bO]) np).trans (same_upd (ob := .tup [.ref CI, .ref CW, .ref CN]) np2)).trans (same_upd (ob := .lst [.str "Full", .str "LastItem", .str "OutOfRange"]) np3)
  have isL3 := same_upd (ob := .lst [.str "Full", .str "LastItem", .str "OutOfRange"]) np3 _ _ (same_upd (ob := .tup [.ref CI, .ref CW, .ref CN]) np2 _ _ isL)
  refine ⟨.ref p, rfl, .inl ⟨rfl, _, .inl (.inl isL3)⟩, p, _, .bl true, j, .bl true, rfl, rfl, .inl (.inl isL3), rfl, rfl, hj, rfl, hm, ?_⟩
  exact .inl ⟨p3, _, _, _, rfl, rfl, .inl (.inl upd_same), hn, fin _ st⟩
/-- all that is known of the error classes -/
structure ErrK (K : PySem.W.Frag) (mg : Str → Option Value) (CM CF CL CO CI CW CN : Addr) : Prop where
  z : Cls mg CM CF CL CO CI CW CN
  Full : OneOf K CF CM CF CL CO CI CW CN true false false "Full"
  LastItem : OneOf K CL CM CF CL CO CI CW CN false true false "LastItem"
  OutOfRange : OneOf K CO CM CF CL CO CI CW CN false false true "OutOfRange"
end
end PM

namespace PM
open PySem PySem.Spec PyProof.Rows L2 RZ
section
variable {P : Program} {w : World} {K : PySem.W.Frag} {mg : Str → Option Value} {base : Heap}
abbrev S__law_pair_right : SpW := sw2 fun j a b k => ∃ (its its' : List (Int × Int)) (rls rls' : List (Nat × Nat)), a = pnD its rls ∧ b = pnD its' rls' ∧ its.length ≤ 100 ∧ its'.length ≤ 100 ∧ rls.length ≤ 100 ∧ rls'.length ≤ 100 ∧ (∀ q ∈ rls', q.1 < its'.length ∧ q.2 < its'.length) ∧ k (.d (.bool true)) j
abbrev s__law_pair_right : Stmt := topS 37
abbrev N__law_pair_right : List Str := ["_law_one_here", "_law_other", "_law_fits"]
abbrev P__law_pair_right : List Str := ["_law_one_here", "_law_other"]
theorem sc__law_pair_right : FnScope N__law_pair_right P__law_pair_right (defScope s__law_pair_right) := ⟨rfl, rfl, rfl, by decide +kernel, rfl, by decide +kernel, by decide +kernel⟩
set_option maxHeartbeats 8000000 in
theorem okD__law_pair_right {T : Tbs} {cA tP C_MarksError C_Full C_LastItem C_OutOfRange C_InvalidMark C_InvalidWeight C_NotFalling : Addr} (TB : LamX.TabB base mg cA tP) (hT : (tP, lamQ (locQ "_law_pair_right")) ∈ T) (hu : ∀ p ∈ T, p.1 = tP → p.2 = lamQ (locQ "_law_pair_right")) (ZZ : ErrK K mg C_MarksError C_Full C_LastItem C_OutOfRange C_InvalidMark C_InvalidWeight C_NotFalling) (d__law_refused : IsDef K mg "_law_refused" s__law_refused P__law_refused) (h_combine_panels : OkX P w K mg base 2 "combine_panels" s_combine_panels P_combine_panels (prX C_Full S_combine_panels)) (m_int : mg "int" = none) (m_len : mg "len" = none) (d : IsDefC K mg "_law_pair_right" s__law_pair_right P__law_pair_right cA) : Ok P w K mg base 7 "_law_pair_right" s__law_pair_right P__law_pair_right (prW T S__law_pair_right) := by
  obtain ⟨f0_, fd0_, D, code⟩ := d
  obtain ⟨gR_, fdR_, D__law_refused⟩ := d__law_refused
  obtain ⟨f_combine_panels, fd_combine_panels, ⟨F_combine_panels, b_combine_panels, g_combine_panels⟩, G_combine_panels⟩ := h_combine_panels
  refine ⟨f0_, fd0_, D, fun_okC D.F code sc__law_pair_right (fun vs H Q E h => ?_) (fun A outer s H vs Q E hr h => ?_)⟩
  · obtain ⟨G, a, c, r, j, Cs, ds, k, _, _, _, _, _, rs, hS, _⟩ := h
    rw [rs.length]
    exact sw2_len hS
  · obtain ⟨G, a, c, r, j, Cs, ds, k, dr, kt, gn, dj, sub, rs, hS, KK⟩ := h
    refine ⟨_, (pss_cons (ps_set (i := 2) sc__law_pair_right.nd rfl (.inl rfl) (pe_and (pe_cmpR op_lt (pe_op (show OpR _ _ (rAddA K) from op_addA) (pe_callB (show CallR _ _ (rLenK K) from call_lenK) (by rfl) m_len (by decide +kernel) (pa_cons (pe_ix (show IxR _ (rIx K) from ix_seq) (pv 0) pe_int (fun _ _ => rfl)) pa_nil)) (pe_callB (show CallR _ _ (rLenK K) from call_lenK) (by rfl) m_len (by decide +kernel) (pa_cons (pe_ix (show IxR _ (rIx K) from ix_seq) (pv 1) pe_int (fun _ _ => rfl)) pa_nil))) pe_int (nomark _)) (pe_one (pe_cmpR op_lt (pe_op (show OpR _ _ (rAddA K) from op_addA) (pe_callB (show CallR _ _ (rLenK K) from call_lenK) (by rfl) m_len (by decide +kernel) (pa_cons (pe_ix (show IxR _ (rIx K) from ix_seq) (pv 0) pe_int (fun _ _ => rfl)) pa_nil)) (pe_callB (show CallR _ _ (rLenK K) from call_lenK) (by rfl) m_len (by decide +kernel) (pa_cons (pe_ix (show IxR _ (rIx K) from ix_seq) (pv 1) pe_int (fun _ _ => rfl)) pa_nil))) pe_int (nomark _)))))
      (pss_one (ps_ret (pe_cmpR (show OpR _ _ (rEqA K) from op_eqA hr.units) (show PE _ _ (tLamC (lamQ (locQ "_law_pair_right")) tP (TRef C_Full "Full") (fun E => tCallS (prX C_Full S_combine_panels) (WE fun cls d _ H => E cls d H) _)) from pe_lamC (k := 4) rfl D__law_refused (by rfl) sc__law_refused rfl (.inl rfl) (fun cdv => refused_gives (k := 0) (hr.mono (by omega)) ZZ.z ZZ.Full) TB rfl (hr.mono (by omega)) (LamX.lamS_by (show LamX.lamSB (defScope s__law_pair_right) _ = true from by decide +kernel)) rfl (fun _ _ _ _ _ => rfl) (fun A outer s H E f n r2 => by exact (pe_callS G_combine_panels (r2.mono (by omega)) (by rfl) g_combine_panels F_combine_panels.kp b_combine_panels (fun σ => passAt (takes_of rfl rfl rfl rfl) σ) (pa_cons (pv 0) (pa_cons (pv 1) pa_nil))))) (pe_ix (show IxR _ (rIx K) from ix_seq) (pe_lst (pa_cons pe_str (pa_cons pe_str pa_nil))) (pe_callTy call_int1 (by rfl) m_int (by decide +kernel) (pa_cons (pv 2) pa_nil)) (fun _ _ => rfl)) (nomark _))))), runW (N := N__law_pair_right) (ssm_seq (ss_asg (se_and (se_op os_lt (se_op (os_addA _) (se_cb (cs_len _) (sa_cons (se_op (os_ix _) (se_var 0) (se_int _)) sa_nil)) (se_cb (cs_len _) (sa_cons (se_op (os_ix _) (se_var 1) (se_int _)) sa_nil))) (se_int _)) (se_op os_lt (se_op (os_addA _) (se_cb (cs_len _) (sa_cons (se_op (os_ix _) (se_var 0) (se_int _)) sa_nil)) (se_cb (cs_len _) (sa_cons (se_op (os_ix _) (se_var 1) (se_int _)) sa_nil))) (se_int _))) (sg_name 2))
      (ssm_ret (se_op (os_eq _) (se_lamC hT hu (sa_cons (se_var 0) (sa_cons (se_var 1) sa_nil))) (se_op (os_ix _) (SL.se (sl_lst (sa_cons (se_str _) (sa_cons (se_str _) sa_nil)))) (se_cb cs_int1 (sa_cons (se_var 2) sa_nil)))))) dr kt gn dj sub rs KK ?_⟩
    clear KK rs sub gn dj kt dr hr TB ZZ
    replace hS := sw2_inv hS
    obtain ⟨x1, x2, rfl, hS⟩ := hS
    obtain ⟨its, its', rls, rls', rfl, rfl, n1, n2, m1, m2, hr, hk⟩ := hS
    have e8 : ∀ x : List (Int × Int), ((x.map itD).length : Int) = (x.length : Int) := fun x => by rw [List.length_map]
    have e16 : ∀ x : List (Nat × Nat), ((x.map rlD).length : Int) = (x.length : Int) := fun x => by rw [List.length_map]
    refine seqMN (fun e m => ∃ b : Bool, (b = true ↔ (its.length + its'.length ≤ 8 ∧ rls.length + rls'.length ≤ 16)) ∧ m = [.drw j, .any (kTab T Cs [])] ∧ e = [some (.d (pnD its rls)), some (.d (pnD its' rls')), some (.d (.bool b))]) (fun C hC => ?_) (fun e m hJ => ?_)
    · refine ⟨_, _, rfl, rfl, _, rfl, _, _, rfl, rfl, _, rfl, fun z => ⟨_, _, rfl, rfl, _, rfl, _, _, rfl, rfl, _, rfl, hC _ _ ⟨_, ?_, rfl, rfl⟩⟩, fun z => hC _ _ ⟨false, ?_, rfl, rfl⟩⟩
      · have z : ((its.map itD).length : Int) + ((its'.map itD).length : Int) < 9 := of_decide_eq_true z
        rw [e8, e8] at z
        rw [decide_eq_true_eq, e16, e16]
        omega
      · have z : ¬ ((its.map itD).length : Int) + ((its'.map itD).length : Int) < 9 := of_decide_eq_false z
        rw [e8, e8] at z
        exact ⟨(fun y => nomatch y), fun y => by omega⟩
    · obtain ⟨b, hb, rfl, rfl⟩ := hJ
      refine ⟨Cs, [], rfl, fun C2 => ⟨its, its', rls, rls', rfl, rfl, n1, n2, m1, m2, hr, fun h8 h16 => ?_, fun hno => ?_⟩⟩
      · cases hb.2 ⟨h8, h16⟩
        exact ⟨by show 2 ≤ 1000000; decide, _, _, rfl, rfl, trivial, ⟨_, rfl⟩, hk⟩
      · have : b = false := by
          cases b with
          | false => rfl
          | true => exact absurd (hb.1 rfl) hno
        subst this
        exact ⟨by show 2 ≤ 1000000; decide, _, _, rfl, rfl, trivial, ⟨_, rfl⟩, hk⟩
end
end PM

/-! xs == [] for a list of any values -/
namespace PM
open PySem PySem.Spec PyProof.Rows L2 RZ
def rEqUL (K : PySem.W.Frag) : R2 := fun x y H Q => ∃ p e xs, x = .ref p ∧ y = .ref e ∧ SqL K H p xs ∧ SqL K H e [] ∧ Q (.bl xs.isEmpty) H
theorem op_eqUL {X : Cx} (hu : X.A.units < cLine) : OpR X (compareOp .Eq) (rEqUL X.K) := by
  intro pins s σ H x y v u Q I rx ry h
  obtain ⟨p, e, xs, rfl, rfl, hp, he, q⟩ := h
  cases rx
  cases ry
  obtain ⟨its, r, ht, _⟩ := I.list hp
  obtain ⟨its2, r2, ht2, _⟩ := I.list he
  cases r2
  cases xs with
  | nil =>
    cases r
    refine SeqAt.RcAt.lists (e := fun _ => true) ht.isList ht2.isList rfl hu (fun j _ h2 => absurd h2 (by simp)) X.prog X.w _ _ ?_
    exact ⟨.bl true, H, I, rfl, q⟩
  | cons x y =>
    cases r
    refine SeqAt.RcAt.lists_lengths ht.isList ht2.isList (by simp) hu X.prog X.w _ _ ?_
    exact ⟨.bl false, H, I, rfl, q⟩
def fEqUL (m : Mu) (x y : DV) (k : DV → Prop) : Prop := match x, y with
  | .d (.list ds), .d (.list []) => k (.d (.bool ds.isEmpty))
  | _, _ => False
theorem os_eqUL (K : PySem.W.Frag) : OpS (rEqUL K) fEqUL := fun c G pl σ H e m x y dx dy k Q sr rx ry d KK => by
  unfold fEqUL at d
  split at d
  · rename_i ds
    cases (show Da G x (.list ds) from rx) with
    | @lst _ xs1 _ e1 l1 =>
      cases (show Da G y (.list []) from ry) with
      | lst e2 l2 =>
        cases l2
        refine ⟨_, _, _, rfl, rfl, .inl (.inl (sr.hp.sub _ _ e1)), .inl (.inl (sr.hp.sub _ _ e2)), ?_⟩
        have : xs1.isEmpty = ds.isEmpty := by
          cases l1 <;> rfl
        rw [this]
        exact KK.val sr d (show Da G _ _ from .bl _)
  · exact d.elim
end PM

namespace PM
/-! ### other marks, the same weights and rules -/
section
variable {its its' : List (Int × Int)} {rls : List (Nat × Nat)} {r r' : Nat → Rat}
theorem rs_le {f h : Nat → Rat} {g : List Nat} (e : ∀ i ∈ g, f i ≤ h i) : rs f g ≤ rs h g := by
  induction g with
  | nil => exact Rat.le_refl
  | cons i g ih =>
    rw [rs_cons, rs_cons]
    have a := e i List.mem_cons_self
    have b := ih fun j hj => e j (List.mem_cons_of_mem _ hj)
    grind
/-- an average of marks that are at most c greater is at most c greater -/
theorem avR_le (ok : PnOk its rls) {g : List Nat} {c : Rat} (hi : ∀ i ∈ g, i < its.length) (ne : g ≠ []) (hw : ∀ i ∈ g, Wt its' i = Wt its i) (hm : ∀ i ∈ g, Mk its' i ≤ Mk its i + c) : avR its' g ≤ avR its g + c := by
  have wp := ok.wpos hi ne
  have ew : rs (Wt its') g = rs (Wt its) g := rs_congr hw
  have e1 : rs (fun i => Wt its' i * Mk its' i) g ≤ rs (fun i => Wt its i * Mk its i) g + c * rs (Wt its) g := by
    rw [← rs_mul, ← rs_add]
    refine rs_le fun i h => ?_
    rw [hw i h]
    have := Rat.mul_le_mul_of_nonneg_left (hm i h) (Rat.le_of_lt (ok.pos (hi i h)))
    grind
  have e2 := avR_mul ok hi ne
  unfold avR
  rw [ew]
  refine Rat.le_of_mul_le_mul_right (c := rs (Wt its) g) ?_ wp
  have z : rs (Wt its) g ≠ 0 := by grind
  have e3 : rs (fun i => Wt its' i * Mk its' i) g / rs (Wt its) g * rs (Wt its) g = rs (fun i => Wt its' i * Mk its' i) g := by grind
  have e4 : rs (fun i => Wt its i * Mk its i) g / rs (Wt its) g * rs (Wt its) g = rs (fun i => Wt its i * Mk its i) g := by grind
  rw [e3]
  grind
/-- ratings grow by no more than marks; only marks of the items of a part count that no rule leaves or enters -/
theorem Best.part (b : Best its rls r) (b' : Best its' rls r') (ok : PnOk its rls) (ok' : PnOk its' rls) (len : its'.length = its.length) (p : Nat → Bool) (hp : ∀ q ∈ rls, p q.1 = p q.2) {c : Rat} (hw : ∀ i, i < its.length → Wt its' i = Wt its i) (hm : ∀ i, i < its.length → p i = true → Mk its' i ≤ Mk its i + c) : ∀ i, i < its.length → p i = true → r' i ≤ r i + c := fun i hi pi => by
  -- the items not below i in the second rating, those not above it in the first, of the part
  have U : (List.range its.length).filter (fun j => decide (r' i ≤ r' j) && p j) ∈ upsets its.length rls := range_mem_up _ fun q hq h => by
    obtain ⟨h1, h2⟩ := Bool.and_eq_true_iff.mp h
    exact ⟨(ok.rl q hq).2, Bool.and_eq_true_iff.mpr ⟨decide_eq_true (Rat.le_trans (of_decide_eq_true h1) (b'.obey q hq)), (hp q hq).symm.trans h2⟩⟩
  have D : ∀ q ∈ rls, q.2 ∈ (List.range its.length).filter (fun j => decide (r j ≤ r i) && p j) → q.1 ∈ (List.range its.length).filter (fun j => decide (r j ≤ r i) && p j) := fun q hq h => by
    obtain ⟨h1, h2⟩ := List.mem_filter.mp h
    obtain ⟨h2, h3⟩ := Bool.and_eq_true_iff.mp h2
    exact List.mem_filter.mpr ⟨List.mem_range.mpr (ok.rl q hq).1, Bool.and_eq_true_iff.mpr ⟨decide_eq_true (Rat.le_trans (b.obey q hq) (of_decide_eq_true h2)), (hp q hq).trans h3⟩⟩
  have m1 := b'.max_ge ok' (i := i) (by omega) D (List.mem_filter.mpr ⟨List.mem_range.mpr hi, Bool.and_eq_true_iff.mpr ⟨decide_eq_true Rat.le_refl, pi⟩⟩)
  have m2 := b.min_le ok hi U (List.mem_filter.mpr ⟨List.mem_range.mpr hi, Bool.and_eq_true_iff.mpr ⟨decide_eq_true Rat.le_refl, pi⟩⟩)
  have e : ((List.range its.length).filter fun j => decide (r' i ≤ r' j) && p j).filter (fun j => decide (j ∈ (List.range its.length).filter fun j => decide (r j ≤ r i))) = ((List.range its'.length).filter fun j => decide (r' i ≤ r' j)).filter (fun j => decide (j ∈ (List.range its.length).filter fun j => decide (r j ≤ r i) && p j)) := by
    rw [len]
    refine asc_ext ((List.pairwise_lt_range.filter _).filter _) ((List.pairwise_lt_range.filter _).filter _) fun j => ?_
    simp only [List.mem_filter, List.mem_range, decide_eq_true_eq, Bool.and_eq_true]
    grind
  rw [e] at m2
  have gi : ∀ j ∈ ((List.range its'.length).filter fun j => decide (r' i ≤ r' j)).filter (fun j => decide (j ∈ (List.range its.length).filter fun j => decide (r j ≤ r i) && p j)), j < its.length ∧ p j = true := fun j hj => by
    simp only [List.mem_filter, List.mem_range, decide_eq_true_eq, Bool.and_eq_true] at hj
    exact ⟨hj.2.1, hj.2.2.2⟩
  have ne : ((List.range its'.length).filter fun j => decide (r' i ≤ r' j)).filter (fun j => decide (j ∈ (List.range its.length).filter fun j => decide (r j ≤ r i) && p j)) ≠ [] := fun z => by
    have : i ∈ ((List.range its'.length).filter fun j => decide (r' i ≤ r' j)).filter (fun j => decide (j ∈ (List.range its.length).filter fun j => decide (r j ≤ r i) && p j)) := by
      simp only [List.mem_filter, List.mem_range, decide_eq_true_eq, Bool.and_eq_true]
      exact ⟨⟨by omega, Rat.le_refl⟩, hi, Rat.le_refl, pi⟩
    rw [z] at this
    exact nomatch this
  have a := avR_le ok (fun j hj => (gi j hj).1) ne (fun j hj => hw j (gi j hj).1) (fun j hj => hm j (gi j hj).1 (gi j hj).2)
  grind
theorem Best.lip (b : Best its rls r) (b' : Best its' rls r') (ok : PnOk its rls) (ok' : PnOk its' rls) (len : its'.length = its.length) {c : Rat} (hw : ∀ i, i < its.length → Wt its' i = Wt its i) (hm : ∀ i, i < its.length → Mk its' i ≤ Mk its i + c) : ∀ i, i < its.length → r' i ≤ r i + c :=
  fun i hi => b.part b' ok ok' len (fun _ => true) (fun _ _ => rfl) hw (fun j hj _ => hm j hj) i hi rfl
/-- the weighted sum of the ratings is that of the marks -/
theorem Best.total (b : Best its rls r) : rs (fun i => Wt its i * r i) (List.range its.length) = rs (fun i => Wt its i * Mk its i) (List.range its.length) := by
  have h := b.all0
  have e : rs (Fo its r) (List.range its.length) = rs (fun i => Wt its i * Mk its i) (List.range its.length) - rs (fun i => Wt its i * r i) (List.range its.length) := by
    rw [← rs_sub]
    exact rs_congr fun i _ => by unfold Fo; grind
  grind
end
end PM

namespace PM
/-! ### ratings clipped to bounds -/
section
variable {its : List (Int × Int)} {rls : List (Nat × Nat)} {r s : Nat → Rat}
def clR (lo hi x : Rat) : Rat := if x < lo then lo else if hi < x then hi else x
theorem clR_mono {lo hi x y : Rat} (h : lo ≤ hi) (hx : x ≤ y) : clR lo hi x ≤ clR lo hi y := by
  unfold clR
  grind
theorem clR_in {lo hi : Rat} (h : lo ≤ hi) (x : Rat) : lo ≤ clR lo hi x ∧ clR lo hi x ≤ hi := by
  unfold clR
  grind
/-- sums by levels -/
theorem le_levels {f : Nat → Rat} : ∀ (k : Nat) (L : List Nat), L.length ≤ k → (∀ c, rs f (L.filter fun i => decide (s i = c)) ≤ 0) → rs f L ≤ 0
  | 0, L, hk, _ => by
    have : L = [] := List.length_eq_zero_iff.mp (by omega)
    subst this
    exact Rat.le_refl
  | k + 1, [], _, _ => Rat.le_refl
  | k + 1, a :: L, hk, h => by
    rw [← rs_split _ (fun i => decide (s i = s a))]
    have h1 := h (s a)
    have e2 : ((a :: L).filter fun i => !decide (s i = s a)) = L.filter fun i => !decide (s i = s a) := List.filter_cons_of_neg (by simp)
    have ih := le_levels (f := f) k (L.filter fun i => !decide (s i = s a)) (Nat.le_trans (List.length_filter_le _ _) (by rw [List.length_cons] at hk; omega)) fun c => ?_
    · rw [e2]
      grind
    · by_cases z : c = s a
      · have : ((L.filter fun i => !decide (s i = s a)).filter fun i => decide (s i = c)) = [] := List.filter_eq_nil_iff.mpr fun i hi => by
          have := (List.mem_filter.mp hi).2
          rw [z]
          simpa using this
        rw [this]
        exact Rat.le_refl
      · have := h c
        rw [List.filter_cons_of_neg (by simpa using fun y => z y.symm)] at this
        rw [filter_filter']
        have e3 : (L.filter fun i => decide (s i = c) && !decide (s i = s a)) = L.filter fun i => decide (s i = c) := List.filter_congr fun i hi => by
          by_cases y : s i = c
          · rw [decide_eq_true y, decide_eq_false (fun x => z (y.symm.trans x))]
            rfl
          · rw [decide_eq_false y]
            rfl
        rw [e3]
        exact this
/-- a group that no rule between equal ratings leaves gains nothing by growing -/
theorem Best.tight_up (b : Best its rls r) (ok : PnOk its rls) {g : List Nat} (g1 : ∀ i ∈ g, i < its.length) (g2 : g.Pairwise (· < ·)) (ht : ∀ q ∈ rls, r q.1 = r q.2 → q.1 ∈ g → q.2 ∈ g) : rs (Fo its r) g ≤ 0 := by
  refine le_levels (s := r) _ g (Nat.le_refl _) fun c => ?_
  have V := b.up ((List.range its.length).filter fun j => (decide (j ∈ g) && decide (r j = c)) || decide (c < r j)) (range_mem_up _ fun q hq h => ⟨(ok.rl q hq).2, by
    have o := b.obey q hq
    simp only [Bool.or_eq_true, Bool.and_eq_true, decide_eq_true_eq] at h ⊢
    have t := ht q hq
    grind⟩)
  have sp := rs_split (Fo its r) (fun j => decide (c < r j)) ((List.range its.length).filter fun j => (decide (j ∈ g) && decide (r j = c)) || decide (c < r j))
  have e1 : (((List.range its.length).filter fun j => (decide (j ∈ g) && decide (r j = c)) || decide (c < r j)).filter fun j => decide (c < r j)) = (List.range its.length).filter fun j => decide (c < r j) := by
    rw [filter_filter']
    refine List.filter_congr fun j _ => ?_
    cases decide (c < r j) <;> simp
  have e2 : (((List.range its.length).filter fun j => (decide (j ∈ g) && decide (r j = c)) || decide (c < r j)).filter fun j => !decide (c < r j)) = g.filter fun j => decide (r j = c) := by
    refine asc_ext ((List.pairwise_lt_range.filter _).filter _) (g2.filter _) fun j => ?_
    simp only [List.mem_filter, List.mem_range, Bool.or_eq_true, Bool.and_eq_true, decide_eq_true_eq, Bool.not_eq_true', decide_eq_false_iff_not]
    have := g1 j
    grind
  rw [e1, e2, b.cut0 fun x => decide (c < x)] at sp
  grind
theorem Best.tight_dn (b : Best its rls r) (ok : PnOk its rls) {g : List Nat} (g1 : ∀ i ∈ g, i < its.length) (g2 : g.Pairwise (· < ·)) (ht : ∀ q ∈ rls, r q.1 = r q.2 → q.2 ∈ g → q.1 ∈ g) : 0 ≤ rs (Fo its r) g := by
  have n := b.tight_up ok (g := (List.range its.length).filter fun j => !decide (j ∈ g)) (fun i hi => List.mem_range.mp (List.mem_filter.mp hi).1) (List.pairwise_lt_range.filter _) fun q hq e h => by
    have t := ht q hq e
    have := ok.rl q hq
    simp only [List.mem_filter, List.mem_range, Bool.not_eq_true', decide_eq_false_iff_not] at h ⊢
    grind
  have sp := rs_split (Fo its r) (fun j => decide (j ∈ g)) (List.range its.length)
  have e : (List.range its.length).filter (fun j => decide (j ∈ g)) = g := by
    refine asc_ext (List.pairwise_lt_range.filter _) g2 fun j => ?_
    simp only [List.mem_filter, List.mem_range, decide_eq_true_eq]
    have := g1 j
    grind
  rw [e, b.all0] at sp
  grind
/-- no group can move within rules and bounds so that the cost falls -/
theorem Best.clip_up (b : Best its rls r) (ok : PnOk its rls) {lo hi : Rat} (hb : lo ≤ hi) {g : List Nat} (g1 : ∀ i ∈ g, i < its.length) (g2 : g.Pairwise (· < ·)) (ht : ∀ q ∈ rls, clR lo hi (r q.1) = clR lo hi (r q.2) → q.1 ∈ g → q.2 ∈ g) (hn : ∀ i ∈ g, clR lo hi (r i) ≠ hi) : rs (Fo its fun i => clR lo hi (r i)) g ≤ 0 := by
  have h1 := b.tight_up ok g1 g2 fun q hq e => ht q hq (by rw [e])
  refine Rat.le_trans (rs_le fun i hi' => ?_) h1
  unfold Fo
  refine Rat.mul_le_mul_of_nonneg_left ?_ (Rat.le_of_lt (ok.pos (g1 i hi')))
  have := hn i hi'
  unfold clR at this ⊢
  grind
theorem Best.clip_dn (b : Best its rls r) (ok : PnOk its rls) {lo hi : Rat} (hb : lo ≤ hi) {g : List Nat} (g1 : ∀ i ∈ g, i < its.length) (g2 : g.Pairwise (· < ·)) (ht : ∀ q ∈ rls, clR lo hi (r q.1) = clR lo hi (r q.2) → q.2 ∈ g → q.1 ∈ g) (hn : ∀ i ∈ g, clR lo hi (r i) ≠ lo) : 0 ≤ rs (Fo its fun i => clR lo hi (r i)) g := by
  have h1 := b.tight_dn ok g1 g2 fun q hq e => ht q hq (by rw [e])
  refine Rat.le_trans h1 (rs_le fun i hi' => ?_)
  unfold Fo
  refine Rat.mul_le_mul_of_nonneg_left ?_ (Rat.le_of_lt (ok.pos (g1 i hi')))
  have := hn i hi'
  unfold clR at this ⊢
  grind
/-- within the bounds nothing costs less -/
theorem Best.clip_cost (b : Best its rls r) (ok : PnOk its rls) {lo hi : Rat} (hb : lo ≤ hi) (hs : ∀ q ∈ rls, s q.1 ≤ s q.2) (hi' : ∀ i, i < its.length → lo ≤ s i ∧ s i ≤ hi) :
    rs (fun i => Wt its i * ((clR lo hi (r i) - Mk its i) * (clR lo hi (r i) - Mk its i))) (List.range its.length) ≤ rs (fun i => Wt its i * ((s i - Mk its i) * (s i - Mk its i))) (List.range its.length) := by
  have v := b.vi ok hs
  have o := b.own0
  have c := by_levels (f := Fo its r) (s := r) (fun x => clR lo hi x) _ (List.range its.length) (Nat.le_refl _) b.lev
  have e1 : rs (fun i => Fo its r i * (s i - r i)) (List.range its.length) = rs (fun i => Fo its r i * (s i - clR lo hi (r i))) (List.range its.length) + rs (fun i => Fo its r i * clR lo hi (r i)) (List.range its.length) - rs (fun i => Fo its r i * r i) (List.range its.length) := by
    rw [← rs_add, ← rs_sub]
    exact rs_congr fun i _ => by grind
  rw [e1, c, o] at v
  have e2 : rs (fun i => Wt its i * ((s i - Mk its i) * (s i - Mk its i))) (List.range its.length) = rs (fun i => Wt its i * ((clR lo hi (r i) - Mk its i) * (clR lo hi (r i) - Mk its i))) (List.range its.length) + rs (fun i => Wt its i * ((s i - clR lo hi (r i)) * (s i - clR lo hi (r i)))) (List.range its.length) - 2 * rs (fun i => Fo its r i * (s i - clR lo hi (r i))) (List.range its.length) - 2 * rs (fun i => Wt its i * ((r i - clR lo hi (r i)) * (s i - clR lo hi (r i)))) (List.range its.length) := by
    rw [← rs_mul, ← rs_mul, ← rs_add, ← rs_sub, ← rs_sub]
    exact rs_congr fun i _ => by unfold Fo; grind
  have n1 : 0 ≤ rs (fun i => Wt its i * ((s i - clR lo hi (r i)) * (s i - clR lo hi (r i)))) (List.range its.length) := rs_nonneg fun i h => Rat.mul_nonneg (Rat.le_of_lt (ok.pos (List.mem_range.mp h))) (by
    rcases Rat.nonneg_total (s i - clR lo hi (r i)) with z | z
    · exact Rat.mul_nonneg z z
    · have := Rat.mul_nonneg z z
      grind)
  have n2 : rs (fun i => Wt its i * ((r i - clR lo hi (r i)) * (s i - clR lo hi (r i)))) (List.range its.length) ≤ rs (fun _ => 0) (List.range its.length) := rs_le fun i h => by
    have w := Rat.le_of_lt (ok.pos (List.mem_range.mp h))
    obtain ⟨s1, s2⟩ := hi' i (List.mem_range.mp h)
    have : (r i - clR lo hi (r i)) * (s i - clR lo hi (r i)) ≤ 0 := by
      unfold clR
      split
      · have := Rat.mul_nonneg (show 0 ≤ lo - r i by grind) (show 0 ≤ s i - lo by grind)
        grind
      · split
        · have := Rat.mul_nonneg (show 0 ≤ r i - hi by grind) (show 0 ≤ hi - s i by grind)
          grind
        · grind
    have := Rat.mul_le_mul_of_nonneg_left this w
    grind
  have n3 : rs (fun _ => (0 : Rat)) (List.range its.length) = 0 := by
    have := rs_mul 0 (fun _ => (0 : Rat)) (List.range its.length)
    grind
  grind
end
end PM

namespace PM
open PySem PySem.Spec PyProof.Rows L2 RZ
/-! ### blocks of rows -/
abbrev Bk := Int × Int × Int
def bkD (b : Bk) : PyData := .tuple [.int b.1, .int b.2.1, .int b.2.2]
def bk (bs : List Bk) (i : Nat) : Bk := bs.getD i (0, 0, 1)
def startB (its : List (Int × Int)) : List Bk := its.map fun q => (1, q.2 * q.1, q.2)
def fall (b c : Bk) : Bool := decide (c.2.1 * b.2.2 < b.2.1 * c.2.2)
def falls (bs : List Bk) : List Nat := (List.range (bs.length - 1)).filter fun i => fall (bk bs i) (bk bs (i + 1))
def Bz (n : Nat) (bs : List Bk) : Prop := ∀ b ∈ bs, b.1.natAbs < 2 ^ n ∧ b.2.1.natAbs < 2 ^ n ∧ b.2.2.natAbs < 2 ^ n
theorem bk_get {bs : List Bk} {i : Nat} (h : i < bs.length) : bs[i]? = some (bk bs i) := by
  unfold bk
  rw [List.getD_eq_getElem?_getD, List.getElem?_eq_getElem h]
  rfl
theorem bk_mem {bs : List Bk} {i : Nat} (h : i < bs.length) : bk bs i ∈ bs := List.mem_of_getElem? (bk_get h)
theorem at_bk {bs : List Bk} {i : Nat} (h : i < bs.length) : atI (bs.map bkD) (i : Int) = some (bkD (bk bs i)) := at_map (bk_get h)
theorem startB_bz {its : List (Int × Int)} (h : ItsOk its) : Bz 100 (startB its) := fun b hb => by
  obtain ⟨q, hq, rfl⟩ := List.mem_map.mp hb
  obtain ⟨⟨h1, h2⟩, h3, h4⟩ := h q hq
  have := Fr.mul_lt2 (show q.2.natAbs < 2 ^ 20 by omega) (show q.1.natAbs < 2 ^ 31 by omega)
  exact ⟨by show (1 : Int).natAbs < 2 ^ 100; decide, Fr.lt_up this (by decide), by show q.2.natAbs < 2 ^ 100; omega⟩
theorem Bz.mono {n m : Nat} {bs : List Bk} (h : Bz n bs) (le : n ≤ m) : Bz m bs := fun b hb => ⟨Fr.lt_up (h b hb).1 le, Fr.lt_up (h b hb).2.1 le, Fr.lt_up (h b hb).2.2 le⟩
theorem falls_lt {bs : List Bk} {i : Nat} (h : i ∈ falls bs) : i + 1 < bs.length := by
  have := List.mem_range.mp (List.mem_filter.mp h).1
  omega
theorem falls_len (bs : List Bk) : (falls bs).length ≤ bs.length := by
  refine Nat.le_trans (List.length_filter_le _ _) ?_
  rw [List.length_range]
  omega
theorem shw_bk {b : Bk} (h : b.1.natAbs < 2 ^ 1000 ∧ b.2.1.natAbs < 2 ^ 1000 ∧ b.2.2.natAbs < 2 ^ 1000) : Shw (bkD b) 6000 1 :=
  (Shw.tup (.cons (Shw.int h.1 (by decide) (by decide)) (.cons (Shw.int h.2.1 (by decide) (by decide)) (.cons (Shw.int h.2.2 (by decide) (by decide)) (.nil 0))))).mono (by decide) (by decide)
theorem shw_its {its : List (Int × Int)} (h : ItsOk its) (hl : its.length ≤ 100) : Shw (.tuple (its.map itD)) 400000 2 :=
  (Shw.tup (shwL_map fun q hq => shw_it (by have := h q hq; omega) (by have := h q hq; omega))).mono (by omega) (by decide)
theorem shw_bks {bs : List Bk} (h : Bz 1000 bs) (hl : bs.length ≤ 60) : Shw (.tuple (bs.map bkD)) 400000 2 :=
  (Shw.tup (shwL_map fun b hb => shw_bk (h b hb))).mono (by omega) (by decide)
theorem bk_plain (b : Bk) : plainD (bkD b) = true := rfl
theorem bks_plain {bs : List Bk} (h : bs.length ≤ 1000) : plainD (.tuple (bs.map bkD)) = true := Bool.and_eq_true_iff.mpr ⟨decide_eq_true (by rw [List.length_map]; exact h), plain_map fun b _ => bk_plain b⟩
theorem bks_dep (bs : List Bk) : dep (.tuple (bs.map bkD)) < 8 := Nat.lt_of_le_of_lt (Nat.add_le_add_right (depL_map (n := 1) fun b _ => Nat.le_refl _) 1) (by decide)
end PM

namespace PM
/-! ### rows: sums of beginnings t, w; slopes; boundaries of blocks -/
section
variable (t w : Nat → Rat)
def sl (a b : Nat) : Rat := (t b - t a) / (w b - w a)
def Solid (s e : Nat) : Prop := ∀ k, s ≤ k → k ≤ e → sl t w s e * (w k - w s) ≤ t k - t s
def Stay (n p : Nat) : Prop := ∀ b e, b < p → p < e → e ≤ n → sl t w b p ≤ sl t w p e
end
section
variable {t w : Nat → Rat}
theorem sl_mul {a b : Nat} (h : w a < w b) : sl t w a b * (w b - w a) = t b - t a := by
  unfold sl
  have : w b - w a ≠ 0 := by grind
  grind
theorem sl_le {a b : Nat} {c : Rat} (h : w a < w b) : sl t w a b ≤ c ↔ t b - t a ≤ c * (w b - w a) := by
  have p : 0 < w b - w a := by grind
  have e := sl_mul (t := t) h
  constructor
  · intro z
    have := Rat.mul_le_mul_of_nonneg_right z (Rat.le_of_lt p)
    grind
  · intro z
    rw [← e] at z
    exact Rat.le_of_mul_le_mul_right z p
theorem le_sl {a b : Nat} {c : Rat} (h : w a < w b) : c ≤ sl t w a b ↔ c * (w b - w a) ≤ t b - t a := by
  have p : 0 < w b - w a := by grind
  have e := sl_mul (t := t) h
  constructor
  · intro z
    have := Rat.mul_le_mul_of_nonneg_right z (Rat.le_of_lt p)
    grind
  · intro z
    rw [← e] at z
    exact Rat.le_of_mul_le_mul_right z p
theorem mul_mono {a b c : Rat} (h : a ≤ b) (hc : 0 ≤ c) : a * c ≤ b * c := Rat.mul_le_mul_of_nonneg_right h hc
theorem solid_one (s : Nat) (h : w s < w (s + 1)) : Solid t w s (s + 1) := fun k h1 h2 => by
  have : k = s ∨ k = s + 1 := by omega
  rcases this with rfl | rfl
  · grind
  · rw [sl_mul h]
    exact Rat.le_refl
theorem Solid.merge {s p e : Nat} (m : ∀ i j, i ≤ j → w i ≤ w j) (h1 : w s < w p) (h2 : w p < w e) (hs : Solid t w s p) (he : Solid t w p e) (f : sl t w p e < sl t w s p) : Solid t w s e := by
  have h3 : w s < w e := by grind
  have a := sl_mul (t := t) h1
  have b := sl_mul (t := t) h2
  have c := sl_mul (t := t) h3
  have lo : sl t w p e ≤ sl t w s e := (le_sl h3).mpr (by
    have := mul_mono (Rat.le_of_lt f) (show 0 ≤ w p - w s by grind)
    grind)
  have hi : sl t w s e ≤ sl t w s p := (sl_le h3).mpr (by
    have := mul_mono (Rat.le_of_lt f) (show 0 ≤ w e - w p by grind)
    grind)
  intro k k1 k2
  have wk1 := m s k k1
  have wk2 := m k e k2
  rcases Nat.le_total k p with z | z
  · have q := hs k k1 z
    have := mul_mono hi (show 0 ≤ w k - w s by grind)
    grind
  · have q := he k z k2
    have := mul_mono lo (show 0 ≤ w e - w k by grind)
    grind
/-- blocks whose averages never fall -/
structure Hull (t w : Nat → Rat) (n m : Nat) (P : Nat → Nat) : Prop where
  wm : ∀ i j, i ≤ j → w i ≤ w j
  ws : ∀ i j, i < j → j ≤ n → w i < w j
  p0 : P 0 = 0
  pm : P m = n
  lt : ∀ i, i < m → P i < P (i + 1)
  sd : ∀ i, i < m → Solid t w (P i) (P (i + 1))
  up : ∀ i, i + 1 < m → sl t w (P i) (P (i + 1)) ≤ sl t w (P (i + 1)) (P (i + 2))
theorem Hull.mono {n m : Nat} {P : Nat → Nat} (h : Hull t w n m P) : ∀ {i j : Nat}, i ≤ j → j ≤ m → P i ≤ P j := by
  intro i j hij hj
  induction j with
  | zero =>
    have : i = 0 := by omega
    rw [this]
    exact Nat.le_refl _
  | succ j ih =>
    rcases Nat.lt_or_ge i (j + 1) with z | z
    · have := ih (by omega) (by omega)
      have := h.lt j (by omega)
      omega
    · rw [show i = j + 1 by omega]
      exact Nat.le_refl _
theorem Hull.le {n m : Nat} {P : Nat → Nat} (h : Hull t w n m P) {i : Nat} (hi : i ≤ m) : P i ≤ n := by
  rw [← h.pm]
  exact h.mono hi (Nat.le_refl _)
/-- from a block's beginning on, no average is less than the block's -/
theorem Hull.right {n m : Nat} {P : Nat → Nat} (h : Hull t w n m P) : ∀ (d i e : Nat), m = i + 1 + d → P i ≤ e → e ≤ n → sl t w (P i) (P (i + 1)) * (w e - w (P i)) ≤ t e - t (P i)
  | 0, i, e, hd, h1, h2 => by
    refine h.sd i (by omega) e h1 ?_
    have := h.pm
    rw [hd, Nat.add_zero] at this
    omega
  | d + 1, i, e, hd, h1, h2 => by
    rcases Nat.le_total e (P (i + 1)) with z | z
    · exact h.sd i (by omega) e h1 z
    · have ih := Hull.right h d (i + 1) e (by omega) z h2
      have l := h.lt i (by omega)
      have s := sl_mul (t := t) (h.ws _ _ l (h.le (by omega)))
      have u := mul_mono (h.up i (by omega)) (show 0 ≤ w e - w (P (i + 1)) by have := h.wm _ _ z; grind)
      grind
/-- up to a block's end, no average is greater than the block's -/
theorem Hull.left {n m : Nat} {P : Nat → Nat} (h : Hull t w n m P) : ∀ (i b : Nat), i < m → b ≤ P (i + 1) → t (P (i + 1)) - t b ≤ sl t w (P i) (P (i + 1)) * (w (P (i + 1)) - w b)
  | 0, b, hi, h1 => by
    have l := h.lt 0 hi
    have s := sl_mul (t := t) (h.ws _ _ l (h.le (by omega)))
    have q := h.sd 0 hi b (by rw [h.p0]; omega) h1
    grind
  | i + 1, b, hi, h1 => by
    have l := h.lt (i + 1) hi
    have s := sl_mul (t := t) (h.ws _ _ l (h.le (by omega)))
    rcases Nat.le_total (P (i + 1)) b with z | z
    · have q := h.sd (i + 1) hi b z h1
      grind
    · have ih := Hull.left h i b (by omega) z
      have u := mul_mono (h.up i (by omega)) (show 0 ≤ w (P (i + 1)) - w b by have := h.wm _ _ z; grind)
      grind
theorem Hull.stay {n m : Nat} {P : Nat → Nat} (h : Hull t w n m P) {i : Nat} (hi : i + 1 < m) : Stay t w n (P (i + 1)) := fun b e hb he hn => by
  have l := h.left i b (by omega) (by omega)
  have r := h.right (m - (i + 2)) (i + 1) e (by omega) (by omega) hn
  have w1 := h.ws b (P (i + 1)) hb (h.le (by omega))
  have w2 := h.ws (P (i + 1)) e he hn
  exact Rat.le_trans ((sl_le w1).mpr l) (Rat.le_trans (h.up i hi) ((le_sl w2).mpr r))
/-- the block of an item -/
theorem Hull.block {n m : Nat} {P : Nat → Nat} (h : Hull t w n m P) {k : Nat} (hk : k < n) : ∃ i, i < m ∧ P i ≤ k ∧ k < P (i + 1) := by
  have : ∀ j, j ≤ m → k < P j → ∃ i, i < m ∧ P i ≤ k ∧ k < P (i + 1) := fun j => by
    induction j with
    | zero => intro _ z; rw [h.p0] at z; omega
    | succ j ih =>
      intro hj z
      rcases Nat.lt_or_ge k (P j) with y | y
      · exact ih (by omega) y
      · exact ⟨j, by omega, y, z⟩
  exact this m (Nat.le_refl _) (by rw [h.pm]; exact hk)
end
end PM

namespace PM
/-! ### blocks by their boundaries -/
section
variable (T W : Nat → Int)
def qc (f : Nat → Int) : Nat → Rat := fun k => ((f k : Int) : Rat)
def blk (a b : Nat) : Int × Int × Int := ((b : Int) - (a : Int), T b - T a, W b - W a)
def bsOf : List Nat → List (Int × Int × Int)
  | a :: b :: r => blk T W a b :: bsOf (b :: r)
  | _ => []
def pB (ps : List Nat) (i : Nat) : Nat := ps.getD i 0
end
theorem pB_get {ps : List Nat} {i : Nat} (h : i < ps.length) : ps[i]? = some (pB ps i) := by
  unfold pB
  rw [List.getD_eq_getElem?_getD, List.getElem?_eq_getElem h]
  rfl
theorem pB_of {ps : List Nat} {i a : Nat} (h : ps[i]? = some a) : pB ps i = a := by
  unfold pB
  rw [List.getD_eq_getElem?_getD, h]
  rfl
section
variable {T W : Nat → Int}
theorem bsOf_len : ∀ ps : List Nat, (bsOf T W ps).length = ps.length - 1
  | [] => rfl
  | [_] => rfl
  | a :: b :: r => by
    have := bsOf_len (b :: r)
    simp only [bsOf, List.length_cons] at *
    omega
theorem bsOf_get : ∀ (ps : List Nat) (i : Nat), i + 1 < ps.length → (bsOf T W ps)[i]? = some (blk T W (pB ps i) (pB ps (i + 1)))
  | [], i, h => by simp at h
  | [_], i, h => by simp at h
  | a :: b :: r, 0, h => rfl
  | a :: b :: r, i + 1, h => by
    have := bsOf_get (b :: r) i (by simpa using h)
    simp only [bsOf, List.getElem?_cons_succ]
    exact this
/-- two neighbouring blocks become one -/
def mrg (b c : Int × Int × Int) : Int × Int × Int := (b.1 + c.1, b.2.1 + c.2.1, b.2.2 + c.2.2)
def mergeB (bs : List (Int × Int × Int)) (i : Nat) : List (Int × Int × Int) := bs.take i ++ [mrg (bs.getD i (0, 0, 1)) (bs.getD (i + 1) (0, 0, 1))] ++ bs.drop (i + 2)
theorem mrg_blk (a b c : Nat) : mrg (blk T W a b) (blk T W b c) = blk T W a c := by
  unfold mrg blk
  simp only [Prod.mk.injEq]
  refine ⟨by omega, by omega, by omega⟩
theorem bsOf_erase : ∀ (i : Nat) (ps : List Nat), i + 2 < ps.length → bsOf T W (ps.eraseIdx (i + 1)) = mergeB (bsOf T W ps) i
  | 0, [], h => by simp at h
  | 0, [_], h => by simp at h
  | 0, [_, _], h => by simp at h
  | 0, a :: b :: c :: r, h => by
    simp only [List.eraseIdx_cons_succ, List.eraseIdx_cons_zero, bsOf, mergeB, List.take_zero, List.nil_append]
    show blk T W a c :: bsOf T W (c :: r) = mrg (blk T W a b) (blk T W b c) :: bsOf T W (c :: r)
    rw [mrg_blk]
  | i + 1, [], h => by simp at h
  | i + 1, [_], h => by simp at h
  | i + 1, a :: b :: r, h => by
    have ih := bsOf_erase i (b :: r) (by simp only [List.length_cons] at h ⊢; omega)
    cases r with
    | nil => simp only [List.length_cons, List.length_nil] at h; omega
    | cons c r =>
      simp only [List.eraseIdx_cons_succ] at ih ⊢
      simp only [bsOf] at ih ⊢
      show blk T W a b :: bsOf T W (b :: (c :: r).eraseIdx i) = mergeB (blk T W a b :: blk T W b c :: bsOf T W (c :: r)) (i + 1)
      rw [ih]
      unfold mergeB
      simp only [List.take_succ_cons, List.getD_cons_succ, List.drop_succ_cons, List.cons_append]
/-- sums of the beginnings: the weights grow -/
def Gr (W : Nat → Int) (n : Nat) : Prop := (∀ i j, i ≤ j → W i ≤ W j) ∧ ∀ i j, i < j → j ≤ n → W i < W j
theorem Gr.ws {n : Nat} (g : Gr W n) {i j : Nat} (h : i < j) (hn : j ≤ n) : qc W i < qc W j := Rat.intCast_lt_intCast.mpr (g.2 i j h hn)
theorem Gr.wm {n : Nat} (g : Gr W n) (i j : Nat) (h : i ≤ j) : qc W i ≤ qc W j := Rat.intCast_le_intCast.mpr (g.1 i j h)
theorem sl_lt_cross {n : Nat} (g : Gr W n) {a b c d : Nat} (h1 : a < b) (h2 : b ≤ n) (h3 : c < d) (h4 : d ≤ n) : (T d - T c) * (W b - W a) < (T b - T a) * (W d - W c) ↔ sl (qc T) (qc W) c d < sl (qc T) (qc W) a b := by
  have w1 : (0 : Rat) < qc W b - qc W a := by have := g.ws h1 h2; grind
  have w2 : (0 : Rat) < qc W d - qc W c := by have := g.ws h3 h4; grind
  unfold sl
  rw [Rat.lt_div_iff w1]
  have e : (qc T d - qc T c) / (qc W d - qc W c) * (qc W b - qc W a) = ((qc T d - qc T c) * (qc W b - qc W a)) / (qc W d - qc W c) := by
    have : qc W d - qc W c ≠ 0 := by grind
    grind
  rw [e, Rat.div_lt_iff w2]
  unfold qc
  rw [← Rat.intCast_sub, ← Rat.intCast_sub, ← Rat.intCast_sub, ← Rat.intCast_sub, ← Rat.intCast_mul, ← Rat.intCast_mul, Rat.intCast_lt_intCast]
/-- what merging keeps -/
structure Pool (T W : Nat → Int) (n : Nat) (ps : List Nat) : Prop where
  two : 2 ≤ ps.length
  asc : ps.Pairwise (· < ·)
  fst : pB ps 0 = 0
  lst : pB ps (ps.length - 1) = n
  sty : ∀ q, 0 < q → q < n → Stay (qc T) (qc W) n q → q ∈ ps
  sd : ∀ i, i + 1 < ps.length → Solid (qc T) (qc W) (pB ps i) (pB ps (i + 1))
theorem Pool.lt {n : Nat} {ps : List Nat} (h : Pool T W n ps) {i j : Nat} (hij : i < j) (hj : j < ps.length) : pB ps i < pB ps j := by
  have a := pB_get (ps := ps) (i := i) (by omega)
  have b := pB_get hj
  rw [List.getElem?_eq_getElem (by omega)] at a b
  have := List.pairwise_iff_getElem.mp h.asc i j (by omega) hj hij
  rw [Option.some.inj a, Option.some.inj b] at this
  exact this
theorem Pool.le {n : Nat} {ps : List Nat} (h : Pool T W n ps) {i : Nat} (hi : i < ps.length) : pB ps i ≤ n := by
  rw [← h.lst]
  rcases Nat.lt_or_ge i (ps.length - 1) with z | z
  · exact Nat.le_of_lt (h.lt z (by have := h.two; omega))
  · rw [show i = ps.length - 1 by omega]
    exact Nat.le_refl _
theorem pB_erase (ps : List Nat) (i j : Nat) : pB (ps.eraseIdx i) j = if j < i then pB ps j else pB ps (j + 1) := by
  unfold pB
  rw [List.getD_eq_getElem?_getD, List.getD_eq_getElem?_getD, List.getD_eq_getElem?_getD, List.getElem?_eraseIdx]
  split <;> rfl
theorem Pool.start {n : Nat} (g : Gr W n) (hn : 1 ≤ n) : Pool T W n (List.range (n + 1)) := by
  have e : ∀ i, i < n + 1 → pB (List.range (n + 1)) i = i := fun i hi => pB_of (List.getElem?_range hi)
  refine ⟨by rw [List.length_range]; omega, List.pairwise_lt_range, e 0 (by omega), by rw [List.length_range, Nat.add_sub_cancel]; exact e n (by omega), fun q _ h _ => List.mem_range.mpr (by omega), fun i hi => ?_⟩
  rw [List.length_range] at hi
  rw [e i (by omega), e (i + 1) hi]
  exact solid_one i (g.ws (by omega) (by omega))
theorem Pool.merge {n : Nat} (g : Gr W n) {ps : List Nat} (h : Pool T W n ps) {i : Nat} (hi : i + 2 < ps.length) (f : sl (qc T) (qc W) (pB ps (i + 1)) (pB ps (i + 2)) < sl (qc T) (qc W) (pB ps i) (pB ps (i + 1))) : Pool T W n (ps.eraseIdx (i + 1)) := by
  have len : (ps.eraseIdx (i + 1)).length = ps.length - 1 := List.length_eraseIdx_of_lt (by omega)
  have l1 := h.lt (i := i) (j := i + 1) (by omega) (by omega)
  have l2 := h.lt (i := i + 1) (j := i + 2) (by omega) (by omega)
  have n2 := h.le (i := i + 2) hi
  refine ⟨by rw [len]; omega, h.asc.sublist (List.eraseIdx_sublist _ _), ?_, ?_, fun q q0 qn hq => ?_, fun j hj => ?_⟩
  · rw [pB_erase, if_pos (by omega)]
    exact h.fst
  · rw [len, pB_erase, if_neg (by omega), show ps.length - 1 - 1 + 1 = ps.length - 1 by omega]
    exact h.lst
  · obtain ⟨j, hj, e⟩ := List.getElem_of_mem (h.sty q q0 qn hq)
    have ej : pB ps j = q := pB_of (by rw [List.getElem?_eq_getElem hj, e])
    have ne : j ≠ i + 1 := fun z => by
      subst z
      subst ej
      have := hq (pB ps i) (pB ps (i + 2)) l1 l2 n2
      grind
    rcases Nat.lt_or_ge j (i + 1) with z | z
    · refine List.mem_of_getElem? (i := j) ?_
      rw [List.getElem?_eraseIdx, if_pos z, List.getElem?_eq_getElem hj, e]
    · refine List.mem_of_getElem? (i := j - 1) ?_
      rw [List.getElem?_eraseIdx, if_neg (by omega), show j - 1 + 1 = j by omega, List.getElem?_eq_getElem hj, e]
  · rw [len] at hj
    rw [pB_erase, pB_erase]
    by_cases z1 : j + 1 < i + 1
    · rw [if_pos (by omega), if_pos z1]
      exact h.sd j (by omega)
    · by_cases z2 : j < i + 1
      · have : j = i := by omega
        subst this
        rw [if_pos z2, if_neg z1]
        exact Solid.merge g.wm (g.ws l1 (by omega)) (g.ws l2 n2) (h.sd j (by omega)) (h.sd (j + 1) (by omega)) f
      · rw [if_neg z2, if_neg z1]
        exact h.sd (j + 1) (by omega)
theorem Pool.hull {n : Nat} (g : Gr W n) {ps : List Nat} (h : Pool T W n ps) (nf : ∀ i, i + 2 < ps.length → ¬ sl (qc T) (qc W) (pB ps (i + 1)) (pB ps (i + 2)) < sl (qc T) (qc W) (pB ps i) (pB ps (i + 1))) : Hull (qc T) (qc W) n (ps.length - 1) (pB ps) where
  wm := g.wm
  ws := fun i j hij hj => g.ws hij hj
  p0 := h.fst
  pm := h.lst
  lt := fun i hi => h.lt (by omega) (by omega)
  sd := fun i hi => h.sd i (by omega)
  up := fun i hi => by have := nf i (by omega); grind
theorem Pool.final {n : Nat} (g : Gr W n) {ps : List Nat} (h : Pool T W n ps) (nf : ∀ i, i + 2 < ps.length → ¬ sl (qc T) (qc W) (pB ps (i + 1)) (pB ps (i + 2)) < sl (qc T) (qc W) (pB ps i) (pB ps (i + 1))) (q : Nat) : q ∈ ps ↔ q = 0 ∨ q = n ∨ (0 < q ∧ q < n ∧ Stay (qc T) (qc W) n q) := by
  have two := h.two
  have H := h.hull g nf
  constructor
  · intro hq
    obtain ⟨j, hj, e⟩ := List.getElem_of_mem hq
    have ej : pB ps j = q := pB_of (by rw [List.getElem?_eq_getElem hj, e])
    by_cases z0 : j = 0
    · subst z0
      exact .inl (ej.symm.trans h.fst)
    · by_cases z1 : j = ps.length - 1
      · subst z1
        exact .inr (.inl (ej.symm.trans h.lst))
      · refine .inr (.inr ⟨?_, ?_, ?_⟩)
        · have := h.lt (i := 0) (j := j) (by omega) hj
          omega
        · have := h.lt (i := j) (j := ps.length - 1) (by omega) (by omega)
          rw [h.lst] at this
          omega
        · have := H.stay (i := j - 1) (by omega)
          rw [show j - 1 + 1 = j by omega, ej] at this
          exact this
  · rintro (rfl | rfl | ⟨h1, h2, h3⟩)
    · exact List.mem_of_getElem? (i := 0) (by rw [pB_get (by omega), h.fst])
    · exact List.mem_of_getElem? (i := ps.length - 1) (by rw [pB_get (by omega), h.lst])
    · exact h.sty q h1 h2 h3
end
end PM

namespace PM
/-! ### rows as panels: a chain of rules -/
def tS (its : List (Int × Int)) (k : Nat) : Int := ((its.take k).map fun q => q.2 * q.1).sum
def wS (its : List (Int × Int)) (k : Nat) : Int := ((its.take k).map fun q => q.2).sum
def chain (n : Nat) : List (Nat × Nat) := (List.range (n - 1)).map fun i => (i, i + 1)
theorem take_snoc {its : List (Int × Int)} {k : Nat} (h : k < its.length) : its.take (k + 1) = its.take k ++ [itm its k] := by
  rw [List.take_add_one, itm_get h]
  rfl
theorem tS_succ {its : List (Int × Int)} {k : Nat} (h : k < its.length) : tS its (k + 1) = tS its k + (itm its k).2 * (itm its k).1 := by
  unfold tS
  rw [take_snoc h, List.map_append, List.map_cons, List.map_nil, sum_snoc]
theorem wS_succ {its : List (Int × Int)} {k : Nat} (h : k < its.length) : wS its (k + 1) = wS its k + (itm its k).2 := by
  unfold wS
  rw [take_snoc h, List.map_append, List.map_cons, List.map_nil, sum_snoc]
theorem wS_gr {its : List (Int × Int)} (hw : ∀ q ∈ its, 1 ≤ q.2) : Gr (wS its) its.length := by
  have st : ∀ i j, i < j → j ≤ its.length → wS its i < wS its j := fun i j hij hj => by
    induction j with
    | zero => omega
    | succ j ih =>
      have := hw _ (itm_mem (i := j) (by omega))
      rw [wS_succ (by omega)]
      rcases Nat.lt_or_ge i j with z | z
      · have := ih z (by omega)
        omega
      · rw [show i = j by omega]
        omega
  refine ⟨fun i j hij => ?_, st⟩
  have cap : ∀ k, its.length ≤ k → wS its k = wS its its.length := fun k hk => by
    unfold wS
    rw [List.take_of_length_le hk, List.take_of_length_le (Nat.le_refl _)]
  rcases Nat.lt_or_ge i its.length with z1 | z1
  · rcases Nat.lt_or_ge its.length j with z2 | z2
    · rw [cap j (by omega)]
      exact Int.le_of_lt (st i _ z1 (Nat.le_refl _))
    · rcases Nat.lt_or_ge i j with z3 | z3
      · exact Int.le_of_lt (st i j z3 z2)
      · rw [show i = j by omega]
        exact Int.le_refl _
  · rw [cap i z1, cap j (by omega)]
    exact Int.le_refl _
theorem rs_range_succ (f : Nat → Rat) (k : Nat) : rs f (List.range (k + 1)) = rs f (List.range k) + f k := by
  rw [List.range_succ, rs_app, rs_cons, rs_nil]
  grind
section
variable {its : List (Int × Int)} {m : Nat} {P : Nat → Nat} {r : Nat → Rat}
theorem row_step {k : Nat} (h : k < its.length) (c : Rat) : (qc (tS its) (k + 1) - c * qc (wS its) (k + 1)) - (qc (tS its) k - c * qc (wS its) k) = Wt its k * (Mk its k - c) := by
  unfold qc Wt Mk
  rw [tS_succ h, wS_succ h, Rat.intCast_add, Rat.intCast_add, Rat.intCast_mul]
  grind
/-- the flow into the next item -/
theorem row_flow (H : Hull (qc (tS its)) (qc (wS its)) its.length m P) (hr : ∀ i, i < m → ∀ k, P i ≤ k → k < P (i + 1) → r k = sl (qc (tS its)) (qc (wS its)) (P i) (P (i + 1))) {i : Nat} (hi : i < m) :
    ∀ k, P i ≤ k → k ≤ P (i + 1) → rs (Fo its r) (List.range k) = rs (Fo its r) (List.range (P i)) + ((qc (tS its) k - qc (tS its) (P i)) - sl (qc (tS its)) (qc (wS its)) (P i) (P (i + 1)) * (qc (wS its) k - qc (wS its) (P i))) := by
  intro k
  induction k with
  | zero =>
    intro h1 _
    rw [show P i = 0 by omega]
    grind
  | succ k ih =>
    intro h1 h2
    rcases Nat.lt_or_ge k (P i) with z | z
    · rw [show P i = k + 1 by omega]
      grind
    · have a := ih z (by omega)
      have hk : k < its.length := by have := H.le (i := i + 1) (by omega); omega
      have s := row_step hk (sl (qc (tS its)) (qc (wS its)) (P i) (P (i + 1)))
      rw [rs_range_succ, a]
      have e : Fo its r k = Wt its k * (Mk its k - sl (qc (tS its)) (qc (wS its)) (P i) (P (i + 1))) := by
        unfold Fo
        rw [hr i hi k z (by omega)]
      rw [e, ← s]
      grind
theorem row_zero (H : Hull (qc (tS its)) (qc (wS its)) its.length m P) (hr : ∀ i, i < m → ∀ k, P i ≤ k → k < P (i + 1) → r k = sl (qc (tS its)) (qc (wS its)) (P i) (P (i + 1))) : ∀ i, i ≤ m → rs (Fo its r) (List.range (P i)) = 0
  | 0, _ => by rw [H.p0]; rfl
  | i + 1, hi => by
    have a := row_zero H hr i (by omega)
    have l := H.lt i (by omega)
    have f := row_flow H hr (i := i) (by omega) (P (i + 1)) (Nat.le_of_lt l) (Nat.le_refl _)
    have s := sl_mul (t := qc (tS its)) (H.ws _ _ l (H.le (by omega)))
    rw [f, a]
    grind
theorem row_nonneg (H : Hull (qc (tS its)) (qc (wS its)) its.length m P) (hr : ∀ i, i < m → ∀ k, P i ≤ k → k < P (i + 1) → r k = sl (qc (tS its)) (qc (wS its)) (P i) (P (i + 1))) {k : Nat} (hk : k < its.length) : 0 ≤ rs (Fo its r) (List.range k) := by
  obtain ⟨i, hi, h1, h2⟩ := H.block hk
  have f := row_flow H hr hi k h1 (by omega)
  have z := row_zero H hr i (by omega)
  have s := H.sd i hi k h1 (by omega)
  rw [f, z]
  grind
theorem row_oSum (a : Nat → Rat) : ∀ (n i : Nat), oSum ((List.range n).map fun k => ((k, k + 1), a k)) i = (if i < n then a i else 0) - (if 1 ≤ i ∧ i ≤ n then a (i - 1) else 0)
  | 0, i => by
    have : ¬ (1 ≤ i ∧ i ≤ 0) := by omega
    simp only [List.range_zero, List.map_nil, oSum_nil, if_neg this]
    grind
  | n + 1, i => by
    have ih := row_oSum a n i
    unfold oSum at ih ⊢
    rw [List.range_succ, List.map_append, List.map_append, List.sum_append, ih]
    simp only [List.map_cons, List.map_nil, List.sum_cons, List.sum_nil, ov]
    by_cases h1 : i < n
    · rw [if_pos h1, if_pos (show i < n + 1 by omega), if_neg (show ¬ n = i by omega), if_neg (show ¬ n + 1 = i by omega)]
      by_cases h2 : 1 ≤ i
      · rw [if_pos ⟨h2, by omega⟩, if_pos ⟨h2, by omega⟩]
        grind
      · rw [if_neg (by omega), if_neg (by omega)]
        grind
    · rw [if_neg h1]
      by_cases h2 : i = n
      · subst h2
        rw [if_pos (show i < i + 1 by omega), if_pos rfl, if_neg (show ¬ i + 1 = i by omega)]
        by_cases h3 : 1 ≤ i
        · rw [if_pos ⟨h3, by omega⟩, if_pos ⟨h3, by omega⟩]
          grind
        · rw [if_neg (by omega), if_neg (by omega)]
          grind
      · by_cases h3 : i = n + 1
        · subst h3
          rw [if_neg (show ¬ n + 1 < n + 1 by omega), if_neg (show ¬ n = n + 1 by omega), if_pos rfl, if_neg (by omega), if_pos ⟨by omega, by omega⟩]
          simp only [Nat.add_sub_cancel]
          grind
        · rw [if_neg (show ¬ i < n + 1 by omega), if_neg (show ¬ n = i by omega), if_neg (show ¬ n + 1 = i by omega), if_neg (by omega), if_neg (by omega)]
          grind
theorem chain_mem {n : Nat} {q : Nat × Nat} : q ∈ chain n ↔ q.2 = q.1 + 1 ∧ q.2 < n := by
  unfold chain
  rw [List.mem_map]
  constructor
  · rintro ⟨i, hi, rfl⟩
    have := List.mem_range.mp hi
    exact ⟨rfl, by show i + 1 < n; omega⟩
  · rintro ⟨h1, h2⟩
    exact ⟨q.1, List.mem_range.mpr (by omega), by rw [← h1]⟩
theorem row_best (H : Hull (qc (tS its)) (qc (wS its)) its.length m P) (hw : ∀ q ∈ its, 1 ≤ q.2) (hr : ∀ i, i < m → ∀ k, P i ≤ k → k < P (i + 1) → r k = sl (qc (tS its)) (qc (wS its)) (P i) (P (i + 1))) : Best its (chain its.length) r := by
  have two : ∀ k, k + 1 < its.length → r k ≤ r (k + 1) ∧ (rs (Fo its r) (List.range (k + 1)) ≠ 0 → r k = r (k + 1)) := fun k hk => by
    obtain ⟨i, hi, h1, h2⟩ := H.block (k := k) (by omega)
    rcases Nat.lt_or_ge (k + 1) (P (i + 1)) with z | z
    · rw [hr i hi k h1 h2, hr i hi (k + 1) (by omega) z]
      exact ⟨Rat.le_refl, fun _ => rfl⟩
    · have e : P (i + 1) = k + 1 := by omega
      have im : i + 1 < m := by
        rcases Nat.lt_or_ge (i + 1) m with y | y
        · exact y
        · have := H.pm
          rw [show m = i + 1 by omega, e] at this
          omega
      have l := H.lt (i + 1) im
      rw [hr i hi k h1 h2, hr (i + 1) im (k + 1) (by omega) (by omega)]
      refine ⟨H.up i im, fun ne => absurd ?_ ne⟩
      rw [← e]
      exact row_zero H hr (i + 1) (by omega)
  have ok : PnOk its (chain its.length) := ⟨hw, fun q hq => by have := chain_mem.mp hq; omega⟩
  refine Best.of_flow ((List.range (its.length - 1)).map fun k => ((k, k + 1), rs (Fo its r) (List.range (k + 1)))) (fun q hq => ?_) ok (fun p hp => ?_) (fun p hp => ?_) (fun p hp => ?_) fun i hi => ?_
  · obtain ⟨h1, h2⟩ := chain_mem.mp hq
    rw [h1]
    exact (two q.1 (by omega)).1
  · obtain ⟨k, hk, rfl⟩ := List.mem_map.mp hp
    have := List.mem_range.mp hk
    exact chain_mem.mpr ⟨rfl, by show k + 1 < its.length; omega⟩
  · obtain ⟨k, hk, rfl⟩ := List.mem_map.mp hp
    have := List.mem_range.mp hk
    exact row_nonneg H hr (by omega)
  · obtain ⟨k, hk, rfl⟩ := List.mem_map.mp hp
    have := List.mem_range.mp hk
    exact (two k (by omega)).2
  · rw [row_oSum (fun k => rs (Fo its r) (List.range (k + 1)))]
    have a0 : rs (Fo its r) (List.range 0) = 0 := rfl
    have an : rs (Fo its r) (List.range its.length) = 0 := by
      have := row_zero H hr m (Nat.le_refl _)
      rw [H.pm] at this
      exact this
    have s := rs_range_succ (Fo its r) i
    have e1 : (if i < its.length - 1 then rs (Fo its r) (List.range (i + 1)) else 0) = rs (Fo its r) (List.range (i + 1)) := by
      by_cases z : i < its.length - 1
      · rw [if_pos z]
      · rw [if_neg z, show i + 1 = its.length by omega, an]
    have e2 : (if 1 ≤ i ∧ i ≤ its.length - 1 then rs (Fo its r) (List.range (i - 1 + 1)) else 0) = rs (Fo its r) (List.range i) := by
      by_cases z : 1 ≤ i
      · rw [if_pos ⟨z, by omega⟩, show i - 1 + 1 = i by omega]
      · rw [if_neg (by omega), show i = 0 by omega, a0]
    rw [e1, e2, s]
    grind
end
/-! ### the rating of a row -/
section
variable {T W : Nat → Int}
def rowF (T W : Nat → Int) (ps : List Nat) : List (Int × Int) := ((bsOf T W ps).map fun b => List.replicate b.1.toNat (Fr.red b.2.1 b.2.2)).flatten
theorem rowF_cons (a b : Nat) (r : List Nat) : rowF T W (a :: b :: r) = List.replicate (b - a) (Fr.red (T b - T a) (W b - W a)) ++ rowF T W (b :: r) := by
  unfold rowF
  simp only [bsOf, List.map_cons, List.flatten_cons, blk]
  rw [show ((b : Int) - (a : Int)).toNat = b - a by omega]
theorem rowF_get : ∀ (ps : List Nat), ps.Pairwise (· < ·) → ∀ i, i + 1 < ps.length → ∀ k, pB ps i ≤ k → k < pB ps (i + 1) → (rowF T W ps)[k - pB ps 0]? = some (Fr.red (T (pB ps (i + 1)) - T (pB ps i)) (W (pB ps (i + 1)) - W (pB ps i)))
  | [], _, i, h, _, _, _ => by simp at h
  | [_], _, i, h, _, _, _ => by simp at h
  | a :: b :: r, hp, 0, h, k, h1, h2 => by
    have h1 : a ≤ k := h1
    have h2 : k < b := h2
    rw [rowF_cons]
    show (_ ++ _)[k - a]? = _
    rw [List.getElem?_append_left (by rw [List.length_replicate]; omega), List.getElem?_replicate, if_pos (by omega)]
    rfl
  | a :: b :: r, hp, i + 1, h, k, h1, h2 => by
    obtain ⟨p1, p2⟩ := List.pairwise_cons.mp hp
    have ab : a < b := p1 b List.mem_cons_self
    have ih := rowF_get (b :: r) p2 i (by simp only [List.length_cons] at h ⊢; omega) k h1 h2
    have bk : b ≤ k := by
      have hx : pB (b :: r) i ≤ k := h1
      have : b ≤ pB (b :: r) i := by
        have hm := List.mem_of_getElem? (pB_get (ps := b :: r) (i := i) (by simp only [List.length_cons] at h ⊢; omega))
        rcases List.mem_cons.mp hm with e | hm
        · omega
        · exact Nat.le_of_lt ((List.pairwise_cons.mp p2).1 _ hm)
      omega
    rw [rowF_cons]
    show (_ ++ _)[k - a]? = _
    rw [List.getElem?_append_right (by rw [List.length_replicate]; omega), List.length_replicate, show k - a - (b - a) = k - b by omega]
    exact ih
theorem rowF_len : ∀ (ps : List Nat), ps.Pairwise (· < ·) → (rowF T W ps).length = pB ps (ps.length - 1) - pB ps 0
  | [], _ => rfl
  | [a], _ => by show 0 = a - a; omega
  | a :: b :: r, hp => by
    obtain ⟨p1, p2⟩ := List.pairwise_cons.mp hp
    have ab : a < b := p1 b List.mem_cons_self
    have ih := rowF_len (b :: r) p2
    rw [rowF_cons, List.length_append, List.length_replicate, ih]
    show b - a + (pB (b :: r) r.length - b) = pB (b :: r) r.length - a
    have : b ≤ pB (b :: r) r.length := by
      have hm := List.mem_of_getElem? (pB_get (ps := b :: r) (i := r.length) (by simp))
      rcases List.mem_cons.mp hm with e | hm
      · omega
      · exact Nat.le_of_lt ((List.pairwise_cons.mp p2).1 _ hm)
    omega
end
end PM

namespace PM
open PySem PySem.Spec PyProof.Rows L2 RZ
/-! ### rows as data: pooling -/
theorem startB_of (its : List (Int × Int)) : startB its = bsOf (tS its) (wS its) (List.range (its.length + 1)) := by
  refine List.ext_getElem? fun i => ?_
  rcases Nat.lt_or_ge i its.length with h | h
  · rw [bsOf_get _ i (by rw [List.length_range]; omega), pB_of (List.getElem?_range (by omega)), pB_of (List.getElem?_range (by omega))]
    unfold startB blk
    rw [List.getElem?_map, itm_get h, tS_succ h, wS_succ h]
    refine congrArg some (Prod.ext ?_ (Prod.ext ?_ ?_))
    · show (1 : Int) = ((i + 1 : Nat) : Int) - (i : Int)
      omega
    · show (itm its i).2 * (itm its i).1 = tS its i + (itm its i).2 * (itm its i).1 - tS its i
      omega
    · show (itm its i).2 = wS its i + (itm its i).2 - wS its i
      omega
  · rw [List.getElem?_eq_none (by unfold startB; rw [List.length_map]; exact h), List.getElem?_eq_none (by rw [bsOf_len, List.length_range]; omega)]
theorem bk_bsOf {T W : Nat → Int} {ps : List Nat} {i : Nat} (h : i + 1 < ps.length) : bk (bsOf T W ps) i = blk T W (pB ps i) (pB ps (i + 1)) := by
  unfold bk
  rw [List.getD_eq_getElem?_getD, bsOf_get ps i h]
  rfl
theorem Pool.fall {T W : Nat → Int} {n : Nat} (g : Gr W n) {ps : List Nat} (h : Pool T W n ps) {i : Nat} (hi : i + 2 < ps.length) : PM.fall (bk (bsOf T W ps) i) (bk (bsOf T W ps) (i + 1)) = true ↔ sl (qc T) (qc W) (pB ps (i + 1)) (pB ps (i + 2)) < sl (qc T) (qc W) (pB ps i) (pB ps (i + 1)) := by
  rw [bk_bsOf (by omega), bk_bsOf (by omega), ← sl_lt_cross g (h.lt (i := i) (j := i + 1) (by omega) (by omega)) (h.le (by omega)) (h.lt (i := i + 1) (j := i + 2) (by omega) hi) (h.le hi)]
  unfold PM.fall blk
  rw [decide_eq_true_eq]
theorem Pool.mem_falls {T W : Nat → Int} {n : Nat} (g : Gr W n) {ps : List Nat} (h : Pool T W n ps) {i : Nat} : i ∈ falls (bsOf T W ps) ↔ i + 2 < ps.length ∧ sl (qc T) (qc W) (pB ps (i + 1)) (pB ps (i + 2)) < sl (qc T) (qc W) (pB ps i) (pB ps (i + 1)) := by
  unfold falls
  rw [List.mem_filter, List.mem_range, bsOf_len]
  constructor
  · rintro ⟨h1, h2⟩
    have : i + 2 < ps.length := by omega
    exact ⟨this, (h.fall g this).mp h2⟩
  · rintro ⟨h1, h2⟩
    exact ⟨by omega, (h.fall g h1).mpr h2⟩
/-- where a boundary stays -/
def stB (T W : Nat → Int) (n p : Nat) : Bool := (List.range p).all fun b => (List.range (n - p)).all fun d => !decide ((T (p + 1 + d) - T p) * (W p - W b) < (T p - T b) * (W (p + 1 + d) - W p))
theorem stB_iff {T W : Nat → Int} {n p : Nat} (g : Gr W n) (hp : p ≤ n) : stB T W n p = true ↔ Stay (qc T) (qc W) n p := by
  unfold stB Stay
  simp only [List.all_eq_true, List.mem_range, Bool.not_eq_true', decide_eq_false_iff_not]
  constructor
  · intro h b e hb he hn
    have := h b hb (e - (p + 1)) (by omega)
    rw [show p + 1 + (e - (p + 1)) = e by omega, sl_lt_cross g hb hp he hn] at this
    grind
  · intro h b hb d hd z
    have := h b (p + 1 + d) hb (by omega) (by omega)
    rw [sl_lt_cross g hb hp (by omega) (by omega)] at z
    grind
def plL (its : List (Int × Int)) : List Nat := 0 :: (((List.range (its.length - 1)).map (1 + ·)).filter (stB (tS its) (wS its) its.length) ++ [its.length])
def poolF (its : List (Int × Int)) : List Bk := bsOf (tS its) (wS its) (plL its)
theorem plL_mem {its : List (Int × Int)} {q : Nat} : q ∈ plL its ↔ q = 0 ∨ q = its.length ∨ (0 < q ∧ q < its.length ∧ stB (tS its) (wS its) its.length q = true) := by
  unfold plL
  simp only [List.mem_cons, List.mem_append, List.mem_filter, List.mem_map, List.mem_range, List.not_mem_nil, or_false]
  constructor
  · rintro (h | ⟨⟨i, hi, rfl⟩, h⟩ | h)
    · exact .inl h
    · exact .inr (.inr ⟨by omega, by omega, h⟩)
    · exact .inr (.inl h)
  · rintro (h | h | ⟨h1, h2, h3⟩)
    · exact .inl h
    · exact .inr (.inr h)
    · exact .inr (.inl ⟨⟨q - 1, by omega, by omega⟩, h3⟩)
theorem plL_asc {its : List (Int × Int)} (h : 1 ≤ its.length) : (plL its).Pairwise (· < ·) := by
  unfold plL
  have m : ∀ q ∈ ((List.range (its.length - 1)).map (1 + ·)).filter (stB (tS its) (wS its) its.length), 0 < q ∧ q < its.length := fun q hq => by
    obtain ⟨i, hi, rfl⟩ := List.mem_map.mp (List.mem_filter.mp hq).1
    have := List.mem_range.mp hi
    omega
  refine List.pairwise_cons.mpr ⟨fun q hq => ?_, List.pairwise_append.mpr ⟨List.Pairwise.filter _ (List.pairwise_map.mpr (List.pairwise_lt_range.imp fun {a b} h => by omega)), List.pairwise_singleton _ _, fun q hq p hp => ?_⟩⟩
  · rcases List.mem_append.mp hq with hq | hq
    · exact (m q hq).1
    · rw [List.mem_singleton.mp hq]
      omega
  · rw [List.mem_singleton.mp hp]
    exact (m q hq).2
section
variable {its : List (Int × Int)}
theorem row_gr (ok : ItsOk its) : Gr (wS its) its.length := wS_gr fun q hq => (ok q hq).2.1
theorem Pool.ended (ok : ItsOk its) (n1 : 1 ≤ its.length) {ps : List Nat} (h : Pool (tS its) (wS its) its.length ps) (f : falls (bsOf (tS its) (wS its) ps) = []) : ps = plL its := by
  have g := row_gr ok
  have nf : ∀ i, i + 2 < ps.length → ¬ sl (qc (tS its)) (qc (wS its)) (pB ps (i + 1)) (pB ps (i + 2)) < sl (qc (tS its)) (qc (wS its)) (pB ps i) (pB ps (i + 1)) := fun i hi z => by
    have := (h.mem_falls g).mpr ⟨hi, z⟩
    rw [f] at this
    exact nomatch this
  refine asc_ext h.asc (plL_asc n1) fun q => ?_
  rw [h.final g nf q, plL_mem]
  constructor
  · rintro (h | h | ⟨h1, h2, h3⟩)
    · exact .inl h
    · exact .inr (.inl h)
    · exact .inr (.inr ⟨h1, h2, (stB_iff g (by omega)).mpr h3⟩)
  · rintro (h | h | ⟨h1, h2, h3⟩)
    · exact .inl h
    · exact .inr (.inl h)
    · exact .inr (.inr ⟨h1, h2, (stB_iff g (by omega)).mp h3⟩)
/-! ### sizes -/
theorem sumI_le {c : Int} : ∀ {xs : List Int}, (∀ x ∈ xs, -c ≤ x ∧ x ≤ c) → -(c * xs.length) ≤ xs.sum ∧ xs.sum ≤ c * xs.length
  | [], _ => by simp
  | x :: xs, h => by
    have ih := sumI_le (xs := xs) fun y hy => h y (List.mem_cons_of_mem _ hy)
    have := h x List.mem_cons_self
    rw [List.sum_cons, List.length_cons]
    have e : c * ((xs.length + 1 : Nat) : Int) = c * xs.length + c := by
      rw [Int.natCast_add, Int.mul_add]
      simp
    rw [e]
    omega
theorem tS_sz (ok : ItsOk its) (l : its.length ≤ 100) (k : Nat) : (tS its k).natAbs < 2 ^ 60 := by
  have := sumI_le (c := 1000000000000000) (xs := (its.take k).map fun q => q.2 * q.1) fun x hx => by
    obtain ⟨q, hq, rfl⟩ := List.mem_map.mp hx
    obtain ⟨⟨h1, h2⟩, h3, h4⟩ := ok q (List.mem_of_mem_take hq)
    have a : q.2 * q.1 ≤ 1000000 * 1000000000 := by
      have := Int.mul_le_mul_of_nonneg_left h2 (show 0 ≤ q.2 by omega)
      omega
    have b : -(1000000 * 1000000000) ≤ q.2 * q.1 := by
      have := Int.mul_le_mul_of_nonneg_left h1 (show 0 ≤ q.2 by omega)
      omega
    omega
  rw [List.length_map] at this
  have hl : (its.take k).length ≤ 100 := Nat.le_trans (List.length_take_le' k its) l
  unfold tS
  omega
theorem wS_sz (ok : ItsOk its) (l : its.length ≤ 100) (k : Nat) : (wS its k).natAbs < 2 ^ 60 := by
  have := sumI_le (c := 1000000) (xs := (its.take k).map fun q => q.2) fun x hx => by
    obtain ⟨q, hq, rfl⟩ := List.mem_map.mp hx
    obtain ⟨⟨h1, h2⟩, h3, h4⟩ := ok q (List.mem_of_mem_take hq)
    omega
  rw [List.length_map] at this
  have hl : (its.take k).length ≤ 100 := Nat.le_trans (List.length_take_le' k its) l
  unfold wS
  omega
theorem Pool.bz (ok : ItsOk its) (l : its.length ≤ 100) {ps : List Nat} (h : Pool (tS its) (wS its) its.length ps) : Bz 70 (bsOf (tS its) (wS its) ps) := fun b hb => by
  obtain ⟨i, hi, e⟩ := List.getElem_of_mem hb
  rw [bsOf_len] at hi
  have hg := bsOf_get (T := tS its) (W := wS its) ps i (by omega)
  rw [List.getElem?_eq_getElem (by rw [bsOf_len]; exact hi), e] at hg
  rw [Option.some.inj hg]
  have a := h.le (i := i) (by omega)
  have b := h.le (i := i + 1) (by omega)
  have t1 := tS_sz ok l (pB ps i)
  have t2 := tS_sz ok l (pB ps (i + 1))
  have w1 := wS_sz ok l (pB ps i)
  have w2 := wS_sz ok l (pB ps (i + 1))
  refine ⟨?_, ?_, ?_⟩
  · show ((pB ps (i + 1) : Int) - (pB ps i : Int)).natAbs < 2 ^ 70
    omega
  · show (tS its (pB ps (i + 1)) - tS its (pB ps i)).natAbs < 2 ^ 70
    omega
  · show (wS its (pB ps (i + 1)) - wS its (pB ps i)).natAbs < 2 ^ 70
    omega
theorem Pool.few {T W : Nat → Int} {n : Nat} {ps : List Nat} (h : Pool T W n ps) : ps.length ≤ n + 1 := by
  refine up_short (n := n + 1) h.asc fun q hq => ?_
  obtain ⟨i, hi, e⟩ := List.getElem_of_mem hq
  have := h.le hi
  have ej : pB ps i = q := pB_of (by rw [List.getElem?_eq_getElem hi, e])
  omega
end
end PM

namespace PM
open PySem PySem.Spec PyProof.Rows L2 RZ
/-! ### sums of beginnings as data; the end of a list -/
def sD (its : List (Int × Int)) (i : Nat) : PyData := itD (tS its i, wS its i)
def smL (its : List (Int × Int)) : List PyData := (List.range (its.length + 1)).map (sD its)
theorem at_sm {its : List (Int × Int)} {i : Nat} (h : i ≤ its.length) : atI (smL its) (i : Int) = some (sD its i) := at_map (f := sD its) (List.getElem?_range (by omega))
theorem at_end (ds : List PyData) (d : PyData) : atI (ds ++ [d]) (-1) = some d := by
  have : ixN (ds ++ [d]).length (-1) = some ds.length := by
    unfold ixN
    rw [List.length_append, List.length_singleton]
    simp
    omega
  unfold atI
  rw [this]
  show (ds ++ [d])[ds.length]? = some d
  simp
theorem eqB_nil (xs : List PyData) : eqB (.list xs) (.list []) = decide (xs = []) := by
  show PyData.eqv (.list xs) (.list []) = _
  cases xs with
  | nil => simp only [PyData.eqv, PyData.eqvAll, decide_true]
  | cons x xs => simp only [PyData.eqv, PyData.eqvAll]; rfl
theorem plL_le {its : List (Int × Int)} {q : Nat} (h : q ∈ plL its) : q ≤ its.length := by
  rcases plL_mem.mp h with h | h | h <;> omega
theorem plL_len (its : List (Int × Int)) : (plL its).length ≤ its.length + 2 := by
  unfold plL
  rw [List.length_cons, List.length_append, List.length_singleton]
  have := List.length_filter_le (stB (tS its) (wS its) its.length) ((List.range (its.length - 1)).map (1 + ·))
  rw [List.length_map, List.length_range] at this
  omega
/-! ### merging comes to an end -/
section
variable {its : List (Int × Int)}
theorem Pool.one {ps : List Nat} (ok : ItsOk its) (P : Pool (tS its) (wS its) its.length ps) {i : Nat} (hi : i ∈ falls (bsOf (tS its) (wS its) ps)) : Pool (tS its) (wS its) its.length (ps.eraseIdx (i + 1)) ∧ mergeB (bsOf (tS its) (wS its) ps) i = bsOf (tS its) (wS its) (ps.eraseIdx (i + 1)) ∧ (ps.eraseIdx (i + 1)).length + 1 = ps.length := by
  obtain ⟨h1, h2⟩ := (P.mem_falls (row_gr ok)).mp hi
  refine ⟨P.merge (row_gr ok) h1 h2, (bsOf_erase i ps h1).symm, ?_⟩
  rw [List.length_eraseIdx_of_lt (by omega)]
  omega
theorem Pool.stops (ok : ItsOk its) : ∀ (k : Nat) (ps : List Nat), ps.length ≤ k → Pool (tS its) (wS its) its.length ps → ∃ qs, Pool (tS its) (wS its) its.length qs ∧ falls (bsOf (tS its) (wS its) qs) = []
  | 0, ps, h, P => absurd P.two (by omega)
  | k + 1, ps, h, P => by
    cases f : falls (bsOf (tS its) (wS its) ps) with
    | nil => exact ⟨ps, P, f⟩
    | cons i r =>
      obtain ⟨g1, _, g3⟩ := P.one ok (i := i) (by rw [f]; exact List.mem_cons_self)
      exact Pool.stops ok k _ (by omega) g1
theorem plL_pool (ok : ItsOk its) (l1 : 1 ≤ its.length) : Pool (tS its) (wS its) its.length (plL its) ∧ falls (poolF its) = [] := by
  obtain ⟨qs, P, f⟩ := Pool.stops ok _ _ (Nat.le_refl _) (Pool.start (T := tS its) (row_gr ok) l1)
  have := P.ended ok l1 f
  subst this
  exact ⟨P, f⟩
theorem row_hull (ok : ItsOk its) (l1 : 1 ≤ its.length) : Hull (qc (tS its)) (qc (wS its)) its.length ((plL its).length - 1) (pB (plL its)) := by
  obtain ⟨P, f⟩ := plL_pool ok l1
  refine P.hull (row_gr ok) fun i hi z => ?_
  have : i ∈ falls (poolF its) := (P.mem_falls (row_gr ok)).mpr ⟨hi, z⟩
  rw [f] at this
  exact nomatch this
/-- the rating of a row -/
def rF (its : List (Int × Int)) : List (Int × Int) := rowF (tS its) (wS its) (plL its)
def rV (its : List (Int × Int)) (k : Nat) : Int × Int := (rF its).getD k (0, 1)
theorem rF_len (ok : ItsOk its) (l1 : 1 ≤ its.length) : (rF its).length = its.length := by
  obtain ⟨P, _⟩ := plL_pool ok l1
  unfold rF
  rw [rowF_len _ P.asc, P.fst, P.lst, Nat.sub_zero]
theorem rF_get (ok : ItsOk its) (l1 : 1 ≤ its.length) {k : Nat} (hk : k < its.length) : (rF its)[k]? = some (rV its k) := by
  unfold rV
  rw [List.getD_eq_getElem?_getD, List.getElem?_eq_getElem (by rw [rF_len ok l1]; exact hk)]
  rfl
theorem red_sl (ok : ItsOk its) {a b : Nat} (h : a < b) (hb : b ≤ its.length) : 0 < wS its b - wS its a ∧ Fr.val (Fr.red (tS its b - tS its a) (wS its b - wS its a)) = sl (qc (tS its)) (qc (wS its)) a b := by
  have w := (row_gr ok).2 a b h hb
  refine ⟨by omega, ?_⟩
  rw [Fr.red_val (by omega)]
  unfold sl qc
  rw [Rat.intCast_sub, Rat.intCast_sub]
theorem rV_block (ok : ItsOk its) (l1 : 1 ≤ its.length) {i k : Nat} (hi : i + 1 < (plL its).length) (h1 : pB (plL its) i ≤ k) (h2 : k < pB (plL its) (i + 1)) : rV its k = Fr.red (tS its (pB (plL its) (i + 1)) - tS its (pB (plL its) i)) (wS its (pB (plL its) (i + 1)) - wS its (pB (plL its) i)) := by
  obtain ⟨P, _⟩ := plL_pool ok l1
  have g := rowF_get (T := tS its) (W := wS its) _ P.asc i hi k h1 h2
  rw [P.fst, Nat.sub_zero] at g
  unfold rV rF
  rw [List.getD_eq_getElem?_getD, g]
  rfl
theorem rV_val (ok : ItsOk its) (l1 : 1 ≤ its.length) {i k : Nat} (hi : i < (plL its).length - 1) (h1 : pB (plL its) i ≤ k) (h2 : k < pB (plL its) (i + 1)) : Fr.IsF (rV its k) ∧ Fr.val (rV its k) = sl (qc (tS its)) (qc (wS its)) (pB (plL its) i) (pB (plL its) (i + 1)) := by
  obtain ⟨P, _⟩ := plL_pool ok l1
  rw [rV_block ok l1 (by omega) h1 h2]
  have r := red_sl ok (P.lt (i := i) (j := i + 1) (by omega) (by omega)) (P.le (by omega))
  exact ⟨Fr.red_isF r.1, r.2⟩
theorem rV_isF (ok : ItsOk its) (l1 : 1 ≤ its.length) {k : Nat} (hk : k < its.length) : Fr.IsF (rV its k) := by
  obtain ⟨i, hi, h1, h2⟩ := (row_hull ok l1).block hk
  exact (rV_val ok l1 hi h1 h2).1
theorem rV_best (ok : ItsOk its) (l1 : 1 ≤ its.length) : Best its (chain its.length) fun k => Fr.val (rV its k) :=
  row_best (row_hull ok l1) (fun q hq => (ok q hq).2.1) fun i hi k h1 h2 => (rV_val ok l1 hi h1 h2).2
/-- numbers of different sizes above and below -/
def Sz2 (a b : Nat) (x : Int × Int) : Prop := x.1.natAbs < 2 ^ a ∧ x.2.natAbs < 2 ^ b
theorem Sz2.mono {a b c d : Nat} {x : Int × Int} (h : Sz2 a b x) (h1 : a ≤ c) (h2 : b ≤ d) : Sz2 c d x := ⟨Fr.lt_up h.1 h1, Fr.lt_up h.2 h2⟩
theorem red_sz2 {n d : Int} {a b : Nat} (hn : n.natAbs < 2 ^ a) (hd : d.natAbs < 2 ^ b) : Sz2 a b (Fr.red n d) := by
  have h1 := (Fr.red_sz (n := n) (d := d) (b := max a b) (Fr.lt_up hn (Nat.le_max_left _ _)) (Fr.lt_up hd (Nat.le_max_right _ _)))
  refine ⟨Nat.lt_of_le_of_lt ?_ hn, Nat.lt_of_le_of_lt ?_ hd⟩
  · show (n / ((Int.gcd n d : Nat) : Int)).natAbs ≤ n.natAbs
    rw [Int.natAbs_ediv_of_dvd (Int.gcd_dvd_left _ _)]
    exact Nat.div_le_self _ _
  · show (d / ((Int.gcd n d : Nat) : Int)).natAbs ≤ d.natAbs
    rw [Int.natAbs_ediv_of_dvd (Int.gcd_dvd_right _ _)]
    exact Nat.div_le_self _ _
theorem wS_sz2 (ok : ItsOk its) (l : its.length ≤ 100) (k : Nat) : 0 ≤ wS its k ∧ wS its k ≤ 100000000 := by
  have := sumI_le (c := 1000000) (xs := (its.take k).map fun q => q.2) fun x hx => by
    obtain ⟨q, hq, rfl⟩ := List.mem_map.mp hx
    obtain ⟨⟨h1, h2⟩, h3, h4⟩ := ok q (List.mem_of_mem_take hq)
    omega
  rw [List.length_map] at this
  have hl : (its.take k).length ≤ 100 := Nat.le_trans (List.length_take_le' k its) l
  have g := (row_gr ok).1 0 k (Nat.zero_le _)
  have z : wS its 0 = 0 := rfl
  unfold wS at *
  omega
theorem rV_sz (ok : ItsOk its) (l1 : 1 ≤ its.length) (l : its.length ≤ 100) {k : Nat} (hk : k < its.length) : Sz2 62 28 (rV its k) := by
  obtain ⟨i, hi, h1, h2⟩ := (row_hull ok l1).block hk
  rw [rV_block ok l1 (by omega) h1 h2]
  have a1 := tS_sz ok l (pB (plL its) i)
  have a2 := tS_sz ok l (pB (plL its) (i + 1))
  have b1 := wS_sz2 ok l (pB (plL its) i)
  have b2 := wS_sz2 ok l (pB (plL its) (i + 1))
  exact red_sz2 (by omega) (by omega)
/-- the greatest of the least averages is the block's -/
theorem rV_of (ok : ItsOk its) (l1 : 1 ≤ its.length) {k b e : Nat} (hk : k < its.length) (hb : b ≤ k) (he : k < e) (hn : e ≤ its.length) (h1 : ∀ e', k < e' → e' ≤ its.length → sl (qc (tS its)) (qc (wS its)) b e ≤ sl (qc (tS its)) (qc (wS its)) b e') (h2 : ∀ b', b' ≤ k → ∃ e', k < e' ∧ e' ≤ its.length ∧ sl (qc (tS its)) (qc (wS its)) b' e' ≤ sl (qc (tS its)) (qc (wS its)) b e) : Fr.red (tS its e - tS its b) (wS its e - wS its b) = rV its k := by
  have H := row_hull ok l1
  obtain ⟨i, hi, p1, p2⟩ := H.block hk
  obtain ⟨v1, v2⟩ := rV_val ok l1 hi p1 p2
  obtain ⟨r1, r2⟩ := red_sl ok (show b < e by omega) hn
  refine Fr.val_inj (Fr.red_isF r1) v1 ?_
  rw [r2, v2]
  have pe : pB (plL its) (i + 1) ≤ its.length := H.le (by omega)
  refine Rat.le_antisymm ?_ ?_
  · refine Rat.le_trans (h1 _ p2 pe) ?_
    exact (sl_le (H.ws _ _ (by omega) pe)).mpr (H.left i b hi (by omega))
  · obtain ⟨e', q1, q2, q3⟩ := h2 _ p1
    refine Rat.le_trans ?_ q3
    exact (le_sl (H.ws _ _ (by omega) q2)).mpr (H.right ((plL its).length - 1 - (i + 1)) i e' (by omega) (by omega) q2)
end
/-! ### costs as sums over items -/
theorem zip_range {its rt : List (Int × Int)} (hl : rt.length = its.length) : List.zip its rt = (List.range its.length).map fun i => (itm its i, rt.getD i (0, 1)) := by
  refine List.ext_getElem? fun i => ?_
  rcases Nat.lt_or_ge i its.length with h | h
  · rw [List.getElem?_map, List.getElem?_range h]
    refine List.getElem?_zip_eq_some.mpr ⟨itm_get h, ?_⟩
    show rt[i]? = some (rt.getD i (0, 1))
    rw [List.getD_eq_getElem?_getD, List.getElem?_eq_getElem (by omega)]
    rfl
  · rw [List.getElem?_eq_none (by rw [List.length_zip]; omega), List.getElem?_eq_none (by rw [List.length_map, List.length_range]; exact h)]
theorem cval_rs {its rt : List (Int × Int)} (hl : rt.length = its.length) : ((List.zip its rt).map cval).sum = rs (fun i => Wt its i * ((Fr.val (rt.getD i (0, 1)) - Mk its i) * (Fr.val (rt.getD i (0, 1)) - Mk its i))) (List.range its.length) := by
  rw [zip_range hl, List.map_map]
  unfold rs
  congr 1
  refine List.map_congr_left fun i _ => ?_
  show (((itm its i).2 : Int) : Rat) * _ * _ = _
  unfold Wt Mk
  rw [Rat.mul_assoc]
theorem addP_val {x y : Int × Int} (hx : 0 < x.2) (hy : 0 < y.2) : Fr.val (Fr.add x y) = Fr.val x + Fr.val y := by
  have a := Fr.cast_ne (show x.2 ≠ 0 by omega)
  have b := Fr.cast_ne (show y.2 ≠ 0 by omega)
  have p := Int.mul_pos hx hy
  unfold Fr.add
  rw [Fr.red_val (by omega)]
  unfold Fr.val
  simp only [Rat.intCast_mul, Rat.intCast_add]
  grind
theorem addP_isF {x y : Int × Int} (hx : 0 < x.2) (hy : 0 < y.2) : Fr.IsF (Fr.add x y) := Fr.red_isF (Int.mul_pos hx hy)
theorem add_sz2 {x y : Int × Int} {a b c d n : Nat} (hx : Sz2 a b x) (hy : Sz2 c d y) (h1 : a + d ≤ n) (h2 : c + b ≤ n) : Sz2 (n + 1) (b + d) (Fr.add x y) :=
  red_sz2 (Fr.add_lt2 (Fr.lt_up (Fr.mul_lt2 hx.1 hy.2) h1) (Fr.lt_up (Fr.mul_lt2 hy.1 hx.2) h2)) (Fr.mul_lt2 hx.2 hy.2)
/-- what an item adds, as the law writes it -/
def cT (p : (Int × Int) × (Int × Int)) : Int × Int := (p.1.2 * (p.2.1 - p.1.1 * p.2.2) * (p.2.1 - p.1.1 * p.2.2), p.2.2 * p.2.2)
theorem cT_val {p : (Int × Int) × (Int × Int)} (h : 0 < p.2.2) : Fr.val (cT p) = cval p := by
  have a := Fr.cast_ne (show p.2.2 ≠ 0 by omega)
  unfold cT cval Fr.val
  simp only [Rat.intCast_mul, Rat.intCast_sub]
  grind
theorem cT_sz {p : (Int × Int) × (Int × Int)} (sp : Sz2 70 30 p.2) (sm : p.1.1.natAbs < 2 ^ 31) (sw : p.1.2.natAbs < 2 ^ 20) : Sz2 165 60 (cT p) := by
  have a := Fr.mul_lt2 sm sp.2
  have b := Fr.sub_lt2 sp.1 (Fr.lt_up a (show 31 + 30 ≤ 70 by decide))
  have c := Fr.mul_lt2 (Fr.mul_lt2 sw b) b
  exact ⟨Fr.lt_up c (by decide), Fr.mul_lt2 sp.2 sp.2⟩
def costP (its rt : List (Int × Int)) : Int × Int := (List.zip its rt).foldl (fun c p => Fr.add c (cT p)) (0, 1)
theorem costP_fold : ∀ (ps : List ((Int × Int) × (Int × Int))) (c : Int × Int) (k : Nat), Fr.IsF c → Sz2 (170 + 61 * k) (1 + 60 * k) c → (∀ p ∈ ps, 0 < p.2.2 ∧ Sz2 70 30 p.2 ∧ p.1.1.natAbs < 2 ^ 31 ∧ p.1.2.natAbs < 2 ^ 20) → Fr.IsF (ps.foldl (fun c p => Fr.add c (cT p)) c) ∧ Fr.val (ps.foldl (fun c p => Fr.add c (cT p)) c) = Fr.val c + (ps.map cval).sum ∧ Sz2 (170 + 61 * (k + ps.length)) (1 + 60 * (k + ps.length)) (ps.foldl (fun c p => Fr.add c (cT p)) c)
  | [], c, k, hc, sc, _ => ⟨hc, by simp only [List.foldl_nil, List.map_nil, List.sum_nil]; grind, by simpa using sc⟩
  | p :: ps, c, k, hc, sc, h => by
    obtain ⟨p0, sp, sm, sw⟩ := h p List.mem_cons_self
    have tp : 0 < (cT p).2 := Int.mul_pos p0 p0
    have ts := cT_sz sp sm sw
    have s1 : Sz2 (170 + 61 * (k + 1)) (1 + 60 * (k + 1)) (Fr.add c (cT p)) := (add_sz2 (n := 170 + 61 * k + 60) sc ts (by omega) (by omega)).mono (by omega) (by omega)
    obtain ⟨h1, h2, h3⟩ := costP_fold ps (Fr.add c (cT p)) (k + 1) (addP_isF hc.1 tp) s1 fun q hq => h q (List.mem_cons_of_mem _ hq)
    rw [show k + (p :: ps).length = k + 1 + ps.length by rw [List.length_cons]; omega]
    refine ⟨h1, ?_, h3⟩
    rw [List.foldl_cons, h2, addP_val hc.1 tp, cT_val p0, List.map_cons, List.sum_cons]
    grind
theorem costP_ok {its rt : List (Int × Int)} (ok : ItsOk its) (hl : rt.length = its.length) (l6 : its.length ≤ 60) (hr : ∀ r ∈ rt, 0 < r.2 ∧ Sz2 70 30 r) : Fr.IsF (costP its rt) ∧ Fr.val (costP its rt) = ((List.zip its rt).map cval).sum ∧ Fr.Sz 8000 (costP its rt) := by
  obtain ⟨h1, h2, h3⟩ := costP_fold (List.zip its rt) (0, 1) 0 Fr.zero_isF ⟨by show (0 : Int).natAbs < 2 ^ 170; decide, by show (1 : Int).natAbs < 2 ^ 1; decide⟩ fun p hp => by
    obtain ⟨m1, m2⟩ := zip_mem2 hp
    have := ok _ m1
    exact ⟨(hr _ m2).1, (hr _ m2).2, by omega, by omega⟩
  refine ⟨h1, ?_, Fr.lt_up h3.1 ?_, Fr.lt_up h3.2 ?_⟩
  · rw [Fr.zero_val] at h2
    unfold costP
    rw [h2]
    grind
  · rw [List.length_zip]
    omega
  · rw [List.length_zip]
    omega
end PM

namespace PM
/-! ### level groups are known by the rating -/
structure Dec (P : Nat → Prop) (r : Nat → Rat) (A : List (List Nat)) : Prop where
  ne : ∀ g ∈ A, g ≠ []
  asc : ∀ g ∈ A, g.Pairwise (· < ·)
  same : ∀ g ∈ A, ∀ i ∈ g, ∀ j ∈ g, r i = r j
  desc : A.Pairwise fun g h => ∀ i ∈ g, ∀ j ∈ h, r j < r i
  cov : ∀ i, P i ↔ ∃ g ∈ A, i ∈ g
theorem Dec.tail {P : Nat → Prop} {r : Nat → Rat} {g : List Nat} {A : List (List Nat)} (h : Dec P r (g :: A)) : Dec (fun i => P i ∧ i ∉ g) r A := by
  obtain ⟨p1, p2⟩ := List.pairwise_cons.mp h.desc
  refine ⟨fun x hx => h.ne x (List.mem_cons_of_mem _ hx), fun x hx => h.asc x (List.mem_cons_of_mem _ hx), fun x hx => h.same x (List.mem_cons_of_mem _ hx), p2, fun i => ⟨fun ⟨h1, h2⟩ => ?_, fun ⟨x, hx, hi⟩ => ⟨(h.cov i).mpr ⟨x, List.mem_cons_of_mem _ hx, hi⟩, fun z => ?_⟩⟩⟩
  · obtain ⟨x, hx, hi⟩ := (h.cov i).mp h1
    rcases List.mem_cons.mp hx with rfl | hx
    · exact absurd hi h2
    · exact ⟨x, hx, hi⟩
  · exact absurd (p1 x hx i z i hi) Rat.lt_irrefl
theorem Dec.head {P : Nat → Prop} {r : Nat → Rat} {g : List Nat} {A : List (List Nat)} (h : Dec P r (g :: A)) (i : Nat) : i ∈ g ↔ P i ∧ ∀ j, P j → r j ≤ r i := by
  obtain ⟨p1, _⟩ := List.pairwise_cons.mp h.desc
  constructor
  · intro hi
    refine ⟨(h.cov i).mpr ⟨g, List.mem_cons_self, hi⟩, fun j hj => ?_⟩
    obtain ⟨x, hx, hj⟩ := (h.cov j).mp hj
    rcases List.mem_cons.mp hx with rfl | hx
    · rw [h.same x List.mem_cons_self j hj i hi]
      exact Rat.le_refl
    · exact Rat.le_of_lt (p1 x hx i hi j hj)
  · rintro ⟨h1, h2⟩
    obtain ⟨x, hx, hi⟩ := (h.cov i).mp h1
    rcases List.mem_cons.mp hx with rfl | hx
    · exact hi
    · exfalso
      cases hg : g with
      | nil => exact h.ne g List.mem_cons_self hg
      | cons k t =>
        have hk : k ∈ g := by rw [hg]; exact List.mem_cons_self
        have a := p1 x hx k hk i hi
        have b := h2 k ((h.cov k).mpr ⟨g, List.mem_cons_self, hk⟩)
        grind
theorem Dec.uniq : ∀ {A B : List (List Nat)} {P : Nat → Prop} {r : Nat → Rat}, Dec P r A → Dec P r B → A = B
  | [], [], _, _, _, _ => rfl
  | [], h :: B, P, r, a, b => by
    exfalso
    cases hh : h with
    | nil => exact b.ne h List.mem_cons_self hh
    | cons k t =>
      have := (b.cov k).mpr ⟨h, List.mem_cons_self, by rw [hh]; exact List.mem_cons_self⟩
      obtain ⟨x, hx, _⟩ := (a.cov k).mp this
      exact nomatch hx
  | g :: A, [], P, r, a, b => by
    exfalso
    cases hh : g with
    | nil => exact a.ne g List.mem_cons_self hh
    | cons k t =>
      have := (a.cov k).mpr ⟨g, List.mem_cons_self, by rw [hh]; exact List.mem_cons_self⟩
      obtain ⟨x, hx, _⟩ := (b.cov k).mp this
      exact nomatch hx
  | g :: A, h :: B, P, r, a, b => by
    have e : g = h := asc_ext (a.asc g List.mem_cons_self) (b.asc h List.mem_cons_self) fun i => (a.head i).trans (b.head i).symm
    subst e
    rw [Dec.uniq a.tail b.tail]
theorem Dec.iso {P : Nat → Prop} {r s : Nat → Rat} {A : List (List Nat)} (h : Dec P s A) (f : ∀ i j, P i → P j → ((s i < s j → r i < r j) ∧ (s i = s j → r i = r j))) : Dec P r A :=
  have p : ∀ g ∈ A, ∀ i ∈ g, P i := fun g hg i hi => (h.cov i).mpr ⟨g, hg, hi⟩
  ⟨h.ne, h.asc, fun g hg i hi j hj => (f i j (p g hg i hi) (p g hg j hj)).2 (h.same g hg i hi j hj), List.Pairwise.imp_of_mem (fun {g h'} hg hh x i hi j hj => (f j i (p h' hh j hj) (p g hg i hi)).1 (x i hi j hj)) h.desc, h.cov⟩
section
variable {its : List (Int × Int)} {rls : List (Nat × Nat)} {r : Nat → Rat}
theorem lev_dec (ok : PnOk its rls) : Dec (· < its.length) (bestR its rls) ((levD its rls).map (·.2)) := by
  have L := levD_ok ok
  have val : ∀ x ∈ levD its rls, ∀ i ∈ x.2, bestR its rls i = avR its x.2 := fun x hx i hi => by
    unfold bestR
    rw [L.rat hx hi, (L.vals ok hx).2]
  refine ⟨fun g hg => ?_, fun g hg => ?_, fun g hg i hi j hj => ?_, ?_, fun i => ⟨fun hi => ?_, fun ⟨g, hg, hi⟩ => ?_⟩⟩
  · obtain ⟨x, hx, rfl⟩ := List.mem_map.mp hg
    exact (L.each x hx).2.1
  · obtain ⟨x, hx, rfl⟩ := List.mem_map.mp hg
    exact (L.each x hx).2.2.1
  · obtain ⟨x, hx, rfl⟩ := List.mem_map.mp hg
    rw [val x hx i hi, val x hx j hj]
  · exact List.pairwise_map.mpr (List.Pairwise.imp_of_mem (fun {x y} hx hy h i hi j hj => by rw [val x hx i hi, val y hy j hj]; exact h.1) L.desc)
  · obtain ⟨x, hx, h⟩ := L.at hi
    exact ⟨x.2, List.mem_map.mpr ⟨x, hx, rfl⟩, h⟩
  · obtain ⟨x, hx, rfl⟩ := List.mem_map.mp hg
    exact ((L.each x hx).2.2.2 i hi).1
/-- marks moved along the line from the best rating through them, all multiplied -/
theorem Best.line (b : Best its rls r) {its' : List (Int × Int)} {L F : Rat} (hL : 0 < L) (hF : 0 ≤ F) (hl : its'.length = its.length) (hw : ∀ i, i < its.length → Wt its' i = Wt its i) (hm : ∀ i, i < its.length → Mk its' i = L * r i + F * (Mk its i * L - L * r i)) : Best its' rls fun i => L * r i := by
  have e : ∀ i, i < its.length → Fo its' (fun i => L * r i) i = F * L * Fo its r i := fun i hi => by
    unfold Fo
    rw [hw i hi, hm i hi]
    grind
  have FL : 0 ≤ F * L := Rat.mul_nonneg hF (Rat.le_of_lt hL)
  refine ⟨fun q hq => Rat.mul_le_mul_of_nonneg_left (b.obey q hq) (Rat.le_of_lt hL), fun g hg => ?_, fun c => ?_⟩
  · rw [hl] at hg
    rw [rs_congr (h := fun i => F * L * Fo its r i) fun i hi => e i ((mem_upsets.mp hg).1 i hi), rs_mul]
    have := Rat.mul_le_mul_of_nonneg_left (b.up g hg) FL
    grind
  · rw [hl, rs_congr (h := fun i => F * L * Fo its r i) fun i hi => e i (List.mem_range.mp (List.mem_filter.mp hi).1), rs_mul]
    have e2 : (List.range its.length).filter (fun i => decide (L * r i = c)) = (List.range its.length).filter fun i => decide (r i = c / L) := List.filter_congr fun i _ => decide_eq_decide.mpr ⟨fun h => by grind, fun h => by grind⟩
    rw [e2, b.lev]
    grind
end
/-! ### sizes -/
theorem cost_szf {b : Nat} : ∀ (ps : List ((Int × Int) × (Int × Int))) (c : Int × Int) (a : Nat), Fr.Sz a c → (∀ p ∈ ps, p.1.1.natAbs < 2 ^ 60 ∧ p.1.2.natAbs < 2 ^ 60 ∧ Fr.Sz b p.2) → Fr.Sz (a + (2 * b + 200) * ps.length) (ps.foldl cstep c)
  | [], c, a, hc, _ => by simpa using hc
  | p :: ps, c, a, hc, h => by
    obtain ⟨h1, h2, h3⟩ := h p List.mem_cons_self
    have sd := Fr.sub_sz h3 (sz1 h1 (by decide))
    have st : Fr.Sz (a + (2 * b + 200)) (cstep c p) := (Fr.add_sz hc (Fr.mul_sz (sz1 h2 (by decide)) (Fr.mul_sz sd sd))).mono (by omega)
    have := cost_szf ps _ _ st fun q hq => h q (List.mem_cons_of_mem _ hq)
    rw [List.foldl_cons, List.length_cons, Nat.mul_succ]
    exact this.mono (by omega)
theorem costF_sz {its rt : List (Int × Int)} {b : Nat} (h1 : ∀ q ∈ its, q.1.natAbs < 2 ^ 60 ∧ q.2.natAbs < 2 ^ 60) (h2 : ∀ r ∈ rt, Fr.Sz b r) (hl : its.length ≤ 8) : Fr.Sz (1 + (2 * b + 200) * 8) (costF its rt) := by
  refine (cost_szf (b := b) (List.zip its rt) (0, 1) 1 ⟨by decide, by decide⟩ fun p hp => ⟨(h1 _ (zip_mem2 hp).1).1, (h1 _ (zip_mem2 hp).1).2, h2 _ (zip_mem2 hp).2⟩).mono ?_
  have : (List.zip its rt).length ≤ 8 := by rw [List.length_zip]; omega
  have := Nat.mul_le_mul_left (2 * b + 200) this
  omega
theorem wgt6 {its : List (Int × Int)} (h : ∀ q ∈ its, (-100 ≤ q.1 ∧ q.1 ≤ 100) ∧ 1 ≤ q.2 ∧ q.2 ≤ 6) : ∀ {g : List Nat}, (∀ i ∈ g, i < its.length) → wgt its g ≤ 6 * g.length ∧ (0 ≤ wgt its g) ∧ wsum its g ≤ 100 * wgt its g ∧ -(100 * wgt its g) ≤ wsum its g
  | [], _ => by simp [wgt, wsum]
  | i :: g, hi => by
    obtain ⟨a, a0, b, c⟩ := wgt6 h (g := g) fun j hj => hi j (List.mem_cons_of_mem _ hj)
    obtain ⟨⟨q1, q2⟩, q3, q4⟩ := h _ (itm_mem (hi i List.mem_cons_self))
    have e1 : wgt its (i :: g) = (itm its i).2 + wgt its g := by unfold wgt; rw [List.map_cons, List.sum_cons]
    have e2 : wsum its (i :: g) = (itm its i).2 * (itm its i).1 + wsum its g := by unfold wsum; rw [List.map_cons, List.sum_cons]
    have m1 : (itm its i).2 * (itm its i).1 ≤ (itm its i).2 * 100 := Int.mul_le_mul_of_nonneg_left q2 (by omega)
    have m2 : (itm its i).2 * (-100) ≤ (itm its i).2 * (itm its i).1 := Int.mul_le_mul_of_nonneg_left q1 (by omega)
    rw [e1, e2, List.length_cons]
    refine ⟨by omega, by omega, by omega, by omega⟩
theorem best_small {its : List (Int × Int)} {rls : List (Nat × Nat)} (ok : PnOk its rls) (l8 : its.length ≤ 8) (h : ∀ q ∈ its, (-100 ≤ q.1 ∧ q.1 ≤ 100) ∧ 1 ≤ q.2 ∧ q.2 ≤ 6) {i : Nat} (hi : i < its.length) : 1 ≤ (ratL (levD its rls) i).2 ∧ (ratL (levD its rls) i).2 < 64 ∧ (ratL (levD its rls) i).1 ≤ 100 * (ratL (levD its rls) i).2 ∧ -(100 * (ratL (levD its rls) i).2) ≤ (ratL (levD its rls) i).1 := by
  have L := levD_ok ok
  obtain ⟨x, hx, hxi⟩ := L.at hi
  obtain ⟨e1, e2, e3, e4⟩ := L.each x hx
  have gi : ∀ j ∈ x.2, j < its.length := fun j hj => (e4 j hj).1
  rw [L.rat hx hxi, e1]
  obtain ⟨a, a0, b, c⟩ := wgt6 h gi
  have gl := up_short e3 gi
  have w := ok.wposI gi e2
  have f : Fr.IsF (avF its x.2) := (avF_val ok gi e2).1
  have m1 : (avF its x.2).1 * (Int.gcd (wsum its x.2) (wgt its x.2) : Int) = wsum its x.2 := Fr.red_mul1 _ _
  have m2 : (avF its x.2).2 * (Int.gcd (wsum its x.2) (wgt its x.2) : Int) = wgt its x.2 := Fr.red_mul2 _ _
  have g0 : 0 < (Int.gcd (wsum its x.2) (wgt its x.2) : Int) := Fr.gcd_pos (by omega)
  obtain ⟨G, hG⟩ : ∃ G, G = (Int.gcd (wsum its x.2) (wgt its x.2) : Int) := ⟨_, rfl⟩
  rw [← hG] at m1 m2 g0
  have f1 := f.1
  have le : (avF its x.2).2 ≤ wgt its x.2 := by
    have := Int.mul_le_mul_of_nonneg_left (show (1 : Int) ≤ G by omega) (show (0 : Int) ≤ (avF its x.2).2 by omega)
    omega
  refine ⟨by omega, by omega, ?_, ?_⟩
  · refine Int.le_of_mul_le_mul_right (a := G) ?_ g0
    rw [m1, Int.mul_assoc, m2]
    exact b
  · refine Int.le_of_mul_le_mul_right (a := G) ?_ g0
    rw [m1, Int.neg_mul, Int.mul_assoc, m2]
    exact c
end PM

namespace PM
open PySem PySem.Spec PyProof.Rows L2 RZ
/-! ### ratings of any kind; clipped ratings as data -/
def isFrs (n : Nat) : PyData → Bool
  | .tuple ds => decide (ds.length = n) && ds.all isFr
  | _ => false
theorem all_fr : ∀ {ds : List PyData}, ds.all isFr = true ↔ ∃ rt : List (Int × Int), ds = rt.map fd ∧ ∀ r ∈ rt, Fr.IsF r
  | [] => ⟨fun _ => ⟨[], rfl, fun r hr => nomatch hr⟩, fun _ => rfl⟩
  | d :: ds => by
    rw [List.all_cons, Bool.and_eq_true_iff, isFr_iff, all_fr]
    constructor
    · rintro ⟨⟨x, rfl, fx⟩, rt, rfl, h⟩
      exact ⟨x :: rt, rfl, fun r hr => by
        rcases List.mem_cons.mp hr with rfl | hr
        · exact fx
        · exact h r hr⟩
    · rintro ⟨rt, e, h⟩
      cases rt with
      | nil => cases e
      | cons x rt =>
        rw [List.map_cons] at e
        injection e with e1 e2
        exact ⟨⟨x, e1, h x List.mem_cons_self⟩, rt, e2, fun r hr => h r (List.mem_cons_of_mem _ hr)⟩
theorem isFrs_iff {n : Nat} {v : PyData} : isFrs n v = true ↔ ∃ rt : List (Int × Int), v = .tuple (rt.map fd) ∧ rt.length = n ∧ ∀ r ∈ rt, Fr.IsF r := by
  constructor
  · intro h
    cases v with
    | tuple ds =>
      obtain ⟨h1, h2⟩ := Bool.and_eq_true_iff.mp h
      obtain ⟨rt, rfl, h3⟩ := all_fr.mp h2
      exact ⟨rt, rfl, by simpa using of_decide_eq_true h1, h3⟩
    | _ => cases h
  · rintro ⟨rt, rfl, h1, h2⟩
    exact Bool.and_eq_true_iff.mpr ⟨decide_eq_true (by simpa using h1), all_fr.mpr ⟨rt, rfl, h2⟩⟩
theorem map_fd_inj : ∀ {xs ys : List (Int × Int)}, xs.map fd = ys.map fd → xs = ys
  | [], [], _ => rfl
  | [], _ :: _, h => by cases h
  | _ :: _, [], h => by cases h
  | x :: xs, y :: ys, h => by
    rw [List.map_cons, List.map_cons] at h
    injection h with h1 h2
    rw [fd_inj h1, map_fd_inj h2]
/-- a rating that obeys the rules, of any kind -/
def Obeys (its : List (Int × Int)) (rls : List (Nat × Nat)) (v : PyData) : Prop := ∃ rt : List (Int × Int), v = .tuple (rt.map fd) ∧ rt.length = its.length ∧ (∀ r ∈ rt, Fr.IsF r) ∧ ∀ q ∈ rls, Fr.val (rt.getD q.1 (0, 1)) ≤ Fr.val (rt.getD q.2 (0, 1))
def clF (lo hi x : Int × Int) : Int × Int := if Fr.cmp x lo < 0 then lo else if 0 < Fr.cmp x hi then hi else x
theorem cmp_neg {x y : Int × Int} (hx : 0 < x.2) (hy : 0 < y.2) : Fr.cmp x y < 0 ↔ Fr.val x < Fr.val y := by
  have := cmp_nonneg hx hy
  constructor
  · intro h
    have : ¬ Fr.val y ≤ Fr.val x := fun z => by have := this.mpr z; omega
    grind
  · intro h
    have : ¬ 0 ≤ Fr.cmp x y := fun z => by have := this.mp z; grind
    omega
theorem clF_val {lo hi x : Int × Int} (hl : 0 < lo.2) (hh : 0 < hi.2) (hx : 0 < x.2) : Fr.val (clF lo hi x) = clR (Fr.val lo) (Fr.val hi) (Fr.val x) := by
  unfold clF clR
  by_cases h1 : Fr.val x < Fr.val lo
  · rw [if_pos ((cmp_neg hx hl).mpr h1), if_pos h1]
  · rw [if_neg (fun z => h1 ((cmp_neg hx hl).mp z)), if_neg h1]
    by_cases h2 : Fr.val hi < Fr.val x
    · rw [if_pos ((cmp_pos hx hh).mpr h2), if_pos h2]
    · rw [if_neg (fun z => h2 ((cmp_pos hx hh).mp z)), if_neg h2]
theorem clF_cases (lo hi x : Int × Int) : clF lo hi x = lo ∨ clF lo hi x = hi ∨ clF lo hi x = x := by
  unfold clF
  split
  · exact .inl rfl
  · split
    · exact .inr (.inl rfl)
    · exact .inr (.inr rfl)
/-! ### forces -/
def fT (its rt : List (Int × Int)) (i : Nat) : Int × Int := ((itm its i).2 * ((itm its i).1 * (rt.getD i (0, 1)).2 - (rt.getD i (0, 1)).1), (rt.getD i (0, 1)).2)
def forceP (its rt : List (Int × Int)) (g : List Nat) : Int × Int := g.foldl (fun c i => Fr.add c (fT its rt i)) (0, 1)
theorem fT_ok {its rt : List (Int × Int)} {i : Nat} (m : (itm its i).1.natAbs < 2 ^ 31) (w : (itm its i).2.natAbs < 2 ^ 20) (r0 : 0 < (rt.getD i (0, 1)).2) (sr : Fr.Sz 110 (rt.getD i (0, 1))) : Fr.val (fT its rt i) = Fo its (fun i => Fr.val (rt.getD i (0, 1))) i ∧ Sz2 162 110 (fT its rt i) := by
  refine ⟨?_, ?_, sr.2⟩
  · have a := Fr.cast_ne (show (rt.getD i (0, 1)).2 ≠ 0 by omega)
    unfold fT Fo Wt Mk Fr.val
    simp only [Rat.intCast_mul, Rat.intCast_sub]
    grind
  · have a := Fr.mul_lt2 m sr.2
    have b := Fr.sub_lt2 a (Fr.lt_up sr.1 (show 110 ≤ 31 + 110 by decide))
    exact Fr.lt_up (Fr.mul_lt2 w b) (by decide)
theorem force_fold {its rt : List (Int × Int)} : ∀ (g : List Nat) (c : Int × Int) (k : Nat), Fr.IsF c → Sz2 (170 + 112 * k) (1 + 110 * k) c → (∀ i ∈ g, (itm its i).1.natAbs < 2 ^ 31 ∧ (itm its i).2.natAbs < 2 ^ 20 ∧ 0 < (rt.getD i (0, 1)).2 ∧ Fr.Sz 110 (rt.getD i (0, 1))) → Fr.IsF (g.foldl (fun c i => Fr.add c (fT its rt i)) c) ∧ Fr.val (g.foldl (fun c i => Fr.add c (fT its rt i)) c) = Fr.val c + rs (Fo its fun i => Fr.val (rt.getD i (0, 1))) g ∧ Sz2 (170 + 112 * (k + g.length)) (1 + 110 * (k + g.length)) (g.foldl (fun c i => Fr.add c (fT its rt i)) c)
  | [], c, k, hc, sc, _ => ⟨hc, by rw [List.foldl_nil, rs_nil]; grind, by simpa using sc⟩
  | i :: g, c, k, hc, sc, h => by
    obtain ⟨h1, h2, h3, h4⟩ := h i List.mem_cons_self
    obtain ⟨v, s⟩ := fT_ok h1 h2 h3 h4
    have s1 : Sz2 (170 + 112 * (k + 1)) (1 + 110 * (k + 1)) (Fr.add c (fT its rt i)) := (add_sz2 (n := 170 + 112 * k + 110) sc s (by omega) (by omega)).mono (by omega) (by omega)
    obtain ⟨g1, g2, g3⟩ := force_fold g (Fr.add c (fT its rt i)) (k + 1) (addP_isF (y := fT its rt i) hc.1 h3) s1 fun j hj => h j (List.mem_cons_of_mem _ hj)
    rw [show k + (i :: g).length = k + 1 + g.length by rw [List.length_cons]; omega]
    refine ⟨g1, ?_, g3⟩
    rw [List.foldl_cons, g2, addP_val (y := fT its rt i) hc.1 h3, v, rs_cons]
    grind
theorem force_ok {its rt : List (Int × Int)} {g : List Nat} (h : ∀ i ∈ g, (itm its i).1.natAbs < 2 ^ 31 ∧ (itm its i).2.natAbs < 2 ^ 20 ∧ 0 < (rt.getD i (0, 1)).2 ∧ Fr.Sz 110 (rt.getD i (0, 1))) : Fr.IsF (forceP its rt g) ∧ Fr.val (forceP its rt g) = rs (Fo its fun i => Fr.val (rt.getD i (0, 1))) g := by
  obtain ⟨h1, h2, _⟩ := force_fold g (0, 1) 0 Fr.zero_isF ⟨by show (0 : Int).natAbs < 2 ^ 170; decide, by show (1 : Int).natAbs < 2 ^ 1; decide⟩ h
  refine ⟨h1, ?_⟩
  rw [Fr.zero_val] at h2
  unfold forceP
  rw [h2]
  grind
theorem val_sgn {x : Int × Int} (h : 0 < x.2) : (0 < x.1 ↔ 0 < Fr.val x) ∧ (x.1 < 0 ↔ Fr.val x < 0) := by
  have a := Fr.lt_iff (x := (0, 1)) (y := x) (by show (0 : Int) < 1; decide) h
  have b := Fr.lt_iff (x := x) (y := (0, 1)) h (by show (0 : Int) < 1; decide)
  rw [Fr.zero_val] at a b
  refine ⟨⟨fun z => a.mp (by show 0 * x.2 < x.1 * 1; omega), fun z => ?_⟩, ⟨fun z => b.mp (by show x.1 * 1 < 0 * x.2; omega), fun z => ?_⟩⟩
  · have : 0 * x.2 < x.1 * 1 := a.mpr z
    omega
  · have : x.1 * 1 < 0 * x.2 := b.mpr z
    omega
end PM

namespace PM
open PySem PySem.Spec PyProof.Rows L2 RZ
section
variable {P : Program} {w : World} {K : PySem.W.Frag} {mg : Str → Option Value} {base : Heap}
def absI (z : Int) : Int := if z < 0 then -z else z
abbrev S__law_room : SpP := sp1 fun p k => ∃ (its : List (Int × Int)) (rls : List (Nat × Nat)), p = pnD its rls ∧ PanOk 8 its rls ∧ ∀ lo hi mo he : Int, (∀ q ∈ its, lo ≤ q.1 ∧ q.1 ≤ hi ∧ -mo ≤ q.1 ∧ q.1 ≤ mo ∧ q.2 ≤ he) → (∃ q ∈ its, q.1 = lo) → (∃ q ∈ its, q.1 = hi) → (mo = 1 ∨ ∃ q ∈ its, q.1 = mo ∨ q.1 = -mo) → (∃ q ∈ its, q.2 = he) → -1000000000 ≤ lo → hi ≤ 1000000000 → lo ≤ hi → 1 ≤ mo → mo ≤ 1000000000 → 1 ≤ he → he ≤ 1000000 → k (.d (.list [.int (-1000000000 - lo), .int (1000000000 - hi), .int (1000000000 / mo), .int (1000000 / he)]))
abbrev s__law_room : Stmt := topS 34
abbrev N__law_room : List Str := ["_law_panel_here", "_law_marks", "_law_most", "_law_heavy", "_law_mark", "_law_weight"]
abbrev P__law_room : List Str := ["_law_panel_here"]
theorem sc__law_room : FnScope N__law_room P__law_room (defScope s__law_room) := ⟨rfl, rfl, rfl, by decide +kernel, rfl, by decide +kernel, by decide +kernel⟩
set_option maxHeartbeats 8000000 in
theorem okD__law_room (d : IsDef K mg "_law_room" s__law_room P__law_room) (m_max : mg "max" = none) (m_min : mg "min" = none) (m_abs : mg "abs" = none) : Ok P w K mg base 1 "_law_room" s__law_room P__law_room (prP S__law_room) := by
  obtain ⟨f0_, fd0_, D⟩ := d
  refine ⟨f0_, fd0_, D, D.F.ok sc__law_room (fun vs H Q E h => ?_) (fun cdv A outer s H vs Q E hr h => ?_)⟩
  · obtain ⟨G, ds, k, _, rs, hS, _⟩ := h
    rw [rs.length]
    exact sp1_len hS
  · obtain ⟨G, ds, k, sub, rs, hS, KK⟩ := h
    refine ⟨_, (pss_cons (ps_setLc (i := 1) (own := [("_law_mark", 4), ("_law_weight", 5)]) (g := (gTup K 2 (gCons (gName 4) (gCons (gName 5) gNil)))) (by rfl) sc__law_room.nd rfl rfl (sw_true rfl rfl rfl (by decide +kernel)) (show PI _ _ _ (iSeq K _) from pi_seq (pe_ix (show IxR _ (rIx K) from ix_seq) (pv 0) pe_int (fun _ _ => rfl))) (blkOk_by (own := [("_law_mark", 4), ("_law_weight", 5)]) (N := N__law_room) (sc := defScope s__law_room) (by decide +kernel)) (fun _ _ _ _ _ => by exact (show PG _ _ (gTup K 2 _) from pg_tup (n := 2) (by rfl) (pgs_cons (pg_name (i := 4) sc__law_room.nd rfl (by first | exact .inl rfl | exact .inr rfl)) (pgs_cons (pg_name (i := 5) sc__law_room.nd rfl (by first | exact .inl rfl | exact .inr rfl)) pgs_nil)))) (fun _ _ _ _ _ => pts_nil) (fun _ _ _ _ _ => by exact (pv 4)))
      (pss_cons (ps_set (i := 2) sc__law_room.nd rfl (.inl rfl) (pe_callB (show CallR _ _ (rMax K) from cr_max rfl) (by rfl) m_max (by decide +kernel) (pa_cons (pe_op (show OpR _ _ (rAddA K) from op_addA) (pe_lst (pa_cons pe_int pa_nil)) (pe_lc (own := [("_law_mark", 4)]) (g := (gName 4)) (by rfl) sc__law_room.nd (show PI _ _ _ (iSeq K _) from pi_seq (pv 1)) (blkOk_by (own := [("_law_mark", 4)]) (N := N__law_room) (sc := defScope s__law_room) (by decide +kernel)) (fun _ _ _ _ _ => by exact (pg_name (i := 4) sc__law_room.nd rfl (by first | exact .inl rfl | exact .inr rfl))) (fun _ _ _ _ _ => pts_nil) (fun _ _ _ _ _ => by exact (pe_callB call_abs (by rfl) m_abs (by decide +kernel) (pa_cons (pv 4) pa_nil))))) pa_nil)))
      (pss_cons (ps_set (i := 3) sc__law_room.nd rfl (.inl rfl) (pe_callB (show CallR _ _ (rMax K) from cr_max rfl) (by rfl) m_max (by decide +kernel) (pa_cons (pe_lc (own := [("_law_mark", 4), ("_law_weight", 5)]) (g := (gTup K 2 (gCons (gName 4) (gCons (gName 5) gNil)))) (by rfl) sc__law_room.nd (show PI _ _ _ (iSeq K _) from pi_seq (pe_ix (show IxR _ (rIx K) from ix_seq) (pv 0) pe_int (fun _ _ => rfl))) (blkOk_by (own := [("_law_mark", 4), ("_law_weight", 5)]) (N := N__law_room) (sc := defScope s__law_room) (by decide +kernel)) (fun _ _ _ _ _ => by exact (show PG _ _ (gTup K 2 _) from pg_tup (n := 2) (by rfl) (pgs_cons (pg_name (i := 4) sc__law_room.nd rfl (by first | exact .inl rfl | exact .inr rfl)) (pgs_cons (pg_name (i := 5) sc__law_room.nd rfl (by first | exact .inl rfl | exact .inr rfl)) pgs_nil)))) (fun _ _ _ _ _ => pts_nil) (fun _ _ _ _ _ => by exact (pv 5))) pa_nil)))
      (pss_one (ps_ret (pe_lst (pa_cons (pe_op op_sub (pe_un un_neg (pe_op op_pow pe_int pe_int)) (pe_callB (show CallR _ _ (rMin K) from cr_min rfl) (by rfl) m_min (by decide +kernel) (pa_cons (pv 1) pa_nil))) (pa_cons (pe_op op_sub (pe_op op_pow pe_int pe_int) (pe_callB (show CallR _ _ (rMax K) from cr_max rfl) (by rfl) m_max (by decide +kernel) (pa_cons (pv 1) pa_nil))) (pa_cons (pe_op op_fdivZ (pe_op op_pow pe_int pe_int) (pv 2)) (pa_cons (pe_op op_fdivZ (pe_op op_pow pe_int pe_int) (pv 3)) pa_nil)))))))))), runP (N := N__law_room) (ss_seq (ss_asg (SL.se (sl_lc (vs := [4, 5]) (si_seq _ (se_op (os_ix _) (se_var 0) (se_int _))) (sg_tup _ (sg_cons (sg_name 4) (sg_cons (sg_name 5) sg_nil))) (gw_tup (gw_cons (gw_name (i := 4) (by decide)) (gm_name 4) (gm_cons (gm_name 5) gm_nil) (gw_cons (gw_name (i := 5) (by decide)) (gm_name 5) gm_nil gw_nil))) st_yes (se_var 4))) (sg_name 1))
      (ss_seq (ss_asg (se_cb (cs_max _) (sa_cons (se_op (os_addA _) (SL.se (sl_lst (sa_cons (se_int _) sa_nil))) (SL.se (sl_lc (vs := [4]) (si_seq _ (se_var 1)) (sg_name 4) (gw_name (i := 4) (by decide)) st_yes (se_cb cs_abs (sa_cons (se_var 4) sa_nil))))) sa_nil)) (sg_name 2))
      (ss_seq (ss_asg (se_cb (cs_max _) (sa_cons (SL.se (sl_lc (vs := [4, 5]) (si_seq _ (se_op (os_ix _) (se_var 0) (se_int _))) (sg_tup _ (sg_cons (sg_name 4) (sg_cons (sg_name 5) sg_nil))) (gw_tup (gw_cons (gw_name (i := 4) (by decide)) (gm_name 4) (gm_cons (gm_name 5) gm_nil) (gw_cons (gw_name (i := 5) (by decide)) (gm_name 5) gm_nil gw_nil))) st_yes (se_var 5))) sa_nil)) (sg_name 3))
      (ss_ret (SL.se (sl_lst (sa_cons (se_op os_sub (se_un us_neg (se_op os_pow (se_int _) (se_int _))) (se_cb (cs_min _) (sa_cons (se_var 1) sa_nil))) (sa_cons (se_op os_sub (se_op os_pow (se_int _) (se_int _)) (se_cb (cs_max _) (sa_cons (se_var 1) sa_nil))) (sa_cons (se_op os_div (se_op os_pow (se_int _) (se_int _)) (se_var 2)) (sa_cons (se_op os_div (se_op os_pow (se_int _) (se_int _)) (se_var 3)) sa_nil)))))))))) sub rs KK ?_⟩
    clear KK rs sub hr
    replace hS := sp1_inv hS
    obtain ⟨x1, rfl, hS⟩ := hS
    obtain ⟨its, rls, rfl, ok, hk⟩ := hS
    have n1 := ok.n1
    have n8 := ok.n8
    have its0 : its ≠ [] := fun z => by rw [z] at n1; exact absurd n1 (by decide)
    have p9 : (10 : Int) ^ Int.toNat 9 = 1000000000 := by decide
    have p6 : (10 : Int) ^ Int.toNat 6 = 1000000 := by decide
    have fdv : ∀ (T G : Int), 1 ≤ G → T.fdiv G = T / G := fun T G h => Int.fdiv_eq_ediv_of_nonneg T (by omega)
    refine ⟨_, _, rfl, rfl, lcM itD (fun q => .int q.1) its (by omega) (fun q hq C _ h => ⟨_, rfl, rfl, fun _ => h, fun z => nomatch z⟩) ?_⟩
    obtain ⟨ms, hms⟩ : ∃ ms, ms = its.map fun q => q.1 := ⟨_, rfl⟩
    have em : (its.map fun q => PyData.int q.1) = ms.map PyData.int := by rw [hms, List.map_map]; rfl
    have ml : ms.length = its.length := by rw [hms, List.length_map]
    have ms0 : ms ≠ [] := fun z => by rw [z] at ml; simp at ml; omega
    have mb : ∀ x ∈ ms, -1000000000 ≤ x ∧ x ≤ 1000000000 := fun x hx => by
      rw [hms] at hx
      obtain ⟨q, hq, rfl⟩ := List.mem_map.mp hx
      exact ok.mrk q hq
    rw [em]
    refine ⟨by show 1 ≤ 1000000; decide, lcM PyData.int (fun x => .int (absI x)) ms (by omega) (fun q hq C _ h => ⟨fun _ => h, fun z => nomatch z⟩) ?_⟩
    refine ⟨_, _, rfl, rfl, by rw [List.length_map]; show 1 + ms.length ≤ 1000000; omega, 1 :: ms.map absI, by show some (PyData.int 1 :: _) = some (PyData.int 1 :: _); rw [List.map_map]; rfl, (fun z => nomatch z), fun mo hmo hmm => ?_⟩
    refine ⟨_, _, rfl, rfl, lcM itD (fun q => .int q.2) its (by omega) (fun q hq C _ h => ⟨_, rfl, rfl, fun _ => h, fun z => nomatch z⟩) ⟨its.map fun q => q.2, by rw [List.map_map]; rfl, (fun z => its0 (List.map_eq_nil_iff.mp z)), fun he hhe hhm => ?_⟩⟩
    have moB : 1 ≤ mo ∧ mo ≤ 1000000000 := by
      refine ⟨hmm 1 List.mem_cons_self, ?_⟩
      rcases List.mem_cons.mp hmo with w | w
      · omega
      · obtain ⟨x, hx, rfl⟩ := List.mem_map.mp w
        have := mb x hx
        unfold absI
        split <;> omega
    have heB : 1 ≤ he ∧ he ≤ 1000000 := by
      obtain ⟨q, hq, rfl⟩ := List.mem_map.mp hhe
      exact ok.wt q hq
    refine ⟨⟨by decide, by decide, by decide⟩, ⟨ms, rfl, ms0, fun lo hlo hlm => ?_⟩⟩
    refine ⟨⟨by decide, by decide, by decide⟩, ⟨ms, rfl, ms0, fun hi hhi him => ?_⟩⟩
    have ofms : ∀ x ∈ ms, ∃ q ∈ its, q.1 = x := fun x hx => by
      rw [hms] at hx
      obtain ⟨q, hq, e⟩ := List.mem_map.mp hx
      exact ⟨q, hq, e⟩
    have moX : mo = 1 ∨ ∃ q ∈ its, q.1 = mo ∨ q.1 = -mo := by
      rcases List.mem_cons.mp hmo with y | y
      · exact .inl y
      · obtain ⟨x, hx, rfl⟩ := List.mem_map.mp y
        obtain ⟨q, hq, e⟩ := ofms x hx
        refine .inr ⟨q, hq, ?_⟩
        unfold absI
        split <;> omega
    have loB := mb lo hlo
    have hiB := mb hi hhi
    have := hk lo hi mo he (fun q hq => by
      have h1 : q.1 ∈ ms := by rw [hms]; exact List.mem_map.mpr ⟨q, hq, rfl⟩
      have h2 := hmm (absI q.1) (List.mem_cons_of_mem _ (List.mem_map.mpr ⟨q.1, h1, rfl⟩))
      have h3 := hhm q.2 (List.mem_map.mpr ⟨q, hq, rfl⟩)
      unfold absI at h2
      refine ⟨hlm _ h1, him _ h1, ?_, ?_, h3⟩ <;> split at h2 <;> omega) (ofms lo hlo) (ofms hi hhi) moX (by
        obtain ⟨q, hq, e⟩ := List.mem_map.mp hhe
        exact ⟨q, hq, e⟩) loB.1 hiB.2 (hlm _ hhi) moB.1 moB.2 heB.1 heB.2
    rw [← fdv _ _ moB.1, ← fdv _ _ heB.1, ← p9, ← p6] at this
    exact ⟨⟨by decide, by decide, by decide⟩, ⟨by omega, lg (b := 40) (by omega)⟩, ⟨by decide, by decide, by decide⟩, ⟨by omega, lg (b := 40) (by omega)⟩, by show 4 ≤ 1000000; decide, this⟩
/-! ### which amounts and factors are valid -/
theorem shift_iff {its : List (Int × Int)} (ok : ItsOk its) {lo hi : Int} (h : ∀ q ∈ its, lo ≤ q.1 ∧ q.1 ≤ hi) (el : ∃ q ∈ its, q.1 = lo) (eh : ∃ q ∈ its, q.1 = hi) (x : Int) : ItsOk (its.map fun q => (q.1 + x, q.2)) ↔ (-1000000000 - lo ≤ x ∧ x ≤ 1000000000 - hi) := by
  constructor
  · intro k
    obtain ⟨q, hq, e⟩ := el
    obtain ⟨q', hq', e'⟩ := eh
    have a := (k _ (List.mem_map.mpr ⟨q, hq, rfl⟩)).1
    have b := (k _ (List.mem_map.mpr ⟨q', hq', rfl⟩)).1
    dsimp only at a b
    omega
  · intro ⟨a, b⟩ q hq
    obtain ⟨q', hq', rfl⟩ := List.mem_map.mp hq
    have c := h q' hq'
    have d := ok q' hq'
    dsimp only
    exact ⟨by omega, d.2⟩
theorem scale_iff {its : List (Int × Int)} (ok : ItsOk its) {mo : Int} (h : ∀ q ∈ its, -mo ≤ q.1 ∧ q.1 ≤ mo) (m1 : 1 ≤ mo) (em : ∃ q ∈ its, q.1 = mo ∨ q.1 = -mo) {f : Int} (hf : 1 ≤ f) : ItsOk (its.map fun q => (q.1 * f, q.2)) ↔ f ≤ 1000000000 / mo := by
  rw [Int.le_ediv_iff_mul_le (by omega)]
  constructor
  · intro k
    obtain ⟨q, hq, e⟩ := em
    have a := (k _ (List.mem_map.mpr ⟨q, hq, rfl⟩)).1
    dsimp only at a
    rw [Int.mul_comm]
    rcases e with e | e <;> rw [e] at a
    · exact a.2
    · have := a.1
      rw [Int.neg_mul] at this
      omega
  · intro k q hq
    obtain ⟨q', hq', rfl⟩ := List.mem_map.mp hq
    have c := h q' hq'
    have d := ok q' hq'
    dsimp only
    have a1 := Int.mul_le_mul_of_nonneg_right c.2 (show 0 ≤ f by omega)
    have a2 := Int.mul_le_mul_of_nonneg_right c.1 (show 0 ≤ f by omega)
    rw [Int.neg_mul] at a2
    rw [Int.mul_comm] at k
    exact ⟨by omega, d.2⟩
theorem scale_zero {its : List (Int × Int)} (ok : ItsOk its) (h : ∀ q ∈ its, q.1 = 0) (f : Int) : ItsOk (its.map fun q => (q.1 * f, q.2)) := fun q hq => by
  obtain ⟨q', hq', rfl⟩ := List.mem_map.mp hq
  dsimp only
  rw [h q' hq', Int.zero_mul]
  exact ⟨by decide, (ok q' hq').2⟩
theorem weigh_iff {its : List (Int × Int)} (ok : ItsOk its) {he : Int} (h : ∀ q ∈ its, q.2 ≤ he) (h1 : 1 ≤ he) (em : ∃ q ∈ its, q.2 = he) {f : Int} (hf : 1 ≤ f) : ItsOk (its.map fun q => (q.1, q.2 * f)) ↔ f ≤ 1000000 / he := by
  rw [Int.le_ediv_iff_mul_le (by omega)]
  constructor
  · intro k
    obtain ⟨q, hq, e⟩ := em
    have a := (k _ (List.mem_map.mpr ⟨q, hq, rfl⟩)).2
    dsimp only at a
    rw [e] at a
    rw [Int.mul_comm]
    exact a.2
  · intro k q hq
    obtain ⟨q', hq', rfl⟩ := List.mem_map.mp hq
    have c := h q' hq'
    have d := ok q' hq'
    dsimp only
    have a1 := Int.mul_le_mul_of_nonneg_right c (show 0 ≤ f by omega)
    have a2 := Int.mul_le_mul_of_nonneg_right d.2.1 (show 0 ≤ f by omega)
    rw [Int.mul_comm] at k
    exact ⟨d.1, by omega, by omega⟩
def dueS (b : Bool) : Str := if b = true then "ok" else "OutOfRange"
theorem at_due (b : Bool) : atI [PyData.str "OutOfRange", .str "ok"] (if b = true then 1 else 0) = some (.str (dueS b)) := by cases b <;> rfl
theorem no_ok : ¬ (!eqB (.str "ok") (.str (dueS true))) = true := by decide
theorem no_out : ¬ (!eqB (.str "OutOfRange") (.str (dueS false))) = true := by decide
/-- what the amounts and factors are worth -/
structure Room4 (its : List (Int × Int)) (lo hi he : Int) : Prop where
  sh : ∀ x : Int, ItsOk (its.map fun q => (q.1 + x, q.2)) ↔ (lo ≤ x ∧ x ≤ hi)
  wg : ∀ f : Int, 1 ≤ f → (ItsOk (its.map fun q => (q.1, q.2 * f)) ↔ f ≤ he)
  lh : lo ≤ hi
  lo9 : -2000000000 ≤ lo
  hi9 : hi ≤ 2000000000
  h1 : 1 ≤ he
  h6 : he ≤ 1000000
abbrev S__law_amounts_right : SpW := swn1 fun j p k => ∃ (its : List (Int × Int)) (rls : List (Nat × Nat)), p = pnD its rls ∧ PanOk 8 its rls ∧ j + 10 < 900000 ∧ ∀ j', j' ≤ j + 3 → k (.d (.bool true)) j'
abbrev s__law_amounts_right : Stmt := topS 36
abbrev N__law_amounts_right : List Str := ["_law_drawn", "_law_panel_here", "_law_low", "_law_high", "_law_most", "_law_heavy", "_law_some", "_law_due", "_law_amount", "_law_factor", "_law_mark", "_law_weight"]
abbrev P__law_amounts_right : List Str := ["_law_drawn", "_law_panel_here"]
theorem sc__law_amounts_right : FnScope N__law_amounts_right P__law_amounts_right (defScope s__law_amounts_right) := ⟨rfl, rfl, rfl, by decide +kernel, rfl, by decide +kernel, by decide +kernel⟩
set_option maxHeartbeats 8000000 in
theorem okD__law_amounts_right {T : Tbs} {cA tP C_MarksError C_Full C_LastItem C_OutOfRange C_InvalidMark C_InvalidWeight C_NotFalling : Addr} (TB : LamX.TabB base mg cA tP) (hT : (tP, lamQ (locQ "_law_amounts_right")) ∈ T) (hu : ∀ p ∈ T, p.1 = tP → p.2 = lamQ (locQ "_law_amounts_right")) (ZZ : ErrK K mg C_MarksError C_Full C_LastItem C_OutOfRange C_InvalidMark C_InvalidWeight C_NotFalling) (d__law_refused : IsDef K mg "_law_refused" s__law_refused P__law_refused) (h__law_room : Ok P w K mg base 1 "_law_room" s__law_room P__law_room (prP S__law_room)) (h__law_size : Ok P w K mg base 2 "_law_size" s__law_size P__law_size (prN S__law_size)) (h_shift_panel : OkX P w K mg base 4 "shift_panel" s_shift_panel P_shift_panel (prX C_OutOfRange S_shift_panel)) (h_scale_panel : OkX P w K mg base 4 "scale_panel" s_scale_panel P_scale_panel (prX C_OutOfRange S_scale_panel)) (h_weigh_panel : OkX P w K mg base 4 "weigh_panel" s_weigh_panel P_weigh_panel (prX C_OutOfRange S_weigh_panel)) (m_int : mg "int" = none) (d : IsDefC K mg "_law_amounts_right" s__law_amounts_right P__law_amounts_right cA) : Ok P w K mg base 7 "_law_amounts_right" s__law_amounts_right P__law_amounts_right (prW T S__law_amounts_right) := by
  obtain ⟨f0_, fd0_, D, code⟩ := d
  obtain ⟨gR_, fdR_, D__law_refused⟩ := d__law_refused
  obtain ⟨f__law_room, fd__law_room, ⟨F__law_room, b__law_room, g__law_room⟩, G__law_room⟩ := h__law_room
  obtain ⟨f__law_size, fd__law_size, ⟨F__law_size, b__law_size, g__law_size⟩, G__law_size⟩ := h__law_size
  obtain ⟨f_shift_panel, fd_shift_panel, ⟨F_shift_panel, b_shift_panel, g_shift_panel⟩, G_shift_panel⟩ := h_shift_panel
  obtain ⟨f_scale_panel, fd_scale_panel, ⟨F_scale_panel, b_scale_panel, g_scale_panel⟩, G_scale_panel⟩ := h_scale_panel
  obtain ⟨f_weigh_panel, fd_weigh_panel, ⟨F_weigh_panel, b_weigh_panel, g_weigh_panel⟩, G_weigh_panel⟩ := h_weigh_panel
  refine ⟨f0_, fd0_, D, fun_okC D.F code sc__law_amounts_right (fun vs H Q E h => ?_) (fun A outer s H vs Q E hr h => ?_)⟩
  · obtain ⟨G, a, c, r, j, Cs, ds, k, _, _, _, _, _, rs, hS, _⟩ := h
    rw [rs.length]
    exact swn1_len hS
  · obtain ⟨G, a, c, r, j, Cs, ds, k, dr, kt, gn, dj, sub, rs, hS, KK⟩ := h
    refine ⟨_, (pss_cons (ps_asg (pe_call G__law_room (hr.mono (by omega)) (by rfl) g__law_room F__law_room.kp b__law_room .nil pass0 (pa_cons (pv 1) pa_nil)) (show PG _ _ (gUnl K 4 _) from pg_unl (n := 4) (by rfl) (pgs_cons (pg_name (i := 2) sc__law_amounts_right.nd rfl (.inl rfl)) (pgs_cons (pg_name (i := 3) sc__law_amounts_right.nd rfl (.inl rfl)) (pgs_cons (pg_name (i := 4) sc__law_amounts_right.nd rfl (.inl rfl)) (pgs_cons (pg_name (i := 5) sc__law_amounts_right.nd rfl (.inl rfl)) pgs_nil))))))
      (pss_cons (ps_if (pt_cmpR (show OpR _ _ (rEqUL K) from op_eqUL (Nat.lt_of_succ_lt (hu1 hr.units))) (pe_lc (own := [("_law_mark", 10), ("_law_weight", 11)]) (g := (gTup K 2 (gCons (gName 10) (gCons (gName 11) gNil)))) (by rfl) sc__law_amounts_right.nd (show PI _ _ _ (iSeq K _) from pi_seq (pe_ix (show IxR _ (rIx K) from ix_seq) (pv 1) pe_int (fun _ _ => rfl))) (blkOk_by (own := [("_law_mark", 10), ("_law_weight", 11)]) (N := N__law_amounts_right) (sc := defScope s__law_amounts_right) (by decide +kernel)) (fun _ _ _ _ _ => by exact (show PG _ _ (gTup K 2 _) from pg_tup (n := 2) (by rfl) (pgs_cons (pg_name (i := 10) sc__law_amounts_right.nd rfl (by first | exact .inl rfl | exact .inr rfl)) (pgs_cons (pg_name (i := 11) sc__law_amounts_right.nd rfl (by first | exact .inl rfl | exact .inr rfl)) pgs_nil)))) (fun _ _ _ _ _ => (pts_one (pt_cmpR (show OpR _ _ (rNeA K) from op_neA hr.units) (pv 10) pe_int (nomark _)))) (fun _ _ _ _ _ => by exact (pv 10))) (pe_lst pa_nil) (nomark _)) (pss_one (ps_set (i := 4) sc__law_amounts_right.nd rfl (.inl rfl) (pe_op op_pow pe_int pe_int))) pss_nil)
      (pss_cons (ps_set (i := 6) sc__law_amounts_right.nd rfl (.inl rfl) (pe_lst (pa_cons (pe_op op_sub (pv 2) pe_int) (pa_cons (pv 2) (pa_cons pe_int (pa_cons (pv 3) (pa_cons (pe_op (show OpR _ _ (rAddA K) from op_addA) (pv 3) pe_int) (pa_cons (pe_op op_pow pe_int pe_int) (pa_cons (pe_un un_neg (pe_op op_pow pe_int pe_int)) (pa_cons (pe_op (show OpR _ _ (rMulA K) from op_mulA) pe_int (pe_op op_pow pe_int pe_int)) (pa_cons (pe_op (show OpR _ _ (rAddA K) from op_addA) (pv 2) (pe_call G__law_size (hr.mono (by omega)) (by rfl) g__law_size F__law_size.kp b__law_size .nil pass0 (pa_cons (pv 0) (pa_cons (pe_op op_sub (pv 3) (pv 2)) pa_nil)))) pa_nil)))))))))))
      (pss_cons (ps_for PassesOwn.never rfl (show PI _ _ _ (iSeq K _) from pi_seq (pv 6)) (pg_name (i := 8) sc__law_amounts_right.nd rfl (.inr rfl)) (pss_cons (ps_set (i := 7) sc__law_amounts_right.nd rfl (.inl rfl) (pe_ix (show IxR _ (rIx K) from ix_seq) (pe_lst (pa_cons pe_str (pa_cons pe_str pa_nil))) (pe_callTy call_int1 (by rfl) m_int (by decide +kernel) (pa_cons (pe_chain op_le op_le (pv 2) (pv 8) (pv 3)) pa_nil)) (fun _ _ => rfl)))
      (pss_one (ps_if (pt_cmpR (show OpR _ _ (rNeA K) from op_neA hr.units) (show PE _ _ (tLamC (lamQ (locQ "_law_amounts_right")) tP (TRef C_OutOfRange "OutOfRange") (fun E => tCallS (prX C_OutOfRange S_shift_panel) (WE fun cls d _ H => E cls d H) _)) from pe_lamC (k := 4) rfl D__law_refused (by rfl) sc__law_refused rfl (.inl rfl) (fun cdv => refused_gives (k := 0) (hr.mono (by omega)) ZZ.z ZZ.OutOfRange) TB rfl (hr.mono (by omega)) (LamX.lamS_by (show LamX.lamSB (defScope s__law_amounts_right) _ = true from by decide +kernel)) rfl (fun _ _ _ _ _ => rfl) (fun A outer s H E f n r2 => by exact (pe_callS G_shift_panel (r2.mono (by omega)) (by rfl) g_shift_panel F_shift_panel.kp b_shift_panel (fun σ => passAt (takes_of rfl rfl rfl rfl) σ) (pa_cons (pv 1) (pa_cons (pv 8) pa_nil))))) (pv 7) (nomark _)) (pss_one (ps_ret pe_bl)) pss_nil))))
      (pss_cons (ps_for PassesOwn.never rfl (show PI _ _ _ (iSeq K _) from pi_seq (pe_lst (pa_cons pe_int (pa_cons (pv 4) (pa_cons (pe_op (show OpR _ _ (rAddA K) from op_addA) (pv 4) pe_int) (pa_cons (pv 5) (pa_cons (pe_op (show OpR _ _ (rAddA K) from op_addA) (pv 5) pe_int) (pa_cons (pe_op op_pow pe_int pe_int) (pa_cons pe_int (pa_cons (pe_op op_pow pe_int pe_int) pa_nil)))))))))) (pg_name (i := 9) sc__law_amounts_right.nd rfl (.inr rfl)) (pss_one (ps_if (pt_cmpR op_lt (pv 9) (pe_op op_pow pe_int pe_int) (nomark _)) (pss_cons (ps_set (i := 7) sc__law_amounts_right.nd rfl (.inl rfl) (pe_ix (show IxR _ (rIx K) from ix_seq) (pe_lst (pa_cons pe_str (pa_cons pe_str pa_nil))) (pe_callTy call_int1 (by rfl) m_int (by decide +kernel) (pa_cons (pe_cmpR op_le (pv 9) (pv 4) (nomark _)) pa_nil)) (fun _ _ => rfl)))
      (pss_cons (ps_if (pt_cmpR (show OpR _ _ (rNeA K) from op_neA hr.units) (show PE _ _ (tLamC (lamQ (locQ "_law_amounts_right")) tP (TRef C_OutOfRange "OutOfRange") (fun E => tCallS (prX C_OutOfRange S_scale_panel) (WE fun cls d _ H => E cls d H) _)) from pe_lamC (k := 4) rfl D__law_refused (by rfl) sc__law_refused rfl (.inl rfl) (fun cdv => refused_gives (k := 0) (hr.mono (by omega)) ZZ.z ZZ.OutOfRange) TB rfl (hr.mono (by omega)) (LamX.lamS_by (show LamX.lamSB (defScope s__law_amounts_right) _ = true from by decide +kernel)) rfl (fun _ _ _ _ _ => rfl) (fun A outer s H E f n r2 => by exact (pe_callS G_scale_panel (r2.mono (by omega)) (by rfl) g_scale_panel F_scale_panel.kp b_scale_panel (fun σ => passAt (takes_of rfl rfl rfl rfl) σ) (pa_cons (pv 1) (pa_cons (pv 9) pa_nil))))) (pv 7) (nomark _)) (pss_one (ps_ret pe_bl)) pss_nil)
      (pss_cons (ps_set (i := 7) sc__law_amounts_right.nd rfl (.inl rfl) (pe_ix (show IxR _ (rIx K) from ix_seq) (pe_lst (pa_cons pe_str (pa_cons pe_str pa_nil))) (pe_callTy call_int1 (by rfl) m_int (by decide +kernel) (pa_cons (pe_cmpR op_le (pv 9) (pv 5) (nomark _)) pa_nil)) (fun _ _ => rfl)))
      (pss_one (ps_if (pt_cmpR (show OpR _ _ (rNeA K) from op_neA hr.units) (show PE _ _ (tLamC (lamQ (locQ "_law_amounts_right")) tP (TRef C_OutOfRange "OutOfRange") (fun E => tCallS (prX C_OutOfRange S_weigh_panel) (WE fun cls d _ H => E cls d H) _)) from pe_lamC (k := 4) rfl D__law_refused (by rfl) sc__law_refused rfl (.inl rfl) (fun cdv => refused_gives (k := 0) (hr.mono (by omega)) ZZ.z ZZ.OutOfRange) TB rfl (hr.mono (by omega)) (LamX.lamS_by (show LamX.lamSB (defScope s__law_amounts_right) _ = true from by decide +kernel)) rfl (fun _ _ _ _ _ => rfl) (fun A outer s H E f n r2 => by exact (pe_callS G_weigh_panel (r2.mono (by omega)) (by rfl) g_weigh_panel F_weigh_panel.kp b_weigh_panel (fun σ => passAt (takes_of rfl rfl rfl rfl) σ) (pa_cons (pv 1) (pa_cons (pv 9) pa_nil))))) (pv 7) (nomark _)) (pss_one (ps_ret pe_bl)) pss_nil))))) pss_nil)))
      (pss_one (ps_ret pe_bl))))))), runW (N := N__law_amounts_right) (ssm_seq (ss_asg (se_callP (sa_cons (se_var 1) sa_nil)) (sg_unl _ (sg_cons (sg_name 2) (sg_cons (sg_name 3) (sg_cons (sg_name 4) (sg_cons (sg_name 5) sg_nil))))))
      (ssm_seq (ss_if (st_test (se_op (os_eqUL _) (SL.se (sl_lc (vs := [10, 11]) (si_seq _ (se_op (os_ix _) (se_var 1) (se_int _))) (sg_tup _ (sg_cons (sg_name 10) (sg_cons (sg_name 11) sg_nil))) (gw_tup (gw_cons (gw_name (i := 10) (by decide)) (gm_name 10) (gm_cons (gm_name 11) gm_nil) (gw_cons (gw_name (i := 11) (by decide)) (gm_name 11) gm_nil gw_nil))) (st_test (se_op (os_ne _) (se_var 10) (se_int _))) (se_var 10))) (SL.se (sl_lst sa_nil)))) (ss_asg (se_op os_pow (se_int _) (se_int _)) (sg_name 4)) ss_nil)
      (ssm_seq (ss_asg (SL.se (sl_lst (sa_cons (se_op os_sub (se_var 2) (se_int _)) (sa_cons (se_var 2) (sa_cons (se_int _) (sa_cons (se_var 3) (sa_cons (se_op (os_addA _) (se_var 3) (se_int _)) (sa_cons (se_op os_pow (se_int _) (se_int _)) (sa_cons (se_un us_neg (se_op os_pow (se_int _) (se_int _))) (sa_cons (se_op (os_mulA _) (se_int _) (se_op os_pow (se_int _) (se_int _))) (sa_cons (se_op (os_addA _) (se_var 2) (se_callN (sa_cons (se_var 0) (sa_cons (se_op os_sub (se_var 3) (se_var 2)) sa_nil)))) sa_nil))))))))))) (sg_name 6))
      (ssm_seq (ss_for (si_seq _ (se_var 6)) (sg_name 8) (ss_seq (ss_asg (se_op (os_ix _) (SL.se (sl_lst (sa_cons (se_str _) (sa_cons (se_str _) sa_nil)))) (se_cb cs_int1 (sa_cons (se_chain os_le os_le (se_var 2) (se_var 8) (se_var 3)) sa_nil))) (sg_name 7))
      (ss_if (st_test (se_op (os_ne _) (se_lamC hT hu (sa_cons (se_var 1) (sa_cons (se_var 8) sa_nil))) (se_var 7))) (ss_ret (se_bl _)) ss_nil)))
      (ssm_seq (ss_for (si_seq _ (SL.se (sl_lst (sa_cons (se_int _) (sa_cons (se_var 4) (sa_cons (se_op (os_addA _) (se_var 4) (se_int _)) (sa_cons (se_var 5) (sa_cons (se_op (os_addA _) (se_var 5) (se_int _)) (sa_cons (se_op os_pow (se_int _) (se_int _)) (sa_cons (se_int _) (sa_cons (se_op os_pow (se_int _) (se_int _)) sa_nil))))))))))) (sg_name 9) (ss_if (st_test (se_op os_lt (se_var 9) (se_op os_pow (se_int _) (se_int _)))) (ss_seq (ss_asg (se_op (os_ix _) (SL.se (sl_lst (sa_cons (se_str _) (sa_cons (se_str _) sa_nil)))) (se_cb cs_int1 (sa_cons (se_op os_le (se_var 9) (se_var 4)) sa_nil))) (sg_name 7))
      (ss_seq (ss_if (st_test (se_op (os_ne _) (se_lamC hT hu (sa_cons (se_var 1) (sa_cons (se_var 9) sa_nil))) (se_var 7))) (ss_ret (se_bl _)) ss_nil)
      (ss_seq (ss_asg (se_op (os_ix _) (SL.se (sl_lst (sa_cons (se_str _) (sa_cons (se_str _) sa_nil)))) (se_cb cs_int1 (sa_cons (se_op os_le (se_var 9) (se_var 5)) sa_nil))) (sg_name 7))
      (ss_if (st_test (se_op (os_ne _) (se_lamC hT hu (sa_cons (se_var 1) (sa_cons (se_var 9) sa_nil))) (se_var 7))) (ss_ret (se_bl _)) ss_nil)))) ss_nil))
      (ssm_ret (se_bl _))))))) dr kt gn dj sub rs KK ?_⟩
    clear KK rs sub gn dj kt dr hr TB ZZ
    replace hS := swn1_inv hS
    obtain ⟨x1, rfl, hS⟩ := hS
    obtain ⟨its, rls, rfl, ok, hj, hk⟩ := hS
    have n1 := ok.n1
    have n8 := ok.n8
    have ok2 : ItsOk its := fun q hq => ⟨ok.mrk q hq, ok.wt q hq⟩
    have p30 : (10 : Int) ^ Int.toNat 30 = 1000000000000000000000000000000 := by decide
    refine seqMN (fun e m => ∃ lo hi mo he : Int, Room4 its lo hi he ∧ (∀ f : Int, 1 ≤ f → (∃ q ∈ its, q.1 ≠ 0) → (ItsOk (its.map fun q => (q.1 * f, q.2)) ↔ f ≤ mo)) ∧ 1 ≤ mo ∧ mo ≤ 1000000000 ∧ m = [.drw j, .any (kTab T Cs [])] ∧ e = [some (.p 0), some (.d (pnD its rls)), some (.d (.int lo)), some (.d (.int hi)), some (.d (.int mo)), some (.d (.int he)), none, none, none, none, none, none]) (fun C hC => ⟨its, rls, rfl, ok, fun lo hi mo he h1 h2 h3 h4 h5 h6 h7 h8 h9 h10 h11 h12 => ?_⟩) (fun e m hJ => ?_)
    · have mo9 := Int.ediv_le_self (b := mo) (show (0 : Int) ≤ 1000000000 by decide)
      have mo1 : 1 ≤ 1000000000 / mo := by rw [Int.le_ediv_iff_mul_le (by omega)]; omega
      have he9 := Int.ediv_le_self (b := he) (show (0 : Int) ≤ 1000000 by decide)
      have he1 : 1 ≤ 1000000 / he := by rw [Int.le_ediv_iff_mul_le (by omega)]; omega
      obtain ⟨ql, hql, el⟩ := h2
      obtain ⟨qh, hqh, eh⟩ := h3
      have bl := ok.mrk ql hql
      have bh := ok.mrk qh hqh
      refine ⟨_, rfl, rfl, hC _ _ ⟨_, _, _, _, ⟨shift_iff ok2 (fun q hq => ⟨(h1 q hq).1, (h1 q hq).2.1⟩) ⟨ql, hql, el⟩ ⟨qh, hqh, eh⟩, fun f hf => weigh_iff ok2 (fun q hq => (h1 q hq).2.2.2.2) h11 h5 hf, by omega, by omega, by omega, he1, he9⟩, fun f hf nz => scale_iff ok2 (fun q hq => ⟨(h1 q hq).2.2.1, (h1 q hq).2.2.2.1⟩) h9 ?_ hf, mo1, mo9, rfl, rfl⟩⟩
      rcases h4 with rfl | h4
      · obtain ⟨q, hq, nz⟩ := nz
        have := h1 q hq
        exact ⟨q, hq, by omega⟩
      · exact h4
    obtain ⟨lo, hi, mo, he, R, hsc, m1, m9, rfl, rfl⟩ := hJ
    refine seqMN (fun e m => ∃ mo : Int, (∀ f : Int, 1 ≤ f → f < 1000000000000000000000000000000 → (ItsOk (its.map fun q => (q.1 * f, q.2)) ↔ f ≤ mo)) ∧ 1 ≤ mo ∧ m = [.drw j, .any (kTab T Cs [])] ∧ e = [some (.p 0), some (.d (pnD its rls)), some (.d (.int lo)), some (.d (.int hi)), some (.d (.int mo)), some (.d (.int he)), none, none, none, none, none, none]) (fun C hC => ?_) (fun e m hJ => ?_)
    · refine ⟨_, _, rfl, rfl, lcFM itD (fun q => .int q.1) (fun q => !decide (q.1 = 0)) its (by omega) (fun q hq D D0 g1 g0 => ⟨_, rfl, rfl, trivial, fun z => g1 z, fun z => g0 z⟩) ?_⟩
      refine ⟨by show 0 ≤ 1000000; decide, fun z => ⟨⟨by decide, by decide, by decide⟩, hC _ _ ⟨(10 : Int) ^ Int.toNat 30, fun f hf hf2 => ?_, by rw [p30]; decide, rfl, rfl⟩⟩, fun z => hC _ _ ⟨mo, fun f hf hf2 => hsc f hf ?_, m1, rfl, rfl⟩⟩
      · rw [p30]
        refine ⟨fun _ => by omega, fun _ => scale_zero ok2 (fun q hq => ?_) f⟩
        have z : (List.map (fun q : Int × Int => PyData.int q.1) (List.filter (fun q : Int × Int => !decide (q.1 = 0)) its)).isEmpty = true := z
        rw [List.isEmpty_iff, List.map_eq_nil_iff, List.filter_eq_nil_iff] at z
        have := z q hq
        simpa using this
      · have z : (List.map (fun q : Int × Int => PyData.int q.1) (List.filter (fun q : Int × Int => !decide (q.1 = 0)) its)).isEmpty = false := z
        cases e : List.filter (fun q : Int × Int => !decide (q.1 = 0)) its with
        | nil => rw [e] at z; cases z
        | cons q r =>
          have hq : q ∈ List.filter (fun q : Int × Int => !decide (q.1 = 0)) its := by rw [e]; exact List.mem_cons_self
          obtain ⟨h1, h2⟩ := List.mem_filter.mp hq
          exact ⟨q, h1, by simpa using h2⟩
    obtain ⟨mo, hsc, m1, rfl, rfl⟩ := hJ
    have lh := R.lh
    have lo9 := R.lo9
    have hi9 := R.hi9
    have h1 := R.h1
    have h6 := R.h6
    refine seqMN (fun e m => ∃ (j' : Nat) (xs : List Int), j' ≤ j + 3 ∧ xs.length ≤ 1000 ∧ m = [.drw j', .any (kTab T Cs [])] ∧ e = [some (.p 0), some (.d (pnD its rls)), some (.d (.int lo)), some (.d (.int hi)), some (.d (.int mo)), some (.d (.int he)), some (.d (.list (xs.map PyData.int))), none, none, none, none, none]) (fun C hC => ?_) (fun e m hJ => ?_)
    · refine ⟨⟨by decide, by decide, by decide⟩, ⟨by decide, by decide, by decide⟩, ⟨by decide, by decide, by decide⟩, mw (a := 2) (b := 40) (by decide) (by decide), _, rfl, by omega, by omega, by omega, fun v v0 v1 => ?_⟩
      exact ⟨by show 9 ≤ 1000000; decide, hC _ _ ⟨j + 3, [lo - 1, lo, 0, hi, hi + 1, 10 ^ Int.toNat 29, -(10 ^ Int.toNat 29), 2 * 10 ^ Int.toNat 9, lo + v], by omega, by show 9 ≤ 1000; decide, rfl, rfl⟩⟩
    obtain ⟨j', xs, hj', xl, rfl, rfl⟩ := hJ
    refine seqMN (fun e m => ∃ (C2 : List Addr) (y7 y8 : Option DV), m = [.drw j', .any (kTab T Cs C2)] ∧ e = [some (.p 0), some (.d (pnD its rls)), some (.d (.int lo)), some (.d (.int hi)), some (.d (.int mo)), some (.d (.int he)), some (.d (.list (xs.map PyData.int))), y7, y8, none, none, none]) (fun C hC => ?_) (fun e m hJ => ?_)
    · refine forL PyData.int xs (fun done e m => ∃ (C2 : List Addr) (y7 y8 : Option DV), m = [.drw j', .any (kTab T Cs C2)] ∧ e = [some (.p 0), some (.d (pnD its rls)), some (.d (.int lo)), some (.d (.int hi)), some (.d (.int mo)), some (.d (.int he)), some (.d (.list (xs.map PyData.int))), y7, y8, none, none, none]) ⟨[], none, none, rfl, rfl⟩ (fun done x r e m hx hJ D hD => ?_) (fun e m hJ => hC _ _ hJ)
      obtain ⟨C2, y7, y8, rfl, rfl⟩ := hJ
      refine seqN (fun e m => ∃ b : Bool, (b = true ↔ (lo ≤ x ∧ x ≤ hi)) ∧ m = [.drw j', .any (kTab T Cs C2)] ∧ e = [some (.p 0), some (.d (pnD its rls)), some (.d (.int lo)), some (.d (.int hi)), some (.d (.int mo)), some (.d (.int he)), some (.d (.list (xs.map PyData.int))), some (.d (.str (dueS b))), some (.d (.int x)), none, none, none]) (fun C h => ?_) (fun e m hJ => ?_)
      · refine ⟨by show 2 ≤ 1000000; decide, fun z => ⟨_, _, rfl, at_due _, h _ _ ⟨_, ?_, rfl, rfl⟩⟩, fun z => ⟨_, _, rfl, at_due false, h _ _ ⟨false, ?_, rfl, rfl⟩⟩⟩
        · have z : lo ≤ x := of_decide_eq_true z
          rw [decide_eq_true_eq]
          exact ⟨fun y => ⟨z, y⟩, fun y => y.2⟩
        · have z : ¬ lo ≤ x := of_decide_eq_false z
          exact ⟨(fun y => nomatch y), fun y => absurd y.1 z⟩
      · obtain ⟨b, hb, rfl, rfl⟩ := hJ
        refine ⟨Cs, C2, rfl, fun C3 => ⟨its, rls, x, rfl, rfl, by omega, fun y => ?_, fun y => ?_⟩⟩
        · cases hb.2 ((R.sh x).1 y)
          exact ⟨trivial, fun z => absurd z no_ok, fun z => hD _ _ ⟨C3, _, _, rfl, rfl⟩⟩
        · have : b = false := by
            cases b with
            | false => rfl
            | true => exact absurd ((R.sh x).2 (hb.1 rfl)) y
          subst this
          exact ⟨trivial, fun z => absurd z no_out, fun z => hD _ _ ⟨C3, _, _, rfl, rfl⟩⟩
    obtain ⟨C2, y7, y8, rfl, rfl⟩ := hJ
    refine seqMN (fun e m => ∃ C2 : List Addr, m = [.drw j', .any (kTab T Cs C2)]) (fun C hC => ?_) (fun e m hJ => ?_)
    · refine ⟨⟨by decide, by decide, by decide⟩, ⟨by decide, by decide, by decide⟩, by show 8 ≤ 1000000; decide, ?_⟩
      refine forL_eq PyData.int [1, mo, mo + 1, he, he + 1, 10 ^ Int.toNat 29, 2, 10 ^ Int.toNat 6] rfl (fun done e m => ∃ (C2 : List Addr) (y7 y8 y9 : Option DV), m = [.drw j', .any (kTab T Cs C2)] ∧ e = [some (.p 0), some (.d (pnD its rls)), some (.d (.int lo)), some (.d (.int hi)), some (.d (.int mo)), some (.d (.int he)), some (.d (.list (xs.map PyData.int))), y7, y8, y9, none, none]) ⟨C2, y7, y8, none, rfl, rfl⟩ (fun done x r e m hx hJ D hD => ?_) (fun e m hJ => ?_)
      · obtain ⟨C2, y7, y8, y9, rfl, rfl⟩ := hJ
        have x1 : 1 ≤ x := by
          have mem : x ∈ [1, mo, mo + 1, he, he + 1, (10 : Int) ^ Int.toNat 29, 2, 10 ^ Int.toNat 6] := by rw [hx]; simp
          have p29 : (1 : Int) ≤ 10 ^ Int.toNat 29 := by decide
          have p6 : (1 : Int) ≤ 10 ^ Int.toNat 6 := by decide
          simp only [List.mem_cons, List.not_mem_nil, or_false] at mem
          rcases mem with h | h | h | h | h | h | h | h <;> omega
        refine ⟨⟨by decide, by decide, by decide⟩, fun z => ?_, fun z => hD _ _ ⟨C2, _, _, _, rfl, rfl⟩⟩
        have x30 : x < 1000000000000000000000000000000 := by
          have z : x < (10 : Int) ^ Int.toNat 30 := of_decide_eq_true z
          rw [p30] at z
          exact z
        have sz : ∀ q ∈ its, q.1.natAbs < 2 ^ 100 ∧ q.2.natAbs < 2 ^ 100 := fun q hq => by
          have := ok2 q hq
          omega
        have xz : x.natAbs < 2 ^ 200 := by omega
        refine seqN (fun e m => ∃ b : Bool, (b = true ↔ x ≤ mo) ∧ m = [.drw j', .any (kTab T Cs C2)] ∧ e = [some (.p 0), some (.d (pnD its rls)), some (.d (.int lo)), some (.d (.int hi)), some (.d (.int mo)), some (.d (.int he)), some (.d (.list (xs.map PyData.int))), some (.d (.str (dueS b))), y8, some (.d (.int x)), none, none]) (fun C h => ?_) (fun e m hJ => ?_)
        · exact ⟨by show 2 ≤ 1000000; decide, _, _, rfl, at_due _, h _ _ ⟨_, decide_eq_true_iff, rfl, rfl⟩⟩
        obtain ⟨b, hb, rfl, rfl⟩ := hJ
        refine seqN (fun e m => ∃ C3 : List Addr, m = [.drw j', .any (kTab T Cs C3)] ∧ e = [some (.p 0), some (.d (pnD its rls)), some (.d (.int lo)), some (.d (.int hi)), some (.d (.int mo)), some (.d (.int he)), some (.d (.list (xs.map PyData.int))), some (.d (.str (dueS b))), y8, some (.d (.int x)), none, none]) (fun C h => ?_) (fun e m hJ => ?_)
        · refine ⟨Cs, C2, rfl, fun C3 => ⟨its, rls, x, rfl, rfl, by omega, sz, xz, fun y => ?_, fun y => ?_⟩⟩
          · cases hb.2 ((hsc x x1 x30).1 y)
            exact ⟨trivial, fun z => absurd z no_ok, fun z => h _ _ ⟨C3, rfl, rfl⟩⟩
          · have : b = false := by
              cases b with
              | false => rfl
              | true => exact absurd ((hsc x x1 x30).2 (hb.1 rfl)) y
            subst this
            exact ⟨trivial, fun z => absurd z no_out, fun z => h _ _ ⟨C3, rfl, rfl⟩⟩
        obtain ⟨C3, rfl, rfl⟩ := hJ
        refine seqN (fun e m => ∃ b : Bool, (b = true ↔ x ≤ he) ∧ m = [.drw j', .any (kTab T Cs C3)] ∧ e = [some (.p 0), some (.d (pnD its rls)), some (.d (.int lo)), some (.d (.int hi)), some (.d (.int mo)), some (.d (.int he)), some (.d (.list (xs.map PyData.int))), some (.d (.str (dueS b))), y8, some (.d (.int x)), none, none]) (fun C h => ?_) (fun e m hJ => ?_)
        · exact ⟨by show 2 ≤ 1000000; decide, _, _, rfl, at_due _, h _ _ ⟨_, decide_eq_true_iff, rfl, rfl⟩⟩
        obtain ⟨b, hb, rfl, rfl⟩ := hJ
        refine ⟨Cs, C3, rfl, fun C4 => ⟨its, rls, x, rfl, rfl, by omega, sz, xz, fun y => ?_, fun y => ?_⟩⟩
        · cases hb.2 ((R.wg x x1).1 y)
          exact ⟨trivial, fun z => absurd z no_ok, fun z => hD _ _ ⟨C4, _, _, _, rfl, rfl⟩⟩
        · have : b = false := by
            cases b with
            | false => rfl
            | true => exact absurd ((R.wg x x1).2 (hb.1 rfl)) y
          subst this
          exact ⟨trivial, fun z => absurd z no_out, fun z => hD _ _ ⟨C4, _, _, _, rfl, rfl⟩⟩
      · obtain ⟨C2, y7, y8, y9, rfl, rfl⟩ := hJ
        exact hC _ _ ⟨C2, rfl⟩
    obtain ⟨C2, rfl⟩ := hJ
    exact ⟨⟨_, rfl⟩, hk j' hj'⟩
end
end PM

namespace PM
open PySem PySem.Spec PyProof.Rows L2 RZ
section
variable {P : Program} {w : World} {K : PySem.W.Frag} {mg : Str → Option Value} {base : Heap}
/-! ### panels beside each other -/
abbrev Pn := List (Int × Int) × List (Nat × Nat)
def ppD (p : Pn × Pn) : PyData := .tuple [pnD p.1.1 p.1.2, pnD p.2.1 p.2.2]
structure Pg (p : Pn) : Prop where
  n : p.1.length ≤ 40
  r : p.2.length ≤ 40
  ok : ItsOk p.1
  rl : ∀ q ∈ p.2, q.1 < 40 ∧ q.2 < 40
theorem Pg.shw {p : Pn} (h : Pg p) : Shw (pnD p.1 p.2) 400000 3 := by
  have a : Shw (.tuple (p.1.map itD)) (3851 * 40 + 3) 2 := (Shw.tup (shwL_map fun q hq => shw_it (by have := h.ok q hq; omega) (by have := h.ok q hq; omega))).mono (by have := h.n; omega) (by decide)
  have b : Shw (.tuple (p.2.map rlD)) (3851 * 40 + 3) 2 := (Shw.tup (shwL_map fun q hq => shw_rl (by have := h.rl q hq; omega) (by have := h.rl q hq; omega))).mono (by have := h.r; omega) (by decide)
  exact (Shw.tup (.cons a (.cons b (.nil 2)))).mono (by decide) (by decide)
theorem pair_shw {p q : Pn} (hp : Pg p) (hq : Pg q) : Shw (.list [pnD p.1 p.2, pnD q.1 q.2]) 900000 4 := (Shw.lst (.cons hp.shw (.cons hq.shw (.nil 3)))).mono (by decide) (by decide)
theorem map_rep {α : Type} (f : α → PyData) (n : Nat) (xs : List α) : (List.replicate n (xs.map f)).flatten = ((List.replicate n xs).flatten).map f := by
  rw [List.map_flatten, List.map_replicate]
theorem cut_map {α : Type} (f : α → PyData) (xs : List α) (n : Nat) : cutD (xs.map f) none (some (n : Int)) = (xs.take n).map f := by
  unfold cutD
  rw [HT.sIx_nat, HT.sIx_none, List.drop_zero, Nat.sub_zero, List.length_map, List.map_take]
  by_cases h : n ≤ xs.length
  · rw [Nat.min_eq_left h]
  · rw [Nat.min_eq_right (by omega), List.take_of_length_le (by rw [List.length_map]; omega), List.take_of_length_le (by rw [List.length_map]; omega)]
theorem len_rep {α : Type} (n : Nat) (xs : List α) : (List.replicate n xs).flatten.length = n * xs.length := by
  rw [List.length_flatten, List.map_replicate, List.sum_replicate_nat]
theorem mem_rep {α : Type} {n : Nat} {xs : List α} {x : α} (h : x ∈ (List.replicate n xs).flatten) : x ∈ xs := by
  obtain ⟨l, h1, h2⟩ := List.mem_flatten.mp h
  rw [(List.mem_replicate.mp h1).2] at h2
  exact h2
structure Gp (p : Pn × Pn) : Prop where
  a : Pg p.1
  b : Pg p.2
  rl : p.2.1 ≠ [] → ∀ q ∈ p.2.2, q.1 < p.2.1.length ∧ q.2 < p.2.1.length
theorem pg_of {its : List (Int × Int)} {rls : List (Nat × Nat)} (ok : PanOk 8 its rls) : Pg (its, rls) :=
  ⟨by have := ok.n8; show its.length ≤ 40; omega, by have := ok.r16; show rls.length ≤ 40; omega, fun q hq => ⟨ok.mrk q hq, ok.wt q hq⟩, fun q hq => by have := ok.rl q hq; have := ok.n8; omega⟩
def R9 (b : Bool) : List (Nat × Nat) := if b = true then List.replicate 9 (0, 1) else []
theorem eR9 (b : Bool) : (List.replicate (Int.toNat (if b = true then 1 else 0)) (List.replicate (Int.toNat 9) [PyData.tuple [.int 0, .int 1]]).flatten).flatten = (R9 b).map rlD := by cases b <;> rfl
theorem gR9 (b : Bool) : (R9 b).length ≤ 9 ∧ ∀ q ∈ R9 b, q = (0, 1) := by
  cases b with
  | false => exact ⟨by decide, fun q hq => nomatch hq⟩
  | true => exact ⟨by decide, fun q hq => (List.mem_replicate.mp hq).2⟩
theorem no_self (x : Str) : ¬ (!eqB (.str x) (.str x)) = true := by
  rw [show eqB (.str x) (.str x) = true from decide_eq_true rfl]
  decide
def dueL (b : Bool) : Str := if b = true then "LastItem" else "ok"
theorem at_dueL (b : Bool) : atI [PyData.str "ok", .str "LastItem"] (if b = true then 1 else 0) = some (.str (dueL b)) := by cases b <;> rfl
abbrev s_law : Stmt := topS 38
abbrev N_law : List Str := ["_law_script", "_law_drawn", "_law_turn", "_law_pairs", "_law_first", "_law_second", "_law_kept", "_law_due", "_law_one_here", "_law_other"]
abbrev P_law : List Str := ["_law_script"]
theorem sc_law : FnScope N_law P_law (defScope s_law) := ⟨rfl, rfl, rfl, by decide +kernel, rfl, by decide +kernel, by decide +kernel⟩
set_option maxHeartbeats 8000000 in
theorem ok_law {fa cA : Addr} {sh : Shared} {H : Hp} {a : Addr} {ns : List Int} (hl : ns.length ≤ 63) (hS : SqL K H a (ns.map V.int)) (hr : Room 8 (callerA.deeper (envOfC "law" (defScope s_law) sh.heap.objs.size fa (.ref cA)))) {T : Tbs} {tP C_MarksError C_Full C_LastItem C_OutOfRange C_InvalidMark C_InvalidWeight C_NotFalling : Addr} (TB : LamX.TabB base mg cA tP) (hT : (tP, lamQ (locQ "law")) ∈ T) (hu : ∀ p ∈ T, p.1 = tP → p.2 = lamQ (locQ "law")) (ZZ : ErrK K mg C_MarksError C_Full C_LastItem C_OutOfRange C_InvalidMark C_InvalidWeight C_NotFalling) (d__law_refused : IsDef K mg "_law_refused" s__law_refused P__law_refused) (h__law_draws : Ok P w K mg base 1 "_law_draws" s__law_draws P__law_draws (sp__law_draws K)) (h__law_panel : Ok P w K mg base 4 "_law_panel" s__law_panel P__law_panel (prN S__law_panel)) (h__law_amounts_right : Ok P w K mg base 7 "_law_amounts_right" s__law_amounts_right P__law_amounts_right (prW T S__law_amounts_right)) (h_without_item : OkX P w K mg base 3 "without_item" s_without_item P_without_item (prX C_LastItem S_without_item)) (h__law_pair_right : Ok P w K mg base 7 "_law_pair_right" s__law_pair_right P__law_pair_right (prW T S__law_pair_right)) (m_range : mg "range" = none) (m_repr : mg "repr" = none) (m_len : mg "len" = none) (m_int : mg "int" = none) (tabs : ∀ p ∈ T, H p.1 = some (.tbl #[])) :
    ∃ t, PSs (cxOf CX0 P w K mg base N_law "law" (defScope s_law) fa (.ref cA) callerA [] sh H E0).nox (defBody s_law) t ∧ t { nx := fun _ _ => V.non = .bl true, rt := fun v _ => v = .bl true } (start N_law [.ref a]) H := by
  obtain ⟨gR_, fdR_, D__law_refused⟩ := d__law_refused
  obtain ⟨f__law_draws, fd__law_draws, ⟨F__law_draws, b__law_draws, g__law_draws⟩, G__law_draws⟩ := h__law_draws
  obtain ⟨f__law_panel, fd__law_panel, ⟨F__law_panel, b__law_panel, g__law_panel⟩, G__law_panel⟩ := h__law_panel
  obtain ⟨f__law_amounts_right, fd__law_amounts_right, ⟨F__law_amounts_right, b__law_amounts_right, g__law_amounts_right⟩, G__law_amounts_right⟩ := h__law_amounts_right
  obtain ⟨f_without_item, fd_without_item, ⟨F_without_item, b_without_item, g_without_item⟩, G_without_item⟩ := h_without_item
  obtain ⟨f__law_pair_right, fd__law_pair_right, ⟨F__law_pair_right, b__law_pair_right, g__law_pair_right⟩, G__law_pair_right⟩ := h__law_pair_right
  refine ⟨_, (pss_cons (ps_set (i := 1) sc_law.nd rfl (.inl rfl) (pe_call G__law_draws (hr.mono (by omega)) (by rfl) g__law_draws F__law_draws.kp b__law_draws .nil pass0 (pa_cons (pv 0) pa_nil)))
      (pss_cons (ps_for PassesOwn.never rfl (pi_range1 (by rfl) m_range (pa_cons pe_int pa_nil)) (pg_name (i := 2) sc_law.nd rfl (.inl rfl)) (pss_cons (ps_asg (pe_tup (pa_cons (pe_call G__law_panel (hr.mono (by omega)) (by rfl) g__law_panel F__law_panel.kp b__law_panel .nil pass0 (pa_cons (pv 1) (pa_cons pe_int pa_nil))) (pa_cons (pe_call G__law_panel (hr.mono (by omega)) (by rfl) g__law_panel F__law_panel.kp b__law_panel .nil pass0 (pa_cons (pv 1) (pa_cons pe_int pa_nil))) pa_nil))) (show PG _ _ (gTup K 2 _) from pg_tup (n := 2) (by rfl) (pgs_cons (pg_name (i := 8) sc_law.nd rfl (.inr rfl)) (pgs_cons (pg_name (i := 9) sc_law.nd rfl (.inr rfl)) pgs_nil))))
      (pss_cons (ps_set (i := 3) sc_law.nd rfl (.inl rfl) (pe_lst (pa_cons (pe_tup (pa_cons (pv 8) (pa_cons (pv 9) pa_nil))) (pa_cons (pe_tup (pa_cons (pv 9) (pa_cons (pv 8) pa_nil))) (pa_cons (pe_tup (pa_cons (pv 8) (pa_cons (pe_tup (pa_cons (pe_ix (show IxR _ (rIx K) from ix_seq) (pv 9) pe_int (fun _ _ => rfl)) (pa_cons (pe_slice (show SlR _ (rSlS K) from sl_seq) (pe_ix (show IxR _ (rIx K) from ix_seq) (pv 9) pe_int (fun _ _ => rfl)) po_none (po_some pe_int)) pa_nil))) pa_nil))) pa_nil)))))
      (pss_cons (ps_expr (pe_bm PySem.F.plainAttrs_list PySem.F.slot_list_append PySem.F.type_list_append mt_append (pv 3) (pa_cons (pe_tup (pa_cons (pv 8) (pa_cons (pe_tup (pa_cons (pe_slice (show SlR _ (rSlS K) from sl_seq) (pe_op (show OpR _ _ (rRepA K) from op_repA) (pe_ix (show IxR _ (rIx K) from ix_seq) (pv 8) pe_int (fun _ _ => rfl)) pe_int) po_none (po_some (pe_op op_sub pe_int (pe_callB (show CallR _ _ (rLenK K) from call_lenK) (by rfl) m_len (by decide +kernel) (pa_cons (pe_ix (show IxR _ (rIx K) from ix_seq) (pv 8) pe_int (fun _ _ => rfl)) pa_nil))))) (pa_cons (pe_tup pa_nil) pa_nil))) pa_nil))) pa_nil)))
      (pss_cons (ps_expr (pe_bm PySem.F.plainAttrs_list PySem.F.slot_list_append PySem.F.type_list_append mt_append (pv 3) (pa_cons (pe_tup (pa_cons (pe_tup (pa_cons (pe_slice (show SlR _ (rSlS K) from sl_seq) (pe_ix (show IxR _ (rIx K) from ix_seq) (pv 8) pe_int (fun _ _ => rfl)) po_none (po_some pe_int)) (pa_cons (pe_op (show OpR _ _ (rRepA K) from op_repA) (pe_op (show OpR _ _ (rRepA K) from op_repA) (pe_tup (pa_cons (pe_tup (pa_cons pe_int (pa_cons pe_int pa_nil))) pa_nil)) pe_int) (pe_callTy call_int1 (by rfl) m_int (by decide +kernel) (pa_cons (pe_cmpR op_gt (pe_callB (show CallR _ _ (rLenK K) from call_lenK) (by rfl) m_len (by decide +kernel) (pa_cons (pe_ix (show IxR _ (rIx K) from ix_seq) (pv 8) pe_int (fun _ _ => rfl)) pa_nil)) pe_int (nomark _)) pa_nil))) pa_nil))) (pa_cons (pe_tup (pa_cons (pe_slice (show SlR _ (rSlS K) from sl_seq) (pe_op (show OpR _ _ (rRepA K) from op_repA) (pe_ix (show IxR _ (rIx K) from ix_seq) (pv 9) pe_int (fun _ _ => rfl)) pe_int) po_none (po_some pe_int)) (pa_cons (pe_op (show OpR _ _ (rRepA K) from op_repA) (pe_tup (pa_cons (pe_tup (pa_cons pe_int (pa_cons pe_int pa_nil))) pa_nil)) pe_int) pa_nil))) pa_nil))) pa_nil)))
      (pss_cons (ps_expr (pe_bm PySem.F.plainAttrs_list PySem.F.slot_list_append PySem.F.type_list_append mt_append (pv 3) (pa_cons (pe_tup (pa_cons (pv 8) (pa_cons (pe_tup (pa_cons (pe_slice (show SlR _ (rSlS K) from sl_seq) (pe_ix (show IxR _ (rIx K) from ix_seq) (pv 8) pe_int (fun _ _ => rfl)) po_none (po_some pe_int)) (pa_cons (pe_tup pa_nil) pa_nil))) pa_nil))) pa_nil)))
      (pss_cons (ps_for PassesOwn.never rfl (show PI _ _ _ (iSeq K _) from pi_seq (pv 3)) (show PG _ _ (gTup K 2 _) from pg_tup (n := 2) (by rfl) (pgs_cons (pg_name (i := 4) sc_law.nd rfl (.inl rfl)) (pgs_cons (pg_name (i := 5) sc_law.nd rfl (.inl rfl)) pgs_nil))) (pss_cons (ps_set (i := 6) sc_law.nd rfl (.inl rfl) (pe_callB (call_repr rfl hr.units) (by rfl) m_repr (by decide +kernel) (pa_cons (pe_lst (pa_cons (pv 4) (pa_cons (pv 5) pa_nil))) pa_nil)))
      (pss_one (ps_if (PW.pt (pw_or (PW.pt (pw_and (pt_cmpR op_gt (pe_callB (show CallR _ _ (rLenK K) from call_lenK) (by rfl) m_len (by decide +kernel) (pa_cons (pe_ix (show IxR _ (rIx K) from ix_seq) (pv 5) pe_int (fun _ _ => rfl)) pa_nil)) pe_int (nomark _)) (pw_and1 (pt_not (pt_val (pe_call G__law_pair_right (hr.mono (by omega)) (by rfl) g__law_pair_right F__law_pair_right.kp b__law_pair_right .nil pass0 (pa_cons (pv 4) (pa_cons (pv 5) pa_nil)))))))) (pw_or1 (pt_cmpR (show OpR _ _ (rNeA K) from op_neA hr.units) (pe_callB (call_repr rfl hr.units) (by rfl) m_repr (by decide +kernel) (pa_cons (pe_lst (pa_cons (pv 4) (pa_cons (pv 5) pa_nil))) pa_nil)) (pv 6) (nomark _))))) (pss_one (ps_ret pe_bl)) pss_nil))))
      (pss_cons (ps_set (i := 6) sc_law.nd rfl (.inl rfl) (pe_callB (call_repr rfl hr.units) (by rfl) m_repr (by decide +kernel) (pa_cons (pv 8) pa_nil)))
      (pss_cons (ps_if (pt_not (pt_val (pe_call G__law_amounts_right (hr.mono (by omega)) (by rfl) g__law_amounts_right F__law_amounts_right.kp b__law_amounts_right .nil pass0 (pa_cons (pv 1) (pa_cons (pv 8) pa_nil))))) (pss_one (ps_ret pe_bl)) pss_nil)
      (pss_cons (ps_set (i := 7) sc_law.nd rfl (.inl rfl) (pe_ix (show IxR _ (rIx K) from ix_seq) (pe_lst (pa_cons pe_str (pa_cons pe_str pa_nil))) (pe_callTy call_int1 (by rfl) m_int (by decide +kernel) (pa_cons (pe_cmpR (show OpR _ _ (rEqA K) from op_eqA hr.units) (pe_callB (show CallR _ _ (rLenK K) from call_lenK) (by rfl) m_len (by decide +kernel) (pa_cons (pe_ix (show IxR _ (rIx K) from ix_seq) (pv 8) pe_int (fun _ _ => rfl)) pa_nil)) pe_int (nomark _)) pa_nil)) (fun _ _ => rfl)))
      (pss_cons (ps_if (PW.pt (pw_or (pt_cmpR (show OpR _ _ (rNeA K) from op_neA hr.units) (show PE _ _ (tLamC (lamQ (locQ "law")) tP (TRef C_LastItem "LastItem") (fun E => tCallS (prX C_LastItem S_without_item) (WE fun cls d _ H => E cls d H) _)) from pe_lamC (k := 4) rfl D__law_refused (by rfl) sc__law_refused rfl (.inl rfl) (fun cdv => refused_gives (k := 0) (hr.mono (by omega)) ZZ.z ZZ.LastItem) TB rfl (hr.mono (by omega)) (LamX.lamS_by (show LamX.lamSB (defScope s_law) _ = true from by decide +kernel)) rfl (fun _ _ _ _ _ => rfl) (fun A outer s H E f n r2 => by exact (pe_callS G_without_item (r2.mono (by omega)) (by rfl) g_without_item F_without_item.kp b_without_item (fun σ => passAt (takes_of rfl rfl rfl rfl) σ) (pa_cons (pv 8) (pa_cons (pe_op op_sub (pe_callB (show CallR _ _ (rLenK K) from call_lenK) (by rfl) m_len (by decide +kernel) (pa_cons (pe_ix (show IxR _ (rIx K) from ix_seq) (pv 8) pe_int (fun _ _ => rfl)) pa_nil)) pe_int) pa_nil))))) (pv 7) (nomark _)) (pw_or1 (pt_cmpR (show OpR _ _ (rNeA K) from op_neA hr.units) (pe_callB (call_repr rfl hr.units) (by rfl) m_repr (by decide +kernel) (pa_cons (pv 8) pa_nil)) (pv 6) (nomark _))))) (pss_one (ps_ret pe_bl)) pss_nil)
      (pss_one (ps_if (pt_cmpR (show OpR _ _ (rNeA K) from op_neA hr.units) (show PE _ _ (tLamC (lamQ (locQ "law")) tP (TRef C_LastItem "LastItem") (fun E => tCallS (prX C_LastItem S_without_item) (WE fun cls d _ H => E cls d H) _)) from pe_lamC (k := 4) rfl D__law_refused (by rfl) sc__law_refused rfl (.inl rfl) (fun cdv => refused_gives (k := 0) (hr.mono (by omega)) ZZ.z ZZ.LastItem) TB rfl (hr.mono (by omega)) (LamX.lamS_by (show LamX.lamSB (defScope s_law) _ = true from by decide +kernel)) rfl (fun _ _ _ _ _ => rfl) (fun A outer s H E f n r2 => by exact (pe_callS G_without_item (r2.mono (by omega)) (by rfl) g_without_item F_without_item.kp b_without_item (fun σ => passAt (takes_of rfl rfl rfl rfl) σ) (pa_cons (pe_tup (pa_cons (pe_slice (show SlR _ (rSlS K) from sl_seq) (pe_ix (show IxR _ (rIx K) from ix_seq) (pv 9) pe_int (fun _ _ => rfl)) po_none (po_some pe_int)) (pa_cons (pe_tup pa_nil) pa_nil))) (pa_cons pe_int pa_nil))))) pe_str (nomark _)) (pss_one (ps_ret pe_bl)) pss_nil)))))))))))))
      (pss_one (ps_ret pe_bl)))), ?_⟩
  refine ⟨.ref a, rfl, a, ns, rfl, hS, hl, fun H1 pa c r s1 np nc nr dr => ?_⟩
  refine runLW (n := 8) (ss_seq (ss_for (si_rng1 (sa_cons (se_int _) sa_nil)) (sg_name 2) (ss_scope (ss_seq (ss_asg (se_tup (sa_cons (se_callN (sa_cons (se_var 1) (sa_cons (se_int _) sa_nil))) (sa_cons (se_callN (sa_cons (se_var 1) (sa_cons (se_int _) sa_nil))) sa_nil))) (sg_tup _ (sg_cons (sg_name 8) (sg_cons (sg_name 9) sg_nil))))
      (ss_seq (ss_own 3 (sl_lst (sa_cons (se_tup (sa_cons (se_var 8) (sa_cons (se_var 9) sa_nil))) (sa_cons (se_tup (sa_cons (se_var 9) (sa_cons (se_var 8) sa_nil))) (sa_cons (se_tup (sa_cons (se_var 8) (sa_cons (se_tup (sa_cons (se_op (os_ix _) (se_var 9) (se_int _)) (sa_cons (se_sl _ (se_op (os_ix _) (se_var 9) (se_int _)) so_none (so_some (se_int _))) sa_nil))) sa_nil))) sa_nil)))))
      (ss_seq (ss_app _ 3 (se_tup (sa_cons (se_var 8) (sa_cons (se_tup (sa_cons (se_sl _ (se_op (os_repT _) (se_op (os_ix _) (se_var 8) (se_int _)) (se_int _)) so_none (so_some (se_op os_sub (se_int _) (se_cb (cs_len _) (sa_cons (se_op (os_ix _) (se_var 8) (se_int _)) sa_nil))))) (sa_cons (se_tup sa_nil) sa_nil))) sa_nil))))
      (ss_seq (ss_app _ 3 (se_tup (sa_cons (se_tup (sa_cons (se_sl _ (se_op (os_ix _) (se_var 8) (se_int _)) so_none (so_some (se_int _))) (sa_cons (se_op (os_repT _) (se_op (os_repT _) (se_tup (sa_cons (se_tup (sa_cons (se_int _) (sa_cons (se_int _) sa_nil))) sa_nil)) (se_int _)) (se_cb cs_int1 (sa_cons (se_op os_gt (se_cb (cs_len _) (sa_cons (se_op (os_ix _) (se_var 8) (se_int _)) sa_nil)) (se_int _)) sa_nil))) sa_nil))) (sa_cons (se_tup (sa_cons (se_sl _ (se_op (os_repT _) (se_op (os_ix _) (se_var 9) (se_int _)) (se_int _)) so_none (so_some (se_int _))) (sa_cons (se_op (os_repT _) (se_tup (sa_cons (se_tup (sa_cons (se_int _) (sa_cons (se_int _) sa_nil))) sa_nil)) (se_int _)) sa_nil))) sa_nil))))
      (ss_seq (ss_app _ 3 (se_tup (sa_cons (se_var 8) (sa_cons (se_tup (sa_cons (se_sl _ (se_op (os_ix _) (se_var 8) (se_int _)) so_none (so_some (se_int _))) (sa_cons (se_tup sa_nil) sa_nil))) sa_nil))))
      (ss_seq (ss_frz 3 (ss_for (si_seq _ (se_var 3)) (sg_tup _ (sg_cons (sg_name 4) (sg_cons (sg_name 5) sg_nil))) (ss_seq (ss_asg (se_cb cs_repr (sa_cons (SL.se (sl_lst (sa_cons (se_var 4) (sa_cons (se_var 5) sa_nil)))) sa_nil)) (sg_name 6))
      (ss_if (st_or (st_and (st_test (se_op os_gt (se_cb (cs_len _) (sa_cons (se_op (os_ix _) (se_var 5) (se_int _)) sa_nil)) (se_int _))) (st_not (st_b (se_callW (sa_cons (se_var 4) (sa_cons (se_var 5) sa_nil)))))) (st_test (se_op (os_ne _) (se_cb cs_repr (sa_cons (SL.se (sl_lst (sa_cons (se_var 4) (sa_cons (se_var 5) sa_nil)))) sa_nil)) (se_var 6)))) (ss_ret (se_bl _)) ss_nil))))
      (ss_seq (ss_asg (se_cb cs_repr (sa_cons (se_var 8) sa_nil)) (sg_name 6))
      (ss_seq (ss_if (st_not (st_b (se_callW (sa_cons (se_var 1) (sa_cons (se_var 8) sa_nil))))) (ss_ret (se_bl _)) ss_nil)
      (ss_seq (ss_asg (se_op (os_ix _) (SL.se (sl_lst (sa_cons (se_str _) (sa_cons (se_str _) sa_nil)))) (se_cb cs_int1 (sa_cons (se_op (os_eq _) (se_cb (cs_len _) (sa_cons (se_op (os_ix _) (se_var 8) (se_int _)) sa_nil)) (se_int _)) sa_nil))) (sg_name 7))
      (ss_seq (ss_if (st_or (st_test (se_op (os_ne _) (se_lamC hT hu (sa_cons (se_var 8) (sa_cons (se_op os_sub (se_cb (cs_len _) (sa_cons (se_op (os_ix _) (se_var 8) (se_int _)) sa_nil)) (se_int _)) sa_nil))) (se_var 7))) (st_test (se_op (os_ne _) (se_cb cs_repr (sa_cons (se_var 8) sa_nil)) (se_var 6)))) (ss_ret (se_bl _)) ss_nil)
      (ss_if (st_test (se_op (os_ne _) (se_lamC hT hu (sa_cons (se_tup (sa_cons (se_sl _ (se_op (os_ix _) (se_var 9) (se_int _)) so_none (so_some (se_int _))) (sa_cons (se_tup sa_nil) sa_nil))) (sa_cons (se_int _) sa_nil))) (se_str _))) (ss_ret (se_bl _)) ss_nil)))))))))))))
      (ss_ret (se_bl _))) dr (KT.start fun p hp => s1 _ _ (tabs p hp)) (fun b hb f => no_feet tabs np nc nr b hb f) rfl rfl ?_
  clear hS hl hr dr s1 np nc nr tabs TB ZZ
  refine ⟨⟨by decide, by decide⟩, ?_⟩
  refine forL (fun i : Nat => .int (0 + (i : Nat))) (List.range 4) (fun done e m => ∃ (j : Nat) (C2 : List Addr) (y2 y3 y4 y5 y6 y7 y8 y9 : Option DV), j ≤ 1000 * done.length ∧ m = [.drw j, .any (kTab T [] C2)] ∧ e = [none, some (.p 0), y2, y3, y4, y5, y6, y7, y8, y9]) ⟨0, [], none, none, none, none, none, none, none, none, by decide, rfl, rfl⟩ (fun done x r e m hx hJ C hC => ?_) (fun e m hJ => rfl)
  obtain ⟨j, C2, y2, y3, y4, y5, y6, y7, y8, y9, hj, rfl, rfl⟩ := hJ
  obtain ⟨rfl, hx2⟩ := range_at hx
  refine ⟨8, rfl, by decide, by decide, by omega, fun its rls j1 hj1 ok => ?_⟩
  refine ⟨8, rfl, by decide, by decide, by omega, fun its' rls' j2 hj2 ok' => ?_⟩
  have n1 := ok.n1
  have n8 := ok.n8
  have r16 := ok.r16
  have n1' := ok'.n1
  have n8' := ok'.n8
  have r16' := ok'.r16
  have g1 := pg_of ok
  have g2 := pg_of ok'
  have rl1 : ∀ q ∈ rls, q.1 < its.length ∧ q.2 < its.length := fun q hq => ⟨(ok.rl q hq).1, (ok.rl q hq).2.1⟩
  have rl2 : ∀ q ∈ rls', q.1 < its'.length ∧ q.2 < its'.length := fun q hq => ⟨(ok'.rl q hq).1, (ok'.rl q hq).2.1⟩
  refine ⟨by show 2 ≤ 1000000; decide, _, rfl, rfl, ?_⟩
  dsimp only [List.map_cons, List.map_nil, dgCons, dgNil, dgName]
  refine seqN (fun e m => ∃ L : List (Pn × Pn), (∀ p ∈ L, Gp p) ∧ L.length = 3 ∧ m = [.drw j2, .any (kTab T [] C2), .lst (L.map ppD)] ∧ e = [none, some (.p 0), some (.d (.int (0 + (done.length : Nat)))), some (.p 2), y4, y5, y6, y7, some (.d (pnD its rls)), some (.d (pnD its' rls'))]) (fun C h => ?_) (fun e m hJ => ?_)
  · refine ⟨by show 2 ≤ 1000000; decide, by show 2 ≤ 1000000; decide, _, _, rfl, rfl, _, _, rfl, rfl, by show 2 ≤ 1000000; decide, by show 2 ≤ 1000000; decide, by show 3 ≤ 1000000; decide, ?_⟩
    refine h _ _ ⟨[((its, rls), (its', rls')), ((its', rls'), (its, rls)), ((its, rls), (its', rls'.take 3))], fun p hp => ?_, rfl, ?_, rfl⟩
    · simp only [List.mem_cons, List.not_mem_nil, or_false] at hp
      rcases hp with rfl | rfl | rfl
      · exact ⟨g1, g2, fun _ => rl2⟩
      · exact ⟨g2, g1, fun _ => rl1⟩
      · exact ⟨g1, ⟨g2.n, by show (rls'.take 3).length ≤ 40; rw [List.length_take]; omega, g2.ok, fun q hq => g2.rl q (List.mem_of_mem_take hq)⟩, fun _ q hq => rl2 q (List.mem_of_mem_take hq)⟩
    · rw [show (some (3 : Int)) = some ((3 : Nat) : Int) from rfl, cut_map]
      rfl
  obtain ⟨L, gL, l9, rfl, rfl⟩ := hJ
  have its0 : its.map itD ≠ [] := fun z => by rw [List.map_eq_nil_iff] at z; rw [z] at n1; exact absurd n1 (by decide)
  have its0' : its'.map itD ≠ [] := fun z => by rw [List.map_eq_nil_iff] at z; rw [z] at n1'; exact absurd n1' (by decide)
  have eA : cutD (List.replicate (Int.toNat 8) (its.map itD)).flatten none (some (8 - ((its.map itD).length : Int))) = (((List.replicate 8 its).flatten).take (8 - its.length)).map itD := by
    rw [show Int.toNat 8 = 8 from rfl, map_rep, show (8 - ((its.map itD).length : Int)) = ((8 - its.length : Nat) : Int) by rw [List.length_map]; omega, cut_map]
  have gA : Pg (((List.replicate 8 its).flatten).take (8 - its.length), []) := ⟨by show (List.take _ _).length ≤ 40; rw [List.length_take]; omega, Nat.zero_le _, fun q hq => g1.ok q (mem_rep (List.mem_of_mem_take hq)), fun q hq => nomatch hq⟩
  refine seqN (fun e m => ∃ L : List (Pn × Pn), (∀ p ∈ L, Gp p) ∧ L.length = 4 ∧ m = [.drw j2, .any (kTab T [] C2), .lst (L.map ppD)] ∧ e = [none, some (.p 0), some (.d (.int (0 + (done.length : Nat)))), some (.p 2), y4, y5, y6, y7, some (.d (pnD its rls)), some (.d (pnD its' rls'))]) (fun C h => ?_) (fun e m hJ => ?_)
  · refine ⟨⟨_, rfl⟩, _, _, rfl, rfl, its0, by rw [List.length_map]; omega, ⟨by decide, by decide⟩, _, _, rfl, rfl, _, rfl, by show 0 ≤ 1000000; decide, by show 2 ≤ 1000000; decide, by show 2 ≤ 1000000; decide, _, rfl, by rw [List.length_map, l9]; decide, ?_⟩
    refine h _ _ ⟨L ++ [((its, rls), (((List.replicate 8 its).flatten).take (8 - its.length), []))], fun p hp => ?_, by rw [List.length_append, l9]; rfl, ?_, rfl⟩
    · rcases List.mem_append.mp hp with y | y
      · exact gL p y
      · cases List.mem_singleton.mp y
        exact ⟨g1, gA, fun _ q hq => nomatch hq⟩
    · rw [List.map_append]
      rw [eA]
      rfl
  obtain ⟨L, gL, l9, rfl, rfl⟩ := hJ
  have eB0 : cutD (its.map itD) none (some 2) = (its.take 2).map itD := by rw [show (some (2 : Int)) = some ((2 : Nat) : Int) from rfl, cut_map]
  have eB2 : cutD (List.replicate (Int.toNat 2) (its'.map itD)).flatten none (some 2) = (((List.replicate 2 its').flatten).take 2).map itD := by
    rw [show Int.toNat 2 = 2 from rfl, map_rep, show (some (2 : Int)) = some ((2 : Nat) : Int) from rfl, cut_map]
  have l2 : (((List.replicate 2 its').flatten).take 2).length = 2 := by rw [List.length_take, len_rep]; omega
  have gB1 : ∀ b, Pg (its.take 2, R9 b) := fun b => ⟨by show (List.take _ _).length ≤ 40; rw [List.length_take]; omega, by have := (gR9 b).1; show (R9 b).length ≤ 40; omega, fun q hq => g1.ok q (List.mem_of_mem_take hq), fun q hq => by rw [(gR9 b).2 q hq]; decide⟩
  have gB2 : Pg (((List.replicate 2 its').flatten).take 2, List.replicate 8 (1, 0)) := ⟨by show (List.take _ _).length ≤ 40; rw [l2]; decide, by show (List.replicate 8 _).length ≤ 40; rw [List.length_replicate]; decide, fun q hq => g2.ok q (mem_rep (List.mem_of_mem_take hq)), fun q hq => by rw [(List.mem_replicate.mp hq).2]; decide⟩
  refine seqN (fun e m => ∃ L : List (Pn × Pn), (∀ p ∈ L, Gp p) ∧ L.length = 5 ∧ m = [.drw j2, .any (kTab T [] C2), .lst (L.map ppD)] ∧ e = [none, some (.p 0), some (.d (.int (0 + (done.length : Nat)))), some (.p 2), y4, y5, y6, y7, some (.d (pnD its rls)), some (.d (pnD its' rls'))]) (fun C h => ?_) (fun e m hJ => ?_)
  · refine ⟨⟨_, rfl⟩, _, _, rfl, rfl, by show 2 ≤ 1000000; decide, by show 1 ≤ 1000000; decide, (fun z => nomatch z), by show 1 ≤ 1000; decide, ⟨by decide, by decide⟩, _, _, rfl, rfl, _, rfl, (fun z => nomatch z), by show 9 ≤ 1000; decide, ⟨by split <;> decide, by split <;> decide⟩, by show 2 ≤ 1000000; decide, _, _, rfl, rfl, its0', by rw [List.length_map]; omega, ⟨by decide, by decide⟩, by show 2 ≤ 1000000; decide, by show 1 ≤ 1000000; decide, (fun z => nomatch z), by show 1 ≤ 1000; decide, ⟨by decide, by decide⟩, by show 2 ≤ 1000000; decide, by show 2 ≤ 1000000; decide, _, rfl, by rw [List.length_map, l9]; decide, ?_⟩
    refine h _ _ ⟨L ++ [((its.take 2, R9 (decide (1 < (((its.map itD).length : Nat) : Int)))), (((List.replicate 2 its').flatten).take 2, List.replicate 8 (1, 0)))], fun p hp => ?_, by rw [List.length_append, l9]; rfl, ?_, rfl⟩
    · rcases List.mem_append.mp hp with y | y
      · exact gL p y
      · cases List.mem_singleton.mp y
        exact ⟨gB1 _, gB2, fun _ q hq => by rw [(List.mem_replicate.mp hq).2]; show 1 < (List.take _ _).length ∧ 0 < (List.take _ _).length; rw [l2]; decide⟩
    · rw [List.map_append]
      rw [eB0, eB2, eR9]
      rfl
  obtain ⟨L, gL, l9, rfl, rfl⟩ := hJ
  have eC : cutD (its.map itD) none (some 1) = (its.take 1).map itD := by rw [show (some (1 : Int)) = some ((1 : Nat) : Int) from rfl, cut_map]
  have gC : Pg (its.take 1, []) := ⟨by show (List.take _ _).length ≤ 40; rw [List.length_take]; omega, Nat.zero_le _, fun q hq => g1.ok q (List.mem_of_mem_take hq), fun q hq => nomatch hq⟩
  refine seqN (fun e m => ∃ L : List (Pn × Pn), (∀ p ∈ L, Gp p) ∧ L.length = 6 ∧ m = [.drw j2, .any (kTab T [] C2), .lst (L.map ppD)] ∧ e = [none, some (.p 0), some (.d (.int (0 + (done.length : Nat)))), some (.p 2), y4, y5, y6, y7, some (.d (pnD its rls)), some (.d (pnD its' rls'))]) (fun C h => ?_) (fun e m hJ => ?_)
  · refine ⟨⟨_, rfl⟩, _, _, rfl, rfl, by show 0 ≤ 1000000; decide, by show 2 ≤ 1000000; decide, by show 2 ≤ 1000000; decide, _, rfl, by rw [List.length_map, l9]; decide, ?_⟩
    refine h _ _ ⟨L ++ [((its, rls), (its.take 1, []))], fun p hp => ?_, by rw [List.length_append, l9]; rfl, ?_, rfl⟩
    · rcases List.mem_append.mp hp with y | y
      · exact gL p y
      · cases List.mem_singleton.mp y
        exact ⟨g1, gC, fun _ q hq => nomatch hq⟩
    · rw [List.map_append]
      rw [eC]
      rfl
  obtain ⟨L, gL, l9, rfl, rfl⟩ := hJ
  refine seqN (fun e m => ∃ (C2 : List Addr) (y4 y5 y6 : Option DV), m = [.drw j2, .any (kTab T [] C2), .no] ∧ e = [none, some (.p 0), some (.d (.int (0 + (done.length : Nat)))), some (.d (.list (L.map ppD))), y4, y5, y6, y7, some (.d (pnD its rls)), some (.d (pnD its' rls'))]) (fun C h => ?_) (fun e m hJ => ?_)
  · refine forL ppD L (fun done' e m => ∃ (C2 : List Addr) (y4 y5 y6 : Option DV), m = [.drw j2, .any (kTab T [] C2), .no] ∧ e = [none, some (.p 0), some (.d (.int (0 + (done.length : Nat)))), some (.d (.list (L.map ppD))), y4, y5, y6, y7, some (.d (pnD its rls)), some (.d (pnD its' rls'))]) ⟨C2, y4, y5, y6, rfl, rfl⟩ (fun done' p r' e m hp hJ D hD => ?_) (fun e m hJ => h _ _ hJ)
    obtain ⟨C2, y4, y5, y6, rfl, rfl⟩ := hJ
    have g := gL p (by rw [hp]; simp)
    obtain ⟨⟨ia, ra⟩, ⟨ib, rb⟩⟩ := p
    have sv := pair_shw g.a g.b
    have gan := g.a.n
    have gar := g.a.r
    have gbn := g.b.n
    have gbr := g.b.r
    dsimp only at gan gar gbn gbr
    refine ⟨_, rfl, rfl, by show 2 ≤ 1000000; decide, _, rfl, sv.sh, sv.deep (by decide), sv.fit (by decide), _, _, rfl, rfl, _, rfl, fun z => ?_, fun z => ?_⟩
    · have nz : ib ≠ [] := fun y => by
        subst y
        cases z
      refine ⟨[], C2, rfl, trivial, ia, ib, ra, rb, rfl, rfl, by omega, by omega, by omega, by omega, g.rl nz, fun C3 => ⟨(fun z => nomatch z), fun _ => ?_⟩⟩
      exact ⟨by show 2 ≤ 1000000; decide, _, rfl, sv.sh, sv.deep (by decide), sv.fit (by decide), trivial, fun z => absurd z (no_self _), fun z => hD _ _ ⟨C3, _, _, _, rfl, rfl⟩⟩
    · refine ⟨(fun z => nomatch z), fun _ => ?_⟩
      exact ⟨by show 2 ≤ 1000000; decide, _, rfl, sv.sh, sv.deep (by decide), sv.fit (by decide), trivial, fun z => absurd z (no_self _), fun z => hD _ _ ⟨C2, _, _, _, rfl, rfl⟩⟩
  obtain ⟨C2, y4, y5, y6, rfl, rfl⟩ := hJ
  have sv := ok.shw (by decide)
  refine ⟨_, rfl, sv.sh, sv.deep (by decide), sv.fit (by decide), ?_⟩
  refine ⟨[], C2, rfl, trivial, its, rls, rfl, ok, by omega, fun j3 hj3 C3 => ⟨(fun z => nomatch z), fun _ => ?_⟩⟩
  refine seqN (fun e m => m = [.drw j3, .any (kTab T [] C3), .no] ∧ e = [none, some (.p 0), some (.d (.int (0 + (done.length : Nat)))), some (.d (.list (L.map ppD))), y4, y5, some (.d (.str (pnD its rls).shown)), y7, some (.d (pnD its rls)), some (.d (pnD its' rls'))]) (fun C1 h1 => h1 _ _ ⟨rfl, rfl⟩) (fun e m hJ => ?_)
  obtain ⟨rfl, rfl⟩ := hJ
  refine seqN (fun e m => ∃ b : Bool, (b = true ↔ its.length = 1) ∧ m = [.drw j3, .any (kTab T [] C3), .no] ∧ e = [none, some (.p 0), some (.d (.int (0 + (done.length : Nat)))), some (.d (.list (L.map ppD))), y4, y5, some (.d (.str (pnD its rls).shown)), some (.d (.str (dueL b))), some (.d (pnD its rls)), some (.d (pnD its' rls'))]) (fun C h => ?_) (fun e m hJ => ?_)
  · refine ⟨by show 2 ≤ 1000000; decide, _, _, rfl, rfl, _, rfl, trivial, _, _, rfl, at_dueL _, h _ _ ⟨_, ?_, rfl, rfl⟩⟩
    show decide _ = true ↔ _
    rw [decide_eq_true_eq, List.length_map]
    omega
  obtain ⟨b, hb, rfl, rfl⟩ := hJ
  refine seqN (fun e m => ∃ C4 : List Addr, m = [.drw j3, .any (kTab T [] C4), .no] ∧ e = [none, some (.p 0), some (.d (.int (0 + (done.length : Nat)))), some (.d (.list (L.map ppD))), y4, y5, some (.d (.str (pnD its rls).shown)), some (.d (.str (dueL b))), some (.d (pnD its rls)), some (.d (pnD its' rls'))]) (fun C h => ?_) (fun e m hJ => ?_)
  · refine ⟨[], C3, rfl, fun C4 => ⟨_, _, rfl, rfl, _, rfl, its, rls, its.length - 1, rfl, congrArg PyData.int (by rw [List.length_map]; omega), n1, by omega, by omega, by omega, fun y => ?_, fun y => ?_⟩⟩
    · have : b = false := by
        cases b with
        | false => rfl
        | true => exact absurd (hb.1 rfl) y
      subst this
      exact ⟨trivial, fun z => absurd z (no_self _), fun z => ⟨_, rfl, sv.sh, sv.deep (by decide), sv.fit (by decide), trivial, fun z => absurd z (no_self _), fun z => h _ _ ⟨C4, rfl, rfl⟩⟩⟩
    · cases hb.2 y
      exact ⟨trivial, fun z => absurd z (no_self _), fun z => ⟨_, rfl, sv.sh, sv.deep (by decide), sv.fit (by decide), trivial, fun z => absurd z (no_self _), fun z => h _ _ ⟨C4, rfl, rfl⟩⟩⟩
  obtain ⟨C4, rfl, rfl⟩ := hJ
  have l1 : (its'.take 1).length = 1 := by rw [List.length_take]; omega
  have eD : cutD (its'.map itD) none (some 1) = (its'.take 1).map itD := by rw [show (some (1 : Int)) = some ((1 : Nat) : Int) from rfl, cut_map]
  refine ⟨[], C4, rfl, fun C5 => ⟨_, _, rfl, rfl, by show 0 ≤ 1000000; decide, by show 2 ≤ 1000000; decide, its'.take 1, [], 0, by rw [eD]; rfl, rfl, by omega, by omega, by omega, by decide, fun y => absurd l1 y, fun y => ?_⟩⟩
  exact ⟨trivial, fun z => absurd z (no_self _), fun z => hC _ _ ⟨j3, C5, _, _, _, _, _, _, _, _, by rw [List.length_append, List.length_singleton]; omega, rfl, rfl⟩⟩
end
end PM

namespace PM
open PySem PySem.Spec PyProof.Rows L2 RZ
section
variable {P : Program} {w : World} {K : PySem.W.Frag} {mg : Str → Option Value} {base : Heap}
end
/-! ### what the top has written -/
set_option maxHeartbeats 8000000 in
theorem all_mk {l : PySem.W.OpenLaw} {w : World} {K : PySem.W.Frag} {h : Heap} {mg : Str → Option Value} {fa : Addr} {q : Program} {loose : List Str} {mean : ExcName → Option Value} {mb : Str → Option Value} (Tq : Top q loose mean mg mb h) {f0 f1 f2 f3 f4 f5 f6 f7 f8 f9 f10 f11 f12 f13 f14 f15 f16 f17 f18 f19 f20 f21 : Addr} (X : K.In h) (G : h.Ns mainGlobals mg) (hfa : mg "law" = some (.ref fa))
    {od0 an0 : Option Addr} {sl0 : Array (Option Value)} {oc0 kV0 dc0 pm0 cd0 ct0 : Value} (a0 : PySem.W.nsIn K mainGlobals "_law_draws" = some (some (.ref f0))) (l0 : K.lookup f0 = some ⟨oc0, od0, .func (PySem.W.fnOf "_law_draws" "_law_draws" (defArgs s__law_draws) (defBody s__law_draws) (defScope s__law_draws) .none kV0 dc0 pm0 an0 cd0 ct0), sl0⟩) (c0 : PySem.W.codeIn K cd0 "_law_draws" = true) (k0 : PySem.W.keepIn K (.ref f0) = true)
    {od1 an1 : Option Addr} {sl1 : Array (Option Value)} {oc1 kV1 dc1 pm1 cd1 ct1 : Value} (a1 : PySem.W.nsIn K mainGlobals "_law_next" = some (some (.ref f1))) (l1 : K.lookup f1 = some ⟨oc1, od1, .func (PySem.W.fnOf "_law_next" "_law_next" (defArgs s__law_next) (defBody s__law_next) (defScope s__law_next) .none kV1 dc1 pm1 an1 cd1 ct1), sl1⟩) (c1 : PySem.W.codeIn K cd1 "_law_next" = true) (k1 : PySem.W.keepIn K (.ref f1) = true)
    {od2 an2 : Option Addr} {sl2 : Array (Option Value)} {oc2 kV2 dc2 pm2 cd2 ct2 : Value} (a2 : PySem.W.nsIn K mainGlobals "_law_size" = some (some (.ref f2))) (l2 : K.lookup f2 = some ⟨oc2, od2, .func (PySem.W.fnOf "_law_size" "_law_size" (defArgs s__law_size) (defBody s__law_size) (defScope s__law_size) .none kV2 dc2 pm2 an2 cd2 ct2), sl2⟩) (c2 : PySem.W.codeIn K cd2 "_law_size" = true) (k2 : PySem.W.keepIn K (.ref f2) = true)
    {od3 an3 : Option Addr} {sl3 : Array (Option Value)} {oc3 kV3 dc3 pm3 cd3 ct3 : Value} (a3 : PySem.W.nsIn K mainGlobals "_law_items" = some (some (.ref f3))) (l3 : K.lookup f3 = some ⟨oc3, od3, .func (PySem.W.fnOf "_law_items" "_law_items" (defArgs s__law_items) (defBody s__law_items) (defScope s__law_items) .none kV3 dc3 pm3 an3 cd3 ct3), sl3⟩) (c3 : PySem.W.codeIn K cd3 "_law_items" = true) (k3 : PySem.W.keepIn K (.ref f3) = true)
    {od4 an4 : Option Addr} {sl4 : Array (Option Value)} {oc4 kV4 dc4 pm4 cd4 ct4 : Value} (a4 : PySem.W.nsIn K mainGlobals "_law_rules" = some (some (.ref f4))) (l4 : K.lookup f4 = some ⟨oc4, od4, .func (PySem.W.fnOf "_law_rules" "_law_rules" (defArgs s__law_rules) (defBody s__law_rules) (defScope s__law_rules) .none kV4 dc4 pm4 an4 cd4 ct4), sl4⟩) (c4 : PySem.W.codeIn K cd4 "_law_rules" = true) (k4 : PySem.W.keepIn K (.ref f4) = true)
    {od5 an5 : Option Addr} {sl5 : Array (Option Value)} {oc5 kV5 dc5 pm5 cd5 ct5 : Value} (a5 : PySem.W.nsIn K mainGlobals "_law_panel" = some (some (.ref f5))) (l5 : K.lookup f5 = some ⟨oc5, od5, .func (PySem.W.fnOf "_law_panel" "_law_panel" (defArgs s__law_panel) (defBody s__law_panel) (defScope s__law_panel) .none kV5 dc5 pm5 an5 cd5 ct5), sl5⟩) (c5 : PySem.W.codeIn K cd5 "_law_panel" = true) (k5 : PySem.W.keepIn K (.ref f5) = true)
    {od6 an6 : Option Addr} {sl6 : Array (Option Value)} {oc6 kV6 dc6 pm6 cd6 ct6 : Value} (a6 : PySem.W.nsIn K mainGlobals "_law_room" = some (some (.ref f6))) (l6 : K.lookup f6 = some ⟨oc6, od6, .func (PySem.W.fnOf "_law_room" "_law_room" (defArgs s__law_room) (defBody s__law_room) (defScope s__law_room) .none kV6 dc6 pm6 an6 cd6 ct6), sl6⟩) (c6 : PySem.W.codeIn K cd6 "_law_room" = true) (k6 : PySem.W.keepIn K (.ref f6) = true)
    {od7 an7 : Option Addr} {sl7 : Array (Option Value)} {oc7 kV7 dc7 pm7 cd7 ct7 : Value} (a7 : PySem.W.nsIn K mainGlobals "_law_refused" = some (some (.ref f7))) (l7 : K.lookup f7 = some ⟨oc7, od7, .func (PySem.W.fnOf "_law_refused" "_law_refused" (defArgs s__law_refused) (defBody s__law_refused) (defScope s__law_refused) .none kV7 dc7 pm7 an7 cd7 ct7), sl7⟩) (c7 : PySem.W.codeIn K cd7 "_law_refused" = true) (k7 : PySem.W.keepIn K (.ref f7) = true)
    {od8 an8 : Option Addr} {sl8 : Array (Option Value)} {oc8 kV8 dc8 pm8 cd8 ct8 : Value} (a8 : PySem.W.nsIn K mainGlobals "is_plain_integer" = some (some (.ref f8))) (l8 : K.lookup f8 = some ⟨oc8, od8, .func (PySem.W.fnOf "is_plain_integer" "is_plain_integer" (defArgs s_is_plain_integer) (defBody s_is_plain_integer) (defScope s_is_plain_integer) .none kV8 dc8 pm8 an8 cd8 ct8), sl8⟩) (c8 : PySem.W.codeIn K cd8 "is_plain_integer" = true) (k8 : PySem.W.keepIn K (.ref f8) = true)
    {od9 an9 : Option Addr} {sl9 : Array (Option Value)} {oc9 kV9 dc9 pm9 cd9 ct9 : Value} (a9 : PySem.W.nsIn K mainGlobals "is_mark" = some (some (.ref f9))) (l9 : K.lookup f9 = some ⟨oc9, od9, .func (PySem.W.fnOf "is_mark" "is_mark" (defArgs s_is_mark) (defBody s_is_mark) (defScope s_is_mark) .none kV9 dc9 pm9 an9 cd9 ct9), sl9⟩) (c9 : PySem.W.codeIn K cd9 "is_mark" = true) (k9 : PySem.W.keepIn K (.ref f9) = true)
    {od10 an10 : Option Addr} {sl10 : Array (Option Value)} {oc10 kV10 dc10 pm10 cd10 ct10 : Value} (a10 : PySem.W.nsIn K mainGlobals "is_weight" = some (some (.ref f10))) (l10 : K.lookup f10 = some ⟨oc10, od10, .func (PySem.W.fnOf "is_weight" "is_weight" (defArgs s_is_weight) (defBody s_is_weight) (defScope s_is_weight) .none kV10 dc10 pm10 an10 cd10 ct10), sl10⟩) (c10 : PySem.W.codeIn K cd10 "is_weight" = true) (k10 : PySem.W.keepIn K (.ref f10) = true)
    {od11 an11 : Option Addr} {sl11 : Array (Option Value)} {oc11 kV11 dc11 pm11 cd11 ct11 : Value} (a11 : PySem.W.nsIn K mainGlobals "with_items" = some (some (.ref f11))) (l11 : K.lookup f11 = some ⟨oc11, od11, .func (PySem.W.fnOf "with_items" "with_items" (defArgs s_with_items) (defBody s_with_items) (defScope s_with_items) .none kV11 dc11 pm11 an11 cd11 ct11), sl11⟩) (c11 : PySem.W.codeIn K cd11 "with_items" = true) (k11 : PySem.W.keepIn K (.ref f11) = true)
    {od12 an12 : Option Addr} {sl12 : Array (Option Value)} {oc12 kV12 dc12 pm12 cd12 ct12 : Value} (a12 : PySem.W.nsIn K mainGlobals "shift_panel" = some (some (.ref f12))) (l12 : K.lookup f12 = some ⟨oc12, od12, .func (PySem.W.fnOf "shift_panel" "shift_panel" (defArgs s_shift_panel) (defBody s_shift_panel) (defScope s_shift_panel) .none kV12 dc12 pm12 an12 cd12 ct12), sl12⟩) (c12 : PySem.W.codeIn K cd12 "shift_panel" = true) (k12 : PySem.W.keepIn K (.ref f12) = true)
    {od13 an13 : Option Addr} {sl13 : Array (Option Value)} {oc13 kV13 dc13 pm13 cd13 ct13 : Value} (a13 : PySem.W.nsIn K mainGlobals "scale_panel" = some (some (.ref f13))) (l13 : K.lookup f13 = some ⟨oc13, od13, .func (PySem.W.fnOf "scale_panel" "scale_panel" (defArgs s_scale_panel) (defBody s_scale_panel) (defScope s_scale_panel) .none kV13 dc13 pm13 an13 cd13 ct13), sl13⟩) (c13 : PySem.W.codeIn K cd13 "scale_panel" = true) (k13 : PySem.W.keepIn K (.ref f13) = true)
    {od14 an14 : Option Addr} {sl14 : Array (Option Value)} {oc14 kV14 dc14 pm14 cd14 ct14 : Value} (a14 : PySem.W.nsIn K mainGlobals "weigh_panel" = some (some (.ref f14))) (l14 : K.lookup f14 = some ⟨oc14, od14, .func (PySem.W.fnOf "weigh_panel" "weigh_panel" (defArgs s_weigh_panel) (defBody s_weigh_panel) (defScope s_weigh_panel) .none kV14 dc14 pm14 an14 cd14 ct14), sl14⟩) (c14 : PySem.W.codeIn K cd14 "weigh_panel" = true) (k14 : PySem.W.keepIn K (.ref f14) = true)
    {od15 an15 : Option Addr} {sl15 : Array (Option Value)} {oc15 kV15 dc15 pm15 cd15 ct15 : Value} (a15 : PySem.W.nsIn K mainGlobals "_law_amounts_right" = some (some (.ref f15))) (l15 : K.lookup f15 = some ⟨oc15, od15, .func (PySem.W.fnOf "_law_amounts_right" "_law_amounts_right" (defArgs s__law_amounts_right) (defBody s__law_amounts_right) (defScope s__law_amounts_right) .none kV15 dc15 pm15 an15 cd15 ct15), sl15⟩) (c15 : PySem.W.codeIn K cd15 "_law_amounts_right" = true) (k15 : PySem.W.keepIn K (.ref f15) = true)
    {od16 an16 : Option Addr} {sl16 : Array (Option Value)} {oc16 kV16 dc16 pm16 cd16 ct16 : Value} (a16 : PySem.W.nsIn K mainGlobals "renamed_rules" = some (some (.ref f16))) (l16 : K.lookup f16 = some ⟨oc16, od16, .func (PySem.W.fnOf "renamed_rules" "renamed_rules" (defArgs s_renamed_rules) (defBody s_renamed_rules) (defScope s_renamed_rules) .none kV16 dc16 pm16 an16 cd16 ct16), sl16⟩) (c16 : PySem.W.codeIn K cd16 "renamed_rules" = true) (k16 : PySem.W.keepIn K (.ref f16) = true)
    {od17 an17 : Option Addr} {sl17 : Array (Option Value)} {oc17 kV17 dc17 pm17 cd17 ct17 : Value} (a17 : PySem.W.nsIn K mainGlobals "chosen_items" = some (some (.ref f17))) (l17 : K.lookup f17 = some ⟨oc17, od17, .func (PySem.W.fnOf "chosen_items" "chosen_items" (defArgs s_chosen_items) (defBody s_chosen_items) (defScope s_chosen_items) .none kV17 dc17 pm17 an17 cd17 ct17), sl17⟩) (c17 : PySem.W.codeIn K cd17 "chosen_items" = true) (k17 : PySem.W.keepIn K (.ref f17) = true)
    {od18 an18 : Option Addr} {sl18 : Array (Option Value)} {oc18 kV18 dc18 pm18 cd18 ct18 : Value} (a18 : PySem.W.nsIn K mainGlobals "without_item" = some (some (.ref f18))) (l18 : K.lookup f18 = some ⟨oc18, od18, .func (PySem.W.fnOf "without_item" "without_item" (defArgs s_without_item) (defBody s_without_item) (defScope s_without_item) .none kV18 dc18 pm18 an18 cd18 ct18), sl18⟩) (c18 : PySem.W.codeIn K cd18 "without_item" = true) (k18 : PySem.W.keepIn K (.ref f18) = true)
    {od19 an19 : Option Addr} {sl19 : Array (Option Value)} {oc19 kV19 dc19 pm19 cd19 ct19 : Value} (a19 : PySem.W.nsIn K mainGlobals "combine_panels" = some (some (.ref f19))) (l19 : K.lookup f19 = some ⟨oc19, od19, .func (PySem.W.fnOf "combine_panels" "combine_panels" (defArgs s_combine_panels) (defBody s_combine_panels) (defScope s_combine_panels) .none kV19 dc19 pm19 an19 cd19 ct19), sl19⟩) (c19 : PySem.W.codeIn K cd19 "combine_panels" = true) (k19 : PySem.W.keepIn K (.ref f19) = true)
    {od20 an20 : Option Addr} {sl20 : Array (Option Value)} {oc20 kV20 dc20 pm20 cd20 ct20 : Value} (a20 : PySem.W.nsIn K mainGlobals "_law_pair_right" = some (some (.ref f20))) (l20 : K.lookup f20 = some ⟨oc20, od20, .func (PySem.W.fnOf "_law_pair_right" "_law_pair_right" (defArgs s__law_pair_right) (defBody s__law_pair_right) (defScope s__law_pair_right) .none kV20 dc20 pm20 an20 cd20 ct20), sl20⟩) (c20 : PySem.W.codeIn K cd20 "_law_pair_right" = true) (k20 : PySem.W.keepIn K (.ref f20) = true)
    {od21 an21 : Option Addr} {sl21 : Array (Option Value)} {oc21 kV21 dc21 pm21 cd21 ct21 : Value} (a21 : PySem.W.nsIn K mainGlobals "law" = some (some (.ref f21))) (l21 : K.lookup f21 = some ⟨oc21, od21, .func (PySem.W.fnOf "law" "law" (defArgs s_law) (defBody s_law) (defScope s_law) .none kV21 dc21 pm21 an21 cd21 ct21), sl21⟩) (c21 : PySem.W.codeIn K cd21 "law" = true) (k21 : PySem.W.keepIn K (.ref f21) = true)
    (z0 : PySem.W.nsIn K mainGlobals "len" = some none)
    (z1 : PySem.W.nsIn K mainGlobals "int" = some none)
    (z2 : PySem.W.nsIn K mainGlobals "list" = some none)
    (z3 : PySem.W.nsIn K mainGlobals "min" = some none)
    (z4 : PySem.W.nsIn K mainGlobals "tuple" = some none)
    (z5 : PySem.W.nsIn K mainGlobals "range" = some none)
    (z6 : PySem.W.nsIn K mainGlobals "max" = some none)
    (z7 : PySem.W.nsIn K mainGlobals "abs" = some none)
    (z8 : PySem.W.nsIn K mainGlobals "isinstance" = some none)
    (z9 : PySem.W.nsIn K mainGlobals "ValueError" = some none)
    (z10 : PySem.W.nsIn K mainGlobals "bool" = some none)
    (z11 : PySem.W.nsIn K mainGlobals "enumerate" = some none)
    (z12 : PySem.W.nsIn K mainGlobals "repr" = some none)
    {t0 : Tok} (y0 : PySem.W.nsIn K mainGlobals "MARK" = some (some (.int (1000000000) t0)))
    {t1 : Tok} (y1 : PySem.W.nsIn K mainGlobals "WEIGHT" = some (some (.int (1000000) t1)))
    {t2 : Tok} (y2 : PySem.W.nsIn K mainGlobals "RULES" = some (some (.int (16) t2)))
    {t3 : Tok} (y3 : PySem.W.nsIn K mainGlobals "ITEMS" = some (some (.int (8) t3)))
    {C_Full C_LastItem C_OutOfRange C_MarksError C_InvalidMark C_InvalidWeight C_NotFalling : Addr}
    (xg_Full : PySem.W.nsIn K mainGlobals "Full" = some (some (.ref C_Full)))
    (xx_Full : PySem.W.excIn K C_Full [.type "ValueError", .type "Exception", .type "BaseException", .type "object"] "ValueError.__new__" = true)
    (xk_Full : PySem.W.keepIn K (.ref C_Full) = true)
    (xb_Full : PySem.W.subIn K (.ref C_Full) (.type "BaseException") = some true)
    (xt_Full : PySem.W.typeIn K (.ref C_Full) = some (.type "type"))
    (xe1_Full : PySem.W.findIn K (.ref C_Full) "__getattribute__" = some (some (.builtin "BaseException.__getattribute__")))
    (xe2_Full : PySem.W.findIn K (.ref C_Full) "__getattr__" = some none)
    (xe4_Full : PySem.W.hasDictIn K C_Full = true)
    (xe5_Full : PySem.W.findIn K (.ref C_Full) "__class__" = some (some (.builtin "object.__class__")))
    (xe6_Full : PySem.W.specialIn K (.builtin "object.__class__") "__get__" = some (some (.builtin "getset_descriptor.__get__")))
    (xe7_Full : PySem.W.takesIn K (.builtin "object.__class__") = some true)
    (xe8_Full : PySem.W.mroIn K C_Full (.type "object") = some true)
    (xs_Full : PySem.W.subIn K (.ref C_Full) (.ref C_Full) = some true)
    (xg_LastItem : PySem.W.nsIn K mainGlobals "LastItem" = some (some (.ref C_LastItem)))
    (xx_LastItem : PySem.W.excIn K C_LastItem [.type "ValueError", .type "Exception", .type "BaseException", .type "object"] "ValueError.__new__" = true)
    (xk_LastItem : PySem.W.keepIn K (.ref C_LastItem) = true)
    (xb_LastItem : PySem.W.subIn K (.ref C_LastItem) (.type "BaseException") = some true)
    (xt_LastItem : PySem.W.typeIn K (.ref C_LastItem) = some (.type "type"))
    (xe1_LastItem : PySem.W.findIn K (.ref C_LastItem) "__getattribute__" = some (some (.builtin "BaseException.__getattribute__")))
    (xe2_LastItem : PySem.W.findIn K (.ref C_LastItem) "__getattr__" = some none)
    (xe4_LastItem : PySem.W.hasDictIn K C_LastItem = true)
    (xe5_LastItem : PySem.W.findIn K (.ref C_LastItem) "__class__" = some (some (.builtin "object.__class__")))
    (xe6_LastItem : PySem.W.specialIn K (.builtin "object.__class__") "__get__" = some (some (.builtin "getset_descriptor.__get__")))
    (xe7_LastItem : PySem.W.takesIn K (.builtin "object.__class__") = some true)
    (xe8_LastItem : PySem.W.mroIn K C_LastItem (.type "object") = some true)
    (xs_LastItem : PySem.W.subIn K (.ref C_LastItem) (.ref C_LastItem) = some true)
    (xg_OutOfRange : PySem.W.nsIn K mainGlobals "OutOfRange" = some (some (.ref C_OutOfRange)))
    (xx_OutOfRange : PySem.W.excIn K C_OutOfRange [.type "ValueError", .type "Exception", .type "BaseException", .type "object"] "ValueError.__new__" = true)
    (xk_OutOfRange : PySem.W.keepIn K (.ref C_OutOfRange) = true)
    (xb_OutOfRange : PySem.W.subIn K (.ref C_OutOfRange) (.type "BaseException") = some true)
    (xt_OutOfRange : PySem.W.typeIn K (.ref C_OutOfRange) = some (.type "type"))
    (xe1_OutOfRange : PySem.W.findIn K (.ref C_OutOfRange) "__getattribute__" = some (some (.builtin "BaseException.__getattribute__")))
    (xe2_OutOfRange : PySem.W.findIn K (.ref C_OutOfRange) "__getattr__" = some none)
    (xe4_OutOfRange : PySem.W.hasDictIn K C_OutOfRange = true)
    (xe5_OutOfRange : PySem.W.findIn K (.ref C_OutOfRange) "__class__" = some (some (.builtin "object.__class__")))
    (xe6_OutOfRange : PySem.W.specialIn K (.builtin "object.__class__") "__get__" = some (some (.builtin "getset_descriptor.__get__")))
    (xe7_OutOfRange : PySem.W.takesIn K (.builtin "object.__class__") = some true)
    (xe8_OutOfRange : PySem.W.mroIn K C_OutOfRange (.type "object") = some true)
    (xs_OutOfRange : PySem.W.subIn K (.ref C_OutOfRange) (.ref C_OutOfRange) = some true)
    (xg_MarksError : PySem.W.nsIn K mainGlobals "MarksError" = some (some (.ref C_MarksError)))
    (xg_InvalidMark : PySem.W.nsIn K mainGlobals "InvalidMark" = some (some (.ref C_InvalidMark)))
    (xg_InvalidWeight : PySem.W.nsIn K mainGlobals "InvalidWeight" = some (some (.ref C_InvalidWeight)))
    (xg_NotFalling : PySem.W.nsIn K mainGlobals "NotFalling" = some (some (.ref C_NotFalling)))
    (xm1 : PySem.W.subIn K (.ref C_MarksError) (.type "BaseException") = some true)
    (xm2 : PySem.W.hasDictIn K C_MarksError = true)
    (xm3 : PySem.W.typeIn K (.ref C_MarksError) = some (.type "type"))
    (xm_Full : PySem.W.subIn K (.ref C_Full) (.ref C_MarksError) = some true)
    (kv_Full : PySem.W.kitOne K (.ref C_Full) (.type "ValueError") = some true)
    (k_Full_Full : PySem.W.kitOne K (.ref C_Full) (.ref C_Full) = some true)
    (k_Full_LastItem : PySem.W.kitOne K (.ref C_Full) (.ref C_LastItem) = some false)
    (k_Full_OutOfRange : PySem.W.kitOne K (.ref C_Full) (.ref C_OutOfRange) = some false)
    (k_Full_InvalidMark : PySem.W.kitOne K (.ref C_Full) (.ref C_InvalidMark) = some false)
    (k_Full_InvalidWeight : PySem.W.kitOne K (.ref C_Full) (.ref C_InvalidWeight) = some false)
    (k_Full_NotFalling : PySem.W.kitOne K (.ref C_Full) (.ref C_NotFalling) = some false)
    (xm_LastItem : PySem.W.subIn K (.ref C_LastItem) (.ref C_MarksError) = some true)
    (kv_LastItem : PySem.W.kitOne K (.ref C_LastItem) (.type "ValueError") = some true)
    (k_LastItem_Full : PySem.W.kitOne K (.ref C_LastItem) (.ref C_Full) = some false)
    (k_LastItem_LastItem : PySem.W.kitOne K (.ref C_LastItem) (.ref C_LastItem) = some true)
    (k_LastItem_OutOfRange : PySem.W.kitOne K (.ref C_LastItem) (.ref C_OutOfRange) = some false)
    (k_LastItem_InvalidMark : PySem.W.kitOne K (.ref C_LastItem) (.ref C_InvalidMark) = some false)
    (k_LastItem_InvalidWeight : PySem.W.kitOne K (.ref C_LastItem) (.ref C_InvalidWeight) = some false)
    (k_LastItem_NotFalling : PySem.W.kitOne K (.ref C_LastItem) (.ref C_NotFalling) = some false)
    (xm_OutOfRange : PySem.W.subIn K (.ref C_OutOfRange) (.ref C_MarksError) = some true)
    (kv_OutOfRange : PySem.W.kitOne K (.ref C_OutOfRange) (.type "ValueError") = some true)
    (k_OutOfRange_Full : PySem.W.kitOne K (.ref C_OutOfRange) (.ref C_Full) = some false)
    (k_OutOfRange_LastItem : PySem.W.kitOne K (.ref C_OutOfRange) (.ref C_LastItem) = some false)
    (k_OutOfRange_OutOfRange : PySem.W.kitOne K (.ref C_OutOfRange) (.ref C_OutOfRange) = some true)
    (k_OutOfRange_InvalidMark : PySem.W.kitOne K (.ref C_OutOfRange) (.ref C_InvalidMark) = some false)
    (k_OutOfRange_InvalidWeight : PySem.W.kitOne K (.ref C_OutOfRange) (.ref C_InvalidWeight) = some false)
    (k_OutOfRange_NotFalling : PySem.W.kitOne K (.ref C_OutOfRange) (.ref C_NotFalling) = some false)
    {cA__law_amounts_right tP__law_amounts_right : Addr} {oA__law_amounts_right : Value} {odA__law_amounts_right : Option Addr} {vsA__law_amounts_right : Array Value} {slA__law_amounts_right : Array (Option Value)} (e__law_amounts_right : cd15 = .ref cA__law_amounts_right) (w__law_amounts_right : K.lookup cA__law_amounts_right = some ⟨oA__law_amounts_right, odA__law_amounts_right, .fields vsA__law_amounts_right, slA__law_amounts_right⟩) (v__law_amounts_right : vsA__law_amounts_right[11]? = some (.ref tP__law_amounts_right)) (n__law_amounts_right : K.lookup tP__law_amounts_right = none) (r__law_amounts_right : ∃ d, (recsOf q).find? (fun e => e.name == ("_law_amounts_right" : Str)) = some d)
    {cA__law_pair_right tP__law_pair_right : Addr} {oA__law_pair_right : Value} {odA__law_pair_right : Option Addr} {vsA__law_pair_right : Array Value} {slA__law_pair_right : Array (Option Value)} (e__law_pair_right : cd20 = .ref cA__law_pair_right) (w__law_pair_right : K.lookup cA__law_pair_right = some ⟨oA__law_pair_right, odA__law_pair_right, .fields vsA__law_pair_right, slA__law_pair_right⟩) (v__law_pair_right : vsA__law_pair_right[11]? = some (.ref tP__law_pair_right)) (n__law_pair_right : K.lookup tP__law_pair_right = none) (r__law_pair_right : ∃ d, (recsOf q).find? (fun e => e.name == ("_law_pair_right" : Str)) = some d)
    {cA_law tP_law : Addr} {oA_law : Value} {odA_law : Option Addr} {vsA_law : Array Value} {slA_law : Array (Option Value)} (e_law : cd21 = .ref cA_law) (w_law : K.lookup cA_law = some ⟨oA_law, odA_law, .fields vsA_law, slA_law⟩) (v_law : vsA_law[11]? = some (.ref tP_law)) (n_law : K.lookup tP_law = none) (r_law : ∃ d, (recsOf q).find? (fun e => e.name == ("law" : Str)) = some d)
    (u__law_amounts_right__law_pair_right : tP__law_amounts_right ≠ tP__law_pair_right)
    (u__law_amounts_right_law : tP__law_amounts_right ≠ tP_law)
    (u__law_pair_right__law_amounts_right : tP__law_pair_right ≠ tP__law_amounts_right)
    (u__law_pair_right_law : tP__law_pair_right ≠ tP_law)
    (u_law__law_amounts_right : tP_law ≠ tP__law_amounts_right)
    (u_law__law_pair_right : tP_law ≠ tP__law_pair_right)
    : ∃ cs : List (Addr × Addr), PySem.W.TabsAt cs h ∧ (∀ p ∈ cs, K.lookup p.2 = none) ∧ ∀ (base : Heap) (H : Hp) (sh : Shared) (scr : Addr) (ns : List Int), ns.length ≤ 63 → K.In base → base.Ns mainGlobals mg → (∀ p ∈ cs, LamX.TabB base mg p.1 p.2) → (∀ p ∈ cs, H p.2 = some (.tbl #[])) → SqL K H scr (ns.map V.int) → Env0 l.prog w K mg base callerA [] sh H → codeAny (model l.prog w) callerA (.call (.ref fa) ⟨[.ref scr], []⟩) (CR CX0 [] l.prog w H sh (fun v _ => v = .bl true) E0) sh := by
  subst e__law_amounts_right
  obtain ⟨rd__law_amounts_right, rh__law_amounts_right⟩ := r__law_amounts_right
  have A__law_amounts_right := PySem.W.tab_of Tq X rh__law_amounts_right (tabIn_mk a15 l15 rfl w__law_amounts_right v__law_amounts_right)
  subst e__law_pair_right
  obtain ⟨rd__law_pair_right, rh__law_pair_right⟩ := r__law_pair_right
  have A__law_pair_right := PySem.W.tab_of Tq X rh__law_pair_right (tabIn_mk a20 l20 rfl w__law_pair_right v__law_pair_right)
  subst e_law
  obtain ⟨rd_law, rh_law⟩ := r_law
  have A_law := PySem.W.tab_of Tq X rh_law (tabIn_mk a21 l21 rfl w_law v_law)
  refine ⟨[(cA__law_amounts_right, tP__law_amounts_right), (cA__law_pair_right, tP__law_pair_right), (cA_law, tP_law)], fun p hp => by
    simp only [List.mem_cons, List.not_mem_nil, or_false] at hp
    rcases hp with rfl | rfl | rfl
    · exact A__law_amounts_right
    · exact A__law_pair_right
    · exact A_law, fun p hp => by
    simp only [List.mem_cons, List.not_mem_nil, or_false] at hp
    rcases hp with rfl | rfl | rfl
    · exact n__law_amounts_right
    · exact n__law_pair_right
    · exact n_law, fun base H sh scr ns few inB glob TBs tbs seq e0 => ?_⟩
  have TB__law_amounts_right : LamX.TabB base mg cA__law_amounts_right tP__law_amounts_right := TBs (cA__law_amounts_right, tP__law_amounts_right) (by simp)
  have hT__law_amounts_right : (tP__law_amounts_right, lamQ (locQ "_law_amounts_right")) ∈ ([(tP__law_amounts_right, lamQ (locQ "_law_amounts_right")), (tP__law_pair_right, lamQ (locQ "_law_pair_right")), (tP_law, lamQ (locQ "law"))] : Tbs) := List.mem_cons_self
  have hu__law_amounts_right : ∀ p ∈ ([(tP__law_amounts_right, lamQ (locQ "_law_amounts_right")), (tP__law_pair_right, lamQ (locQ "_law_pair_right")), (tP_law, lamQ (locQ "law"))] : Tbs), p.1 = tP__law_amounts_right → p.2 = lamQ (locQ "_law_amounts_right") := fun p hp => by
    simp only [List.mem_cons, List.not_mem_nil, or_false] at hp
    rcases hp with rfl | rfl | rfl
    · exact fun z => rfl
    · exact fun z => absurd z u__law_pair_right__law_amounts_right
    · exact fun z => absurd z u_law__law_amounts_right
  have TB__law_pair_right : LamX.TabB base mg cA__law_pair_right tP__law_pair_right := TBs (cA__law_pair_right, tP__law_pair_right) (by simp)
  have hT__law_pair_right : (tP__law_pair_right, lamQ (locQ "_law_pair_right")) ∈ ([(tP__law_amounts_right, lamQ (locQ "_law_amounts_right")), (tP__law_pair_right, lamQ (locQ "_law_pair_right")), (tP_law, lamQ (locQ "law"))] : Tbs) := (List.mem_cons_of_mem _ List.mem_cons_self)
  have hu__law_pair_right : ∀ p ∈ ([(tP__law_amounts_right, lamQ (locQ "_law_amounts_right")), (tP__law_pair_right, lamQ (locQ "_law_pair_right")), (tP_law, lamQ (locQ "law"))] : Tbs), p.1 = tP__law_pair_right → p.2 = lamQ (locQ "_law_pair_right") := fun p hp => by
    simp only [List.mem_cons, List.not_mem_nil, or_false] at hp
    rcases hp with rfl | rfl | rfl
    · exact fun z => absurd z u__law_amounts_right__law_pair_right
    · exact fun z => rfl
    · exact fun z => absurd z u_law__law_pair_right
  have TB_law : LamX.TabB base mg cA_law tP_law := TBs (cA_law, tP_law) (by simp)
  have hT_law : (tP_law, lamQ (locQ "law")) ∈ ([(tP__law_amounts_right, lamQ (locQ "_law_amounts_right")), (tP__law_pair_right, lamQ (locQ "_law_pair_right")), (tP_law, lamQ (locQ "law"))] : Tbs) := (List.mem_cons_of_mem _ (List.mem_cons_of_mem _ List.mem_cons_self))
  have hu_law : ∀ p ∈ ([(tP__law_amounts_right, lamQ (locQ "_law_amounts_right")), (tP__law_pair_right, lamQ (locQ "_law_pair_right")), (tP_law, lamQ (locQ "law"))] : Tbs), p.1 = tP_law → p.2 = lamQ (locQ "law") := fun p hp => by
    simp only [List.mem_cons, List.not_mem_nil, or_false] at hp
    rcases hp with rfl | rfl | rfl
    · exact fun z => absurd z u__law_amounts_right_law
    · exact fun z => absurd z u__law_pair_right_law
    · exact fun z => rfl
  have tabs : ∀ p ∈ ([(tP__law_amounts_right, lamQ (locQ "_law_amounts_right")), (tP__law_pair_right, lamQ (locQ "_law_pair_right")), (tP_law, lamQ (locQ "law"))] : Tbs), H p.1 = some (.tbl #[]) := fun p hp => by
    simp only [List.mem_cons, List.not_mem_nil, or_false] at hp
    rcases hp with rfl | rfl | rfl
    · exact tbs (cA__law_amounts_right, tP__law_amounts_right) (by simp)
    · exact tbs (cA__law_pair_right, tP__law_pair_right) (by simp)
    · exact tbs (cA_law, tP_law) (by simp)
  have F0 := fun_mk (st := s__law_draws) l0 c0 k0
  have d__law_draws : IsDef K mg "_law_draws" s__law_draws P__law_draws := ⟨_, _, F0, F0.binds (ps := P__law_draws) (fun _ _ _ _ _ _ us hl => match us, hl with | [_], _ => rfl), PySem.W.mg_of X G a0⟩
  have F1 := fun_mk (st := s__law_next) l1 c1 k1
  have d__law_next : IsDef K mg "_law_next" s__law_next P__law_next := ⟨_, _, F1, F1.binds (ps := P__law_next) (fun _ _ _ _ _ _ us hl => match us, hl with | [_, _], _ => rfl), PySem.W.mg_of X G a1⟩
  have F2 := fun_mk (st := s__law_size) l2 c2 k2
  have d__law_size : IsDef K mg "_law_size" s__law_size P__law_size := ⟨_, _, F2, F2.binds (ps := P__law_size) (fun _ _ _ _ _ _ us hl => match us, hl with | [_, _], _ => rfl), PySem.W.mg_of X G a2⟩
  have F3 := fun_mk (st := s__law_items) l3 c3 k3
  have d__law_items : IsDef K mg "_law_items" s__law_items P__law_items := ⟨_, _, F3, F3.binds (ps := P__law_items) (fun _ _ _ _ _ _ us hl => match us, hl with | [_, _], _ => rfl), PySem.W.mg_of X G a3⟩
  have F4 := fun_mk (st := s__law_rules) l4 c4 k4
  have d__law_rules : IsDef K mg "_law_rules" s__law_rules P__law_rules := ⟨_, _, F4, F4.binds (ps := P__law_rules) (fun _ _ _ _ _ _ us hl => match us, hl with | [_, _], _ => rfl), PySem.W.mg_of X G a4⟩
  have F5 := fun_mk (st := s__law_panel) l5 c5 k5
  have d__law_panel : IsDef K mg "_law_panel" s__law_panel P__law_panel := ⟨_, _, F5, F5.binds (ps := P__law_panel) (fun _ _ _ _ _ _ us hl => match us, hl with | [_, _], _ => rfl), PySem.W.mg_of X G a5⟩
  have F6 := fun_mk (st := s__law_room) l6 c6 k6
  have d__law_room : IsDef K mg "_law_room" s__law_room P__law_room := ⟨_, _, F6, F6.binds (ps := P__law_room) (fun _ _ _ _ _ _ us hl => match us, hl with | [_], _ => rfl), PySem.W.mg_of X G a6⟩
  have F7 := fun_mk (st := s__law_refused) l7 c7 k7
  have d__law_refused : IsDef K mg "_law_refused" s__law_refused P__law_refused := ⟨_, _, F7, F7.binds (ps := P__law_refused) (fun _ _ _ _ _ _ us hl => match us, hl with | [_], _ => rfl), PySem.W.mg_of X G a7⟩
  have F8 := fun_mk (st := s_is_plain_integer) l8 c8 k8
  have d_is_plain_integer : IsDef K mg "is_plain_integer" s_is_plain_integer P_is_plain_integer := ⟨_, _, F8, F8.binds (ps := P_is_plain_integer) (fun _ _ _ _ _ _ us hl => match us, hl with | [_], _ => rfl), PySem.W.mg_of X G a8⟩
  have F9 := fun_mk (st := s_is_mark) l9 c9 k9
  have d_is_mark : IsDef K mg "is_mark" s_is_mark P_is_mark := ⟨_, _, F9, F9.binds (ps := P_is_mark) (fun _ _ _ _ _ _ us hl => match us, hl with | [_], _ => rfl), PySem.W.mg_of X G a9⟩
  have F10 := fun_mk (st := s_is_weight) l10 c10 k10
  have d_is_weight : IsDef K mg "is_weight" s_is_weight P_is_weight := ⟨_, _, F10, F10.binds (ps := P_is_weight) (fun _ _ _ _ _ _ us hl => match us, hl with | [_], _ => rfl), PySem.W.mg_of X G a10⟩
  have F11 := fun_mk (st := s_with_items) l11 c11 k11
  have d_with_items : IsDef K mg "with_items" s_with_items P_with_items := ⟨_, _, F11, F11.binds (ps := P_with_items) (fun _ _ _ _ _ _ us hl => match us, hl with | [_, _], _ => rfl), PySem.W.mg_of X G a11⟩
  have F12 := fun_mk (st := s_shift_panel) l12 c12 k12
  have d_shift_panel : IsDef K mg "shift_panel" s_shift_panel P_shift_panel := ⟨_, _, F12, F12.binds (ps := P_shift_panel) (fun _ _ _ _ _ _ us hl => match us, hl with | [_, _], _ => rfl), PySem.W.mg_of X G a12⟩
  have F13 := fun_mk (st := s_scale_panel) l13 c13 k13
  have d_scale_panel : IsDef K mg "scale_panel" s_scale_panel P_scale_panel := ⟨_, _, F13, F13.binds (ps := P_scale_panel) (fun _ _ _ _ _ _ us hl => match us, hl with | [_, _], _ => rfl), PySem.W.mg_of X G a13⟩
  have F14 := fun_mk (st := s_weigh_panel) l14 c14 k14
  have d_weigh_panel : IsDef K mg "weigh_panel" s_weigh_panel P_weigh_panel := ⟨_, _, F14, F14.binds (ps := P_weigh_panel) (fun _ _ _ _ _ _ us hl => match us, hl with | [_, _], _ => rfl), PySem.W.mg_of X G a14⟩
  have F15 := fun_mk (st := s__law_amounts_right) l15 c15 k15
  have d__law_amounts_right : IsDef K mg "_law_amounts_right" s__law_amounts_right P__law_amounts_right := ⟨_, _, F15, F15.binds (ps := P__law_amounts_right) (fun _ _ _ _ _ _ us hl => match us, hl with | [_, _], _ => rfl), PySem.W.mg_of X G a15⟩
  have F16 := fun_mk (st := s_renamed_rules) l16 c16 k16
  have d_renamed_rules : IsDef K mg "renamed_rules" s_renamed_rules P_renamed_rules := ⟨_, _, F16, F16.binds (ps := P_renamed_rules) (fun _ _ _ _ _ _ us hl => match us, hl with | [_, _], _ => rfl), PySem.W.mg_of X G a16⟩
  have F17 := fun_mk (st := s_chosen_items) l17 c17 k17
  have d_chosen_items : IsDef K mg "chosen_items" s_chosen_items P_chosen_items := ⟨_, _, F17, F17.binds (ps := P_chosen_items) (fun _ _ _ _ _ _ us hl => match us, hl with | [_, _], _ => rfl), PySem.W.mg_of X G a17⟩
  have F18 := fun_mk (st := s_without_item) l18 c18 k18
  have d_without_item : IsDef K mg "without_item" s_without_item P_without_item := ⟨_, _, F18, F18.binds (ps := P_without_item) (fun _ _ _ _ _ _ us hl => match us, hl with | [_, _], _ => rfl), PySem.W.mg_of X G a18⟩
  have F19 := fun_mk (st := s_combine_panels) l19 c19 k19
  have d_combine_panels : IsDef K mg "combine_panels" s_combine_panels P_combine_panels := ⟨_, _, F19, F19.binds (ps := P_combine_panels) (fun _ _ _ _ _ _ us hl => match us, hl with | [_, _], _ => rfl), PySem.W.mg_of X G a19⟩
  have F20 := fun_mk (st := s__law_pair_right) l20 c20 k20
  have d__law_pair_right : IsDef K mg "_law_pair_right" s__law_pair_right P__law_pair_right := ⟨_, _, F20, F20.binds (ps := P__law_pair_right) (fun _ _ _ _ _ _ us hl => match us, hl with | [_, _], _ => rfl), PySem.W.mg_of X G a20⟩
  have F21 := fun_mk (st := s_law) l21 c21 k21
  have d_law : IsDef K mg "law" s_law P_law := ⟨_, _, F21, F21.binds (ps := P_law) (fun _ _ _ _ _ _ us hl => match us, hl with | [_], _ => rfl), PySem.W.mg_of X G a21⟩
  have m_len := PySem.W.mg_none_of X G z0
  have m_int := PySem.W.mg_none_of X G z1
  have m_list := PySem.W.mg_none_of X G z2
  have m_min := PySem.W.mg_none_of X G z3
  have m_tuple := PySem.W.mg_none_of X G z4
  have m_range := PySem.W.mg_none_of X G z5
  have m_max := PySem.W.mg_none_of X G z6
  have m_abs := PySem.W.mg_none_of X G z7
  have m_isinstance := PySem.W.mg_none_of X G z8
  have m_ValueError := PySem.W.mg_none_of X G z9
  have m_bool := PySem.W.mg_none_of X G z10
  have m_enumerate := PySem.W.mg_none_of X G z11
  have m_repr := PySem.W.mg_none_of X G z12
  have g_MARK := PySem.W.mg_of X G y0
  have g_WEIGHT := PySem.W.mg_of X G y1
  have g_RULES := PySem.W.mg_of X G y2
  have g_ITEMS := PySem.W.mg_of X G y3
  have Z_Full : ErrC K mg "Full" C_Full := ⟨PySem.W.mg_of X G xg_Full, xx_Full, xk_Full, xb_Full, xt_Full, ⟨xe1_Full, xe2_Full, xb_Full, xe4_Full, xe5_Full, xe6_Full, xe7_Full, xe8_Full⟩, xs_Full⟩
  have Z_LastItem : ErrC K mg "LastItem" C_LastItem := ⟨PySem.W.mg_of X G xg_LastItem, xx_LastItem, xk_LastItem, xb_LastItem, xt_LastItem, ⟨xe1_LastItem, xe2_LastItem, xb_LastItem, xe4_LastItem, xe5_LastItem, xe6_LastItem, xe7_LastItem, xe8_LastItem⟩, xs_LastItem⟩
  have Z_OutOfRange : ErrC K mg "OutOfRange" C_OutOfRange := ⟨PySem.W.mg_of X G xg_OutOfRange, xx_OutOfRange, xk_OutOfRange, xb_OutOfRange, xt_OutOfRange, ⟨xe1_OutOfRange, xe2_OutOfRange, xb_OutOfRange, xe4_OutOfRange, xe5_OutOfRange, xe6_OutOfRange, xe7_OutOfRange, xe8_OutOfRange⟩, xs_OutOfRange⟩
  have g_MarksError := PySem.W.mg_of X G xg_MarksError
  have g_InvalidMark := PySem.W.mg_of X G xg_InvalidMark
  have g_InvalidWeight := PySem.W.mg_of X G xg_InvalidWeight
  have g_NotFalling := PySem.W.mg_of X G xg_NotFalling
  have ka_Full : PySem.W.kitAny K (.ref C_Full) [.ref C_InvalidMark, .ref C_InvalidWeight, .ref C_NotFalling] = some false := kitAny_cons k_Full_InvalidMark (fun _ => kitAny_cons k_Full_InvalidWeight (fun _ => kitAny_cons k_Full_NotFalling (fun _ => kitAny_nil) (fun z => nomatch z)) (fun z => nomatch z)) (fun z => nomatch z)
  have ka_LastItem : PySem.W.kitAny K (.ref C_LastItem) [.ref C_InvalidMark, .ref C_InvalidWeight, .ref C_NotFalling] = some false := kitAny_cons k_LastItem_InvalidMark (fun _ => kitAny_cons k_LastItem_InvalidWeight (fun _ => kitAny_cons k_LastItem_NotFalling (fun _ => kitAny_nil) (fun z => nomatch z)) (fun z => nomatch z)) (fun z => nomatch z)
  have ka_OutOfRange : PySem.W.kitAny K (.ref C_OutOfRange) [.ref C_InvalidMark, .ref C_InvalidWeight, .ref C_NotFalling] = some false := kitAny_cons k_OutOfRange_InvalidMark (fun _ => kitAny_cons k_OutOfRange_InvalidWeight (fun _ => kitAny_cons k_OutOfRange_NotFalling (fun _ => kitAny_nil) (fun z => nomatch z)) (fun z => nomatch z)) (fun z => nomatch z)
  have ZZ : ErrK K mg C_MarksError C_Full C_LastItem C_OutOfRange C_InvalidMark C_InvalidWeight C_NotFalling := ⟨⟨g_MarksError, Z_Full.g, Z_LastItem.g, Z_OutOfRange.g, g_InvalidMark, g_InvalidWeight, g_NotFalling, m_isinstance, m_ValueError⟩, ⟨Z_Full.e, PySem.W.exm_ref xm1 xm2 xm3 xm_Full, k_Full_Full, k_Full_LastItem, k_Full_OutOfRange, kv_Full, ka_Full, .inl ⟨rfl, rfl, rfl, rfl⟩⟩, ⟨Z_LastItem.e, PySem.W.exm_ref xm1 xm2 xm3 xm_LastItem, k_LastItem_Full, k_LastItem_LastItem, k_LastItem_OutOfRange, kv_LastItem, ka_LastItem, .inr (.inl ⟨rfl, rfl, rfl, rfl⟩)⟩, ⟨Z_OutOfRange.e, PySem.W.exm_ref xm1 xm2 xm3 xm_OutOfRange, k_OutOfRange_Full, k_OutOfRange_LastItem, k_OutOfRange_OutOfRange, kv_OutOfRange, ka_OutOfRange, .inr (.inr ⟨rfl, rfl, rfl, rfl⟩)⟩⟩
  have o__law_draws := okD__law_draws (P := l.prog) (w := w) (K := K) (mg := mg) (base := base) d__law_draws m_len m_int m_list 
  have o__law_next := okD__law_next (P := l.prog) (w := w) (K := K) (mg := mg) (base := base) d__law_next m_len 
  have o__law_size := okD__law_size (P := l.prog) (w := w) (K := K) (mg := mg) (base := base) d__law_size o__law_next m_min 
  have o__law_items := okD__law_items (P := l.prog) (w := w) (K := K) (mg := mg) (base := base) d__law_items o__law_next o__law_size m_tuple m_range 
  have o__law_rules := okD__law_rules (P := l.prog) (w := w) (K := K) (mg := mg) (base := base) d__law_rules o__law_next m_tuple m_int m_range m_max m_min 
  have o__law_panel := okD__law_panel (P := l.prog) (w := w) (K := K) (mg := mg) (base := base) d__law_panel o__law_next o__law_items o__law_rules 
  have o__law_room := okD__law_room (P := l.prog) (w := w) (K := K) (mg := mg) (base := base) d__law_room m_max m_min m_abs 
  have o_is_plain_integer := okD_is_plain_integer (P := l.prog) (w := w) (K := K) (mg := mg) (base := base) d_is_plain_integer m_bool m_isinstance m_int 
  have o_is_mark := okD_is_mark (P := l.prog) (w := w) (K := K) (mg := mg) (base := base) d_is_mark o_is_plain_integer g_MARK 
  have o_is_weight := okD_is_weight (P := l.prog) (w := w) (K := K) (mg := mg) (base := base) d_is_weight o_is_plain_integer g_WEIGHT 
  have o_with_items := okD_with_items (P := l.prog) (w := w) (K := K) (mg := mg) (base := base) d_with_items o_is_mark o_is_weight m_tuple Z_OutOfRange
  have o_shift_panel := okD_shift_panel (P := l.prog) (w := w) (K := K) (mg := mg) (base := base) d_shift_panel o_with_items Z_OutOfRange
  have o_scale_panel := okD_scale_panel (P := l.prog) (w := w) (K := K) (mg := mg) (base := base) d_scale_panel o_with_items Z_OutOfRange
  have o_weigh_panel := okD_weigh_panel (P := l.prog) (w := w) (K := K) (mg := mg) (base := base) d_weigh_panel o_with_items Z_OutOfRange
  have dC__law_amounts_right : IsDefC K mg "_law_amounts_right" s__law_amounts_right P__law_amounts_right cA__law_amounts_right := ⟨_, _, ⟨F15, F15.binds (ps := P__law_amounts_right) (fun _ _ _ _ _ _ us hl => match us, hl with | [_, _], _ => rfl), PySem.W.mg_of X G a15⟩, rfl⟩
  have o__law_amounts_right := okD__law_amounts_right (P := l.prog) (w := w) (K := K) (mg := mg) (base := base) TB__law_amounts_right hT__law_amounts_right hu__law_amounts_right ZZ d__law_refused o__law_room o__law_size o_shift_panel o_scale_panel o_weigh_panel m_int  dC__law_amounts_right
  have o_renamed_rules := okD_renamed_rules (P := l.prog) (w := w) (K := K) (mg := mg) (base := base) d_renamed_rules m_tuple 
  have o_chosen_items := okD_chosen_items (P := l.prog) (w := w) (K := K) (mg := mg) (base := base) d_chosen_items o_renamed_rules m_tuple m_enumerate 
  have o_without_item := okD_without_item (P := l.prog) (w := w) (K := K) (mg := mg) (base := base) d_without_item o_chosen_items m_range m_len Z_LastItem
  have o_combine_panels := okD_combine_panels (P := l.prog) (w := w) (K := K) (mg := mg) (base := base) d_combine_panels o_renamed_rules m_len m_range g_RULES g_ITEMS Z_Full
  have dC__law_pair_right : IsDefC K mg "_law_pair_right" s__law_pair_right P__law_pair_right cA__law_pair_right := ⟨_, _, ⟨F20, F20.binds (ps := P__law_pair_right) (fun _ _ _ _ _ _ us hl => match us, hl with | [_, _], _ => rfl), PySem.W.mg_of X G a20⟩, rfl⟩
  have o__law_pair_right := okD__law_pair_right (P := l.prog) (w := w) (K := K) (mg := mg) (base := base) TB__law_pair_right hT__law_pair_right hu__law_pair_right ZZ d__law_refused o_combine_panels m_int m_len  dC__law_pair_right
  have e := hfa.symm.trans (PySem.W.mg_of X G a21)
  cases e
  have room : Room (8 + 1) callerA := ⟨rfl, by decide, by decide⟩
  refine enter_at (N := N_law) (ps := P_law) (us := [.ref scr]) (vs := [.ref scr]) l21 c21 sc_law rfl room e0 (.of_eq rfl) (.cons rfl .nil) ?_
  obtain ⟨t, der, rd⟩ := ok_law (P := l.prog) (w := w) (base := base) (sh := sh) few seq (room.deeper _) TB_law hT_law hu_law ZZ d__law_refused o__law_draws o__law_panel o__law_amounts_right o_without_item o__law_pair_right m_range m_repr m_len m_int  tabs
  exact ⟨t, der.nox, rd⟩
end PM
open PySem PySem.W PyProof.Rows
set_option maxHeartbeats 0 in
theorem PySem.Challenge.cw_poolmarks_k59_changes_refused_holds : PySem.Challenge.rw_poolmarks_k59_changes_refused.Holds := by
  w_on; o_law; k_head; (case hw => w_witness2)
  k_fill
  refine PM.walk_atT (l := PySem.Challenge.rw_poolmarks_k59_changes_refused) (n := 63) rfl (by decide) rfl (fun w h Y => PySem.W.km_in_of Y) ?F
  case F =>
    intro w mean mg mb fa h KX Tq hmg
    refine' PM.all_mk Tq KX Tq.g hmg ?a0 ?l0 ?c0 ?k0 ?a1 ?l1 ?c1 ?k1 ?a2 ?l2 ?c2 ?k2 ?a3 ?l3 ?c3 ?k3 ?a4 ?l4 ?c4 ?k4 ?a5 ?l5 ?c5 ?k5 ?a6 ?l6 ?c6 ?k6 ?a7 ?l7 ?c7 ?k7 ?a8 ?l8 ?c8 ?k8 ?a9 ?l9 ?c9 ?k9 ?a10 ?l10 ?c10 ?k10 ?a11 ?l11 ?c11 ?k11 ?a12 ?l12 ?c12 ?k12 ?a13 ?l13 ?c13 ?k13 ?a14 ?l14 ?c14 ?k14 ?a15 ?l15 ?c15 ?k15 ?a16 ?l16 ?c16 ?k16 ?a17 ?l17 ?c17 ?k17 ?a18 ?l18 ?c18 ?k18 ?a19 ?l19 ?c19 ?k19 ?a20 ?l20 ?c20 ?k20 ?a21 ?l21 ?c21 ?k21 ?z0 ?z1 ?z2 ?z3 ?z4 ?z5 ?z6 ?z7 ?z8 ?z9 ?z10 ?z11 ?z12 ?y0 ?y1 ?y2 ?y3 ?xg_Full ?xx_Full ?xk_Full ?xb_Full ?xt_Full ?xe1_Full ?xe2_Full ?xe4_Full ?xe5_Full ?xe6_Full ?xe7_Full ?xe8_Full ?xs_Full ?xg_LastItem ?xx_LastItem ?xk_LastItem ?xb_LastItem ?xt_LastItem ?xe1_LastItem ?xe2_LastItem ?xe4_LastItem ?xe5_LastItem ?xe6_LastItem ?xe7_LastItem ?xe8_LastItem ?xs_LastItem ?xg_OutOfRange ?xx_OutOfRange ?xk_OutOfRange ?xb_OutOfRange ?xt_OutOfRange ?xe1_OutOfRange ?xe2_OutOfRange ?xe4_OutOfRange ?xe5_OutOfRange ?xe6_OutOfRange ?xe7_OutOfRange ?xe8_OutOfRange ?xs_OutOfRange ?xg_MarksError ?xg_InvalidMark ?xg_InvalidWeight ?xg_NotFalling ?xm1 ?xm2 ?xm3 ?xm_Full ?kv_Full ?k_Full_Full ?k_Full_LastItem ?k_Full_OutOfRange ?k_Full_InvalidMark ?k_Full_InvalidWeight ?k_Full_NotFalling ?xm_LastItem ?kv_LastItem ?k_LastItem_Full ?k_LastItem_LastItem ?k_LastItem_OutOfRange ?k_LastItem_InvalidMark ?k_LastItem_InvalidWeight ?k_LastItem_NotFalling ?xm_OutOfRange ?kv_OutOfRange ?k_OutOfRange_Full ?k_OutOfRange_LastItem ?k_OutOfRange_OutOfRange ?k_OutOfRange_InvalidMark ?k_OutOfRange_InvalidWeight ?k_OutOfRange_NotFalling ?e__law_amounts_right ?w__law_amounts_right ?v__law_amounts_right ?n__law_amounts_right ?r__law_amounts_right ?e__law_pair_right ?w__law_pair_right ?v__law_pair_right ?n__law_pair_right ?r__law_pair_right ?e_law ?w_law ?v_law ?n_law ?r_law ?u__law_amounts_right__law_pair_right ?u__law_amounts_right_law ?u__law_pair_right__law_amounts_right ?u__law_pair_right_law ?u_law__law_amounts_right ?u_law__law_pair_right
    (case a0 => k_is)
    (case l0 => k_is)
    (case c0 => k_is)
    (case k0 => k_is)
    (case a1 => k_is)
    (case l1 => k_is)
    (case c1 => k_is)
    (case k1 => k_is)
    (case a2 => k_is)
    (case l2 => k_is)
    (case c2 => k_is)
    (case k2 => k_is)
    (case a3 => k_is)
    (case l3 => k_is)
    (case c3 => k_is)
    (case k3 => k_is)
    (case a4 => k_is)
    (case l4 => k_is)
    (case c4 => k_is)
    (case k4 => k_is)
    (case a5 => k_is)
    (case l5 => k_is)
    (case c5 => k_is)
    (case k5 => k_is)
    (case a6 => k_is)
    (case l6 => k_is)
    (case c6 => k_is)
    (case k6 => k_is)
    (case a7 => k_is)
    (case l7 => k_is)
    (case c7 => k_is)
    (case k7 => k_is)
    (case a8 => k_is)
    (case l8 => k_is)
    (case c8 => k_is)
    (case k8 => k_is)
    (case a9 => k_is)
    (case l9 => k_is)
    (case c9 => k_is)
    (case k9 => k_is)
    (case a10 => k_is)
    (case l10 => k_is)
    (case c10 => k_is)
    (case k10 => k_is)
    (case a11 => k_is)
    (case l11 => k_is)
    (case c11 => k_is)
    (case k11 => k_is)
    (case a12 => k_is)
    (case l12 => k_is)
    (case c12 => k_is)
    (case k12 => k_is)
    (case a13 => k_is)
    (case l13 => k_is)
    (case c13 => k_is)
    (case k13 => k_is)
    (case a14 => k_is)
    (case l14 => k_is)
    (case c14 => k_is)
    (case k14 => k_is)
    (case a15 => k_is)
    (case l15 => k_is)
    (case c15 => k_is)
    (case k15 => k_is)
    (case a16 => k_is)
    (case l16 => k_is)
    (case c16 => k_is)
    (case k16 => k_is)
    (case a17 => k_is)
    (case l17 => k_is)
    (case c17 => k_is)
    (case k17 => k_is)
    (case a18 => k_is)
    (case l18 => k_is)
    (case c18 => k_is)
    (case k18 => k_is)
    (case a19 => k_is)
    (case l19 => k_is)
    (case c19 => k_is)
    (case k19 => k_is)
    (case a20 => k_is)
    (case l20 => k_is)
    (case c20 => k_is)
    (case k20 => k_is)
    (case a21 => k_is)
    (case l21 => k_is)
    (case c21 => k_is)
    (case k21 => k_is)
    (case z0 => k_is)
    (case z1 => k_is)
    (case z2 => k_is)
    (case z3 => k_is)
    (case z4 => k_is)
    (case z5 => k_is)
    (case z6 => k_is)
    (case z7 => k_is)
    (case z8 => k_is)
    (case z9 => k_is)
    (case z10 => k_is)
    (case z11 => k_is)
    (case z12 => k_is)
    (case y0 => k_is)
    (case y1 => k_is)
    (case y2 => k_is)
    (case y3 => k_is)
    (case xg_Full => first | k_is | k_exc | rfl)
    (case xx_Full => first | k_is | k_exc | rfl)
    (case xk_Full => first | k_is | k_exc | rfl)
    (case xb_Full => first | k_is | k_exc | rfl)
    (case xt_Full => first | k_is | k_exc | rfl)
    (case xe1_Full => first | k_is | k_exc | rfl)
    (case xe2_Full => first | k_is | k_exc | rfl)
    (case xe4_Full => first | k_is | k_exc | rfl)
    (case xe5_Full => first | k_is | k_exc | rfl)
    (case xe6_Full => first | k_is | k_exc | rfl)
    (case xe7_Full => first | k_is | k_exc | rfl)
    (case xe8_Full => first | k_is | k_exc | rfl)
    (case xs_Full => first | k_is | k_exc | rfl)
    (case xg_LastItem => first | k_is | k_exc | rfl)
    (case xx_LastItem => first | k_is | k_exc | rfl)
    (case xk_LastItem => first | k_is | k_exc | rfl)
    (case xb_LastItem => first | k_is | k_exc | rfl)
    (case xt_LastItem => first | k_is | k_exc | rfl)
    (case xe1_LastItem => first | k_is | k_exc | rfl)
    (case xe2_LastItem => first | k_is | k_exc | rfl)
    (case xe4_LastItem => first | k_is | k_exc | rfl)
    (case xe5_LastItem => first | k_is | k_exc | rfl)
    (case xe6_LastItem => first | k_is | k_exc | rfl)
    (case xe7_LastItem => first | k_is | k_exc | rfl)
    (case xe8_LastItem => first | k_is | k_exc | rfl)
    (case xs_LastItem => first | k_is | k_exc | rfl)
    (case xg_OutOfRange => first | k_is | k_exc | rfl)
    (case xx_OutOfRange => first | k_is | k_exc | rfl)
    (case xk_OutOfRange => first | k_is | k_exc | rfl)
    (case xb_OutOfRange => first | k_is | k_exc | rfl)
    (case xt_OutOfRange => first | k_is | k_exc | rfl)
    (case xe1_OutOfRange => first | k_is | k_exc | rfl)
    (case xe2_OutOfRange => first | k_is | k_exc | rfl)
    (case xe4_OutOfRange => first | k_is | k_exc | rfl)
    (case xe5_OutOfRange => first | k_is | k_exc | rfl)
    (case xe6_OutOfRange => first | k_is | k_exc | rfl)
    (case xe7_OutOfRange => first | k_is | k_exc | rfl)
    (case xe8_OutOfRange => first | k_is | k_exc | rfl)
    (case xs_OutOfRange => first | k_is | k_exc | rfl)
    (case xg_MarksError => first | k_is | k_exc | rfl)
    (case xg_InvalidMark => first | k_is | k_exc | rfl)
    (case xg_InvalidWeight => first | k_is | k_exc | rfl)
    (case xg_NotFalling => first | k_is | k_exc | rfl)
    (case xm1 => first | k_is | k_exc | rfl)
    (case xm2 => first | k_is | k_exc | rfl)
    (case xm3 => first | k_is | k_exc | rfl)
    (case xm_Full => first | k_is | k_exc | rfl)
    (case kv_Full => first | k_is | k_exc | rfl)
    (case k_Full_Full => first | k_is | k_exc | rfl)
    (case k_Full_LastItem => first | k_is | k_exc | rfl)
    (case k_Full_OutOfRange => first | k_is | k_exc | rfl)
    (case k_Full_InvalidMark => first | k_is | k_exc | rfl)
    (case k_Full_InvalidWeight => first | k_is | k_exc | rfl)
    (case k_Full_NotFalling => first | k_is | k_exc | rfl)
    (case xm_LastItem => first | k_is | k_exc | rfl)
    (case kv_LastItem => first | k_is | k_exc | rfl)
    (case k_LastItem_Full => first | k_is | k_exc | rfl)
    (case k_LastItem_LastItem => first | k_is | k_exc | rfl)
    (case k_LastItem_OutOfRange => first | k_is | k_exc | rfl)
    (case k_LastItem_InvalidMark => first | k_is | k_exc | rfl)
    (case k_LastItem_InvalidWeight => first | k_is | k_exc | rfl)
    (case k_LastItem_NotFalling => first | k_is | k_exc | rfl)
    (case xm_OutOfRange => first | k_is | k_exc | rfl)
    (case kv_OutOfRange => first | k_is | k_exc | rfl)
    (case k_OutOfRange_Full => first | k_is | k_exc | rfl)
    (case k_OutOfRange_LastItem => first | k_is | k_exc | rfl)
    (case k_OutOfRange_OutOfRange => first | k_is | k_exc | rfl)
    (case k_OutOfRange_InvalidMark => first | k_is | k_exc | rfl)
    (case k_OutOfRange_InvalidWeight => first | k_is | k_exc | rfl)
    (case k_OutOfRange_NotFalling => first | k_is | k_exc | rfl)
    (case e__law_amounts_right => rfl)
    (case w__law_amounts_right => k_is)
    (case v__law_amounts_right => rfl)
    (case n__law_amounts_right => kernel_rfl)
    (case r__law_amounts_right => exact ⟨_, rfl⟩)
    (case e__law_pair_right => rfl)
    (case w__law_pair_right => k_is)
    (case v__law_pair_right => rfl)
    (case n__law_pair_right => kernel_rfl)
    (case r__law_pair_right => exact ⟨_, rfl⟩)
    (case e_law => rfl)
    (case w_law => k_is)
    (case v_law => rfl)
    (case n_law => kernel_rfl)
    (case r_law => exact ⟨_, rfl⟩)
    (case u__law_amounts_right__law_pair_right => decide)
    (case u__law_amounts_right_law => decide)
    (case u__law_pair_right__law_amounts_right => decide)
    (case u__law_pair_right_law => decide)
    (case u_law__law_amounts_right => decide)
    (case u_law__law_pair_right => decide)
