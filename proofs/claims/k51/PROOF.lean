import PyProof.Rows.All
import Wide.All
import OpenK.AllK
import Wide.FinOn
import HandS.ForMost
import HandS.IsInst
import HandS.Gcd
import HandS.Wide
import HandS.TupMul
import HandS.TupAny
import HandS.TupLe
import HandS.Style
import HandS.Zip
import HandS.Walk
import HandS.Flow
import HandS.Conv
import KE.KMathG
import KE.DatumOrd
import PyProof.ReprRoads
import KE.GoesEnum
import HandS.Comp
import HandS.SetFor
import HandS.Strs
import HandS.WordsDict
import HandS.WideBits
import HandS.RaiseMore
import KE.BitLaws
import HandS.Iter
import HandS.Dict
import PySem.Challenge.RW_drawnbits_k51_whole_stretches
set_option Elab.async false
set_option linter.all false
set_option maxRecDepth 100000
set_option maxHeartbeats 4000000
set_option synthInstance.maxHeartbeats 400000
set_option synthInstance.maxSize 4096
/-! MR: fractions, their sizes, the common divisor by remainders. Plain mathematics. -/
namespace MR
def Sm (n : Nat) (q : Rat) : Prop := q.num.natAbs < 2 ^ n ∧ q.den < 2 ^ n
theorem Sm.mono {m n : Nat} {q : Rat} (h : Sm m q) (l : m ≤ n) : Sm n q :=
  ⟨Nat.lt_of_lt_of_le h.1 (Nat.pow_le_pow_right (by decide) l), Nat.lt_of_lt_of_le h.2 (Nat.pow_le_pow_right (by decide) l)⟩
theorem divInt_parts (a b : Int) (hb : 0 < b) : (Rat.divInt a b).num = a / ((Nat.gcd a.natAbs b.natAbs : Nat) : Int) ∧ (((Rat.divInt a b).den : Nat) : Int) = b / ((Nat.gcd a.natAbs b.natAbs : Nat) : Int) := by
  obtain ⟨n, rfl⟩ : ∃ n : Nat, b = (n : Int) := ⟨b.toNat, by omega⟩
  have hn : n ≠ 0 := by omega
  have e : (Rat.divInt a (n : Int)) = Rat.normalize a n hn := by
    rw [Rat.normalize_eq_mkRat]
    rfl
  rw [e, Rat.normalize_eq]
  simp only [Int.natAbs_natCast]
  refine ⟨trivial, ?_⟩
  rw [Int.natCast_ediv]
theorem lowest_eq (a b : Int) (hb : 0 < b) : a.fdiv ((Nat.gcd a.natAbs b.natAbs : Nat) : Int) = (Rat.divInt a b).num ∧ b.fdiv ((Nat.gcd a.natAbs b.natAbs : Nat) : Int) = (((Rat.divInt a b).den : Nat) : Int) := by
  obtain ⟨h1, h2⟩ := divInt_parts a b hb
  rw [h1, h2, Int.fdiv_eq_ediv_of_nonneg _ (Int.natCast_nonneg _), Int.fdiv_eq_ediv_of_nonneg _ (Int.natCast_nonneg _)]
  exact ⟨rfl, rfl⟩
theorem sm_divInt {a b : Int} {n : Nat} (ha : a.natAbs < 2 ^ n) (h0 : 0 < b) (hb : b.natAbs < 2 ^ n) : Sm n (Rat.divInt a b) := by
  obtain ⟨h1, h2⟩ := divInt_parts a b h0
  constructor
  · rw [h1, Int.natAbs_ediv_of_dvd]
    · exact Nat.lt_of_le_of_lt (Nat.div_le_self _ _) ha
    · exact Int.ofNat_dvd_left.mpr (Nat.gcd_dvd_left _ _)
  · have : ((Rat.divInt a b).den : Int).natAbs < 2 ^ n := by
      rw [h2, Int.natAbs_ediv_of_dvd]
      · exact Nat.lt_of_le_of_lt (Nat.div_le_self _ _) hb
      · exact Int.ofNat_dvd_left.mpr (Nat.gcd_dvd_right _ _)
    simpa using this
theorem mul_eq (p q : Rat) : p * q = Rat.divInt (p.num * q.num) ((p.den : Int) * (q.den : Int)) := by
  conv => lhs; rw [← Rat.num_divInt_den p, ← Rat.num_divInt_den q]
  rw [Rat.divInt_mul_divInt]
theorem add_eq (p q : Rat) : p + q = Rat.divInt (p.num * (q.den : Int) + q.num * (p.den : Int)) ((p.den : Int) * (q.den : Int)) := by
  conv => lhs; rw [← Rat.num_divInt_den p, ← Rat.num_divInt_den q]
  rw [Rat.divInt_add_divInt _ _ (by have := p.den_nz; omega) (by have := q.den_nz; omega)]
theorem den_pos (p : Rat) : 0 < (p.den : Int) := by have := p.den_nz; omega
theorem natAbs_mul_lt {x y : Int} {m n : Nat} (hx : x.natAbs < 2 ^ m) (hy : y.natAbs < 2 ^ n) : (x * y).natAbs < 2 ^ (m + n) := by
  rw [Int.natAbs_mul, Nat.pow_add]
  exact Nat.mul_lt_mul'' hx hy
theorem natAbs_add_lt {x y : Int} {n : Nat} (hx : x.natAbs < 2 ^ n) (hy : y.natAbs < 2 ^ n) : (x + y).natAbs < 2 ^ (n + 1) := by
  rw [Nat.pow_succ]
  omega
theorem Sm.mul {m n : Nat} {p q : Rat} (hp : Sm m p) (hq : Sm n q) : Sm (m + n) (p * q) := by
  rw [mul_eq]
  refine sm_divInt (natAbs_mul_lt hp.1 hq.1) (Int.mul_pos (den_pos p) (den_pos q)) ?_
  exact natAbs_mul_lt (x := (p.den : Int)) (y := (q.den : Int)) (by simpa using hp.2) (by simpa using hq.2)
theorem Sm.add {m n : Nat} {p q : Rat} (hp : Sm m p) (hq : Sm n q) : Sm (m + n + 1) (p + q) := by
  rw [add_eq]
  have h1 := natAbs_mul_lt (y := (q.den : Int)) hp.1 (by simpa using hq.2)
  have h2 := natAbs_mul_lt (y := (p.den : Int)) hq.1 (by simpa using hp.2)
  rw [Nat.add_comm n m] at h2
  refine sm_divInt (natAbs_add_lt h1 h2) (Int.mul_pos (den_pos p) (den_pos q)) ?_
  have := natAbs_mul_lt (x := (p.den : Int)) (y := (q.den : Int)) (by simpa using hp.2) (by simpa using hq.2)
  exact Nat.lt_of_lt_of_le this (Nat.pow_le_pow_right (by decide) (by omega))
theorem div_eq (p q : Rat) (hq : 0 < q.num) : p / q = Rat.divInt (p.num * (q.den : Int)) ((p.den : Int) * q.num) := by
  rw [Rat.div_def, Rat.inv_def]
  conv => lhs; rw [← Rat.num_divInt_den p]
  rw [Rat.divInt_mul_divInt]
theorem Sm.div {m n : Nat} {p q : Rat} (hp : Sm m p) (hq : Sm n q) (h : 0 < q.num) : Sm (m + n) (p / q) := by
  rw [div_eq p q h]
  refine sm_divInt (natAbs_mul_lt (y := (q.den : Int)) hp.1 (by simpa using hq.2)) (Int.mul_pos (den_pos p) h) ?_
  exact natAbs_mul_lt (x := (p.den : Int)) (by simpa using hp.2) hq.1
theorem sm_zero {n : Nat} : Sm (n + 1) 0 := ⟨by show 0 < 2 ^ (n + 1); exact Nat.pow_pos (by decide), by show 1 < 2 ^ (n + 1); rw [Nat.pow_succ]; have : 0 < 2 ^ n := Nat.pow_pos (by decide); omega⟩
theorem sm_sum {n : Nat} : ∀ (qs : List Rat) , (∀ q ∈ qs, Sm n q) → Sm ((n + 1) * qs.length + 1) qs.sum
  | [], _ => by simpa using sm_zero (n := 0)
  | q :: qs, h => by
    rw [List.sum_cons, List.length_cons]
    have h1 := h q List.mem_cons_self
    have h2 := sm_sum qs fun x hx => h x (List.mem_cons_of_mem _ hx)
    exact (h1.add h2).mono (by rw [Nat.mul_add]; omega)
theorem foldl_sum (qs : List Rat) (a : Rat) : qs.foldl (· + ·) a = a + qs.sum := by
  induction qs generalizing a with
  | nil => simp [Rat.add_zero]
  | cons q qs ih => rw [List.foldl_cons, ih, List.sum_cons, Rat.add_assoc]
end MR

/-! Mx: tables as lists of fractions, common bottoms, sums of parts. Plain mathematics. -/
namespace MR
theorem mul_den (q : Rat) : q * (q.den : Rat) = (q.num : Rat) := by
  have h : Rat.divInt q.num q.den = q := Rat.num_divInt_den q
  rw [Rat.divInt_eq_div] at h
  have h0 : (((q.den : Nat) : Int) : Rat) ≠ 0 := by
    have := q.den_nz
    intro e
    rw [Rat.intCast_natCast] at e
    exact this (Rat.natCast_inj.mp e)
  rw [Rat.intCast_natCast] at h h0
  generalize (q.den : Rat) = x at *
  generalize (q.num : Rat) = y at *
  rw [← h]
  grind
def Cm (D : Nat) (q : Rat) : Prop := ∃ k : Int, q * (D : Rat) = (k : Rat)
theorem cm_den {D : Nat} {q : Rat} (h : Cm D q) : q.den ∣ D := by
  obtain ⟨k, h⟩ := h
  have e : q * (q.den : Rat) = (q.num : Rat) := mul_den q
  have h2 : (q.num : Rat) * ((D : Int) : Rat) = (k : Rat) * ((q.den : Int) : Rat) := by
    rw [Rat.intCast_natCast, Rat.intCast_natCast]
    grind
  rw [← Rat.intCast_mul, ← Rat.intCast_mul, Rat.intCast_inj] at h2
  have h3 : q.den ∣ q.num.natAbs * D := by
    have : (q.den : Int) ∣ q.num * (D : Int) := ⟨k, by rw [h2]; exact Int.mul_comm _ _⟩
    have := Int.natAbs_dvd_natAbs.mpr this
    rw [Int.natAbs_mul] at this
    exact this
  exact (Nat.Coprime.dvd_of_dvd_mul_left q.reduced.symm h3)
theorem cm_int (D : Nat) (k : Int) : Cm D (k : Rat) := ⟨k * D, by rw [Rat.intCast_mul, Rat.intCast_natCast]⟩
theorem Cm.add {D : Nat} {p q : Rat} (hp : Cm D p) (hq : Cm D q) : Cm D (p + q) := by
  obtain ⟨k, hk⟩ := hp
  obtain ⟨l, hl⟩ := hq
  exact ⟨k + l, by rw [Rat.intCast_add]; grind⟩
theorem Cm.sub {D : Nat} {p q : Rat} (hp : Cm D p) (hq : Cm D q) : Cm D (p - q) := by
  obtain ⟨k, hk⟩ := hp
  obtain ⟨l, hl⟩ := hq
  exact ⟨k - l, by rw [Rat.intCast_sub]; grind⟩
theorem Cm.mul {D E : Nat} {p q : Rat} (hp : Cm D p) (hq : Cm E q) : Cm (D * E) (p * q) := by
  obtain ⟨k, hk⟩ := hp
  obtain ⟨l, hl⟩ := hq
  exact ⟨k * l, by rw [Rat.intCast_mul, Rat.natCast_mul]; grind⟩
theorem Cm.dvd {D E : Nat} {p : Rat} (hp : Cm D p) (h : D ∣ E) : Cm E p := by
  obtain ⟨k, hk⟩ := hp
  obtain ⟨c, rfl⟩ := h
  exact ⟨k * c, by rw [Rat.intCast_mul, Rat.natCast_mul, Rat.intCast_natCast]; grind⟩
theorem Cm.sum {D : Nat} : ∀ {qs : List Rat}, (∀ q ∈ qs, Cm D q) → Cm D qs.sum
  | [], _ => cm_int D 0
  | q :: qs, h => by
    rw [List.sum_cons]
    exact (h q List.mem_cons_self).add (Cm.sum fun x hx => h x (List.mem_cons_of_mem _ hx))
theorem Cm.sm {D n : Nat} {q : Rat} (h : Cm D q) (hD : 0 < D) (hn : D < 2 ^ n) {m : Nat} (h0 : 0 ≤ q) (h1 : q < (2 ^ m : Nat)) : Sm (n + m) q := by
  have hd : q.den ≤ D := Nat.le_of_dvd hD (cm_den h)
  have hm : 0 < 2 ^ m := Nat.pow_pos (by decide)
  have hl : q.den < 2 ^ n := Nat.lt_of_le_of_lt hd hn
  have hb : 2 ^ n ≤ 2 ^ (n + m) := Nat.pow_le_pow_right (by decide) (by omega)
  refine ⟨?_, Nat.lt_of_lt_of_le hl hb⟩
  have hp : 0 ≤ q.num := Rat.num_nonneg.mpr h0
  have := (Rat.lt_iff _ _).mp h1
  rw [Rat.num_natCast, Rat.den_natCast] at this
  have h2 : q.num < ((2 ^ m * q.den : Nat) : Int) := by
    rw [Int.natCast_mul]
    simpa using this
  have h3 : q.num.natAbs < 2 ^ m * q.den := by omega
  have h4 : 2 ^ m * q.den < 2 ^ m * 2 ^ n := Nat.mul_lt_mul_of_pos_left hl hm
  rw [Nat.pow_add, Nat.mul_comm (2 ^ n)]
  exact Nat.lt_trans h3 h4
/-! ### sums -/
theorem sum_nonneg : ∀ {qs : List Rat}, (∀ q ∈ qs, 0 ≤ q) → 0 ≤ qs.sum
  | [], _ => by decide
  | q :: qs, h => by
    rw [List.sum_cons]
    have h1 := h q List.mem_cons_self
    have h2 := sum_nonneg fun x hx => h x (List.mem_cons_of_mem _ hx)
    grind
theorem sub_sum {ps qs : List Rat} (s : List.Sublist ps qs) (h : ∀ q ∈ qs, 0 ≤ q) : ps.sum ≤ qs.sum := by
  induction s with
  | slnil => exact Rat.le_refl
  | cons a s ih =>
    rw [List.sum_cons]
    have h1 := h a List.mem_cons_self
    have h2 := ih fun x hx => h x (List.mem_cons_of_mem _ hx)
    grind
  | cons_cons a s ih =>
    rw [List.sum_cons, List.sum_cons]
    have h2 := ih fun x hx => h x (List.mem_cons_of_mem _ hx)
    grind
theorem mem_le_sum {qs : List Rat} {q : Rat} (hq : q ∈ qs) (h : ∀ q ∈ qs, 0 ≤ q) : q ≤ qs.sum := by
  have := sub_sum (List.singleton_sublist.mpr hq) h
  rw [List.sum_cons] at this
  have e : ([] : List Rat).sum = 0 := rfl
  rw [e] at this
  grind
/-- a list of parts whose sum is small, with a common bottom of n bits -/
structure Sb (n : Nat) (qs : List Rat) : Prop where
  pos : ∀ q ∈ qs, 0 ≤ q
  top : qs.sum < (2 ^ 40 : Nat)
  com : ∃ D : Nat, 0 < D ∧ D < 2 ^ n ∧ ∀ q ∈ qs, Cm D q
theorem Sb.mono {m n : Nat} {qs : List Rat} (h : Sb m qs) (l : m ≤ n) : Sb n qs :=
  ⟨h.pos, h.top, let ⟨D, h1, h2, h3⟩ := h.com; ⟨D, h1, Nat.lt_of_lt_of_le h2 (Nat.pow_le_pow_right (by decide) l), h3⟩⟩
theorem Sb.sub {n : Nat} {ps qs : List Rat} (h : Sb n qs) (s : List.Sublist ps qs) : Sb n ps :=
  ⟨fun q hq => h.pos q (s.subset hq), by have := sub_sum s h.pos; have := h.top; grind, let ⟨D, h1, h2, h3⟩ := h.com; ⟨D, h1, h2, fun q hq => h3 q (s.subset hq)⟩⟩
theorem Sb.sum_sm {n : Nat} {qs : List Rat} (h : Sb n qs) : Sm (n + 40) qs.sum := by
  obtain ⟨D, h1, h2, h3⟩ := h.com
  exact (Cm.sum h3).sm h1 h2 (sum_nonneg h.pos) h.top
theorem Sb.mem_sm {n : Nat} {qs : List Rat} (h : Sb n qs) {q : Rat} (hq : q ∈ qs) : Sm (n + 40) q := by
  obtain ⟨D, h1, h2, h3⟩ := h.com
  have := mem_le_sum hq h.pos
  have := h.top
  exact (h3 q hq).sm h1 h2 (h.pos q hq) (by grind)
/-- a table -/
structure Tab (n : Nat) (qs : List Rat) : Prop where
  ne : qs ≠ []
  len : qs.length ≤ 8
  pos : ∀ q ∈ qs, 0 ≤ q
  one : qs.sum = 1
  com : ∃ D : Nat, 0 < D ∧ D < 2 ^ n ∧ ∀ q ∈ qs, Cm D q
theorem Tab.mono {m n : Nat} {qs : List Rat} (h : Tab m qs) (l : m ≤ n) : Tab n qs :=
  ⟨h.ne, h.len, h.pos, h.one, let ⟨D, h1, h2, h3⟩ := h.com; ⟨D, h1, Nat.lt_of_lt_of_le h2 (Nat.pow_le_pow_right (by decide) l), h3⟩⟩
theorem Tab.sb {n : Nat} {qs : List Rat} (h : Tab n qs) : Sb n qs := ⟨h.pos, by rw [h.one]; exact Rat.lt_iff_le_and_ne.mpr ⟨by decide, by decide⟩, h.com⟩
theorem Tab.le1 {n : Nat} {qs : List Rat} (h : Tab n qs) {q : Rat} (hq : q ∈ qs) : q ≤ 1 := by
  have := mem_le_sum hq h.pos
  rw [h.one] at this
  exact this
theorem Tab.sm {n : Nat} {qs : List Rat} (h : Tab n qs) {q : Rat} (hq : q ∈ qs) : Sm (n + 1) q := by
  obtain ⟨D, h1, h2, h3⟩ := h.com
  have := h.le1 hq
  exact (h3 q hq).sm (m := 1) h1 h2 (h.pos q hq) (by
    have : (1 : Rat) < ((2 ^ 1 : Nat) : Rat) := Rat.lt_iff_le_and_ne.mpr ⟨by decide, by decide⟩
    grind)
/-! ### lots -/
structure Lot (many : Nat) (ns : List Nat) : Prop where
  asc : ns.Pairwise (· < ·)
  lt : ∀ n ∈ ns, n < many
  le : many ≤ 8
def lotQ (qs : List Rat) (ns : List Nat) : List Rat := ns.map fun i => qs.getD i 0
theorem lot_sub0 : ∀ (qs : List Rat) (a : Nat) (ns : List Nat), ns.Pairwise (· < ·) → (∀ n ∈ ns, a ≤ n ∧ n < a + qs.length) → (ns.map fun i => qs.getD (i - a) 0).Sublist qs
  | [], a, ns, _, h => by
    cases ns with
    | nil => exact .slnil
    | cons n ns => have := h n List.mem_cons_self; simp at this; omega
  | q :: qs, a, [], _, _ => List.nil_sublist _
  | q :: qs, a, n :: ns, hp, h => by
    have hn := h n List.mem_cons_self
    rw [List.pairwise_cons] at hp
    have step : ∀ ms : List Nat, ms.Pairwise (· < ·) → (∀ m ∈ ms, a + 1 ≤ m ∧ m < a + (qs.length + 1)) → (ms.map fun i => (q :: qs).getD (i - a) 0).Sublist qs := fun ms h1 h2 => by
      have ih := lot_sub0 qs (a + 1) ms h1 fun m hm => by have := h2 m hm; omega
      have e : (ms.map fun i => (q :: qs).getD (i - a) 0) = ms.map fun i => qs.getD (i - (a + 1)) 0 := by
        refine List.map_congr_left fun m hm => ?_
        have := h2 m hm
        rw [show m - a = (m - (a + 1)) + 1 by omega]
        rfl
      rw [e]; exact ih
    by_cases e : n = a
    · subst e
      have hs := step ns hp.2 fun m hm => by
        have h1 := hp.1 m hm
        have h2 := h m (List.mem_cons_of_mem _ hm)
        rw [List.length_cons] at h2
        omega
      rw [List.map_cons]
      have e0 : (q :: qs).getD (n - n) 0 = q := by rw [Nat.sub_self]; rfl
      rw [e0]
      exact .cons_cons _ hs
    · refine .cons _ (step (n :: ns) (List.pairwise_cons.mpr hp) fun m hm => ?_)
      have h2 := h m hm
      rw [List.length_cons] at h2
      rcases List.mem_cons.mp hm with rfl | hm
      · omega
      · have := hp.1 m hm; omega
theorem Lot.sub {qs : List Rat} {ns : List Nat} (h : Lot qs.length ns) : (lotQ qs ns).Sublist qs := by
  have := lot_sub0 qs 0 ns h.asc fun n hn => by have := h.lt n hn; omega
  simpa [lotQ] using this
theorem Lot.len {many : Nat} {ns : List Nat} (h : Lot many ns) : ns.length ≤ 8 := by
  have key : ∀ (ns : List Nat) (a : Nat), ns.Pairwise (· < ·) → (∀ n ∈ ns, a ≤ n ∧ n < 8) → ns.length ≤ 8 - a := by
    intro ns
    induction ns with
    | nil => intro a _ _; simp
    | cons n ns ih =>
      intro a hp h
      rw [List.pairwise_cons] at hp
      have h1 := h n List.mem_cons_self
      have := ih (n + 1) hp.2 fun m hm => by
        have h2 := hp.1 m hm
        have h3 := h m (List.mem_cons_of_mem _ hm)
        omega
      rw [List.length_cons]
      omega
  have := key ns 0 h.asc fun n hn => by have := h.lt n hn; have := h.le; omega
  omega
/-! ### renamed -/
def named (qs : List Rat) (ns : List Nat) (x : Nat) : List Rat := ((qs.zip ns).filter fun p => decide (p.2 = x)).map (·.1)
def maxN (ns : List Nat) : Nat := ns.foldr max 0
def ren (qs : List Rat) (ns : List Nat) : List Rat := (List.range (maxN ns + 1)).map fun x => (named qs ns x).sum
theorem named_sub (qs : List Rat) (ns : List Nat) (x : Nat) : (named qs ns x).Sublist qs := by
  unfold named
  refine List.Sublist.trans (List.filter_sublist.map _) ?_
  clear x
  induction qs generalizing ns with
  | nil => simp
  | cons q qs ih =>
    cases ns with
    | nil => simp
    | cons n ns => simpa using ih ns
theorem maxN_le {ns : List Nat} {m : Nat} (h : ∀ n ∈ ns, n ≤ m) : maxN ns ≤ m := by
  unfold maxN
  induction ns with
  | nil => simp
  | cons n ns ih =>
    have := h n List.mem_cons_self
    have := ih fun x hx => h x (List.mem_cons_of_mem _ hx)
    simp only [List.foldr_cons]
    omega
theorem le_maxN {ns : List Nat} {n : Nat} (h : n ∈ ns) : n ≤ maxN ns := by
  unfold maxN
  induction ns with
  | nil => cases h
  | cons m ns ih =>
    simp only [List.foldr_cons]
    rcases List.mem_cons.mp h with rfl | h
    · omega
    · have := ih h; omega
theorem maxN_mem {ns : List Nat} (h : ns ≠ []) : maxN ns ∈ ns := by
  induction ns with
  | nil => exact absurd rfl h
  | cons n ns ih =>
    by_cases e : ns = []
    · subst e; simp [maxN]
    · have := ih e
      show max n (maxN ns) ∈ _
      by_cases hl : n ≤ maxN ns
      · rw [Nat.max_eq_right hl]; exact List.mem_cons_of_mem _ this
      · rw [Nat.max_eq_left (by omega)]; exact List.mem_cons_self
/-- each item falls to one of the first n names -/
theorem sum_parts {α : Type} (f : α → Rat) (g : α → Nat) (n : Nat) : ∀ (l : List α), (∀ a ∈ l, g a < n) → ((List.range n).map fun x => ((l.filter fun a => decide (g a = x)).map f).sum).sum = (l.map f).sum
  | [], _ => by
    have : ∀ (m : List Nat), (m.map fun _ => (0 : Rat)).sum = 0 := fun m => by
      induction m with
      | nil => rfl
      | cons a m ih => rw [List.map_cons, List.sum_cons, ih]; exact Rat.zero_add 0
    exact this _
  | a :: l, h => by
    have ih := sum_parts f g n l fun b hb => h b (List.mem_cons_of_mem _ hb)
    have ha := h a List.mem_cons_self
    rw [List.map_cons, List.sum_cons, ← ih]
    have key : ∀ (m : List Nat), m.Nodup → ((m.map fun x => (((a :: l).filter fun a => decide (g a = x)).map f).sum).sum) = (if g a ∈ m then f a else 0) + (m.map fun x => ((l.filter fun a => decide (g a = x)).map f).sum).sum := fun m hm => by
      induction m with
      | nil =>
        show (0 : Rat) = 0 + 0
        exact (Rat.zero_add 0).symm
      | cons x m ihm =>
        rw [List.nodup_cons] at hm
        rw [List.map_cons, List.sum_cons, ihm hm.2, List.map_cons, List.sum_cons]
        by_cases e : g a = x
        · subst e
          rw [List.filter_cons, if_pos (by simp), if_neg hm.1, if_pos List.mem_cons_self, List.map_cons, List.sum_cons]
          grind
        · rw [List.filter_cons, if_neg (by simpa using e)]
          by_cases e2 : g a ∈ m
          · rw [if_pos e2, if_pos (List.mem_cons_of_mem _ e2)]
            grind
          · rw [if_neg e2, if_neg (by simp [e, e2])]
            grind
    rw [key _ List.nodup_range, if_pos (List.mem_range.mpr ha)]
theorem zip_fst {qs : List Rat} {ns : List Nat} (h : ns.length = qs.length) : (qs.zip ns).map (·.1) = qs := by
  rw [List.map_fst_zip (by omega)]
theorem ren_tab {n : Nat} {qs : List Rat} {ns : List Nat} (h : Tab n qs) (hl : ns.length = qs.length) (h7 : ∀ x ∈ ns, x ≤ 7) : Tab n (ren qs ns) := by
  have hp : ∀ x, ∀ q ∈ named qs ns x, 0 ≤ q := fun x q hq => h.pos q ((named_sub qs ns x).subset hq)
  refine ⟨?_, ?_, ?_, ?_, ?_⟩
  · unfold ren
    rw [List.range_succ]
    simp
  · unfold ren
    rw [List.length_map, List.length_range]
    have := maxN_le h7
    omega
  · intro q hq
    obtain ⟨x, _, rfl⟩ := List.mem_map.mp hq
    exact sum_nonneg (hp x)
  · have := sum_parts (fun p : Rat × Nat => p.1) (fun p => p.2) (maxN ns + 1) (qs.zip ns) fun p hp => by
      have : p.2 ∈ ns := (List.of_mem_zip (a := p.1) (b := p.2) hp).2
      have := le_maxN this
      omega
    rw [zip_fst hl, h.one] at this
    exact this
  · obtain ⟨D, h1, h2, h3⟩ := h.com
    refine ⟨D, h1, h2, fun q hq => ?_⟩
    obtain ⟨x, _, rfl⟩ := List.mem_map.mp hq
    exact Cm.sum fun q hq => h3 q ((named_sub qs ns x).subset hq)
/-! ### given -/
def numd {α : Type} : Nat → List α → List (Nat × α)
  | _, [] => []
  | i, x :: xs => (i, x) :: numd (i + 1) xs
theorem numd_length {α : Type} : ∀ (xs : List α) (i : Nat), (numd i xs).length = xs.length
  | [], _ => rfl
  | x :: xs, i => by simp [numd, numd_length xs]
theorem numd_mem {α : Type} : ∀ {xs : List α} {i : Nat} {p : Nat × α}, p ∈ numd i xs → p.2 ∈ xs ∧ i ≤ p.1 ∧ p.1 < i + xs.length
  | [], _, _, h => by simp [numd] at h
  | x :: xs, i, p, h => by
    rcases List.mem_cons.mp h with rfl | h
    · exact ⟨List.mem_cons_self, Nat.le_refl _, by simp⟩
    · obtain ⟨h1, h2, h3⟩ := numd_mem h
      exact ⟨List.mem_cons_of_mem _ h1, by omega, by rw [List.length_cons]; omega⟩
def given (qs : List Rat) (ns : List Nat) : List Rat := (numd 0 qs).map fun p => if p.1 ∈ ns then p.2 / (lotQ qs ns).sum else 0
theorem sum_div (W : Rat) : ∀ (l : List Rat), (l.map fun q => q / W).sum = l.sum / W
  | [] => by
    show (0 : Rat) = 0 / W
    rw [Rat.div_def, Rat.zero_mul]
  | q :: l => by
    rw [List.map_cons, List.sum_cons, List.sum_cons, sum_div W l, Rat.div_def, Rat.div_def, Rat.div_def, Rat.add_mul]
theorem lot_sum0 : ∀ (qs : List Rat) (a : Nat) (ns : List Nat), ns.Pairwise (· < ·) → (∀ n ∈ ns, a ≤ n ∧ n < a + qs.length) → ((numd a qs).map fun p => if p.1 ∈ ns then p.2 else 0).sum = (ns.map fun i => qs.getD (i - a) 0).sum
  | [], a, ns, _, h => by
    cases ns with
    | nil => rfl
    | cons n ns => have := h n List.mem_cons_self; simp at this; omega
  | q :: qs, a, ns, hp, h => by
    have tail : ∀ ms : List Nat, ms.Pairwise (· < ·) → (∀ m ∈ ms, a + 1 ≤ m ∧ m < a + (qs.length + 1)) → (∀ x, a + 1 ≤ x → (x ∈ ns ↔ x ∈ ms)) → ((numd (a + 1) qs).map fun p => if p.1 ∈ ns then p.2 else 0).sum = (ms.map fun i => (q :: qs).getD (i - a) 0).sum := fun ms h1 h2 h3 => by
      have ih := lot_sum0 qs (a + 1) ms h1 fun m hm => by have := h2 m hm; omega
      have e : (ms.map fun i => (q :: qs).getD (i - a) 0) = ms.map fun i => qs.getD (i - (a + 1)) 0 := by
        refine List.map_congr_left fun m hm => ?_
        have := h2 m hm
        rw [show m - a = (m - (a + 1)) + 1 by omega]
        rfl
      rw [e, ← ih]
      congr 1
      refine List.map_congr_left fun p hp => ?_
      have := numd_mem hp
      simp only [h3 p.1 this.2.1]
    show ((if a ∈ ns then q else 0) :: _).sum = _
    rw [List.sum_cons]
    cases ns with
    | nil =>
      rw [tail [] .nil (fun _ h => by cases h) fun x _ => Iff.rfl, if_neg (by simp)]
      exact Rat.zero_add _
    | cons n ns =>
      have hn := h n List.mem_cons_self
      rw [List.pairwise_cons] at hp
      have hb : ∀ m ∈ ns, a + 1 ≤ m ∧ m < a + (qs.length + 1) := fun m hm => by
        have h1 := hp.1 m hm
        have h2 := h m (List.mem_cons_of_mem _ hm)
        rw [List.length_cons] at h2
        omega
      by_cases e : n = a
      · subst e
        rw [tail ns hp.2 hb fun x hx => by simp; omega, if_pos List.mem_cons_self, List.map_cons, List.sum_cons]
        have e0 : (q :: qs).getD (n - n) 0 = q := by rw [Nat.sub_self]; rfl
        rw [e0]
      · rw [tail (n :: ns) (List.pairwise_cons.mpr hp) (fun m hm => by
            rcases List.mem_cons.mp hm with rfl | hm
            · rw [List.length_cons] at hn; omega
            · exact hb m hm) fun x _ => Iff.rfl, if_neg (fun z => by
            rcases List.mem_cons.mp z with z | z
            · exact e z.symm
            · have := hb a z; omega)]
        exact Rat.zero_add _
theorem lot_sum {qs : List Rat} {ns : List Nat} (h : Lot qs.length ns) : ((numd 0 qs).map fun p => if p.1 ∈ ns then p.2 else 0).sum = (lotQ qs ns).sum := by
  have := lot_sum0 qs 0 ns h.asc fun n hn => by have := h.lt n hn; omega
  rw [this]
  unfold lotQ
  simp
theorem div_self' {W : Rat} (h : W ≠ 0) : W / W = 1 := by
  rw [Rat.div_def]; exact Rat.mul_inv_cancel W h
theorem given_tab {n : Nat} {qs : List Rat} {ns : List Nat} (h : Tab n qs) (hl : Lot qs.length ns) (h0 : (lotQ qs ns).sum ≠ 0) : Tab n (given qs ns) := by
  have hp : 0 < (lotQ qs ns).sum := by
    have := sum_nonneg fun q hq => h.pos q (hl.sub.subset hq)
    grind
  have hle : (lotQ qs ns).sum ≤ 1 := by rw [← h.one]; exact sub_sum hl.sub h.pos
  have e : given qs ns = ((numd 0 qs).map fun p => if p.1 ∈ ns then p.2 else 0).map fun q => q / (lotQ qs ns).sum := by
    unfold given
    rw [List.map_map]
    refine List.map_congr_left fun p _ => ?_
    show _ = (if p.1 ∈ ns then p.2 else 0) / _
    by_cases z : p.1 ∈ ns
    · rw [if_pos z, if_pos z]
    · rw [if_neg z, if_neg z, Rat.div_def, Rat.zero_mul]
  generalize hW : (lotQ qs ns).sum = W at *
  refine ⟨?_, ?_, ?_, ?_, ?_⟩
  · intro z
    have := congrArg List.length z
    rw [e, List.length_map, List.length_map, numd_length] at this
    exact h.ne (List.length_eq_zero_iff.mp this)
  · rw [e, List.length_map, List.length_map, numd_length]; exact h.len
  · intro q hq
    rw [e] at hq
    obtain ⟨r, hr, rfl⟩ := List.mem_map.mp hq
    obtain ⟨p, hp', rfl⟩ := List.mem_map.mp hr
    have : 0 ≤ (if p.1 ∈ ns then p.2 else 0) := by
      split
      · exact h.pos _ (numd_mem hp').1
      · decide
    rw [Rat.div_def]
    exact Rat.mul_nonneg this (Rat.le_of_lt (Rat.inv_pos.mpr hp))
  · rw [e, sum_div, lot_sum hl, hW]
    exact div_self' h0
  · obtain ⟨D, h1, h2, h3⟩ := h.com
    have cw : Cm D W := by rw [← hW]; exact Cm.sum fun q hq => h3 q (hl.sub.subset hq)
    obtain ⟨k, hk⟩ := cw
    have hD : (0 : Rat) < (D : Rat) := Rat.natCast_pos.mpr h1
    have kp : (0 : Rat) < (k : Rat) := by rw [← hk]; exact Rat.mul_pos hp hD
    have kp' : 0 < k := Rat.intCast_pos.mp kp
    have kle : (k : Rat) ≤ ((D : Int) : Rat) := by
      rw [← hk, Rat.intCast_natCast]
      have := Rat.mul_le_mul_of_nonneg_right hle (Rat.le_of_lt hD)
      rw [Rat.one_mul] at this
      exact this
    have kle' : k ≤ (D : Int) := Rat.intCast_le_intCast.mp kle
    refine ⟨k.toNat, by omega, by omega, fun q hq => ?_⟩
    have ek : ((k.toNat : Nat) : Rat) = (k : Rat) := by
      rw [← Rat.intCast_natCast]
      congr 1
      omega
    rw [e] at hq
    obtain ⟨r, hr, rfl⟩ := List.mem_map.mp hq
    obtain ⟨p, hp', rfl⟩ := List.mem_map.mp hr
    have hc : Cm D (if p.1 ∈ ns then p.2 else 0) := by
      split
      · exact h3 _ (numd_mem hp').1
      · exact cm_int D 0
    obtain ⟨l, hl⟩ := hc
    refine ⟨l, ?_⟩
    rw [ek, ← hk, ← hl]
    generalize (if p.1 ∈ ns then p.2 else 0) = x
    have : x / W * W = x := by
      rw [Rat.div_def, Rat.mul_assoc, Rat.inv_mul_cancel W h0, Rat.mul_one]
    rw [← Rat.mul_assoc, this]
/-! ### mixed -/
theorem sum_add {α : Type} (f g : α → Rat) : ∀ (l : List α), (l.map fun a => f a + g a).sum = (l.map f).sum + (l.map g).sum
  | [] => (Rat.zero_add 0).symm
  | a :: l => by
    rw [List.map_cons, List.sum_cons, List.map_cons, List.sum_cons, List.map_cons, List.sum_cons, sum_add f g l]
    grind
theorem sum_zero {α : Type} : ∀ (l : List α), (l.map fun _ => (0 : Rat)).sum = 0
  | [] => rfl
  | a :: l => by rw [List.map_cons, List.sum_cons, sum_zero l]; exact Rat.zero_add 0
theorem sum_mulL {α : Type} (c : Rat) (f : α → Rat) : ∀ (l : List α), (l.map fun a => c * f a).sum = c * (l.map f).sum
  | [] => (Rat.mul_zero c).symm
  | a :: l => by
    rw [List.map_cons, List.sum_cons, List.map_cons, List.sum_cons, sum_mulL c f l]
    grind
theorem sum_swap {α β : Type} (F : α → β → Rat) (is : List β) : ∀ (l : List α), (is.map fun i => (l.map fun a => F a i).sum).sum = (l.map fun a => (is.map fun i => F a i).sum).sum
  | [] => sum_zero is
  | a :: l => by
    rw [List.map_cons, List.sum_cons, ← sum_swap F is l, ← sum_add]
    congr 1
theorem range_getD : ∀ (t : List Rat), ((List.range t.length).map fun i => t.getD i 0) = t := fun t => by
  apply List.ext_getElem
  · simp
  · intro i h1 h2
    simp
    rw [List.getElem?_eq_getElem h2]
    rfl
def mixc (qs : List Rat) (ts : List (List Rat)) (i : Nat) : List Rat := (qs.zip ts).map fun p => p.1 * p.2.getD i 0
def mix (qs : List Rat) (ts : List (List Rat)) (k : Nat) : List Rat := (List.range k).map fun i => (mixc qs ts i).sum
theorem common_all {n : Nat} : ∀ (ts : List (List Rat)), (∀ t ∈ ts, Tab n t) → ∃ D : Nat, 0 < D ∧ D < 2 ^ (n * ts.length + 1) ∧ ∀ t ∈ ts, ∀ q ∈ t, Cm D q
  | [], _ => ⟨1, by decide, by simp, fun _ h => by cases h⟩
  | t :: ts, h => by
    obtain ⟨D, h1, h2, h3⟩ := common_all ts fun x hx => h x (List.mem_cons_of_mem _ hx)
    obtain ⟨E, g1, g2, g3⟩ := (h t List.mem_cons_self).com
    refine ⟨E * D, Nat.mul_pos g1 h1, ?_, fun x hx q hq => ?_⟩
    · have := Nat.mul_lt_mul'' g2 h2
      rw [← Nat.pow_add] at this
      rw [List.length_cons, Nat.mul_add, Nat.mul_one]
      exact Nat.lt_of_lt_of_le this (Nat.pow_le_pow_right (by decide) (by omega))
    · rcases List.mem_cons.mp hx with rfl | hx
      · exact (g3 q hq).dvd ⟨D, rfl⟩
      · exact (h3 x hx q hq).dvd ⟨E, Nat.mul_comm _ _⟩
theorem getD_cases (t : List Rat) (i : Nat) : t.getD i 0 ∈ t ∨ t.getD i 0 = 0 := by
  by_cases h : i < t.length
  · left
    rw [List.getD_eq_getElem?_getD, List.getElem?_eq_getElem h]
    exact List.getElem_mem h
  · right
    rw [List.getD_eq_getElem?_getD, List.getElem?_eq_none (by omega)]
    rfl
structure Mixes (m n k : Nat) (qs : List Rat) (ts : List (List Rat)) : Prop where
  tab : Tab m qs
  tabs : ∀ t ∈ ts, Tab n t
  len : ts.length = qs.length
  wid : ∀ t ∈ ts, t.length = k
theorem Mixes.le8 {m n k : Nat} {qs : List Rat} {ts : List (List Rat)} (h : Mixes m n k qs ts) : ts.length ≤ 8 := by rw [h.len]; exact h.tab.len
theorem Mixes.comL {m n k : Nat} {qs : List Rat} {ts : List (List Rat)} (h : Mixes m n k qs ts) : ∃ D : Nat, 0 < D ∧ D < 2 ^ (m + (n * ts.length + 1)) ∧ ∀ i, ∀ q ∈ mixc qs ts i, Cm D q := by
  obtain ⟨D, h1, h2, h3⟩ := common_all ts h.tabs
  obtain ⟨E, g1, g2, g3⟩ := h.tab.com
  refine ⟨E * D, Nat.mul_pos g1 h1, ?_, fun i q hq => ?_⟩
  · have := Nat.mul_lt_mul'' g2 h2
    rw [← Nat.pow_add] at this
    exact this
  · obtain ⟨p, hp, rfl⟩ := List.mem_map.mp hq
    have := List.of_mem_zip (a := p.1) (b := p.2) hp
    refine (g3 _ this.1).mul ?_
    rcases getD_cases p.2 i with z | z
    · exact h3 _ this.2 _ z
    · rw [z]; exact cm_int D 0
theorem Mixes.com {m n k : Nat} {qs : List Rat} {ts : List (List Rat)} (h : Mixes m n k qs ts) : ∃ D : Nat, 0 < D ∧ D < 2 ^ (m + (n * 8 + 1)) ∧ ∀ i, ∀ q ∈ mixc qs ts i, Cm D q := by
  obtain ⟨D, h1, h2, h3⟩ := h.comL
  have l8 := Nat.mul_le_mul_left n h.le8
  exact ⟨D, h1, Nat.lt_of_lt_of_le h2 (Nat.pow_le_pow_right (by decide) (by omega)), h3⟩
theorem Mixes.pos {m n k : Nat} {qs : List Rat} {ts : List (List Rat)} (h : Mixes m n k qs ts) (i : Nat) : ∀ q ∈ mixc qs ts i, 0 ≤ q := fun q hq => by
  obtain ⟨p, hp, rfl⟩ := List.mem_map.mp hq
  have := List.of_mem_zip (a := p.1) (b := p.2) hp
  refine Rat.mul_nonneg (h.tab.pos _ this.1) ?_
  rcases getD_cases p.2 i with z | z
  · exact (h.tabs _ this.2).pos _ z
  · rw [z]; decide
theorem Mixes.one {m n k : Nat} {qs : List Rat} {ts : List (List Rat)} (h : Mixes m n k qs ts) : (mix qs ts k).sum = 1 := by
  unfold mix mixc
  rw [sum_swap (fun (p : Rat × List Rat) i => p.1 * p.2.getD i 0)]
  rw [← h.tab.one]
  conv => rhs; rw [← zip_fst (qs := qs) (ns := List.replicate qs.length 0) (by simp)]
  have : ∀ (qs : List Rat) (ts : List (List Rat)), ts.length = qs.length → (∀ t ∈ ts, t.sum = 1 ∧ t.length = k) → ((qs.zip ts).map fun a => ((List.range k).map fun i => a.1 * a.2.getD i 0).sum) = (qs.zip (List.replicate qs.length 0)).map (·.1) := by
    intro qs
    induction qs with
    | nil => intro ts _ _; rfl
    | cons q qs ih =>
      intro ts hl ht
      cases ts with
      | nil => cases hl
      | cons t ts =>
        have h1 := ht t List.mem_cons_self
        simp only [List.zip_cons_cons, List.map_cons, List.length_cons, List.replicate_succ]
        rw [ih ts (by simpa using hl) fun x hx => ht x (List.mem_cons_of_mem _ hx), sum_mulL, ← h1.2, range_getD, h1.1, Rat.mul_one]
  rw [this qs ts h.len fun t ht => ⟨(h.tabs t ht).one, h.wid t ht⟩]
theorem Mixes.k8 {m n k : Nat} {qs : List Rat} {ts : List (List Rat)} (h : Mixes m n k qs ts) : 0 < k ∧ k ≤ 8 := by
  cases ts with
  | nil => have := h.len; exact absurd (List.length_eq_zero_iff.mp this.symm) h.tab.ne
  | cons t ts =>
    have h1 := h.tabs t List.mem_cons_self
    have h2 := h.wid t List.mem_cons_self
    rw [← h2]
    exact ⟨List.length_pos_iff.mpr h1.ne, h1.len⟩
theorem Mixes.res {m n k : Nat} {qs : List Rat} {ts : List (List Rat)} (h : Mixes m n k qs ts) : Tab (m + (n * 8 + 1)) (mix qs ts k) := by
  obtain ⟨D, h1, h2, h3⟩ := h.com
  have k8 := h.k8
  refine ⟨?_, ?_, ?_, h.one, D, h1, h2, ?_⟩
  · intro z
    have := congrArg List.length z
    unfold mix at this
    rw [List.length_map, List.length_range] at this
    simp at this; omega
  · unfold mix; rw [List.length_map, List.length_range]; exact k8.2
  · intro q hq
    obtain ⟨i, _, rfl⟩ := List.mem_map.mp hq
    exact sum_nonneg (h.pos i)
  · intro q hq
    obtain ⟨i, _, rfl⟩ := List.mem_map.mp hq
    exact Cm.sum (h3 i)
theorem Mixes.sb {m n k : Nat} {qs : List Rat} {ts : List (List Rat)} (h : Mixes m n k qs ts) {i : Nat} (hi : i < k) : Sb (m + (n * 8 + 1)) (mixc qs ts i) := by
  obtain ⟨D, h1, h2, h3⟩ := h.com
  refine ⟨h.pos i, ?_, D, h1, h2, h3 i⟩
  have : (mixc qs ts i).sum ∈ mix qs ts k := List.mem_map.mpr ⟨i, List.mem_range.mpr hi, rfl⟩
  have := h.res.le1 this
  have : (1 : Rat) < ((2 ^ 40 : Nat) : Rat) := Rat.lt_iff_le_and_ne.mpr ⟨by decide, by decide⟩
  grind
/-! ### beside -/
def bes (qs rs : List Rat) : List Rat := qs.flatMap fun q => rs.map fun r => q * r
theorem sum_append (l m : List Rat) : (l ++ m).sum = l.sum + m.sum := by
  induction l with
  | nil => exact (Rat.zero_add _).symm
  | cons a l ih => rw [List.cons_append, List.sum_cons, List.sum_cons, ih, Rat.add_assoc]
theorem bes_sum (rs : List Rat) : ∀ qs : List Rat, (bes qs rs).sum = qs.sum * rs.sum
  | [] => (Rat.zero_mul _).symm
  | q :: qs => by
    show ((rs.map fun r => q * r) ++ bes qs rs).sum = _
    rw [sum_append, bes_sum rs qs, List.sum_cons, Rat.add_mul]
    have := sum_mulL q (fun r => r) rs
    rw [List.map_id'] at this
    rw [this]
theorem bes_length (rs : List Rat) : ∀ qs : List Rat, (bes qs rs).length = qs.length * rs.length
  | [] => by simp [bes]
  | q :: qs => by
    show ((rs.map fun r => q * r) ++ bes qs rs).length = _
    rw [List.length_append, List.length_map, bes_length rs qs, List.length_cons, Nat.add_mul, Nat.one_mul, Nat.add_comm]
theorem bes_tab {m n : Nat} {qs rs : List Rat} (h : Tab m qs) (g : Tab n rs) (l8 : qs.length * rs.length ≤ 8) : Tab (m + n) (bes qs rs) := by
  obtain ⟨D, h1, h2, h3⟩ := h.com
  obtain ⟨E, g1, g2, g3⟩ := g.com
  have mem : ∀ x ∈ bes qs rs, ∃ q ∈ qs, ∃ r ∈ rs, x = q * r := fun x hx => by
    obtain ⟨q, hq, hx⟩ := List.mem_flatMap.mp hx
    obtain ⟨r, hr, rfl⟩ := List.mem_map.mp hx
    exact ⟨q, hq, r, hr, rfl⟩
  refine ⟨?_, ?_, ?_, ?_, D * E, Nat.mul_pos h1 g1, ?_, ?_⟩
  · intro z
    have := congrArg List.length z
    rw [bes_length] at this
    have a := List.length_pos_iff.mpr h.ne
    have b := List.length_pos_iff.mpr g.ne
    have := Nat.mul_pos a b
    simp only [List.length_nil] at *
    omega
  · rw [bes_length]; exact l8
  · intro x hx
    obtain ⟨q, hq, r, hr, rfl⟩ := mem x hx
    exact Rat.mul_nonneg (h.pos q hq) (g.pos r hr)
  · rw [bes_sum, h.one, g.one]; exact Rat.mul_one 1
  · rw [Nat.pow_add]; exact Nat.mul_lt_mul'' h2 g2
  · intro x hx
    obtain ⟨q, hq, r, hr, rfl⟩ := mem x hx
    exact (h3 q hq).mul (g3 r hr)
theorem num_pos {q : Rat} (h : 0 < q) : 0 < q.num := by
  have h1 := Rat.num_nonneg.mpr (Rat.le_of_lt h)
  have h2 : q.num ≠ 0 := by
    intro e
    have := Rat.num_eq_zero.mp e
    subst this
    exact absurd h (by decide)
  omega
/-! ### remainders: each step halves -/
def Euc (i x y : Nat) : Prop := x * y < 2 ^ (min 3980 (3981 - i)) ∧ (i = 0 ∨ y < x)
theorem euc_start {a b : Nat} (ha : a < 2 ^ 1990) (hb : b < 2 ^ 1990) : Euc 0 a b := by
  refine ⟨?_, .inl rfl⟩
  have h := Nat.mul_lt_mul'' ha hb
  rw [← Nat.pow_add] at h
  exact Nat.lt_of_lt_of_le h (Nat.pow_le_pow_right (by decide) (by decide))
theorem euc_step {i x y : Nat} (h : Euc i x y) (h0 : y ≠ 0) : Euc (i + 1) y (x % y) := by
  have hm : x % y < y := Nat.mod_lt _ (by omega)
  refine ⟨?_, .inr hm⟩
  obtain ⟨h1, h2⟩ := h
  by_cases hxy : x < y
  · have i0 : i = 0 := by omega
    subst i0
    rw [Nat.mod_eq_of_lt hxy, Nat.mul_comm]
    exact h1
  · have hd := Nat.div_add_mod x y
    have hq : 1 ≤ x / y := (Nat.one_le_div_iff (by omega)).mpr (by omega)
    have h3 : y * 1 ≤ y * (x / y) := Nat.mul_le_mul_left y hq
    have h4 : 2 * (x % y) ≤ x := by omega
    have h5 : 2 * (y * (x % y)) ≤ x * y := by
      have := Nat.mul_le_mul_left y h4
      rw [Nat.mul_left_comm, Nat.mul_comm y x] at this
      exact this
    by_cases hi : i < 3981
    · rw [show min 3980 (3981 - (i + 1)) = 3980 - i by omega]
      have h6 : 2 ^ (min 3980 (3981 - i)) ≤ 2 ^ (3980 - i + 1) := Nat.pow_le_pow_right (by decide) (by omega)
      rw [Nat.pow_succ] at h6
      omega
    · rw [show min 3980 (3981 - (i + 1)) = 0 by omega]
      rw [show min 3980 (3981 - i) = 0 by omega] at h1
      omega
theorem euc_end {x y : Nat} (h : Euc 4000 x y) : y = 0 := by
  obtain ⟨h1, h2⟩ := h
  rw [show min 3980 (3981 - 4000) = 0 from rfl] at h1
  have h3 : x * y = 0 := by omega
  rcases Nat.mul_eq_zero.mp h3 with z | z
  · omega
  · exact z
theorem sum_step {t b : Int} {q : Rat} (hb : 0 < b) : Rat.divInt (t * (q.den : Int) + q.num * b) (b * (q.den : Int)) = Rat.divInt t b + q := by
  conv => rhs; rw [← Rat.num_divInt_den q]
  rw [Rat.divInt_add_divInt _ _ (by omega) (by have := q.den_nz; omega)]
/-! ### tables of parts -/
structure Parts (n : Nat) (b : Int) (ps : List Int) : Prop where
  len : ps.length = n
  pos : ∀ p ∈ ps, 0 ≤ p
  le : ∀ p ∈ ps, p ≤ b
  ex : ∃ p ∈ ps, 0 < p
theorem isum_le {b : Int} : ∀ (ps : List Int), (∀ p ∈ ps, p ≤ b) → ps.sum ≤ ps.length * b
  | [], _ => by simp
  | p :: ps, h => by
    have h1 := h p List.mem_cons_self
    have h2 := isum_le ps fun x hx => h x (List.mem_cons_of_mem _ hx)
    rw [List.sum_cons, List.length_cons, Int.natCast_add, Int.add_mul]
    omega
theorem isum_pos : ∀ (ps : List Int), (∀ p ∈ ps, 0 ≤ p) → 0 ≤ ps.sum ∧ ∀ q ∈ ps, q ≤ ps.sum
  | [], _ => by simp
  | p :: ps, h => by
    have h1 := h p List.mem_cons_self
    obtain ⟨h2, h3⟩ := isum_pos ps fun x hx => h x (List.mem_cons_of_mem _ hx)
    rw [List.sum_cons]
    refine ⟨by omega, fun q hq => ?_⟩
    rcases List.mem_cons.mp hq with rfl | hq
    · omega
    · have := h3 q hq; omega
theorem rsum_map (W : Int) : ∀ (ps : List Int), (ps.map fun p => Rat.divInt p W).sum = (ps.sum : Rat) / (W : Rat)
  | [] => by
    show (0 : Rat) = ((0 : Int) : Rat) / (W : Rat)
    rw [Rat.div_def]
    exact (Rat.zero_mul _).symm
  | p :: ps => by
    rw [List.map_cons, List.sum_cons, List.sum_cons, rsum_map W ps, Rat.divInt_eq_div, Rat.intCast_add, Rat.div_def, Rat.div_def, Rat.div_def, Rat.add_mul]
def ptab (ps : List Int) : List Rat := ps.map fun p => Rat.divInt p ps.sum
theorem Parts.sum {n : Nat} {b : Int} {ps : List Int} (h : Parts n b ps) : 0 < ps.sum ∧ ps.sum ≤ n * b := by
  obtain ⟨q, hq, h0⟩ := h.ex
  have h1 := (isum_pos ps h.pos).2 q hq
  have h2 := isum_le ps h.le
  rw [h.len] at h2
  exact ⟨by omega, h2⟩
theorem Parts.tab {n : Nat} {b : Int} {ps : List Int} (h : Parts n b ps) (hn : n ≤ 8) (hb : b ≤ 1000000000100) : Tab 44 (ptab ps) := by
  obtain ⟨h0, h1⟩ := h.sum
  obtain ⟨q, hq, _⟩ := h.ex
  have hW : ((ps.sum : Int) : Rat) ≠ 0 := by
    intro e
    have := Rat.intCast_inj.mp (show ((ps.sum : Int) : Rat) = ((0 : Int) : Rat) from e)
    omega
  have hWp : (0 : Rat) < ((ps.sum : Int) : Rat) := Rat.intCast_pos.mpr h0
  refine ⟨?_, ?_, ?_, ?_, ps.sum.toNat, by omega, ?_, ?_⟩
  · intro e
    have := congrArg List.length e
    unfold ptab at this
    rw [List.length_map] at this
    rw [List.length_eq_zero_iff.mp this] at hq
    cases hq
  · unfold ptab; rw [List.length_map, h.len]; exact hn
  · intro x hx
    obtain ⟨p, hp, rfl⟩ := List.mem_map.mp hx
    rw [Rat.divInt_eq_div, Rat.div_def]
    exact Rat.mul_nonneg (by have := h.pos p hp; exact_mod_cast this) (Rat.le_of_lt (Rat.inv_pos.mpr hWp))
  · unfold ptab
    rw [rsum_map]
    exact div_self' hW
  · have hb0 : 0 ≤ b := by have := h.le q hq; have := h.pos q hq; omega
    have : (n : Int) * b ≤ 8 * 1000000000100 := Int.mul_le_mul (by omega) hb hb0 (by decide)
    omega
  · intro x hx
    obtain ⟨p, hp, rfl⟩ := List.mem_map.mp hx
    refine ⟨p, ?_⟩
    have e : ((ps.sum.toNat : Nat) : Rat) = ((ps.sum : Int) : Rat) := by
      rw [← Rat.intCast_natCast]
      congr 1
      omega
    rw [e, Rat.divInt_eq_div, Rat.div_def, Rat.mul_assoc, Rat.inv_mul_cancel _ hW, Rat.mul_one]
theorem Mixes.resL {m n k : Nat} {qs : List Rat} {ts : List (List Rat)} (h : Mixes m n k qs ts) : Tab (m + (n * ts.length + 1)) (mix qs ts k) := by
  obtain ⟨D, h1, h2, h3⟩ := h.comL
  have r := h.res
  refine ⟨r.ne, r.len, r.pos, r.one, D, h1, h2, ?_⟩
  intro q hq
  obtain ⟨i, _, rfl⟩ := List.mem_map.mp hq
  exact Cm.sum (h3 i)
end MR

/-! My: what the laws of tables say, of lists of fractions. -/
namespace MR
/-! ### sums over ranges -/
def rs (k : Nat) (F : Nat → Rat) : Rat := ((List.range k).map F).sum
theorem rs_zero (F : Nat → Rat) : rs 0 F = 0 := rfl
theorem rs_succ (k : Nat) (F : Nat → Rat) : rs (k + 1) F = rs k F + F k := by
  unfold rs
  rw [List.range_succ, List.map_append, sum_append]
  show _ = _
  rw [List.map_cons, List.map_nil, List.sum_cons]
  show _ + (F k + 0) = _
  rw [Rat.add_zero]
theorem rs_congr {k : Nat} {F G : Nat → Rat} (h : ∀ i, i < k → F i = G i) : rs k F = rs k G := by
  unfold rs
  congr 1
  exact List.map_congr_left fun i hi => h i (List.mem_range.mp hi)
theorem rs_add (k : Nat) (F G : Nat → Rat) : rs k (fun i => F i + G i) = rs k F + rs k G := sum_add F G _
theorem rs_const0 (k : Nat) : rs k (fun _ => 0) = 0 := sum_zero _
theorem rs_mul (k : Nat) (c : Rat) (F : Nat → Rat) : rs k (fun i => c * F i) = c * rs k F := sum_mulL c F _
theorem rs_swap (k l : Nat) (F : Nat → Nat → Rat) : rs k (fun i => rs l fun j => F i j) = rs l fun j => rs k fun i => F i j := by
  unfold rs
  exact sum_swap (fun j i => F i j) (List.range k) (List.range l)
theorem rs_split (k l : Nat) (F : Nat → Rat) : rs (k + l) F = rs k F + rs l fun i => F (k + i) := by
  induction l with
  | zero => rw [Nat.add_zero, rs_zero, Rat.add_zero]
  | succ l ih => rw [Nat.add_succ, rs_succ, ih, rs_succ, Rat.add_assoc]
/-- one of a range -/
theorem rs_one {k x : Nat} (h : x < k) (F : Nat → Rat) : rs k (fun i => if i = x then F i else 0) = F x := by
  induction k with
  | zero => omega
  | succ k ih =>
    rw [rs_succ]
    by_cases e : x = k
    · subst e
      rw [if_pos rfl]
      have : rs x (fun i => if i = x then F i else 0) = rs x fun _ => 0 := rs_congr fun i hi => by rw [if_neg (by omega)]
      rw [this, rs_const0, Rat.zero_add]
    · rw [ih (by omega), if_neg (Ne.symm e), Rat.add_zero]
/-- pairs of a quotient and a rest -/
theorem rs_pairs (b : Nat) (hb : 0 < b) (F : Nat → Nat → Rat) : ∀ a : Nat, rs (a * b) (fun t => F (t / b) (t % b)) = rs a fun i => rs b fun j => F i j
  | 0 => by rw [Nat.zero_mul]; rfl
  | a + 1 => by
    rw [Nat.succ_mul, rs_split, rs_pairs b hb F a, rs_succ]
    congr 1
    refine rs_congr fun i hi => ?_
    have h1 : (a * b + i) / b = a := by
      rw [Nat.mul_comm, Nat.mul_add_div hb, Nat.div_eq_of_lt hi, Nat.add_zero]
    have h2 : (a * b + i) % b = i := by
      rw [Nat.mul_comm, Nat.mul_add_mod, Nat.mod_eq_of_lt hi]
    rw [h1, h2]
/-! ### lists as functions of their places -/
theorem as_range (qs : List Rat) : (List.range qs.length).map (fun i => qs.getD i 0) = qs := range_getD qs
theorem sum_rs (qs : List Rat) : qs.sum = rs qs.length fun i => qs.getD i 0 := by
  unfold rs; rw [as_range]
theorem getD_map_range {k i : Nat} (F : Nat → Rat) (h : i < k) : ((List.range k).map F).getD i 0 = F i := by
  rw [List.getD_eq_getElem?_getD, List.getElem?_map, List.getElem?_range h]
  rfl
theorem sum_ite {α : Type} (p : α → Bool) (f : α → Rat) : ∀ l : List α, ((l.filter p).map f).sum = (l.map fun a => if p a = true then f a else 0).sum
  | [] => rfl
  | a :: l => by
    rw [List.filter_cons, List.map_cons, List.sum_cons, ← sum_ite p f l]
    by_cases h : p a = true
    · rw [if_pos h, if_pos h, List.map_cons, List.sum_cons]
    · rw [if_neg h, if_neg h, Rat.zero_add]
theorem nat_as_range (ns : List Nat) : (List.range ns.length).map (fun i => ns.getD i 0) = ns := by
  apply List.ext_getElem
  · simp
  · intro i h1 h2
    simp
    rw [List.getElem?_eq_getElem h2]
    rfl
theorem zip_range {qs : List Rat} {ns : List Nat} (h : ns.length = qs.length) : qs.zip ns = (List.range qs.length).map fun i => (qs.getD i 0, ns.getD i 0) := by
  conv => lhs; rw [← as_range qs, ← nat_as_range ns, h]
  rw [List.zip_map']
theorem named_sum {qs : List Rat} {ns : List Nat} (h : ns.length = qs.length) (x : Nat) : (named qs ns x).sum = rs qs.length fun i => if ns.getD i 0 = x then qs.getD i 0 else 0 := by
  unfold named
  rw [sum_ite, zip_range h, List.map_map]
  unfold rs
  congr 1
  refine List.map_congr_left fun i _ => ?_
  simp
theorem getD_mem {ns : List Nat} {i : Nat} (h : i < ns.length) : ns.getD i 0 ∈ ns := by
  rw [List.getD_eq_getElem?_getD, List.getElem?_eq_getElem h]
  exact List.getElem_mem h
theorem ren_getD {qs : List Rat} {ns : List Nat} (h : ns.length = qs.length) {x : Nat} (hx : x ≤ maxN ns) : (ren qs ns).getD x 0 = rs qs.length fun i => if ns.getD i 0 = x then qs.getD i 0 else 0 := by
  unfold ren
  rw [getD_map_range _ (by omega), named_sum h]
theorem ren_length (qs : List Rat) (ns : List Nat) : (ren qs ns).length = maxN ns + 1 := by unfold ren; simp
/-- renamed twice -/
theorem ren_ren {qs : List Rat} {ns ls : List Nat} (h : ns.length = qs.length) (hl : ls.length = (ren qs ns).length) :
    ren (ren qs ns) ls = ren qs (ns.map fun n => ls.getD n 0) ++ List.replicate (maxN ls - maxN (ns.map fun n => ls.getD n 0)) 0 := by
  have hb : (ns.map fun n => ls.getD n 0).length = qs.length := by rw [List.length_map]; exact h
  have hle : maxN (ns.map fun n => ls.getD n 0) ≤ maxN ls := maxN_le fun x hx => by
    obtain ⟨n, hn, rfl⟩ := List.mem_map.mp hx
    refine le_maxN (getD_mem ?_)
    rw [hl, ren_length]
    have := le_maxN hn
    omega
  have key : ∀ x, (named (ren qs ns) ls x).sum = (named qs (ns.map fun n => ls.getD n 0) x).sum := fun x => by
    rw [named_sum hl, named_sum hb, ren_length]
    have e1 : rs (maxN ns + 1) (fun y => if ls.getD y 0 = x then (ren qs ns).getD y 0 else 0) = rs (maxN ns + 1) fun y => rs qs.length fun i => if ns.getD i 0 = y then (if ls.getD y 0 = x then qs.getD i 0 else 0) else 0 := by
      refine rs_congr fun y hy => ?_
      rw [ren_getD h (by omega)]
      by_cases e : ls.getD y 0 = x
      · simp only [e, if_true]
      · rw [if_neg e]
        have : rs qs.length (fun i => if ns.getD i 0 = y then (if ls.getD y 0 = x then qs.getD i 0 else 0) else 0) = rs qs.length fun _ => 0 := rs_congr fun i _ => by rw [if_neg e]; split <;> rfl
        rw [this, rs_const0]
    rw [e1, rs_swap]
    refine rs_congr fun i hi => ?_
    have hi' : i < ns.length := by omega
    have hn := le_maxN (getD_mem hi')
    have e2 : (fun y => if ns.getD i 0 = y then (if ls.getD y 0 = x then qs.getD i 0 else 0) else 0) = fun y => if y = ns.getD i 0 then (if ls.getD y 0 = x then qs.getD i 0 else 0) else 0 := by
      funext y
      by_cases e : ns.getD i 0 = y
      · rw [if_pos e, if_pos e.symm]
      · rw [if_neg e, if_neg (Ne.symm e)]
    rw [e2, rs_one (by omega)]
    have e3 : (ns.map fun n => ls.getD n 0).getD i 0 = ls.getD (ns.getD i 0) 0 := by
      rw [List.getD_eq_getElem?_getD, List.getElem?_map, List.getElem?_eq_getElem hi', List.getD_eq_getElem?_getD (l := ns), List.getElem?_eq_getElem hi']
      rfl
    rw [e3]
  generalize hB : (ns.map fun n => ls.getD n 0) = bs at *
  unfold ren
  have e4 : maxN ls + 1 = (maxN bs + 1) + (maxN ls - maxN bs) := by omega
  have e5 : List.range (maxN ls + 1) = List.range (maxN bs + 1) ++ (List.range (maxN ls - maxN bs)).map fun i => maxN bs + 1 + i := by
    rw [e4, List.range_add]
  rw [e5, List.map_append, List.map_map]
  congr 1
  · refine List.map_congr_left fun x _ => ?_
    exact key x
  · have : ∀ i, (named ((List.range (maxN ns + 1)).map fun x => (named qs ns x).sum) ls (maxN bs + 1 + i)).sum = 0 := fun i => by
      have := key (maxN bs + 1 + i)
      unfold ren at this
      rw [this, named_sum hb]
      have : rs qs.length (fun j => if bs.getD j 0 = maxN bs + 1 + i then qs.getD j 0 else 0) = rs qs.length fun _ => 0 := rs_congr fun j hj => by
        have := le_maxN (getD_mem (ns := bs) (i := j) (by omega))
        rw [if_neg (by omega)]
      rw [this, rs_const0]
    rw [List.eq_replicate_iff]
    refine ⟨by simp, fun x hx => ?_⟩
    obtain ⟨i, _, rfl⟩ := List.mem_map.mp hx
    exact this i
theorem ren_zero {qs : List Rat} (hne : qs ≠ []) : ren qs (List.replicate qs.length 0) = [qs.sum] := by
  have hl : (List.replicate qs.length 0).length = qs.length := by simp
  have hm : maxN (List.replicate qs.length 0) = 0 := by
    have := maxN_le (ns := List.replicate qs.length 0) (m := 0) fun x hx => by rw [(List.mem_replicate.mp hx).2]; exact Nat.le_refl _
    omega
  unfold ren
  rw [hm]
  show [(named qs (List.replicate qs.length 0) 0).sum] = _
  rw [named_sum hl, sum_rs]
  congr 1
  refine rs_congr fun i hi => ?_
  rw [if_pos]
  rw [List.getD_eq_getElem?_getD, List.getElem?_replicate]
  split <;> rfl
theorem maxN_range {n : Nat} (h : 0 < n) : maxN (List.range n) = n - 1 := by
  have h1 := maxN_le (ns := List.range n) (m := n - 1) fun x hx => by have := List.mem_range.mp hx; omega
  have h2 := le_maxN (ns := List.range n) (n := n - 1) (List.mem_range.mpr (by omega))
  omega
theorem ren_range {qs : List Rat} (hne : qs ≠ []) : ren qs (List.range qs.length) = qs := by
  have hp := List.length_pos_iff.mpr hne
  have hl : (List.range qs.length).length = qs.length := by simp
  unfold ren
  rw [maxN_range hp, show qs.length - 1 + 1 = qs.length by omega]
  conv => rhs; rw [← as_range qs]
  refine List.map_congr_left fun x hx => ?_
  have hx' := List.mem_range.mp hx
  rw [named_sum hl]
  have : rs qs.length (fun i => if (List.range qs.length).getD i 0 = x then qs.getD i 0 else 0) = rs qs.length fun i => if i = x then qs.getD i 0 else 0 := rs_congr fun i hi => by
    have e : (List.range qs.length).getD i 0 = i := by
      rw [List.getD_eq_getElem?_getD, List.getElem?_range hi]; rfl
    rw [e]
  rw [this, rs_one hx']
/-! ### given a lot and the rest -/
theorem numd_getD : ∀ (qs : List Rat) (a i : Nat), i < qs.length → (numd a qs)[i]? = some (a + i, qs.getD i 0)
  | [], _, _, h => by simp at h
  | q :: qs, a, 0, _ => by simp [numd]
  | q :: qs, a, i + 1, h => by
    have := numd_getD qs (a + 1) i (by simpa using h)
    simp only [numd, List.getElem?_cons_succ, this, List.getD_cons_succ]
    congr 2
    omega
theorem numd_range (qs : List Rat) : numd 0 qs = (List.range qs.length).map fun i => (i, qs.getD i 0) := by
  apply List.ext_getElem?
  intro i
  by_cases h : i < qs.length
  · rw [numd_getD qs 0 i h, List.getElem?_map, List.getElem?_range h, Nat.zero_add]; rfl
  · rw [List.getElem?_eq_none (by rw [numd_length]; omega), List.getElem?_eq_none (by simp; omega)]
theorem lotQ_rs {qs : List Rat} {ns : List Nat} (h : Lot qs.length ns) : (lotQ qs ns).sum = rs qs.length fun i => if i ∈ ns then qs.getD i 0 else 0 := by
  rw [← lot_sum h, numd_range, List.map_map]
  rfl
theorem given_getD {qs : List Rat} {ns : List Nat} {i : Nat} (hi : i < qs.length) : (given qs ns).getD i 0 = if i ∈ ns then qs.getD i 0 / (lotQ qs ns).sum else 0 := by
  unfold given
  rw [numd_range, List.map_map, getD_map_range _ hi]
  rfl
theorem given_length (qs : List Rat) (ns : List Nat) : (given qs ns).length = qs.length := by
  unfold given; rw [List.length_map, numd_length]
def restOf (n : Nat) (ns : List Nat) : List Nat := (List.range n).filter fun i => !decide (i ∈ ns)
theorem rest_lot {n : Nat} {ns : List Nat} (h : n ≤ 8) : Lot n (restOf n ns) :=
  ⟨List.pairwise_lt_range.filter _, fun x hx => List.mem_range.mp (List.mem_filter.mp hx).1, h⟩
theorem mem_rest {n i : Nat} {ns : List Nat} (h : i < n) : i ∈ restOf n ns ↔ i ∉ ns := by
  unfold restOf
  rw [List.mem_filter]
  simp [h]
theorem rest_sum {qs : List Rat} {ns : List Nat} (h : Lot qs.length ns) : (lotQ qs ns).sum + (lotQ qs (restOf qs.length ns)).sum = qs.sum := by
  rw [lotQ_rs h, lotQ_rs (rest_lot h.le), sum_rs, ← rs_add]
  refine rs_congr fun i hi => ?_
  by_cases e : i ∈ ns
  · rw [if_pos e, if_neg (by rw [mem_rest hi]; simpa using e), Rat.add_zero]
  · rw [if_neg e, if_pos ((mem_rest hi).mpr e), Rat.zero_add]
theorem mix_getD {qs : List Rat} {ts : List (List Rat)} {k i : Nat} (hi : i < k) : (mix qs ts k).getD i 0 = (mixc qs ts i).sum := by
  unfold mix; rw [getD_map_range _ hi]
theorem mix_length (qs : List Rat) (ts : List (List Rat)) (k : Nat) : (mix qs ts k).length = k := by unfold mix; simp
theorem ext_getD {qs rs : List Rat} (hl : qs.length = rs.length) (h : ∀ i, i < qs.length → qs.getD i 0 = rs.getD i 0) : qs = rs := by
  rw [← as_range qs, ← as_range rs, ← hl]
  exact List.map_congr_left fun i hi => h i (List.mem_range.mp hi)
theorem mixc_two (a b : Rat) (s t : List Rat) (i : Nat) : (mixc [a, b] [s, t] i).sum = a * s.getD i 0 + b * t.getD i 0 := by
  show (a * s.getD i 0 + (b * t.getD i 0 + 0)) = _
  rw [Rat.add_zero]
theorem mix_given {qs : List Rat} {ns : List Nat} (h : Lot qs.length ns) (h0 : (lotQ qs ns).sum ≠ 0) (h1 : (lotQ qs (restOf qs.length ns)).sum ≠ 0) :
    mix [(lotQ qs ns).sum, (lotQ qs (restOf qs.length ns)).sum] [given qs ns, given qs (restOf qs.length ns)] qs.length = qs := by
  refine ext_getD (mix_length _ _ _) fun i hi => ?_
  rw [mix_length] at hi
  rw [mix_getD hi, mixc_two, given_getD hi, given_getD hi]
  by_cases e : i ∈ ns
  · rw [if_pos e, if_neg (by rw [mem_rest hi]; simpa using e)]
    generalize (lotQ qs ns).sum = W at *
    have : W * (qs.getD i 0 / W) = qs.getD i 0 := by rw [Rat.div_def, Rat.mul_comm, Rat.mul_assoc, Rat.inv_mul_cancel W h0, Rat.mul_one]
    rw [this, Rat.mul_zero, Rat.add_zero]
  · rw [if_neg e, if_pos ((mem_rest hi).mpr e)]
    generalize (lotQ qs (restOf qs.length ns)).sum = W at *
    have : W * (qs.getD i 0 / W) = qs.getD i 0 := by rw [Rat.div_def, Rat.mul_comm, Rat.mul_assoc, Rat.inv_mul_cancel W h1, Rat.mul_one]
    rw [this, Rat.mul_zero, Rat.zero_add]
/-- two chances -/
theorem two_tab {n : Nat} {qs : List Rat} {ns : List Nat} (h : Tab n qs) (hl : Lot qs.length ns) : Tab n [(lotQ qs ns).sum, (lotQ qs (restOf qs.length ns)).sum] := by
  have hr := rest_lot (n := qs.length) (ns := ns) hl.le
  obtain ⟨D, h1, h2, h3⟩ := h.com
  refine ⟨by simp, by simp, fun q hq => ?_, ?_, D, h1, h2, fun q hq => ?_⟩
  · rcases List.mem_cons.mp hq with rfl | hq
    · exact sum_nonneg fun q hq => h.pos q (hl.sub.subset hq)
    · rw [List.mem_singleton.mp hq]
      exact sum_nonneg fun q hq => h.pos q (hr.sub.subset hq)
  · have := rest_sum hl
    rw [h.one] at this
    rw [← this]
    show _ + (_ + 0) = _
    rw [Rat.add_zero]
  · rcases List.mem_cons.mp hq with rfl | hq
    · exact Cm.sum fun q hq => h3 q (hl.sub.subset hq)
    · rw [List.mem_singleton.mp hq]
      exact Cm.sum fun q hq => h3 q (hr.sub.subset hq)
/-! ### mixed, in parts -/
theorem zipR {α : Type} (d : α) (qs : List Rat) (ts : List α) (h : ts.length = qs.length) : qs.zip ts = (List.range qs.length).map fun i => (qs.getD i 0, ts.getD i d) := by
  have e : ts = (List.range qs.length).map fun i => ts.getD i d := by
    apply List.ext_getElem
    · simp [h]
    · intro i h1 h2
      simp
      rw [List.getElem?_eq_getElem h1]
      rfl
  conv => lhs; rw [← as_range qs, e]
  rw [List.zip_map']
theorem mixc_rs {qs : List Rat} {ts : List (List Rat)} (h : ts.length = qs.length) (i : Nat) : (mixc qs ts i).sum = rs qs.length fun j => qs.getD j 0 * (ts.getD j []).getD i 0 := by
  unfold mixc
  rw [zipR [] qs ts h, List.map_map]
  rfl
/-- a mixing table renamed mixes with its tables put together -/
theorem ren_mix {qs : List Rat} {ts : List (List Rat)} {k : Nat} {ns : List Nat} (h : ts.length = qs.length) (hw : ∀ t ∈ ts, t.length = k) (hn : ns.length = k) :
    ren (mix qs ts k) ns = mix qs (ts.map fun t => ren t ns) (maxN ns + 1) := by
  have hm : ns.length = (mix qs ts k).length := by rw [mix_length]; exact hn
  refine ext_getD (by rw [ren_length, mix_length]) fun x hx => ?_
  rw [ren_length] at hx
  rw [ren_getD hm (by omega), mix_getD hx, mixc_rs (by rw [List.length_map]; exact h), mix_length]
  have e1 : rs k (fun i => if ns.getD i 0 = x then (mix qs ts k).getD i 0 else 0) = rs k fun i => rs qs.length fun j => if ns.getD i 0 = x then qs.getD j 0 * (ts.getD j []).getD i 0 else 0 := rs_congr fun i hi => by
    rw [mix_getD hi, mixc_rs h]
    by_cases e : ns.getD i 0 = x
    · simp only [e, if_true]
    · simp only [e, if_false]
      rw [rs_const0]
  rw [e1, rs_swap]
  refine rs_congr fun j hj => ?_
  have hj' : j < ts.length := by omega
  have e2 : (ts.map fun t => ren t ns).getD j [] = ren (ts.getD j []) ns := by
    rw [List.getD_eq_getElem?_getD, List.getElem?_map, List.getElem?_eq_getElem hj', List.getD_eq_getElem?_getD, List.getElem?_eq_getElem hj']
    rfl
  have hk : (ts.getD j []).length = k := hw _ (by
    rw [List.getD_eq_getElem?_getD, List.getElem?_eq_getElem hj']
    exact List.getElem_mem hj')
  rw [e2, ren_getD (by rw [hn, hk]) (by omega), ← rs_mul, hk]
  refine rs_congr fun i _ => ?_
  by_cases e : ns.getD i 0 = x
  · simp only [e, if_true]
  · simp only [e, if_false]
    rw [Rat.mul_zero]
/-- the first two put together -/
def mergedN (n : Nat) : List Nat := 0 :: 0 :: (List.range (n - 2)).map fun i => i + 1
theorem mergedN_ren {q0 q1 : Rat} {qs : List Rat} : ren (q0 :: q1 :: qs) (mergedN (qs.length + 2)) = (q0 + q1) :: qs := by
  have hl : (mergedN (qs.length + 2)).length = (q0 :: q1 :: qs).length := by simp [mergedN]
  have hm : maxN (mergedN (qs.length + 2)) = qs.length := by
    have h1 := maxN_le (ns := mergedN (qs.length + 2)) (m := qs.length) fun x hx => by
      simp only [mergedN, List.mem_cons, List.mem_map, List.mem_range] at hx
      rcases hx with rfl | rfl | ⟨i, hi, rfl⟩
      · omega
      · omega
      · omega
    have h2 : qs.length ∈ mergedN (qs.length + 2) := by
      cases qs with
      | nil => simp [mergedN]
      | cons a l =>
        simp only [mergedN, List.mem_cons, List.mem_map, List.mem_range, List.length_cons]
        exact .inr (.inr ⟨l.length, by omega, rfl⟩)
    have := le_maxN h2
    omega
  refine ext_getD (by rw [ren_length, hm]; simp) fun x hx => ?_
  rw [ren_length, hm] at hx
  rw [ren_getD hl (by omega)]
  have e2 : ∀ F : Nat → Rat, rs (qs.length + 2) F = F 0 + F 1 + rs qs.length fun i => F (i + 2) := fun F => by
    rw [Nat.add_comm, rs_split]
    congr 1
    · show rs 2 F = _
      rw [rs_succ, rs_succ, rs_zero, Rat.zero_add]
    · exact rs_congr fun i _ => by rw [Nat.add_comm]
  rw [show (q0 :: q1 :: qs).length = qs.length + 2 from rfl, e2]
  have e3 : (mergedN (qs.length + 2)).getD 0 0 = 0 := rfl
  have e4 : (mergedN (qs.length + 2)).getD 1 0 = 0 := rfl
  have e5 : ∀ i, i < qs.length → (mergedN (qs.length + 2)).getD (i + 2) 0 = i + 1 := fun i hi => by
    show ((List.range (qs.length + 2 - 2)).map fun i => i + 1).getD i 0 = _
    rw [List.getD_eq_getElem?_getD, List.getElem?_map, List.getElem?_range (by omega)]
    rfl
  rw [e3, e4]
  cases x with
  | zero =>
    have : (rs qs.length fun i => if (mergedN (qs.length + 2)).getD (i + 2) 0 = 0 then (q0 :: q1 :: qs).getD (i + 2) 0 else 0) = rs qs.length fun _ => 0 := rs_congr fun i hi => by rw [e5 i hi, if_neg (by omega)]
    rw [this, rs_const0, Rat.add_zero]
    rfl
  | succ x =>
    rw [if_neg (by omega), if_neg (by omega)]
    have : (rs qs.length fun i => if (mergedN (qs.length + 2)).getD (i + 2) 0 = x + 1 then (q0 :: q1 :: qs).getD (i + 2) 0 else 0) = rs qs.length fun i => if i = x then qs.getD i 0 else 0 := rs_congr fun i hi => by
      rw [e5 i hi]
      by_cases e : i = x
      · rw [if_pos (by omega), if_pos e]; rfl
      · rw [if_neg (by omega), if_neg e]
    rw [this, rs_one (by omega)]
    show 0 + 0 + qs.getD x 0 = qs.getD x 0
    rw [Rat.add_zero, Rat.zero_add]
/-! ### beside -/
theorem bes_range {qs rr : List Rat} (hb : 0 < rr.length) : bes qs rr = (List.range (qs.length * rr.length)).map fun t => qs.getD (t / rr.length) 0 * rr.getD (t % rr.length) 0 := by
  induction qs with
  | nil => simp [bes]
  | cons q qs ih =>
    show (rr.map fun r => q * r) ++ bes qs rr = _
    rw [ih, List.length_cons, Nat.succ_mul, Nat.add_comm (qs.length * rr.length), List.range_add, List.map_append]
    congr 1
    · conv => lhs; rw [← as_range rr]
      rw [List.map_map]
      refine List.map_congr_left fun i hi => ?_
      have hi' := List.mem_range.mp hi
      show q * rr.getD i 0 = _
      rw [Nat.div_eq_of_lt hi', Nat.mod_eq_of_lt hi']
      rfl
    · rw [List.map_map]
      refine List.map_congr_left fun i hi => ?_
      show _ = (q :: qs).getD ((rr.length + i) / rr.length) 0 * rr.getD ((rr.length + i) % rr.length) 0
      have h1 : (rr.length + i) / rr.length = i / rr.length + 1 := by rw [Nat.add_comm, Nat.add_div_right _ hb]
      have h2 : (rr.length + i) % rr.length = i % rr.length := by rw [Nat.add_mod_left]
      rw [h1, h2]
      rfl
theorem bes_getD {qs rr : List Rat} {t : Nat} (ht : t < qs.length * rr.length) : (bes qs rr).getD t 0 = qs.getD (t / rr.length) 0 * rr.getD (t % rr.length) 0 := by
  have hb : 0 < rr.length := by
    rcases Nat.eq_zero_or_pos rr.length with h | h
    · rw [h] at ht; simp at ht
    · exact h
  rw [bes_range hb, getD_map_range _ ht]
def fstP (a b : Nat) : List Nat := (List.range (a * b)).map fun t => t / b
def sndP (a b : Nat) : List Nat := (List.range (a * b)).map fun t => t % b
theorem fstP_getD {a b t : Nat} (h : t < a * b) : (fstP a b).getD t 0 = t / b := by
  unfold fstP
  rw [List.getD_eq_getElem?_getD, List.getElem?_map, List.getElem?_range h]; rfl
theorem sndP_getD {a b t : Nat} (h : t < a * b) : (sndP a b).getD t 0 = t % b := by
  unfold sndP
  rw [List.getD_eq_getElem?_getD, List.getElem?_map, List.getElem?_range h]; rfl
theorem maxN_fst {a b : Nat} (ha : 0 < a) (hb : 0 < b) : maxN (fstP a b) = a - 1 := by
  have h1 := maxN_le (ns := fstP a b) (m := a - 1) fun x hx => by
    obtain ⟨t, ht, rfl⟩ := List.mem_map.mp hx
    have := (Nat.div_lt_iff_lt_mul hb).mpr (List.mem_range.mp ht)
    omega
  have h2 : a - 1 ∈ fstP a b := List.mem_map.mpr ⟨(a - 1) * b, List.mem_range.mpr (Nat.mul_lt_mul_of_pos_right (by omega) hb), Nat.mul_div_cancel _ hb⟩
  have := le_maxN h2
  omega
theorem maxN_snd {a b : Nat} (ha : 0 < a) (hb : 0 < b) : maxN (sndP a b) = b - 1 := by
  have h1 := maxN_le (ns := sndP a b) (m := b - 1) fun x hx => by
    obtain ⟨t, ht, rfl⟩ := List.mem_map.mp hx
    have := Nat.mod_lt t hb
    omega
  have h2 : b - 1 ∈ sndP a b := List.mem_map.mpr ⟨b - 1, List.mem_range.mpr (by have := Nat.mul_le_mul_right b ha; omega), Nat.mod_eq_of_lt (by omega)⟩
  have := le_maxN h2
  omega
theorem ren_fst {qs rr : List Rat} (hq : qs ≠ []) (hr : rr ≠ []) (h1 : rr.sum = 1) : ren (bes qs rr) (fstP qs.length rr.length) = qs := by
  have ha := List.length_pos_iff.mpr hq
  have hb := List.length_pos_iff.mpr hr
  have hl : (fstP qs.length rr.length).length = (bes qs rr).length := by rw [bes_length]; simp [fstP]
  have hm := maxN_fst ha hb
  refine ext_getD (by rw [ren_length, hm]; omega) fun x hx => ?_
  rw [ren_length, hm] at hx
  rw [ren_getD hl (by omega), bes_length]
  have e1 : rs (qs.length * rr.length) (fun t => if (fstP qs.length rr.length).getD t 0 = x then (bes qs rr).getD t 0 else 0) = rs (qs.length * rr.length) fun t => (fun i j => if i = x then qs.getD i 0 * rr.getD j 0 else 0) (t / rr.length) (t % rr.length) := rs_congr fun t ht => by
    rw [fstP_getD ht, bes_getD ht]
  rw [e1, rs_pairs rr.length hb (fun i j => if i = x then qs.getD i 0 * rr.getD j 0 else 0)]
  have e2 : (rs qs.length fun i => rs rr.length fun j => if i = x then qs.getD i 0 * rr.getD j 0 else 0) = rs qs.length fun i => if i = x then qs.getD i 0 else 0 := rs_congr fun i _ => by
    by_cases e : i = x
    · simp only [e, if_true]
      rw [rs_mul, ← sum_rs, h1, Rat.mul_one]
    · simp only [e, if_false]
      rw [rs_const0]
  rw [e2, rs_one (by omega)]
theorem ren_snd {qs rr : List Rat} (hq : qs ≠ []) (hr : rr ≠ []) (h1 : qs.sum = 1) : ren (bes qs rr) (sndP qs.length rr.length) = rr := by
  have ha := List.length_pos_iff.mpr hq
  have hb := List.length_pos_iff.mpr hr
  have hl : (sndP qs.length rr.length).length = (bes qs rr).length := by rw [bes_length]; simp [sndP]
  have hm := maxN_snd ha hb
  refine ext_getD (by rw [ren_length, hm]; omega) fun x hx => ?_
  rw [ren_length, hm] at hx
  rw [ren_getD hl (by omega), bes_length]
  have e1 : rs (qs.length * rr.length) (fun t => if (sndP qs.length rr.length).getD t 0 = x then (bes qs rr).getD t 0 else 0) = rs (qs.length * rr.length) fun t => (fun i j => if j = x then rr.getD j 0 * qs.getD i 0 else 0) (t / rr.length) (t % rr.length) := rs_congr fun t ht => by
    rw [sndP_getD ht, bes_getD ht, Rat.mul_comm]
  rw [e1, rs_pairs rr.length hb (fun i j => if j = x then rr.getD j 0 * qs.getD i 0 else 0), rs_swap]
  have e2 : (rs rr.length fun j => rs qs.length fun i => if j = x then rr.getD j 0 * qs.getD i 0 else 0) = rs rr.length fun i => if i = x then rr.getD i 0 else 0 := rs_congr fun i _ => by
    by_cases e : i = x
    · simp only [e, if_true]
      rw [rs_mul, ← sum_rs, h1, Rat.mul_one]
    · simp only [e, if_false]
      rw [rs_const0]
  rw [e2, rs_one (by omega)]
/-- a lot of pairs -/
def pairsOf (a b : Nat) (ls ms : List Nat) : List Nat := (List.range (a * b)).filter fun t => decide (t / b ∈ ls) && decide (t % b ∈ ms)
theorem pairs_lot {a b : Nat} {ls ms : List Nat} (h : a * b ≤ 8) : Lot (a * b) (pairsOf a b ls ms) :=
  ⟨List.pairwise_lt_range.filter _, fun x hx => List.mem_range.mp (List.mem_filter.mp hx).1, h⟩
theorem mem_pairs {a b t : Nat} {ls ms : List Nat} (h : t < a * b) : t ∈ pairsOf a b ls ms ↔ (t / b ∈ ls ∧ t % b ∈ ms) := by
  unfold pairsOf
  rw [List.mem_filter]
  simp [h]
theorem pairs_sum {qs rr : List Rat} {ls ms : List Nat} (hl : Lot qs.length ls) (hm : Lot rr.length ms) (h8 : qs.length * rr.length ≤ 8) :
    (lotQ (bes qs rr) (pairsOf qs.length rr.length ls ms)).sum = (lotQ qs ls).sum * (lotQ rr ms).sum := by
  have hp : Lot (bes qs rr).length (pairsOf qs.length rr.length ls ms) := by rw [bes_length]; exact pairs_lot h8
  rw [lotQ_rs hp, lotQ_rs hl, lotQ_rs hm, bes_length]
  rcases Nat.eq_zero_or_pos rr.length with hb | hb
  · rw [hb, Nat.mul_zero, rs_zero, rs_zero, Rat.mul_zero]
  have e1 : (rs (qs.length * rr.length) fun t => if t ∈ pairsOf qs.length rr.length ls ms then (bes qs rr).getD t 0 else 0) = rs (qs.length * rr.length) fun t => (fun i j => (if i ∈ ls then qs.getD i 0 else 0) * (if j ∈ ms then rr.getD j 0 else 0)) (t / rr.length) (t % rr.length) := rs_congr fun t ht => by
    rw [bes_getD ht]
    simp only [mem_pairs ht]
    by_cases e1 : t / rr.length ∈ ls <;> by_cases e2 : t % rr.length ∈ ms <;> simp only [e1, e2, and_self, and_true, and_false, if_true, if_false, Rat.mul_zero, Rat.zero_mul]
  rw [e1, rs_pairs rr.length hb (fun i j => (if i ∈ ls then qs.getD i 0 else 0) * (if j ∈ ms then rr.getD j 0 else 0))]
  have e2 : (rs qs.length fun i => rs rr.length fun j => (if i ∈ ls then qs.getD i 0 else 0) * (if j ∈ ms then rr.getD j 0 else 0)) = rs qs.length fun i => (rs rr.length fun j => if j ∈ ms then rr.getD j 0 else 0) * (if i ∈ ls then qs.getD i 0 else 0) := rs_congr fun i _ => by
    rw [rs_mul, Rat.mul_comm]
  rw [e2, rs_mul, Rat.mul_comm]
theorem given_pairs {qs rr : List Rat} {ls ms : List Nat} (hl : Lot qs.length ls) (hm : Lot rr.length ms) (h8 : qs.length * rr.length ≤ 8) :
    given (bes qs rr) (pairsOf qs.length rr.length ls ms) = bes (given qs ls) (given rr ms) := by
  refine ext_getD (by rw [given_length, bes_length, bes_length, given_length, given_length]) fun t ht => ?_
  rw [given_length, bes_length] at ht
  have hb : 0 < rr.length := by
    rcases Nat.eq_zero_or_pos rr.length with h | h
    · rw [h] at ht; simp at ht
    · exact h
  have h1 : t / rr.length < qs.length := (Nat.div_lt_iff_lt_mul hb).mpr ht
  have h2 : t % rr.length < rr.length := Nat.mod_lt _ hb
  rw [given_getD (by rw [bes_length]; exact ht), pairs_sum hl hm h8, bes_getD ht, bes_getD (by rw [given_length, given_length]; exact ht), given_length, given_getD h1, given_getD h2]
  simp only [mem_pairs ht]
  by_cases e1 : t / rr.length ∈ ls <;> by_cases e2 : t % rr.length ∈ ms <;> simp only [e1, e2, and_self, and_true, and_false, if_true, if_false, Rat.mul_zero, Rat.zero_mul]
  generalize (lotQ qs ls).sum = x
  generalize (lotQ rr ms).sum = y
  by_cases hx : x = 0
  · subst hx
    rw [Rat.zero_mul, Rat.div_def, Rat.div_def, Rat.inv_zero, Rat.mul_zero, Rat.mul_zero, Rat.zero_mul]
  by_cases hy : y = 0
  · subst hy
    rw [Rat.mul_zero, Rat.div_def, Rat.div_def (_) 0, Rat.inv_zero, Rat.mul_zero, Rat.mul_zero, Rat.mul_zero]
  grind
theorem one_tab : Tab 3 [(1 : Rat)] := ⟨by simp, by simp, fun q hq => by rw [List.mem_singleton.mp hq]; decide, Rat.add_zero 1, 1, by decide, by decide, fun q hq => by rw [List.mem_singleton.mp hq]; exact cm_int 1 1⟩
theorem lot01 {n : Nat} (h : 2 ≤ n) (h8 : n ≤ 8) : Lot n [0, 1] :=
  ⟨by simp, fun x hx => by simp at hx; omega, h8⟩
theorem lotQ01 (q0 q1 : Rat) (qs : List Rat) : (lotQ (q0 :: q1 :: qs) [0, 1]).sum = q0 + q1 := by
  show q0 + (q1 + 0) = _
  rw [Rat.add_zero]
theorem given_take2 (q0 q1 : Rat) (qs : List Rat) : (given (q0 :: q1 :: qs) [0, 1]).take 2 = [q0 / (q0 + q1), q1 / (q0 + q1)] := by
  unfold given
  rw [lotQ01]
  rfl
theorem pair_tab {n : Nat} {q0 q1 : Rat} {qs : List Rat} (h : Tab n (q0 :: q1 :: qs)) (h0 : q0 + q1 ≠ 0) : Tab n [q0 / (q0 + q1), q1 / (q0 + q1)] := by
  have hl : Lot (q0 :: q1 :: qs).length [0, 1] := lot01 (by simp) h.len
  have hg := given_tab h hl (by rw [lotQ01]; exact h0)
  have ht := given_take2 q0 q1 qs
  have mem : ∀ x ∈ [q0 / (q0 + q1), q1 / (q0 + q1)], x ∈ given (q0 :: q1 :: qs) [0, 1] := fun x hx => by
    rw [← ht] at hx
    exact List.mem_of_mem_take hx
  obtain ⟨D, h1, h2, h3⟩ := hg.com
  refine ⟨by simp, by simp, fun x hx => hg.pos x (mem x hx), ?_, D, h1, h2, fun x hx => h3 x (mem x hx)⟩
  show q0 / (q0 + q1) + (q1 / (q0 + q1) + 0) = 1
  rw [Rat.add_zero, Rat.div_def, Rat.div_def, ← Rat.add_mul]
  exact Rat.mul_inv_cancel _ h0
theorem mixc_cons (a : Rat) (t : List Rat) (qs : List Rat) (ts : List (List Rat)) (i : Nat) : (mixc (a :: qs) (t :: ts) i).sum = a * t.getD i 0 + (mixc qs ts i).sum := rfl
theorem merge_mix {q0 q1 : Rat} {qs : List Rat} {t0 t1 : List Rat} {ts : List (List Rat)} {k : Nat} (h0 : q0 + q1 ≠ 0) :
    mix ((q0 + q1) :: qs) (mix [q0 / (q0 + q1), q1 / (q0 + q1)] [t0, t1] k :: ts) k = mix (q0 :: q1 :: qs) (t0 :: t1 :: ts) k := by
  refine ext_getD (by rw [mix_length, mix_length]) fun i hi => ?_
  rw [mix_length] at hi
  rw [mix_getD hi, mix_getD hi, mixc_cons, mixc_cons, mixc_cons, mix_getD hi, mixc_two]
  have e : ∀ q x : Rat, (q0 + q1) * (q / (q0 + q1) * x) = q * x := fun q x => by
    rw [Rat.div_def]
    have : (q0 + q1) * (q * (q0 + q1)⁻¹ * x) = (q0 + q1) * (q0 + q1)⁻¹ * (q * x) := by
      generalize (q0 + q1)⁻¹ = y
      generalize q0 + q1 = z
      grind
    rw [this, Rat.mul_inv_cancel _ h0, Rat.one_mul]
  rw [Rat.mul_add, e, e, Rat.add_assoc]
theorem mix_one {t : List Rat} {k : Nat} (h : t.length = k) : mix [1] [t] k = t := by
  refine ext_getD (by rw [mix_length, h]) fun i hi => ?_
  rw [mix_length] at hi
  rw [mix_getD hi, mixc_cons]
  show 1 * t.getD i 0 + 0 = _
  rw [Rat.one_mul, Rat.add_zero]
theorem Mixes.ren {m n k : Nat} {qs : List Rat} {ts : List (List Rat)} (h : Mixes m n k qs ts) {ls : List Nat} (hl : ls.length = k) (h7 : ∀ x ∈ ls, x ≤ 7) : Mixes m n (maxN ls + 1) qs (ts.map fun t => ren t ls) := by
  refine ⟨h.tab, fun t ht => ?_, by rw [List.length_map]; exact h.len, fun t ht => ?_⟩
  · obtain ⟨u, hu, rfl⟩ := List.mem_map.mp ht
    exact ren_tab (h.tabs u hu) (by rw [hl, h.wid u hu]) h7
  · obtain ⟨u, hu, rfl⟩ := List.mem_map.mp ht
    exact ren_length _ _
end MR

/-! Mz: distances of tables. Plain mathematics. -/
namespace MR
def rab (q : Rat) : Rat := if q < 0 then -q else q
theorem rab_nonneg (q : Rat) : 0 ≤ rab q := by unfold rab; split <;> grind
theorem rab_zero {q : Rat} : rab q = 0 ↔ q = 0 := by unfold rab; split <;> grind
theorem rab_ge (q : Rat) : q ≤ rab q ∧ -q ≤ rab q := by unfold rab; split <;> grind
theorem rab_le {q x : Rat} (h1 : q ≤ x) (h2 : -q ≤ x) : rab q ≤ x := by unfold rab; split <;> grind
theorem rab_neg (q : Rat) : rab (-q) = rab q := by unfold rab; split <;> split <;> grind
theorem rab_add (p q : Rat) : rab (p + q) ≤ rab p + rab q := by
  have h1 := rab_ge p
  have h2 := rab_ge q
  exact rab_le (by grind) (by grind)
theorem rab_mul {c q : Rat} (h : 0 ≤ c) : rab (c * q) = c * rab q := by
  unfold rab
  by_cases hq : q < 0
  · rw [if_pos hq]
    by_cases hc : c = 0
    · subst hc; simp
    · have : c * q < 0 := by
        have h1 : 0 < c := by grind
        have h2 : 0 < -q := by grind
        have := Rat.mul_pos h1 h2
        grind
      rw [if_pos this]; grind
  · rw [if_neg hq]
    have : 0 ≤ c * q := Rat.mul_nonneg h (by grind)
    rw [if_neg (by grind)]
theorem rab_num (q : Rat) : (rab q).num = (if q.num < 0 then -q.num else q.num) ∧ (rab q).den = q.den := by
  unfold rab
  have h := Rat.num_nonneg (q := q)
  by_cases hq : q < 0
  · have : q.num < 0 := by
      have : ¬ 0 ≤ q.num := fun z => by have := h.mp z; grind
      omega
    rw [if_pos hq, if_pos this]
    exact ⟨Rat.neg_num q, Rat.neg_den q⟩
  · have : ¬ q.num < 0 := by
      have := h.mpr (by grind)
      omega
    rw [if_neg hq, if_neg this]
    exact ⟨rfl, rfl⟩
theorem sub_eq (p q : Rat) : p - q = Rat.divInt (p.num * (q.den : Int) - q.num * (p.den : Int)) ((p.den : Int) * (q.den : Int)) := by
  have e : p - q = p + (-q) := by grind
  rw [e, add_eq, Rat.neg_num, Rat.neg_den]
  congr 1
  rw [Int.neg_mul]
  omega
theorem rab_divInt (a b : Int) (hb : 0 < b) : Rat.divInt (if a < 0 then -a else a) b = rab (Rat.divInt a b) := by
  have hbr : (0 : Rat) < (b : Rat) := Rat.intCast_pos.mpr hb
  have hinv := Rat.inv_pos.mpr hbr
  unfold rab
  rw [Rat.divInt_eq_div, Rat.divInt_eq_div, Rat.div_def, Rat.div_def]
  by_cases ha : a < 0
  · have h1 : (a : Rat) < 0 := by exact_mod_cast ha
    have : (a : Rat) * (b : Rat)⁻¹ < 0 := by
      have := Rat.mul_pos (show 0 < -(a : Rat) by grind) hinv
      grind
    rw [if_pos ha, if_pos this, Rat.intCast_neg]
    grind
  · have h1 : (0 : Rat) ≤ (a : Rat) := by exact_mod_cast (show 0 ≤ a by omega)
    have := Rat.mul_nonneg h1 (Rat.le_of_lt hinv)
    rw [if_neg ha, if_neg (by grind)]
theorem lt_cross (p q : Rat) : (q.num * (p.den : Int) < p.num * (q.den : Int)) ↔ q < p := (Rat.lt_iff q p).symm
/-! ### distances -/
def dls (a b : List Rat) : List Rat := (a.zip b).map fun p => rab (p.1 - p.2)
def dist (a b : List Rat) : Rat := (dls a b).sum / 2
def d2 (a b : List Rat) : Rat := rs a.length fun i => rab (a.getD i 0 - b.getD i 0)
theorem dls_sum {a b : List Rat} (h : b.length = a.length) : (dls a b).sum = d2 a b := by
  unfold dls d2
  rw [zipR 0 a b h, List.map_map]
  rfl
theorem rs_le {k : Nat} {F G : Nat → Rat} (h : ∀ i, i < k → F i ≤ G i) : rs k F ≤ rs k G := by
  induction k with
  | zero => exact Rat.le_refl
  | succ k ih =>
    rw [rs_succ, rs_succ]
    have h1 := ih fun i hi => h i (by omega)
    have h2 := h k (by omega)
    grind
theorem rs_nonneg {k : Nat} {F : Nat → Rat} (h : ∀ i, i < k → 0 ≤ F i) : 0 ≤ rs k F := by
  have := rs_le (F := fun _ => 0) (G := F) h
  rw [rs_const0] at this
  exact this
theorem rs_eq0 {k : Nat} {F : Nat → Rat} (h : ∀ i, i < k → 0 ≤ F i) (h0 : rs k F = 0) : ∀ i, i < k → F i = 0 := by
  induction k with
  | zero => intro i hi; omega
  | succ k ih =>
    rw [rs_succ] at h0
    have h1 := rs_nonneg fun i (hi : i < k) => h i (by omega)
    have h2 := h k (by omega)
    intro i hi
    by_cases e : i = k
    · subst e; grind
    · exact ih (fun j hj => h j (by omega)) (by grind) i (by omega)
theorem d2_nonneg (a b : List Rat) : 0 ≤ d2 a b := rs_nonneg fun i _ => rab_nonneg _
theorem half_le {x y : Rat} (h : x ≤ y) : x / 2 ≤ y / 2 := by
  rw [Rat.div_def, Rat.div_def]
  exact Rat.mul_le_mul_of_nonneg_right h (Rat.le_of_lt (Rat.inv_pos.mpr (by decide)))
theorem d2_eq {a b : List Rat} (h : b.length = a.length) : d2 a b = 0 ↔ a = b := by
  constructor
  · intro h0
    have := rs_eq0 (fun i _ => rab_nonneg _) h0
    refine ext_getD h.symm fun i hi => ?_
    have := rab_zero.mp (this i hi)
    grind
  · rintro rfl
    have : d2 a a = rs a.length fun _ => 0 := rs_congr fun i _ => rab_zero.mpr (by grind)
    rw [this, rs_const0]
theorem d2_tri {a b c : List Rat} (h1 : b.length = a.length) (h2 : c.length = a.length) : d2 a b ≤ d2 a c + d2 c b := by
  unfold d2
  rw [h2, ← rs_add]
  refine rs_le fun i _ => ?_
  have := rab_add (a.getD i 0 - c.getD i 0) (c.getD i 0 - b.getD i 0)
  have e : a.getD i 0 - c.getD i 0 + (c.getD i 0 - b.getD i 0) = a.getD i 0 - b.getD i 0 := by grind
  rw [e] at this
  exact this
theorem d2_sym {a b : List Rat} (h : b.length = a.length) : d2 a b = d2 b a := by
  unfold d2
  rw [h]
  refine rs_congr fun i _ => ?_
  rw [← rab_neg]
  congr 1
  grind
theorem getD_nonneg {n : Nat} {a : List Rat} (h : Tab n a) (i : Nat) : 0 ≤ a.getD i 0 := by
  rcases getD_cases a i with z | z
  · exact h.pos _ z
  · rw [z]; decide
theorem d2_le2 {m n : Nat} {a b : List Rat} (h : b.length = a.length) (ha : Tab m a) (hb : Tab n b) : d2 a b ≤ 2 := by
  have h1 : d2 a b ≤ rs a.length fun i => a.getD i 0 + b.getD i 0 := rs_le fun i _ => by
    have := getD_nonneg ha i
    have := getD_nonneg hb i
    exact rab_le (by grind) (by grind)
  rw [rs_add, ← sum_rs, ← h, ← sum_rs, ha.one, hb.one] at h1
  grind
/-- the places where the first one is more -/
def more (a b : List Rat) : List Nat := (List.range a.length).filter fun i => decide (b.getD i 0 < a.getD i 0)
theorem more_lot {a b : List Rat} (h : a.length ≤ 8) : Lot a.length (more a b) :=
  ⟨List.pairwise_lt_range.filter _, fun x hx => List.mem_range.mp (List.mem_filter.mp hx).1, h⟩
theorem mem_more {a b : List Rat} {i : Nat} (h : i < a.length) : i ∈ more a b ↔ b.getD i 0 < a.getD i 0 := by
  unfold more
  rw [List.mem_filter]
  simp [h]
theorem lot_diff {a b : List Rat} {ns : List Nat} (h : b.length = a.length) (hl : Lot a.length ns) : (lotQ a ns).sum - (lotQ b ns).sum = rs a.length fun i => if i ∈ ns then a.getD i 0 - b.getD i 0 else 0 := by
  have hl2 : Lot b.length ns := by rw [h]; exact hl
  rw [lotQ_rs hl, lotQ_rs hl2, h]
  have : rs a.length (fun i => if i ∈ ns then a.getD i 0 else 0) = rs a.length (fun i => if i ∈ ns then a.getD i 0 - b.getD i 0 else 0) + rs a.length fun i => if i ∈ ns then b.getD i 0 else 0 := by
    rw [← rs_add]
    refine rs_congr fun i _ => ?_
    split <;> grind
  rw [this]
  grind
theorem diff_zero {m n : Nat} {a b : List Rat} (h : b.length = a.length) (ha : Tab m a) (hb : Tab n b) : rs a.length (fun i => a.getD i 0 - b.getD i 0) = 0 := by
  have e : rs a.length (fun i => a.getD i 0) = rs a.length (fun i => a.getD i 0 - b.getD i 0) + rs a.length fun i => b.getD i 0 := by
    rw [← rs_add]
    exact rs_congr fun i _ => by grind
  have e1 := sum_rs a
  have e2 := sum_rs b
  rw [h] at e2
  rw [← e1, ← e2, ha.one, hb.one] at e
  grind
theorem lot_far {m n : Nat} {a b : List Rat} {ns : List Nat} (h : b.length = a.length) (ha : Tab m a) (hb : Tab n b) (hl : Lot a.length ns) : 2 * rab ((lotQ a ns).sum - (lotQ b ns).sum) ≤ d2 a b := by
  rw [lot_diff h hl]
  have hz := diff_zero h ha hb
  generalize hx : (rs a.length fun i => if i ∈ ns then a.getD i 0 - b.getD i 0 else 0) = x
  have hy : rs a.length (fun i => if i ∈ ns then 0 else a.getD i 0 - b.getD i 0) = -x := by
    have : rs a.length (fun i => a.getD i 0 - b.getD i 0) = x + rs a.length fun i => if i ∈ ns then 0 else a.getD i 0 - b.getD i 0 := by
      rw [← hx, ← rs_add]
      refine rs_congr fun i _ => ?_
      split <;> grind
    rw [hz] at this
    grind
  have h1 : x - -x ≤ d2 a b := by
    rw [← hy, ← hx]
    have : rs a.length (fun i => if i ∈ ns then a.getD i 0 - b.getD i 0 else 0) ≤ rs a.length (fun i => rab (a.getD i 0 - b.getD i 0)) + rs a.length fun i => if i ∈ ns then 0 else a.getD i 0 - b.getD i 0 := by
      rw [← rs_add]
      refine rs_le fun i _ => ?_
      have := rab_ge (a.getD i 0 - b.getD i 0)
      split <;> grind
    unfold d2
    grind
  have h2 : -x - x ≤ d2 a b := by
    have : (0 : Rat) ≤ rs a.length (fun i => rab (a.getD i 0 - b.getD i 0)) + (x - -x) := by
      conv => rhs; rw [← hy, ← hx]
      have e : ∀ p q r : Rat, p + (q - r) = p + (q + (-1) * r) := fun p q r => by grind
      rw [e, ← rs_mul, ← rs_add, ← rs_add]
      refine rs_nonneg fun i _ => ?_
      have := rab_ge (a.getD i 0 - b.getD i 0)
      split <;> grind
    unfold d2
    grind
  have := rab_le (q := x) (x := d2 a b / 2) (by grind) (by grind)
  grind
theorem more_far {m n : Nat} {a b : List Rat} (h : b.length = a.length) (ha : Tab m a) (hb : Tab n b) : (lotQ a (more a b)).sum - (lotQ b (more a b)).sum = d2 a b / 2 := by
  rw [lot_diff h (more_lot ha.len)]
  have hz := diff_zero h ha hb
  have e : d2 a b = 2 * (rs a.length fun i => if i ∈ more a b then a.getD i 0 - b.getD i 0 else 0) + (-1) * rs a.length fun i => a.getD i 0 - b.getD i 0 := by
    unfold d2
    rw [← rs_mul, ← rs_mul, ← rs_add]
    refine rs_congr fun i hi => ?_
    simp only [mem_more hi]
    unfold rab
    split <;> split <;> grind
  rw [e, hz]
  grind
/-! ### distances of made tables -/
theorem d2_ren {a b : List Rat} {ns : List Nat} (h : b.length = a.length) (hn : ns.length = a.length) : d2 (ren a ns) (ren b ns) ≤ d2 a b := by
  have hb : ns.length = b.length := by rw [h]; exact hn
  unfold d2
  rw [ren_length]
  have e1 : rs (maxN ns + 1) (fun x => rab ((ren a ns).getD x 0 - (ren b ns).getD x 0)) ≤ rs (maxN ns + 1) fun x => rs a.length fun i => if ns.getD i 0 = x then rab (a.getD i 0 - b.getD i 0) else 0 := rs_le fun x hx => by
    rw [ren_getD hn (by omega), ren_getD hb (by omega), h]
    generalize a.length = k
    induction k with
    | zero =>
      rw [rs_zero, rs_zero, rs_zero]
      unfold rab
      split <;> grind
    | succ k ih =>
      rw [rs_succ, rs_succ, rs_succ]
      by_cases e : ns.getD k 0 = x
      · rw [if_pos e, if_pos e, if_pos e]
        have := rab_add (rs k (fun i => if ns.getD i 0 = x then a.getD i 0 else 0) - rs k (fun i => if ns.getD i 0 = x then b.getD i 0 else 0)) (a.getD k 0 - b.getD k 0)
        have e2 : rs k (fun i => if ns.getD i 0 = x then a.getD i 0 else 0) - rs k (fun i => if ns.getD i 0 = x then b.getD i 0 else 0) + (a.getD k 0 - b.getD k 0) = rs k (fun i => if ns.getD i 0 = x then a.getD i 0 else 0) + a.getD k 0 - (rs k (fun i => if ns.getD i 0 = x then b.getD i 0 else 0) + b.getD k 0) := by grind
        rw [e2] at this
        grind
      · rw [if_neg e, if_neg e, if_neg e, Rat.add_zero, Rat.add_zero, Rat.add_zero]
        exact ih
  rw [rs_swap] at e1
  have e3 : (rs a.length fun i => rs (maxN ns + 1) fun x => if ns.getD i 0 = x then rab (a.getD i 0 - b.getD i 0) else 0) = rs a.length fun i => rab (a.getD i 0 - b.getD i 0) := rs_congr fun i hi => by
    have hm := le_maxN (getD_mem (ns := ns) (i := i) (by omega))
    have : (fun x => if ns.getD i 0 = x then rab (a.getD i 0 - b.getD i 0) else 0) = fun x => if x = ns.getD i 0 then rab (a.getD i 0 - b.getD i 0) else 0 := by
      funext x
      by_cases e : ns.getD i 0 = x
      · rw [if_pos e, if_pos e.symm]
      · rw [if_neg e, if_neg (Ne.symm e)]
    rw [this, rs_one (by omega)]
  rw [e3] at e1
  exact e1
theorem d2_mix {a b c : List Rat} {k : Nat} (ha : a.length = k) (hb : b.length = k) (hc : c.length = k) : d2 (mix [1 / 2, 1 / 2] [a, c] k) (mix [1 / 2, 1 / 2] [b, c] k) = d2 a b / 2 := by
  unfold d2
  rw [mix_length, ha]
  have e : rs k (fun i => rab ((mix [1 / 2, 1 / 2] [a, c] k).getD i 0 - (mix [1 / 2, 1 / 2] [b, c] k).getD i 0)) = rs k fun i => (1 / 2) * rab (a.getD i 0 - b.getD i 0) := rs_congr fun i hi => by
    rw [mix_getD hi, mix_getD hi, mixc_two, mixc_two, ← rab_mul (by grind)]
    congr 1
    grind
  rw [e, rs_mul]
  grind
theorem d2_bes {a b : List Rat} (h : b.length = a.length) : d2 (bes a [1 / 2, 1 / 2]) (bes b [1 / 2, 1 / 2]) = d2 a b := by
  have hl : ([1 / 2, 1 / 2] : List Rat).length = 2 := rfl
  unfold d2
  rw [bes_length, hl]
  have e : rs (a.length * 2) (fun t => rab ((bes a [1 / 2, 1 / 2]).getD t 0 - (bes b [1 / 2, 1 / 2]).getD t 0)) = rs (a.length * 2) fun t => (fun i j => (1 / 2) * rab (a.getD i 0 - b.getD i 0)) (t / 2) (t % 2) := rs_congr fun t ht => by
    rw [bes_getD (by rw [hl]; exact ht), bes_getD (by rw [hl, h]; exact ht), hl]
    have h2 : ([1 / 2, 1 / 2] : List Rat).getD (t % 2) 0 = 1 / 2 := by
      have : t % 2 = 0 ∨ t % 2 = 1 := by omega
      rcases this with z | z <;> rw [z] <;> rfl
    show _ = 1 / 2 * rab (a.getD (t / 2) 0 - b.getD (t / 2) 0)
    rw [h2, ← rab_mul (by grind)]
    congr 1
    grind
  rw [e, rs_pairs 2 (by decide) (fun i j => (1 / 2) * rab (a.getD i 0 - b.getD i 0))]
  refine rs_congr fun i _ => ?_
  rw [rs_succ, rs_succ, rs_zero]
  grind
theorem Cm.rab {D : Nat} {q : Rat} (h : Cm D q) : Cm D (MR.rab q) := by
  unfold MR.rab
  split
  · obtain ⟨k, hk⟩ := h
    exact ⟨-k, by rw [Rat.intCast_neg]; grind⟩
  · exact h
theorem dls_com {m n : Nat} {a b : List Rat} (ha : Tab m a) (hb : Tab n b) : ∃ D : Nat, 0 < D ∧ D < 2 ^ (m + n) ∧ ∀ q ∈ dls a b, Cm D q := by
  obtain ⟨D, h1, h2, h3⟩ := ha.com
  obtain ⟨E, g1, g2, g3⟩ := hb.com
  refine ⟨D * E, Nat.mul_pos h1 g1, by rw [Nat.pow_add]; exact Nat.mul_lt_mul'' h2 g2, fun q hq => ?_⟩
  obtain ⟨p, hp, rfl⟩ := List.mem_map.mp hq
  have := List.of_mem_zip (a := p.1) (b := p.2) hp
  exact (((h3 _ this.1).dvd ⟨E, rfl⟩).sub ((g3 _ this.2).dvd ⟨D, Nat.mul_comm _ _⟩)).rab
theorem two_lt : (2 : Rat) < ((2 ^ 40 : Nat) : Rat) := Rat.lt_iff_le_and_ne.mpr ⟨by decide, by decide⟩
theorem dls_sb {m n : Nat} {a b : List Rat} (hl : b.length = a.length) (ha : Tab m a) (hb : Tab n b) : Sb (m + n) (dls a b) := by
  refine ⟨fun q hq => ?_, ?_, dls_com ha hb⟩
  · obtain ⟨p, hp, rfl⟩ := List.mem_map.mp hq
    exact rab_nonneg _
  · rw [dls_sum hl]
    have h1 := d2_le2 hl ha hb
    have h2 := two_lt
    grind
theorem Cm.half {D : Nat} {q : Rat} (h : Cm D q) : Cm (D * 2) (q / 2) := by
  obtain ⟨k, hk⟩ := h
  exact ⟨k, by rw [Rat.natCast_mul, ← hk]; grind⟩
theorem dist_sm {m n : Nat} {a b : List Rat} (hl : b.length = a.length) (ha : Tab m a) (hb : Tab n b) : Sm (m + n + 2) (d2 a b / 2) := by
  obtain ⟨D, h1, h2, h3⟩ := dls_com ha hb
  have hc : Cm D (d2 a b) := by rw [← dls_sum hl]; exact Cm.sum h3
  have h4 := d2_le2 hl ha hb
  have h5 := d2_nonneg a b
  have e : D * 2 < 2 ^ (m + n + 1) := by rw [Nat.pow_succ]; omega
  have h6 : (1 : Rat) < ((2 ^ 1 : Nat) : Rat) := Rat.lt_iff_le_and_ne.mpr ⟨by decide, by decide⟩
  exact (Cm.half hc).sm (m := 1) (by omega) e (by grind) (by grind)
theorem sub_sm {m n : Nat} {p q : Rat} (hp : Sm m p) (hq : Sm n q) : Sm (m + n + 1) (rab (p - q)) := by
  have h : Sm (m + n + 1) (p - q) := by
    rw [sub_eq]
    have h1 := natAbs_mul_lt (y := (q.den : Int)) hp.1 (by simpa using hq.2)
    have h2 := natAbs_mul_lt (y := (p.den : Int)) hq.1 (by simpa using hp.2)
    rw [Nat.add_comm n m] at h2
    have h3 : (p.num * (q.den : Int) - q.num * (p.den : Int)).natAbs < 2 ^ (m + n + 1) := by
      rw [Nat.pow_succ]; omega
    refine sm_divInt h3 (Int.mul_pos (den_pos p) (den_pos q)) ?_
    exact Nat.lt_of_lt_of_le (natAbs_mul_lt (x := (p.den : Int)) (y := (q.den : Int)) (by simpa using hp.2) (by simpa using hq.2)) (Nat.pow_le_pow_right (by decide) (by omega))
  obtain ⟨e1, e2⟩ := rab_num (p - q)
  refine ⟨?_, by rw [e2]; exact h.2⟩
  rw [e1]
  have := h.1
  split <;> omega
theorem half_divInt (q : Rat) : Rat.divInt q.num (2 * (q.den : Int)) = q / 2 := by
  have h2 : (((2 : Rat)).num : Int) = 2 := rfl
  have := div_eq q 2 (by decide)
  rw [this]
  have h3 : ((2 : Rat).den : Int) = 1 := rfl
  rw [h2, h3, Int.mul_one, Int.mul_comm]
theorem rev_tab {n : Nat} {a : List Rat} (h : Tab n a) : Tab n a.reverse := by
  have hs : ∀ l : List Rat, l.reverse.sum = l.sum := fun l => by
    induction l with
    | nil => rfl
    | cons x l ih =>
      rw [List.reverse_cons, sum_append, ih, List.sum_cons]
      show _ + (x + 0) = _
      grind
  refine ⟨by simpa using h.ne, by rw [List.length_reverse]; exact h.len, fun q hq => h.pos q (List.mem_reverse.mp hq), by rw [hs, h.one], ?_⟩
  obtain ⟨D, h1, h2, h3⟩ := h.com
  exact ⟨D, h1, h2, fun q hq => h3 q (List.mem_reverse.mp hq)⟩
theorem half_tab : Tab 2 [(1 : Rat) / 2, 1 / 2] := by
  refine ⟨by simp, by simp, fun q hq => ?_, ?_, 2, by decide, by decide, fun q hq => ?_⟩
  · have : q = 1 / 2 := by simp at hq; grind
    subst this
    have : (0 : Rat) ≤ 1 / 2 := by decide +kernel
    exact this
  · show (1 : Rat) / 2 + (1 / 2 + 0) = 1
    grind
  · have : q = 1 / 2 := by simp at hq; grind
    subst this
    exact ⟨1, by show (1 : Rat) / 2 * ((2 : Nat) : Rat) = ((1 : Int) : Rat); have : ((2 : Nat) : Rat) = 2 := rfl; have h2 : ((1 : Int) : Rat) = 1 := rfl; rw [this, h2]; grind⟩
theorem part_tab : Tab 20 [(1 : Rat) / 1000000, 999999 / 1000000] := by
  refine ⟨by simp, by simp, fun q hq => ?_, ?_, 1000000, by decide, by decide, fun q hq => ?_⟩
  · rcases List.mem_cons.mp hq with rfl | hq
    · decide +kernel
    · rw [List.mem_singleton.mp hq]; decide +kernel
  · show (1 : Rat) / 1000000 + (999999 / 1000000 + 0) = 1
    grind
  · have e : ((1000000 : Nat) : Rat) = 1000000 := rfl
    rcases List.mem_cons.mp hq with rfl | hq
    · exact ⟨1, by rw [e]; have h2 : ((1 : Int) : Rat) = 1 := rfl; rw [h2]; grind⟩
    · rw [List.mem_singleton.mp hq]
      exact ⟨999999, by rw [e]; have h2 : ((999999 : Int) : Rat) = 999999 := rfl; rw [h2]; grind⟩
theorem sub_sm' {m n : Nat} {p q : Rat} (hp : Sm m p) (hq : Sm n q) : Sm (m + n + 1) (p - q) := by
  rw [sub_eq]
  have h1 := natAbs_mul_lt (y := (q.den : Int)) hp.1 (by simpa using hq.2)
  have h2 := natAbs_mul_lt (y := (p.den : Int)) hq.1 (by simpa using hp.2)
  rw [Nat.add_comm n m] at h2
  have h3 : (p.num * (q.den : Int) - q.num * (p.den : Int)).natAbs < 2 ^ (m + n + 1) := by
    rw [Nat.pow_succ]; omega
  refine sm_divInt h3 (Int.mul_pos (den_pos p) (den_pos q)) ?_
  exact Nat.lt_of_lt_of_le (natAbs_mul_lt (x := (p.den : Int)) (y := (q.den : Int)) (by simpa using hp.2) (by simpa using hq.2)) (Nat.pow_le_pow_right (by decide) (by omega))
theorem two_sum (p q : Rat) : ([p, q] : List Rat).sum = p + q := by
  show p + (q + 0) = _
  rw [Rat.add_zero]
end MR

/-! Fig: figures in base two by long division: rests, digits, the round. -/
namespace MR
def rst (a b : Nat) : Nat → Nat
  | 0 => a % b
  | j + 1 => 2 * rst a b j % b
def dgt (a b j : Nat) : Nat := 2 * rst a b j / b
structure Ends (f : Nat → Nat) (m s : Nat) : Prop where
  lt : s < m
  eq : f m = f s
  inj : ∀ i j, i < j → j < m → f i ≠ f j
def val2 (l : List Nat) : Nat := l.foldl (fun x d => 2 * x + d) 0
theorem val2_from : ∀ (l : List Nat) (x : Nat), l.foldl (fun x d => 2 * x + d) x = x * 2 ^ l.length + val2 l
  | [], x => by simp [val2]
  | d :: l, x => by
    have h1 := val2_from l (2 * x + d)
    have h2 := val2_from l (2 * 0 + d)
    unfold val2
    rw [List.foldl_cons, List.foldl_cons, h1, h2, List.length_cons, Nat.pow_succ]
    simp only [Nat.mul_zero, Nat.zero_add, Nat.add_mul]
    rw [show 2 * x * 2 ^ l.length = x * (2 ^ l.length * 2) by rw [Nat.mul_comm 2 x, Nat.mul_assoc, Nat.mul_comm 2]]
    omega
theorem val2_append (l r : List Nat) : val2 (l ++ r) = val2 l * 2 ^ r.length + val2 r := by
  unfold val2
  rw [List.foldl_append, val2_from r]
  rfl
theorem val2_one (d : Nat) : val2 [d] = d := by simp [val2]
theorem val2_lt : ∀ (l : List Nat), (∀ x ∈ l, x < 2) → val2 l < 2 ^ l.length
  | [], _ => by simp [val2]
  | d :: l, h => by
    have h1 := val2_lt l fun x hx => h x (List.mem_cons_of_mem _ hx)
    have h2 := h d (List.mem_cons_self ..)
    rw [show d :: l = [d] ++ l from rfl, val2_append, val2_one, List.length_append, Nat.pow_add]
    have : d * 2 ^ l.length ≤ 1 * 2 ^ l.length := Nat.mul_le_mul_right _ (by omega)
    show _ < 2 * 2 ^ l.length
    omega
/-! rests -/
section
variable {a b : Nat}
theorem rst_lt (hb : 0 < b) : ∀ j, rst a b j < b
  | 0 => Nat.mod_lt _ hb
  | _ + 1 => Nat.mod_lt _ hb
theorem rst_pow : ∀ j, rst a b j = a * 2 ^ j % b
  | 0 => by simp [rst]
  | j + 1 => by
    show 2 * rst a b j % b = _
    rw [rst_pow j, Nat.pow_succ, Nat.mul_mod, Nat.mod_mod, ← Nat.mul_mod, Nat.mul_comm 2, Nat.mul_assoc]
theorem dgt_eq (j : Nat) : 2 * rst a b j = b * dgt a b j + rst a b (j + 1) := (Nat.div_add_mod _ _).symm
theorem dgt_lt (hb : 0 < b) (j : Nat) : dgt a b j < 2 := by
  unfold dgt
  have := rst_lt (a := a) hb j
  exact Nat.div_lt_of_lt_mul (by omega)
/-- the digits from j on -/
def digs (a b j n : Nat) : List Nat := (List.range n).map fun i => dgt a b (j + i)
theorem digs_length (a b j n : Nat) : (digs a b j n).length = n := by simp [digs]
theorem digs_succ (a b j n : Nat) : digs a b j (n + 1) = digs a b j n ++ [dgt a b (j + n)] := by
  unfold digs
  rw [List.range_succ, List.map_append]
  rfl
theorem rst_digs (j : Nat) : ∀ n, 2 ^ n * rst a b j = b * val2 (digs a b j n) + rst a b (j + n)
  | 0 => by simp [digs, val2]
  | n + 1 => by
    have h := rst_digs j n
    have e := dgt_eq (a := a) (b := b) (j + n)
    rw [digs_succ, val2_append, val2_one, Nat.pow_succ]
    show _ = b * (val2 (digs a b j n) * 2 + dgt a b (j + n)) + rst a b (j + n + 1)
    rw [Nat.mul_add, show 2 ^ n * 2 * rst a b j = 2 * (2 ^ n * rst a b j) by rw [Nat.mul_comm (2 ^ n) 2, Nat.mul_assoc], h, ← Nat.mul_assoc b]
    omega
theorem rst_step {i j : Nat} (h : rst a b i = rst a b j) : ∀ n, rst a b (i + n) = rst a b (j + n)
  | 0 => h
  | n + 1 => by
    show 2 * rst a b (i + n) % b = 2 * rst a b (j + n) % b
    rw [rst_step h n]
theorem dgt_step {i j : Nat} (h : rst a b i = rst a b j) (n : Nat) : dgt a b (i + n) = dgt a b (j + n) := by
  unfold dgt
  rw [rst_step h n]
theorem Ends.uniq {f : Nat → Nat} {m s m' s' : Nat} (h : Ends f m s) (h' : Ends f m' s') : m = m' ∧ s = s' := by
  have e : m = m' := by
    rcases Nat.lt_trichotomy m m' with c | c | c
    · exact absurd h.eq.symm (h'.inj _ _ h.lt c)
    · exact c
    · exact absurd h'.eq.symm (h.inj _ _ h'.lt c)
  subst e
  refine ⟨rfl, ?_⟩
  have q : f s = f s' := h.eq.symm.trans h'.eq
  rcases Nat.lt_trichotomy s s' with c | c | c
  · exact absurd q (h.inj _ _ c h'.lt)
  · exact c
  · exact absurd q.symm (h.inj _ _ c h.lt)
theorem per {m s : Nat} (h : Ends (rst a b) m s) (n : Nat) : rst a b (s + n + (m - s)) = rst a b (s + n) := by
  have := rst_step h.eq n
  have := h.lt
  rw [show s + n + (m - s) = m + n by omega]
  assumption
theorem perN {m s : Nat} (h : Ends (rst a b) m s) (n : Nat) : ∀ k, rst a b (s + n + (m - s) * k) = rst a b (s + n)
  | 0 => by simp
  | k + 1 => by
    rw [← perN h n k, Nat.add_assoc s n ((m - s) * k), ← per h (n + (m - s) * k), Nat.mul_succ]
    congr 1
    omega
theorem per_mod {m s : Nat} (h : Ends (rst a b) m s) (n : Nat) : rst a b (s + n) = rst a b (s + n % (m - s)) := by
  rw [← perN h (n % (m - s)) (n / (m - s)), Nat.add_assoc, Nat.mod_add_div]
theorem dper_mod {m s : Nat} (h : Ends (rst a b) m s) (n : Nat) : dgt a b (s + n) = dgt a b (s + n % (m - s)) := by
  unfold dgt
  rw [per_mod h]
theorem rst_zero {j : Nat} (h : rst a b j = 0) : ∀ n, rst a b (j + n) = 0
  | 0 => h
  | n + 1 => by
    show 2 * rst a b (j + n) % b = 0
    rw [rst_zero h n]
    simp
theorem nz {m s : Nat} (h : Ends (rst a b) m s) (h0 : rst a b s ≠ 0) (j : Nat) : rst a b j ≠ 0 := fun e => by
  have h1 := perN h 0 j
  have h2 : j ≤ (m - s) * j := Nat.le_mul_of_pos_left _ (by have := h.lt; omega)
  have h3 := rst_zero e (s + 0 + (m - s) * j - j)
  rw [show j + (s + 0 + (m - s) * j - j) = s + 0 + (m - s) * j by omega, h1] at h3
  exact h0 h3
end
/-! the figures -/
structure Fg (a b W : Nat) (A C : List Nat) : Prop where
  pos : 0 < b
  whole : W = a / b
  ends : ∃ m s, Ends (rst a b) m s ∧ A = digs a b 0 s ∧ C = if rst a b s = 0 then [] else digs a b s (m - s)
theorem Fg.uniq {a b W W' : Nat} {A C A' C' : List Nat} (h : Fg a b W A C) (h' : Fg a b W' A' C') : W = W' ∧ A = A' ∧ C = C' := by
  obtain ⟨_, w, m, s, e, ea, ec⟩ := h
  obtain ⟨_, w', m', s', e', ea', ec'⟩ := h'
  obtain ⟨q1, q2⟩ := e.uniq e'
  subst q1; subst q2
  exact ⟨w.trans w'.symm, ea.trans ea'.symm, ec.trans ec'.symm⟩
theorem digs_get {a b j n i : Nat} (h : i < n) : (digs a b j n)[i]? = some (dgt a b (j + i)) := by
  unfold digs
  rw [List.getElem?_map, List.getElem?_range h]
  rfl
theorem digs_bits {a b j n : Nat} (hb : 0 < b) : ∀ x ∈ digs a b j n, x < 2 := by
  intro x hx
  obtain ⟨i, _, rfl⟩ := List.mem_map.mp hx
  exact dgt_lt hb _
theorem digs_last {a b j n : Nat} : (digs a b j (n + 1)).getLast? = some (dgt a b (j + n)) := by
  rw [digs_succ]
  simp
theorem Fg.bitsA {a b W : Nat} {A C : List Nat} (h : Fg a b W A C) : ∀ x ∈ A, x < 2 := by
  obtain ⟨hb, w, m, s, e, rfl, ec⟩ := h
  exact digs_bits hb
theorem Fg.bitsC {a b W : Nat} {A C : List Nat} (h : Fg a b W A C) : ∀ x ∈ C, x < 2 := by
  obtain ⟨hb, w, m, s, e, ea, rfl⟩ := h
  split
  · simp
  · exact digs_bits hb
/-- not told by fewer digits -/
def Short (C : List Nat) : Prop := ∀ k, 1 ≤ k → k < C.length → C.length % k = 0 → C.drop k ≠ C.take (C.length - k)
theorem mulk {p k : Nat} (h0 : 0 < k) (h : p % k = 0) (hk : k < p) : ∃ q, p - k = k * q := ⟨p / k - 1, by
  have := Nat.div_add_mod p k
  rw [h] at this
  rw [Nat.mul_sub, Nat.mul_one]
  omega⟩
theorem Fg.short {a b W : Nat} {A C : List Nat} (h : Fg a b W A C) : Short C := by
  obtain ⟨hb, w, m, s, e, ea, rfl⟩ := h
  split
  · intro k h1 h2
    simp at h2
  · intro k h1 h2 h3 h4
    rw [digs_length] at h2 h3 h4
    have hlt := e.lt
    let d : Nat → Nat := fun i => dgt a b (s + i)
    have hd : ∀ i, i < m - s - k → d (i + k) = d i := fun i hi => by
      have := congrArg (fun l => l[i]?) h4
      simp only [List.getElem?_drop, List.getElem?_take, if_pos hi] at this
      rw [digs_get (by omega), digs_get (by omega)] at this
      have := Option.some.inj this
      show dgt a b (s + (i + k)) = dgt a b (s + i)
      rw [← this, Nat.add_comm i k]
    have hp : ∀ i, d (i + (m - s)) = d i := fun i => by
      show dgt a b (s + (i + (m - s))) = dgt a b (s + i)
      have := per e i
      unfold dgt
      rw [← Nat.add_assoc, this]
    obtain ⟨q, hq⟩ := mulk h1 h3 h2
    have hm : ∀ n t, t < k → n ≤ q → d (t + k * n) = d t := by
      intro n
      induction n with
      | zero => intro t _ _; simp
      | succ n ih =>
        intro t ht hn
        rw [← ih t ht (by omega), Nat.mul_succ, ← Nat.add_assoc]
        refine hd _ ?_
        rw [hq]
        have : k * (n + 1) ≤ k * q := Nat.mul_le_mul_left _ hn
        rw [Nat.mul_succ] at this
        omega
    have hall : ∀ i, i < m - s → d (k + i) = d i := fun i hi => by
      by_cases c : i < m - s - k
      · rw [Nat.add_comm]; exact hd i c
      · have e1 : i = (i - (m - s - k)) + k * q := by omega
        have e2 : k + i = (i - (m - s - k)) + (m - s) := by omega
        rw [e2, hp]
        have := hm q (i - (m - s - k)) (by omega) (Nat.le_refl _)
        rw [← e1] at this
        exact this.symm
    have ed : digs a b (s + k) (m - s) = digs a b s (m - s) := by
      unfold digs
      refine List.map_congr_left fun i hi => ?_
      have := hall i (List.mem_range.mp hi)
      show dgt a b (s + k + i) = dgt a b (s + i)
      rw [Nat.add_assoc]
      exact this
    have r1 := rst_digs (a := a) (b := b) (s + k) (m - s)
    have r2 := rst_digs (a := a) (b := b) s (m - s)
    rw [ed, per e k] at r1
    rw [show s + (m - s) = m by omega, e.eq] at r2
    have h2p : 2 ≤ 2 ^ (m - s) := by
      have : 2 ^ 1 ≤ 2 ^ (m - s) := Nat.pow_le_pow_right (by decide) (by omega)
      simpa using this
    have r : rst a b (s + k) = rst a b s := by
      obtain ⟨z, hz⟩ : ∃ z, 2 ^ (m - s) = z + 2 := ⟨2 ^ (m - s) - 2, by omega⟩
      rw [hz] at r1 r2
      have r3 : (z + 1) * rst a b (s + k) = (z + 1) * rst a b s := by
        rw [show z + 2 = (z + 1) + 1 from rfl, Nat.add_mul, Nat.one_mul] at r1 r2
        omega
      exact Nat.eq_of_mul_eq_mul_left (by omega) r3
    exact e.inj s (s + k) (by omega) (by omega) r.symm
theorem Fg.okA {a b W : Nat} {A C : List Nat} (h : Fg a b W A C) (hC : C = []) : A = [] ∨ A.getLast? = some 1 := by
  obtain ⟨hb, w, m, s, e, rfl, ec⟩ := h
  have hlt := e.lt
  have h0 : rst a b s = 0 := by
    rw [hC] at ec
    split at ec
    · assumption
    · have := congrArg List.length ec
      rw [digs_length] at this
      simp at this
      omega
  cases s with
  | zero => left; rfl
  | succ t =>
    right
    rw [digs_last, Nat.zero_add]
    have hn := e.inj t (t + 1) (by omega) hlt
    rw [h0] at hn
    have e2 := dgt_eq (a := a) (b := b) t
    rw [h0] at e2
    have l := dgt_lt (a := a) hb t
    have : dgt a b t ≠ 0 := fun z => by rw [z] at e2; omega
    congr 1
    omega
theorem Fg.okC {a b W : Nat} {A C : List Nat} (h : Fg a b W A C) (hC : C ≠ []) : C ≠ [0] ∧ C ≠ [1] ∧ (A = [] ∨ A.getLast? ≠ C.getLast?) := by
  obtain ⟨hb, w, m, s, e, rfl, ec⟩ := h
  have hlt := e.lt
  have h0 : rst a b s ≠ 0 := fun z => by rw [if_pos z] at ec; exact hC ec
  rw [if_neg h0] at ec
  have one : ∀ x, C = [x] → m = s + 1 ∧ dgt a b s = x := fun x hx => by
    rw [hx] at ec
    have hl := congrArg List.length ec
    rw [digs_length] at hl
    simp at hl
    have e2 : m = s + 1 := by omega
    subst e2
    rw [show s + 1 - s = 1 by omega] at ec
    have : digs a b s 1 = [dgt a b s] := rfl
    rw [this] at ec
    exact ⟨rfl, (List.cons.inj ec).1.symm⟩
  have e2 := dgt_eq (a := a) (b := b) s
  refine ⟨fun z => ?_, fun z => ?_, ?_⟩
  · obtain ⟨rfl, hx⟩ := one 0 z
    rw [hx, e.eq] at e2
    omega
  · obtain ⟨rfl, hx⟩ := one 1 z
    rw [hx, e.eq] at e2
    have := rst_lt (a := a) hb s
    omega
  · cases s with
    | zero => left; rfl
    | succ t =>
      right
      obtain ⟨n, hn⟩ : ∃ n, m - (t + 1) = n + 1 := ⟨m - (t + 1) - 1, by omega⟩
      rw [ec, hn, digs_last, digs_last, Nat.zero_add]
      intro z
      have z := Option.some.inj z
      have e3 := dgt_eq (a := a) (b := b) t
      have e4 := dgt_eq (a := a) (b := b) (t + 1 + n)
      rw [show t + 1 + n + 1 = m by omega, e.eq] at e4
      rw [z] at e3
      exact e.inj t (t + 1 + n) (by omega) (by omega) (by omega)
theorem Fg.back0 {a b W : Nat} {A C : List Nat} (h : Fg a b W A C) (hC : C = []) : (W * 2 ^ A.length + val2 A) * b = a * 2 ^ A.length := by
  obtain ⟨hb, rfl, m, s, e, rfl, ec⟩ := h
  have hlt := e.lt
  have h0 : rst a b s = 0 := by
    rw [hC] at ec
    split at ec
    · assumption
    · have := congrArg List.length ec
      rw [digs_length] at this
      simp at this
      omega
  have r := rst_digs (a := a) (b := b) 0 s
  rw [Nat.zero_add, h0, Nat.add_zero] at r
  rw [digs_length, Nat.add_mul, Nat.mul_comm (val2 _) b, ← r]
  have : rst a b 0 = a % b := rfl
  rw [this]
  have q := Nat.div_add_mod a b
  conv => rhs; rw [← q, Nat.add_mul]
  rw [Nat.mul_comm (2 ^ s) (a % b), Nat.mul_right_comm, Nat.mul_comm (a / b) b]
theorem Fg.back1 {a b W : Nat} {A C : List Nat} (h : Fg a b W A C) (hC : C ≠ []) : ((W * 2 ^ A.length + val2 A) * (2 ^ C.length - 1) + val2 C) * b = a * (2 ^ A.length * (2 ^ C.length - 1)) := by
  obtain ⟨hb, rfl, m, s, e, rfl, ec⟩ := h
  have hlt := e.lt
  have h0 : rst a b s ≠ 0 := fun z => by rw [if_pos z] at ec; exact hC ec
  rw [if_neg h0] at ec
  subst ec
  have r := rst_digs (a := a) (b := b) 0 s
  have r2 := rst_digs (a := a) (b := b) s (m - s)
  rw [Nat.zero_add] at r
  rw [show s + (m - s) = m by omega, e.eq] at r2
  rw [digs_length, digs_length]
  have hP : 1 ≤ 2 ^ (m - s) := Nat.one_le_two_pow
  obtain ⟨z, hz⟩ : ∃ z, 2 ^ (m - s) = z + 1 := ⟨2 ^ (m - s) - 1, by omega⟩
  rw [hz, Nat.add_mul, Nat.one_mul] at r2
  rw [hz, Nat.add_sub_cancel]
  have r3 : z * rst a b s = b * val2 (digs a b s (m - s)) := by omega
  have q := Nat.div_add_mod a b
  have : rst a b 0 = a % b := rfl
  rw [this] at r
  generalize val2 (digs a b s (m - s)) = vc at *
  generalize val2 (digs a b 0 s) = va at *
  generalize hS : 2 ^ s = S at *
  generalize hR : rst a b s = R at *
  have e1 : (((a / b) * S + va) * z + vc) * b = ((a / b) * S + va) * z * b + b * vc := by rw [Nat.add_mul, Nat.mul_comm vc b]
  have e2 : a * (S * z) = (b * (a / b) + a % b) * (S * z) := by rw [q]
  rw [e1, e2, ← r3, Nat.add_mul (b * (a / b))]
  have e3 : (a % b) * (S * z) = (S * (a % b)) * z := by rw [← Nat.mul_assoc, Nat.mul_comm (a % b) S]
  rw [e3, r, Nat.add_mul, Nat.add_mul, Nat.add_mul]
  rw [show (a / b) * S * z * b = b * (a / b) * (S * z) by rw [Nat.mul_comm _ b, Nat.mul_assoc, ← Nat.mul_assoc b], show va * z * b = b * va * z by rw [Nat.mul_comm _ b, Nat.mul_assoc], Nat.mul_comm z R]
  omega
/-- the digit that figures tell -/
def toldD (A C : List Nat) (k : Nat) : Nat := if k ≤ A.length then A.getD (k - 1) 0 else if C = [] then 0 else C.getD ((k - A.length - 1) % C.length) 0
theorem Fg.digit {a b W : Nat} {A C : List Nat} (h : Fg a b W A C) {k : Nat} (hk : 1 ≤ k) : toldD A C k = dgt a b (k - 1) := by
  obtain ⟨hb, rfl, m, s, e, rfl, ec⟩ := h
  have hlt := e.lt
  unfold toldD
  rw [digs_length]
  by_cases c : k ≤ s
  · rw [if_pos c, List.getD_eq_getElem?_getD, digs_get (by omega), Nat.zero_add]
    rfl
  · rw [if_neg c]
    by_cases h0 : rst a b s = 0
    · rw [if_pos h0] at ec
      rw [if_pos ec]
      have := rst_zero h0 (k - 1 - s)
      rw [show s + (k - 1 - s) = k - 1 by omega] at this
      unfold dgt
      rw [this]
      simp
    · rw [if_neg h0] at ec
      have hl : C.length = m - s := by rw [ec, digs_length]
      have hne : C ≠ [] := fun z => by rw [z] at hl; simp at hl; omega
      rw [if_neg hne, List.getD_eq_getElem?_getD, hl]
      rw [ec, digs_get (Nat.mod_lt _ (by omega))]
      show dgt a b (s + (k - s - 1) % (m - s)) = _
      rw [← dper_mod e]
      congr 1
      omega
theorem Fg.plus {a b W : Nat} {A C : List Nat} (h : Fg a b W A C) (n : Nat) : Fg (a + n * b) b (W + n) A C := by
  obtain ⟨hb, rfl, m, s, e, rfl, ec⟩ := h
  have hr : ∀ j, rst (a + n * b) b j = rst a b j := fun j => by
    induction j with
    | zero => show (a + n * b) % b = a % b; rw [Nat.add_mul_mod_self_right]
    | succ j ih => show 2 * _ % b = 2 * _ % b; rw [ih]
  have hd : ∀ j, dgt (a + n * b) b j = dgt a b j := fun j => by unfold dgt; rw [hr]
  refine ⟨hb, by rw [Nat.add_mul_div_right _ _ hb], m, s, ⟨e.lt, by rw [hr, hr]; exact e.eq, fun i j h1 h2 => by rw [hr, hr]; exact e.inj i j h1 h2⟩, ?_, ?_⟩
  · unfold digs; exact List.map_congr_left fun i _ => (hd _).symm
  · rw [ec, hr]
    split
    · rfl
    · unfold digs; exact List.map_congr_left fun i _ => (hd _).symm
theorem Fg.scale {a b W : Nat} {A C : List Nat} {g : Nat} (hg : 0 < g) : Fg (g * a) (g * b) W A C ↔ Fg a b W A C := by
  have hr : ∀ j, rst (g * a) (g * b) j = g * rst a b j := fun j => by
    induction j with
    | zero => exact Nat.mul_mod_mul_left ..
    | succ j ih => show 2 * _ % _ = _; rw [ih, ← Nat.mul_assoc, Nat.mul_comm 2 g, Nat.mul_assoc, Nat.mul_mod_mul_left]; rfl
  have hd : ∀ j, dgt (g * a) (g * b) j = dgt a b j := fun j => by
    unfold dgt; rw [hr, ← Nat.mul_assoc, Nat.mul_comm 2 g, Nat.mul_assoc, Nat.mul_div_mul_left _ _ hg]
  have hD : ∀ j n, digs (g * a) (g * b) j n = digs a b j n := fun j n => by unfold digs; exact List.map_congr_left fun i _ => hd _
  have hz : ∀ j, (rst (g * a) (g * b) j = 0) ↔ rst a b j = 0 := fun j => by
    rw [hr, Nat.mul_eq_zero]; omega
  have hE : ∀ m s, Ends (rst (g * a) (g * b)) m s ↔ Ends (rst a b) m s := fun m s => by
    constructor
    · intro e
      refine ⟨e.lt, ?_, fun i j h1 h2 q => e.inj i j h1 h2 (by rw [hr, hr, q])⟩
      have := e.eq
      rw [hr, hr] at this
      exact Nat.eq_of_mul_eq_mul_left hg this
    · intro e
      refine ⟨e.lt, by rw [hr, hr, e.eq], fun i j h1 h2 q => e.inj i j h1 h2 ?_⟩
      rw [hr, hr] at q
      exact Nat.eq_of_mul_eq_mul_left hg q
  constructor
  · rintro ⟨hb, w, m, s, e, ea, ec⟩
    refine ⟨Nat.pos_of_mul_pos_left hb, by rw [w, Nat.mul_div_mul_left _ _ hg], m, s, (hE m s).mp e, by rw [ea, hD], ?_⟩
    rw [ec, hD]
    by_cases c : rst a b s = 0
    · rw [if_pos c, if_pos ((hz s).mpr c)]
    · rw [if_neg c, if_neg fun q => c ((hz s).mp q)]
  · rintro ⟨hb, w, m, s, e, ea, ec⟩
    refine ⟨Nat.mul_pos hg hb, by rw [w, Nat.mul_div_mul_left _ _ hg], m, s, (hE m s).mpr e, by rw [ea, hD], ?_⟩
    rw [ec, hD]
    by_cases c : rst a b s = 0
    · rw [if_pos c, if_pos ((hz s).mpr c)]
    · rw [if_neg c, if_neg fun q => c ((hz s).mp q)]
end MR

/-! Fih: figures doubled, turned, drawn; no more rests than the bottom tells. -/
namespace MR
theorem digs_cons (a b j n : Nat) : digs a b j (n + 1) = dgt a b j :: digs a b (j + 1) n := by
  unfold digs
  rw [List.range_succ_eq_map, List.map_cons, List.map_map]
  congr 1
  refine List.map_congr_left fun i _ => ?_
  show dgt a b (j + (i + 1)) = dgt a b (j + 1 + i)
  congr 1
  omega
theorem digs_add (a b j n : Nat) : ∀ k, digs a b j (n + k) = digs a b j n ++ digs a b (j + n) k
  | 0 => by simp [digs]
  | k + 1 => by
    rw [← Nat.add_assoc, digs_succ, digs_add a b j n k, digs_succ, List.append_assoc, Nat.add_assoc]
section
variable {a b W : Nat} {A C : List Nat}
theorem Fg.double (h : Fg a b W A C) : Fg (2 * a) b (2 * W + toldD A C 1) (A.drop 1) (if A ≠ [] then C else C.drop 1 ++ C.take 1) := by
  rw [h.digit (Nat.le_refl 1)]
  obtain ⟨hb, rfl, m, s, e, rfl, ec⟩ := h
  have hlt := e.lt
  have hr : ∀ j, rst (2 * a) b j = rst a b (j + 1) := fun j => by
    induction j with
    | zero => show 2 * a % b = 2 * (a % b) % b; rw [Nat.mul_mod_mod]
    | succ j ih => show 2 * rst (2 * a) b j % b = 2 * rst a b (j + 1) % b; rw [ih]
  have hd : ∀ j, dgt (2 * a) b j = dgt a b (j + 1) := fun j => by unfold dgt; rw [hr]
  have hD : ∀ j n, digs (2 * a) b j n = digs a b (j + 1) n := fun j n => by
    unfold digs
    refine List.map_congr_left fun i _ => ?_
    rw [hd]
    exact congrArg _ (by omega)
  have hw : 2 * a / b = 2 * (a / b) + dgt a b (1 - 1) := by
    have q := Nat.div_add_mod a b
    have e2 := dgt_eq (a := a) (b := b) 0
    have e3 : rst a b 0 = a % b := rfl
    rw [e3] at e2
    have l := rst_lt (a := a) hb 1
    have q2 : 2 * a = b * (2 * (a / b) + dgt a b 0) + rst a b 1 := by
      have e4 : rst a b (0 + 1) = rst a b 1 := rfl
      rw [Nat.mul_add, show b * (2 * (a / b)) = 2 * (b * (a / b)) by rw [← Nat.mul_assoc, Nat.mul_comm b 2, Nat.mul_assoc]]
      omega
    rw [q2, Nat.mul_add_div hb, Nat.div_eq_of_lt l]
    rfl
  refine ⟨hb, hw.symm, ?_⟩
  cases s with
  | succ t =>
    refine ⟨m - 1, t, ⟨by omega, ?_, fun i j h1 h2 => by rw [hr, hr]; exact e.inj _ _ (by omega) (by omega)⟩, ?_, ?_⟩
    · rw [hr, hr, show m - 1 + 1 = m by omega]; exact e.eq
    · rw [digs_cons, hD]; rfl
    · have : digs a b 0 (t + 1) ≠ [] := by rw [digs_cons]; simp
      rw [if_pos this, ec, hr, hD, show m - 1 - t = m - (t + 1) by omega]
  | zero =>
    have hn : ¬ digs a b 0 0 ≠ [] := by simp [digs]
    rw [if_neg hn]
    have e1 : rst a b (m + 1) = rst a b 1 := by
      have := rst_step e.eq 1
      simpa using this
    refine ⟨m, 0, ⟨hlt, by rw [hr, hr]; exact e1, fun i j h1 h2 => ?_⟩, rfl, ?_⟩
    · rw [hr, hr]
      by_cases c : j + 1 < m
      · exact e.inj _ _ (by omega) c
      · have : j + 1 = m := by omega
        rw [this, e.eq]
        exact fun z => e.inj 0 (i + 1) (by omega) (by omega) z.symm
    · rw [hr]
      by_cases h0 : rst a b 0 = 0
      · rw [if_pos h0] at ec
        rw [if_pos (rst_zero h0 1), ec]
        rfl
      · have h1 : rst a b (0 + 1) ≠ 0 := nz e h0 _
        rw [if_neg h0] at ec
        rw [if_neg h1, ec, hD]
        obtain ⟨n, hn⟩ : ∃ n, m - 0 = n + 1 := ⟨m - 1, by omega⟩
        rw [hn, digs_cons, digs_succ]
        show _ ++ [dgt a b 0] = _ ++ [dgt a b (0 + 1 + n)]
        have : 0 + 1 + n = m := by omega
        rw [this]
        unfold dgt
        rw [e.eq]
        rfl
theorem Fg.turn (h : Fg a b W A C) (h1 : a < b) (hC : C ≠ []) : Fg (b - a) b 0 (A.map fun d => 1 - d) (C.map fun d => 1 - d) := by
  obtain ⟨hb, rfl, m, s, e, rfl, ec⟩ := h
  have hlt := e.lt
  have h0 : rst a b s ≠ 0 := fun z => by rw [if_pos z] at ec; exact hC ec
  rw [if_neg h0] at ec
  have hz := nz e h0
  have ha : rst a b 0 = a := Nat.mod_eq_of_lt h1
  have ha0 := hz 0
  rw [ha] at ha0
  have hstep : ∀ j, 2 * (b - rst a b j) = b * (1 - dgt a b j) + (b - rst a b (j + 1)) := fun j => by
    have e2 := dgt_eq (a := a) (b := b) j
    have l1 := rst_lt (a := a) hb j
    have l2 := rst_lt (a := a) hb (j + 1)
    have l3 := dgt_lt (a := a) hb j
    have : dgt a b j = 0 ∨ dgt a b j = 1 := by omega
    rcases this with c | c <;> rw [c] at e2 ⊢ <;> omega
  have hr : ∀ j, rst (b - a) b j = b - rst a b j := fun j => by
    induction j with
    | zero => rw [ha]; exact Nat.mod_eq_of_lt (by omega)
    | succ j ih =>
      show 2 * _ % b = _
      rw [ih, hstep, Nat.mul_add_mod, Nat.mod_eq_of_lt]
      have := hz (j + 1)
      omega
  have hd : ∀ j, dgt (b - a) b j = 1 - dgt a b j := fun j => by
    unfold dgt
    rw [hr, hstep, Nat.mul_add_div hb, Nat.div_eq_of_lt]
    · rfl
    · have := hz (j + 1)
      omega
  have hD : ∀ j n, digs (b - a) b j n = (digs a b j n).map fun d => 1 - d := fun j n => by
    unfold digs
    rw [List.map_map]
    exact List.map_congr_left fun i _ => hd _
  refine ⟨hb, (Nat.div_eq_of_lt (by omega)).symm, m, s, ⟨hlt, by rw [hr, hr, e.eq], fun i j q1 q2 q => ?_⟩, (hD _ _).symm, ?_⟩
  · rw [hr, hr] at q
    have l1 := rst_lt (a := a) hb i
    have l2 := rst_lt (a := a) hb j
    exact e.inj i j q1 q2 (by omega)
  · rw [hr, if_neg (by have := rst_lt (a := a) hb s; omega), hD, ec]
end
/-! ### figures told by a walk along digits -/
def walk2 (b : Nat) : Nat → List Nat → List Nat → Option (List Nat × Nat)
  | r, [], acc => some (acc, r)
  | r, d :: ds, acc => if acc.contains r || (2 * r / b != d) then none else walk2 b (2 * r % b) ds (acc ++ [r])
theorem walk2_ok {a b : Nat} : ∀ (ds acc L : List Nat) (j r r' : Nat), r = rst a b j → acc.length = j → (∀ i, i < j → acc[i]? = some (rst a b i)) → (∀ i k, i < k → k < j → rst a b i ≠ rst a b k) →
    walk2 b r ds acc = some (L, r') → ds = digs a b j ds.length ∧ r' = rst a b (j + ds.length) ∧ (∀ i k, i < k → k < j + ds.length → rst a b i ≠ rst a b k) ∧ ∀ i, i < j + ds.length → L[i]? = some (rst a b i)
  | [], acc, L, j, r, r', hr, hl, hg, hi, h => by
    cases h
    exact ⟨rfl, hr, hi, hg⟩
  | d :: ds, acc, L, j, r, r', hr, hl, hg, hi, h => by
    unfold walk2 at h
    split at h
    · cases h
    · rename_i c
      simp only [Bool.or_eq_true, not_or, Bool.not_eq_true, bne_eq_false_iff_eq] at c
      obtain ⟨c1, c2⟩ := c
      have c3 : ∀ i, i < j → rst a b i ≠ rst a b j := fun i hij q => by
        have hm : rst a b i ∈ acc := List.mem_of_getElem? (hg i hij)
        rw [q, ← hr] at hm
        have : acc.contains r = true := List.contains_iff_mem.mpr hm
        rw [this] at c1
        cases c1
      have := walk2_ok ds (acc ++ [r]) L (j + 1) (2 * r % b) r' (by rw [hr]; rfl) (by simp [hl]) (fun i hi' => ?_) (fun i k h1 h2 => ?_) h
      · obtain ⟨q1, q2, q3, q4⟩ := this
        refine ⟨?_, by rw [q2, List.length_cons]; congr 1; omega, fun i k h1 h2 => q3 i k h1 (by rw [List.length_cons] at h2; omega), fun i hi' => q4 i (by rw [List.length_cons] at hi'; omega)⟩
        rw [List.length_cons, digs_cons, ← q1, ← c2, hr]
        rfl
      · by_cases e : i < j
        · rw [List.getElem?_append_left (by omega)]
          exact hg i e
        · have : i = j := by omega
          subst this
          rw [List.getElem?_append_right (by omega), hl, Nat.sub_self, ← hr]
          rfl
      · by_cases e : k < j
        · exact hi i k h1 e
        · have : k = j := by omega
          subst this
          exact c3 i h1
def drwA (A C : List Nat) : Nat := if C = [] then val2 A else val2 A * (2 ^ C.length - 1) + val2 C
def drwB (A C : List Nat) : Nat := if C = [] then 2 ^ A.length else 2 ^ A.length * (2 ^ C.length - 1)
def chk2 (A C : List Nat) : Bool :=
  let a := drwA A C
  let b := drwB A C
  decide (a < b) && match walk2 b a (A ++ (if C = [] then [0] else C)) [] with
  | some (L, r) => (L[A.length]? == some r) && ((r == 0) == (C == []))
  | none => false
theorem chk2_ok {A C : List Nat} (h : chk2 A C = true) : Fg (drwA A C) (drwB A C) 0 A C := by
  unfold chk2 at h
  simp only [Bool.and_eq_true, decide_eq_true_eq] at h
  obtain ⟨h1, h2⟩ := h
  split at h2
  · rename_i L r hw
    simp only [Bool.and_eq_true, beq_iff_eq] at h2
    obtain ⟨h3, h4⟩ := h2
    generalize drwA A C = a at *
    generalize drwB A C = b at *
    have ha : a = rst a b 0 := (Nat.mod_eq_of_lt h1).symm
    obtain ⟨q1, q2, q3, q4⟩ := walk2_ok _ [] L 0 a r ha rfl (fun i hi => by omega) (fun i k _ hk => by omega) hw
    rw [Nat.zero_add] at q2 q3 q4
    rw [List.length_append] at q1 q2 q3 q4
    rw [digs_add, Nat.zero_add] at q1
    obtain ⟨w1, w2⟩ := List.append_inj q1 (digs_length ..).symm
    have hX : 1 ≤ (if C = [] then [0] else C).length := by
      split
      · simp
      · rename_i c
        exact List.length_pos_iff.mpr c
    have hs : rst a b A.length = r := by
      have := q4 A.length (by omega)
      rw [h3] at this
      exact (Option.some.inj this).symm
    refine ⟨by omega, (Nat.div_eq_of_lt h1).symm, A.length + (if C = [] then [0] else C).length, A.length, ⟨by omega, by rw [← q2, hs], fun i j q q' => q3 i j q q'⟩, w1, ?_⟩
    rw [hs]
    by_cases c : C = []
    · subst c
      simp at h4
      rw [if_pos h4]
    · rw [if_neg c] at w2 ⊢
      have : ¬ r = 0 := fun z => by
        subst z
        have : (C == []) = false := by
          cases C with
          | nil => exact absurd rfl c
          | cons x y => rfl
        rw [this] at h4
        simp at h4
      rw [if_neg this, show A.length + C.length - A.length = C.length by omega]
      exact w2
  · cases h2
/-! ### the test of figures, as both tell it -/
def shortB (C : List Nat) : Bool := !((List.range' 1 (C.length - 1)).map fun k => C.length % k == 0 && C.drop k == C.take (C.length - k)).any id
def figB (A C : List Nat) : Bool := A.all (· < 2) && C.all (· < 2) && (if C = [] then A = [] || A.getLast? == some 1 else shortB C && C != [0] && C != [1] && (A = [] || A.getLast? != C.getLast?))
theorem Fg.figB {a b W : Nat} {A C : List Nat} (h : Fg a b W A C) : figB A C = true := by
  unfold MR.figB
  have h1 : A.all (· < 2) = true := by simpa using h.bitsA
  have h2 : C.all (· < 2) = true := by simpa using h.bitsC
  rw [h1, h2]
  by_cases c : C = []
  · rw [if_pos c]
    rcases h.okA c with e | e <;> simp [e]
  · rw [if_neg c]
    obtain ⟨c1, c2, c3⟩ := h.okC c
    have c4 : shortB C = true := by
      unfold shortB
      rw [Bool.not_eq_true', ← Bool.not_eq_true]
      intro z
      obtain ⟨x, hx, hx2⟩ := List.any_eq_true.mp z
      obtain ⟨k, hk, rfl⟩ := List.mem_map.mp hx
      simp only [id, Bool.and_eq_true, beq_iff_eq] at hx2
      rw [List.mem_range'_1] at hk
      exact h.short k hk.1 (by omega) hx2.1 hx2.2
    rw [c4]
    rcases c3 with e | e <;> simp [e, c1, c2]
/-! ### no more rests than the bottom tells -/
theorem nodup_len : ∀ (b : Nat) (l : List Nat), l.Nodup → (∀ x ∈ l, x < b) → l.length ≤ b
  | 0, l, _, h => by
    cases l with
    | nil => simp
    | cons x l => exact absurd (h x (List.mem_cons_self ..)) (by omega)
  | b + 1, l, hn, h => by
    have := nodup_len b (l.erase b) (hn.erase b) fun x hx => by
      have h1 := h x (List.mem_of_mem_erase hx)
      have h2 : x ≠ b := fun z => by subst z; exact hn.not_mem_erase hx
      omega
    rw [List.length_erase] at this
    split at this <;> omega
theorem few_rests {a b j : Nat} (hb : 0 < b) (h : ∀ i k, i < k → k < j → rst a b i ≠ rst a b k) : j ≤ b := by
  have := nodup_len b ((List.range j).map (rst a b)) (by
    rw [List.nodup_iff_pairwise_ne, List.pairwise_map, List.pairwise_iff_getElem]
    intro i k h1 h2 h3
    rw [List.getElem_range, List.getElem_range]
    simp at h2
    exact h i k h3 h2) fun x hx => by
    obtain ⟨i, _, rfl⟩ := List.mem_map.mp hx
    exact rst_lt hb i
  simpa using this
end MR

/-! Fij: figures and fractions. -/
namespace MR
def frQ (W : Nat) (A C : List Nat) : Rat :=
  if C = [] then Rat.divInt ((W : Int) * 2 ^ A.length + (val2 A : Nat)) (2 ^ A.length) else
    Rat.divInt ((W : Int) * 2 ^ A.length + (val2 A : Nat)) (2 ^ A.length) + Rat.divInt ((val2 C : Nat) : Int) (2 ^ A.length * (2 ^ C.length - 1))
def frL (W : Nat) (A C : List Nat) : Rat :=
  if C = [] then Rat.divInt ((W : Int) * 2 ^ A.length + (val2 A : Nat)) (2 ^ A.length) else
    Rat.divInt (((W : Int) * 2 ^ A.length + (val2 A : Nat)) * (2 ^ C.length - 1) + (val2 C : Nat)) (2 ^ A.length * (2 ^ C.length - 1))
theorem p2pos (n : Nat) : (0 : Int) < 2 ^ n := Int.pow_pos (by decide)
theorem p2one {C : List Nat} (h : C ≠ []) : (0 : Int) < 2 ^ C.length - 1 := by
  have h1 := List.length_pos_iff.mpr h
  obtain ⟨n, hn⟩ : ∃ n, C.length = n + 1 := ⟨C.length - 1, by omega⟩
  rw [hn, Int.pow_succ]
  have := p2pos n
  omega
theorem frQ_L (W : Nat) (A C : List Nat) : frQ W A C = frL W A C := by
  unfold frQ frL
  by_cases c : C = []
  · rw [if_pos c, if_pos c]
  · rw [if_neg c, if_neg c]
    have h1 := p2pos A.length
    have h2 := p2one c
    have h3 : (2 ^ A.length * (2 ^ C.length - 1) : Int) ≠ 0 := by
      have := Int.mul_pos h1 h2
      omega
    rw [Rat.divInt_add_divInt _ _ (by omega) h3, Rat.divInt_eq_divInt_iff (by
      have := Int.mul_pos h1 (Int.mul_pos h1 h2)
      omega) h3]
    generalize ((W : Int) * 2 ^ A.length + (val2 A : Nat)) = x
    generalize ((val2 C : Nat) : Int) = v
    generalize ((2 : Int) ^ C.length - 1) = z
    generalize ((2 : Int) ^ A.length) = s
    grind
theorem cast2 (n : Nat) : ((2 ^ n : Nat) : Int) = 2 ^ n := by norm_cast
theorem cast2m {n : Nat} : ((2 ^ n - 1 : Nat) : Int) = 2 ^ n - 1 := by
  have : 1 ≤ 2 ^ n := Nat.one_le_two_pow
  rw [Int.natCast_sub this, cast2]
  rfl
theorem Fg.frQ {a b W : Nat} {A C : List Nat} (h : Fg a b W A C) : MR.frQ W A C = Rat.divInt (a : Int) (b : Int) := by
  have hb := h.pos
  rw [frQ_L]
  unfold frL
  by_cases c : C = []
  · rw [if_pos c, Rat.divInt_eq_divInt_iff (by have := p2pos A.length; omega) (by omega)]
    have := h.back0 c
    have := congrArg (fun n : Nat => (n : Int)) this
    simpa using this
  · rw [if_neg c, Rat.divInt_eq_divInt_iff (by have := Int.mul_pos (p2pos A.length) (p2one c); omega) (by omega)]
    have := h.back1 c
    have := congrArg (fun n : Nat => (n : Int)) this
    simp only [Int.natCast_mul, Int.natCast_add, cast2, cast2m] at this
    exact this
def FgQ (q : Rat) (W : Nat) (A C : List Nat) : Prop := Fg q.num.toNat q.den W A C
theorem FgQ.frQ {q : Rat} {W : Nat} {A C : List Nat} (h : FgQ q W A C) (h0 : 0 ≤ q) : MR.frQ W A C = q := by
  rw [Fg.frQ h, Int.toNat_of_nonneg (Rat.num_nonneg.mpr h0), Rat.num_divInt_den]
theorem fgq {x y W : Nat} {A C : List Nat} (hy : 0 < y) : FgQ (Rat.divInt (x : Int) (y : Int)) W A C ↔ Fg x y W A C := by
  obtain ⟨e1, e2⟩ := divInt_parts (x : Int) (y : Int) (by omega)
  rw [Int.natAbs_natCast, Int.natAbs_natCast] at e1 e2
  have hg : 0 < Nat.gcd x y := Nat.gcd_pos_of_pos_right _ hy
  obtain ⟨u, hu⟩ := Nat.gcd_dvd_left x y
  obtain ⟨v, hv⟩ := Nat.gcd_dvd_right x y
  generalize Nat.gcd x y = g at *
  have e3 : ((Rat.divInt (x : Int) (y : Int)).num).toNat = u := by
    rw [e1, hu, ← Int.natCast_ediv, Int.toNat_natCast, Nat.mul_div_cancel_left _ hg]
  have e4 : (Rat.divInt (x : Int) (y : Int)).den = v := by
    have : (((Rat.divInt (x : Int) (y : Int)).den : Nat) : Int) = (v : Nat) := by
      rw [e2, hv, ← Int.natCast_ediv, Nat.mul_div_cancel_left _ hg]
    omega
  unfold FgQ
  rw [e3, e4]
  conv => rhs; rw [hu, hv]
  exact (Fg.scale hg).symm
/-- all rows of at most four bits -/
def rows2 : Nat → List (List Nat)
  | 0 => [[]]
  | n + 1 => [] :: (rows2 n).flatMap fun l => [0 :: l, 1 :: l]
theorem rows2_mem : ∀ (n : Nat) (l : List Nat), (∀ x ∈ l, x < 2) → l.length ≤ n → l ∈ rows2 n
  | 0, [], _, _ => by simp [rows2]
  | 0, _ :: _, _, h => by simp at h
  | n + 1, [], _, _ => by simp [rows2]
  | n + 1, d :: l, h, hl => by
    have h1 := rows2_mem n l (fun x hx => h x (List.mem_cons_of_mem _ hx)) (by simpa using hl)
    have h2 := h d List.mem_cons_self
    refine List.mem_cons_of_mem _ (List.mem_flatMap.mpr ⟨l, h1, ?_⟩)
    have : d = 0 ∨ d = 1 := by omega
    rcases this with rfl | rfl <;> simp
theorem chk_all : ((rows2 4).all fun A => (rows2 4).all fun C => !figB A C || chk2 A C) = true := by decide +kernel
theorem drawn_fg {A C : List Nat} (hA : ∀ x ∈ A, x < 2) (hC : ∀ x ∈ C, x < 2) (h1 : A.length ≤ 4) (h2 : C.length ≤ 4) (h : figB A C = true) (W : Nat) : FgQ (frQ W A C) W A C := by
  have := List.all_eq_true.mp (List.all_eq_true.mp chk_all A (rows2_mem 4 A hA h1)) C (rows2_mem 4 C hC h2)
  rw [h] at this
  have := (chk2_ok (by simpa using this)).plus W
  rw [Nat.zero_add] at this
  have hp := this.pos
  rw [frQ_L]
  unfold frL
  have e : (if C = [] then Rat.divInt ((W : Int) * 2 ^ A.length + (val2 A : Nat)) (2 ^ A.length) else Rat.divInt (((W : Int) * 2 ^ A.length + (val2 A : Nat)) * (2 ^ C.length - 1) + (val2 C : Nat)) (2 ^ A.length * (2 ^ C.length - 1))) = Rat.divInt ((drwA A C + W * drwB A C : Nat) : Int) (drwB A C : Int) := by
    unfold drwA drwB
    by_cases c : C = []
    · simp only [if_pos c, Int.natCast_add, Int.natCast_mul, cast2]
      congr 1
      omega
    · simp only [if_neg c, Int.natCast_add, Int.natCast_mul, cast2, cast2m]
      congr 1
      generalize ((2 : Int) ^ C.length - 1) = z
      generalize ((2 : Int) ^ A.length) = s
      grind
  rw [e, fgq hp]
  exact this
/-! ### the law's own test of figures -/
def singB (C : List Nat) : Bool := (((List.range' 1 (C.length - 1)).filter fun k => C.length % k == 0).filter fun k => (List.replicate (C.length / k) (C.take k)).flatten == C) == []
def oneB (C : List Nat) : Bool := match C with | [] => false | x :: l => l.all (· == x)
theorem oneB_len {C : List Nat} {ms : List Int} (hn : ms.Nodup) (hm : ∀ k : Int, k ∈ ms ↔ k ∈ C.map fun (n : Nat) => (n : Int)) : decide (((ms.length : Nat) : Int) = 1) = oneB C := by
  rw [Bool.eq_iff_iff, decide_eq_true_eq]
  constructor
  · intro h
    match ms, h with
    | [m], _ =>
      cases C with
      | nil => have := (hm m).mp (by simp); simp at this
      | cons x l =>
        show l.all (· == x) = true
        rw [List.all_eq_true]
        intro y hy
        have h1 := (hm (x : Int)).mpr (by simp)
        have h2 := (hm (y : Int)).mpr (List.mem_map.mpr ⟨y, List.mem_cons_of_mem _ hy, rfl⟩)
        rw [List.mem_singleton] at h1 h2
        rw [beq_iff_eq]
        omega
    | [], h => simp at h
    | _ :: _ :: _, h => simp at h; omega
  · intro h
    cases C with
    | nil => cases h
    | cons x l =>
      have h : l.all (· == x) = true := h
      rw [List.all_eq_true] at h
      have hall : ∀ k ∈ ms, k = (x : Int) := fun k hk => by
        obtain ⟨y, hy, rfl⟩ := List.mem_map.mp ((hm k).mp hk)
        rcases List.mem_cons.mp hy with rfl | hy
        · rfl
        · have := h y hy
          rw [beq_iff_eq] at this
          subst this
          rfl
      have hx := (hm (x : Int)).mpr (by simp)
      match ms, hn, hall, hx with
      | [], _, _, hx => simp at hx
      | [_], _, _, _ => rfl
      | a :: b :: r, hn, hall, _ =>
        have e1 := hall a (by simp)
        have e2 := hall b (by simp)
        rw [List.nodup_cons] at hn
        exact absurd (by rw [e1, e2]; simp) hn.1
def lawB (A C : List Nat) : Bool := A.all (· < 2) && C.all (· < 2) && (if C = [] then A = [] || A.getLast? == some 1 else !(oneB C || !singB C) && (A = [] || A.getLast? != C.getLast?))
theorem lawB_all : ((rows2 4).all fun A => (rows2 4).all fun C => lawB A C == figB A C) = true := by decide +kernel
theorem lawB_figB {A C : List Nat} (hA : ∀ x ∈ A, x < 2) (hC : ∀ x ∈ C, x < 2) (h1 : A.length ≤ 4) (h2 : C.length ≤ 4) : lawB A C = figB A C := by
  have := List.all_eq_true.mp (List.all_eq_true.mp lawB_all A (rows2_mem 4 A hA h1)) C (rows2_mem 4 C hC h2)
  exact beq_iff_eq.mp this
theorem dgt_div {r b : Nat} (hb : 0 < b) : (2 * (Rat.divInt (r : Int) (b : Int)).num).fdiv ((Rat.divInt (r : Int) (b : Int)).den : Int) = ((2 * r / b : Nat) : Int) := by
  obtain ⟨e1, e2⟩ := divInt_parts (r : Int) (b : Int) (by omega)
  rw [Int.natAbs_natCast, Int.natAbs_natCast] at e1 e2
  have hg : 0 < Nat.gcd r b := Nat.gcd_pos_of_pos_right _ hb
  obtain ⟨u, hu⟩ := Nat.gcd_dvd_left r b
  obtain ⟨v, hv⟩ := Nat.gcd_dvd_right r b
  generalize Nat.gcd r b = g at *
  rw [e1, e2, Int.fdiv_eq_ediv_of_nonneg _ (by rw [hv]; exact Int.ediv_nonneg (by omega) (by omega))]
  conv => lhs; rw [hu, hv]
  conv => rhs; rw [hu, hv]
  rw [← Int.natCast_ediv, ← Int.natCast_ediv, Nat.mul_div_cancel_left _ hg, Nat.mul_div_cancel_left _ hg, show 2 * (g * u) = g * (2 * u) by rw [← Nat.mul_assoc, Nat.mul_comm 2 g, Nat.mul_assoc], Nat.mul_div_mul_left _ _ hg]
  rw [Int.natCast_ediv, Int.natCast_mul]
  rfl
theorem int_divInt (n : Int) : ((n : Int) : Rat) = Rat.divInt n 1 := by
  have := Rat.num_divInt_den ((n : Int) : Rat)
  exact this.symm
theorem rest_next {r r' d b : Nat} (hb : 0 < b) (h : 2 * r = b * d + r') : ((2 : Int) : Rat) * Rat.divInt (r : Int) (b : Int) - ((d : Int) : Rat) = Rat.divInt (r' : Int) (b : Int) := by
  have h2 : (2 : Int) * r = b * d + r' := by omega
  rw [show ((2 : Int) : Rat) = Rat.divInt 2 1 from rfl, show ((d : Int) : Rat) = Rat.divInt (d : Int) 1 from (int_divInt _)]
  rw [Rat.divInt_mul_divInt, Rat.divInt_sub_divInt _ _ (by omega) (by omega), Rat.divInt_eq_divInt_iff (by omega) (by omega)]
  grind
theorem mul_two_fr {q : Rat} (h0 : 0 ≤ q) : ((2 : Int) : Rat) * q = Rat.divInt ((2 * q.num.toNat : Nat) : Int) (q.den : Int) := by
  have hn : q.num = ((q.num.toNat : Nat) : Int) := (Int.toNat_of_nonneg (Rat.num_nonneg.mpr h0)).symm
  conv => lhs; rw [← Rat.num_divInt_den q, hn]
  rw [show ((2 : Int) : Rat) = Rat.divInt 2 1 from rfl, Rat.divInt_mul_divInt, Int.one_mul, Int.natCast_mul]
  rfl
theorem add_int_fr {q : Rat} (h0 : 0 ≤ q) (n : Nat) : q + ((n : Int) : Rat) = Rat.divInt ((q.num.toNat + n * q.den : Nat) : Int) (q.den : Int) := by
  have hn : q.num = ((q.num.toNat : Nat) : Int) := (Int.toNat_of_nonneg (Rat.num_nonneg.mpr h0)).symm
  have hd := q.den_pos
  conv => lhs; rw [← Rat.num_divInt_den q, hn]
  rw [show ((n : Int) : Rat) = Rat.divInt (n : Int) 1 from (int_divInt _), Rat.divInt_add_divInt _ _ (by omega) (by omega), Rat.divInt_eq_divInt_iff (by omega) (by omega), Int.natCast_add, Int.natCast_mul]
  grind
theorem one_sub_fr {q : Rat} (h0 : 0 ≤ q) (h1 : q.num.toNat < q.den) : ((1 : Int) : Rat) - q = Rat.divInt ((q.den - q.num.toNat : Nat) : Int) (q.den : Int) := by
  have hn : q.num = ((q.num.toNat : Nat) : Int) := (Int.toNat_of_nonneg (Rat.num_nonneg.mpr h0)).symm
  have hd := q.den_pos
  conv => lhs; rw [← Rat.num_divInt_den q, hn]
  rw [show ((1 : Int) : Rat) = Rat.divInt 1 1 from rfl, Rat.divInt_sub_divInt _ _ (by omega) (by omega), Rat.divInt_eq_divInt_iff (by omega) (by omega), Int.natCast_sub (by omega)]
  grind
theorem FgQ.plus {q : Rat} {W : Nat} {A C : List Nat} (h : FgQ q W A C) (h0 : 0 ≤ q) (n : Nat) : FgQ (q + ((n : Int) : Rat)) (W + n) A C := by
  rw [add_int_fr h0, fgq q.den_pos]
  exact Fg.plus h n
theorem FgQ.double {q : Rat} {W : Nat} {A C : List Nat} (h : FgQ q W A C) (h0 : 0 ≤ q) : FgQ (((2 : Int) : Rat) * q) (2 * W + toldD A C 1) (A.drop 1) (if A ≠ [] then C else C.drop 1 ++ C.take 1) := by
  rw [mul_two_fr h0, fgq q.den_pos]
  exact Fg.double h
theorem FgQ.turn {q : Rat} {A C : List Nat} (h : FgQ q 0 A C) (h0 : 0 ≤ q) (hC : C ≠ []) : FgQ (((1 : Int) : Rat) - q) 0 (A.map fun d => 1 - d) (C.map fun d => 1 - d) := by
  have h1 : q.num.toNat < q.den := by
    have := h.whole
    have hd := q.den_pos
    rcases Nat.lt_or_ge q.num.toNat q.den with c | c
    · exact c
    · have := Nat.div_pos c hd
      omega
  rw [one_sub_fr h0 h1, fgq q.den_pos]
  exact Fg.turn h h1 hC
theorem den_le {x : Int} {y : Nat} (h : 0 < y) : (Rat.divInt x (y : Int)).den ≤ y := by
  obtain ⟨e1, e2⟩ := divInt_parts x (y : Int) (by omega)
  have : ((Rat.divInt x (y : Int)).den : Int) ≤ y := by
    rw [e2]
    exact Int.ediv_le_self _ (by omega)
  omega
end MR

/-! Mc: coin machines: runs, rows counted, tails. Plain mathematics. -/
namespace MR
inductive Sd where
  | toss (a b : Nat) | out (i : Nat)
  deriving DecidableEq, Inhabited
abbrev Mch := List Sd
def Sd.ok (n many : Nat) : Sd → Prop
  | .toss a b => a < many ∧ b < many
  | .out i => i < n
structure MacOk (n : Nat) (S : Mch) : Prop where
  n1 : 1 ≤ n
  n8 : n ≤ 8
  ne : S ≠ []
  all : ∀ s ∈ S, s.ok n S.length
def at' (S : Mch) (s : Nat) : Sd := S.getD s (.out 0)
def isOut : Sd → Bool | .out _ => true | _ => false
def fols : Sd → List Nat | .toss a b => [a, b] | .out _ => []
theorem at_mem {S : Mch} {s : Nat} (h : s < S.length) : at' S s ∈ S := by
  unfold at'
  rw [List.getD_eq_getElem?_getD, List.getElem?_eq_getElem h]
  exact List.getElem_mem h
theorem at_get {S : Mch} {s : Nat} (h : s < S.length) : S[s]? = some (at' S s) := by
  unfold at'
  rw [List.getD_eq_getElem?_getD, List.getElem?_eq_getElem h]
  rfl
theorem fol_lt {n : Nat} {S : Mch} (h : MacOk n S) {s : Nat} (hs : s < S.length) : ∀ a ∈ fols (at' S s), a < S.length := by
  have := h.all _ (at_mem hs)
  cases e : at' S s with
  | toss a b =>
    rw [e] at this
    intro x hx
    simp only [fols, List.mem_cons, List.not_mem_nil, or_false] at hx
    rcases hx with rfl | rfl
    · exact this.1
    · exact this.2
  | out i => intro x hx; simp [fols] at hx
/-- where bits lead, and how many of them are taken -/
def led (S : Mch) : Nat → List Nat → Nat × Nat
  | s, [] => (s, 0)
  | s, b :: bs => match at' S s with
    | .out _ => (s, 0)
    | .toss x y => let r := led S (if b = 0 then x else y) bs; (r.1, r.2 + 1)
def runR (S : Mch) (s : Nat) (bs : List Nat) : Option (Nat × Nat) := match at' S (led S s bs).1 with
  | .out i => some (i, (led S s bs).2)
  | .toss _ _ => none
/-- how many rows of k bits end at i, from s -/
def endN (S : Mch) (i : Nat) : Nat → Nat → Nat
  | 0, s => match at' S s with | .out j => if j = i then 1 else 0 | _ => 0
  | k + 1, s => match at' S s with | .toss a b => endN S i k a + endN S i k b | _ => 0
/-- how many rows of k bits go on, from s -/
def goN (S : Mch) : Nat → Nat → Nat
  | 0, s => match at' S s with | .out _ => 0 | _ => 1
  | k + 1, s => match at' S s with | .toss a b => goN S k a + goN S k b | _ => 0
/-! ### rows told by a list of standings and numbers -/
abbrev Rows := List (Nat × Nat)
def Rows.keys (r : Rows) : List Nat := r.map (·.1)
def wgt (g : Nat → Nat) (r : Rows) : Nat := (r.map fun p => p.2 * g p.1).sum
def bmp (r : Rows) (a m : Nat) : Rows := if (r.any fun p => p.1 == a) = true then r.map fun p => if p.1 = a then (p.1, p.2 + m) else p else r ++ [(a, m)]
def ledOn (S : Mch) (r : Rows) : Rows := r.foldl (fun f p => (fols (at' S p.1)).foldl (fun f a => bmp f a p.2) f) []
theorem wgt_nil (g : Nat → Nat) : wgt g [] = 0 := rfl
theorem wgt_cons (g : Nat → Nat) (p : Nat × Nat) (r : Rows) : wgt g (p :: r) = p.2 * g p.1 + wgt g r := by unfold wgt; rw [List.map_cons, List.sum_cons]
theorem wgt_append (g : Nat → Nat) (r r' : Rows) : wgt g (r ++ r') = wgt g r + wgt g r' := by unfold wgt; rw [List.map_append, List.sum_append_nat]
theorem wgt_upd (g : Nat → Nat) (a m : Nat) : ∀ (r : Rows), r.keys.Nodup → a ∈ r.keys → wgt g (r.map fun p => if p.1 = a then (p.1, p.2 + m) else p) = wgt g r + m * g a
  | [], _, h => by simp [Rows.keys] at h
  | p :: r, hn, h => by
    unfold Rows.keys at hn h
    rw [List.map_cons, List.nodup_cons] at hn
    rw [List.map_cons, wgt_cons, wgt_cons]
    by_cases e : p.1 = a
    · have hno : (r.map fun p => if p.1 = a then (p.1, p.2 + m) else p) = r := by
        conv => rhs; rw [← List.map_id r]
        refine List.map_congr_left fun q hq => ?_
        have : q.1 ≠ a := fun z => hn.1 (List.mem_map.mpr ⟨q, hq, by rw [z, e]⟩)
        simp [this]
      rw [hno, if_pos e, Nat.add_mul, e]
      omega
    · rw [if_neg e, wgt_upd g a m r hn.2 (by
        rw [List.map_cons] at h
        exact (List.mem_cons.mp h).resolve_left (fun z => e z.symm))]
      omega
theorem bmp_nodup {r : Rows} {a m : Nat} (h : r.keys.Nodup) : (bmp r a m).keys.Nodup := by
  unfold bmp
  split
  · have : Rows.keys (r.map fun p => if p.1 = a then (p.1, p.2 + m) else p) = r.keys := by
      unfold Rows.keys
      rw [List.map_map]
      refine List.map_congr_left fun p _ => ?_
      show (if p.1 = a then (p.1, p.2 + m) else p).1 = p.1
      split <;> rfl
    rw [this]; exact h
  · rename_i c
    have hc : a ∉ r.keys := fun z => by
      obtain ⟨p, hp, e⟩ := List.mem_map.mp z
      exact c (List.any_eq_true.mpr ⟨p, hp, by simpa using e⟩)
    unfold Rows.keys at *
    rw [List.map_append, List.nodup_append]
    refine ⟨h, by simp, fun x hx y hy => ?_⟩
    have : y = a := by simpa using hy
    rintro rfl
    exact hc (this ▸ hx)
theorem bmp_wgt (g : Nat → Nat) {r : Rows} {a m : Nat} (h : r.keys.Nodup) : wgt g (bmp r a m) = wgt g r + m * g a := by
  unfold bmp
  split
  · rename_i c
    obtain ⟨p, hp, e⟩ := List.any_eq_true.mp c
    exact wgt_upd g a m r h (List.mem_map.mpr ⟨p, hp, by simpa using e⟩)
  · simp only [wgt_append, wgt_cons, wgt_nil]
    omega
theorem bmp_keys {r : Rows} {a m x : Nat} (h : x ∈ (bmp r a m).keys) : x ∈ r.keys ∨ x = a := by
  unfold bmp at h
  split at h
  · left
    unfold Rows.keys at *
    rw [List.map_map] at h
    obtain ⟨p, hp, rfl⟩ := List.mem_map.mp h
    refine List.mem_map.mpr ⟨p, hp, ?_⟩
    show p.1 = (if p.1 = a then (p.1, p.2 + m) else p).1
    split <;> rfl
  · unfold Rows.keys at *
    rw [List.map_append] at h
    rcases List.mem_append.mp h with h | h
    · exact .inl h
    · exact .inr (by simpa using h)
theorem bmps_ok (m : Nat) : ∀ (l : List Nat) (r : Rows), r.keys.Nodup → (l.foldl (fun f a => bmp f a m) r).keys.Nodup ∧ (∀ g, wgt g (l.foldl (fun f a => bmp f a m) r) = wgt g r + m * (l.map g).sum) ∧ ∀ x ∈ (l.foldl (fun f a => bmp f a m) r).keys, x ∈ r.keys ∨ x ∈ l
  | [], r, h => ⟨h, fun g => by simp, fun x hx => .inl hx⟩
  | a :: l, r, h => by
    obtain ⟨h1, h2, h3⟩ := bmps_ok m l (bmp r a m) (bmp_nodup h)
    refine ⟨h1, fun g => ?_, fun x hx => ?_⟩
    · show wgt g (l.foldl _ (bmp r a m)) = _
      rw [h2, bmp_wgt g h, List.map_cons, List.sum_cons, Nat.mul_add]
      omega
    · rcases h3 x hx with z | z
      · rcases bmp_keys z with z | rfl
        · exact .inl z
        · exact .inr List.mem_cons_self
      · exact .inr (List.mem_cons_of_mem _ z)
def sumF (S : Mch) (g : Nat → Nat) (s : Nat) : Nat := ((fols (at' S s)).map g).sum
theorem ledOn_go (S : Mch) : ∀ (r f : Rows), f.keys.Nodup → (r.foldl (fun f p => (fols (at' S p.1)).foldl (fun f a => bmp f a p.2) f) f).keys.Nodup ∧
    (∀ g, wgt g (r.foldl (fun f p => (fols (at' S p.1)).foldl (fun f a => bmp f a p.2) f) f) = wgt g f + wgt (sumF S g) r) ∧
    ∀ x ∈ (r.foldl (fun f p => (fols (at' S p.1)).foldl (fun f a => bmp f a p.2) f) f).keys, x ∈ f.keys ∨ ∃ s ∈ r.keys, x ∈ fols (at' S s)
  | [], f, h => ⟨h, fun g => by simp [wgt], fun x hx => .inl hx⟩
  | p :: r, f, h => by
    obtain ⟨b1, b2, b3⟩ := bmps_ok p.2 (fols (at' S p.1)) f h
    obtain ⟨h1, h2, h3⟩ := ledOn_go S r _ b1
    refine ⟨h1, fun g => ?_, fun x hx => ?_⟩
    · rw [List.foldl_cons, h2, b2, wgt_cons]
      unfold sumF
      omega
    · rcases h3 x hx with z | ⟨s, hs, z⟩
      · rcases b3 x z with z | z
        · exact .inl z
        · exact .inr ⟨p.1, List.mem_cons_self, z⟩
      · exact .inr ⟨s, List.mem_cons_of_mem _ hs, z⟩
structure RowsOk (S : Mch) (r : Rows) : Prop where
  nd : r.keys.Nodup
  lt : ∀ x ∈ r.keys, x < S.length
theorem ledOn_ok {n : Nat} {S : Mch} (hM : MacOk n S) {r : Rows} (h : RowsOk S r) : RowsOk S (ledOn S r) := by
  obtain ⟨h1, h2, h3⟩ := ledOn_go S r [] (by simp [Rows.keys])
  refine ⟨h1, fun x hx => ?_⟩
  rcases h3 x hx with z | ⟨s, hs, z⟩
  · simp [Rows.keys] at z
  · exact fol_lt hM (h.lt s hs) x z
theorem ledOn_wgt (S : Mch) (r : Rows) (g : Nat → Nat) : wgt g (ledOn S r) = wgt (sumF S g) r := by
  obtain ⟨h1, h2, h3⟩ := ledOn_go S r [] (by simp [Rows.keys])
  have := h2 g
  rw [wgt_nil, Nat.zero_add] at this
  exact this
def rowsAt (S : Mch) : Nat → Rows
  | 0 => [(0, 1)]
  | k + 1 => ledOn S (rowsAt S k)
theorem rowsAt_ok {n : Nat} {S : Mch} (hM : MacOk n S) : ∀ k, RowsOk S (rowsAt S k)
  | 0 => ⟨by simp [rowsAt, Rows.keys], fun x hx => by
      have : x = 0 := by simpa [rowsAt, Rows.keys] using hx
      subst this
      exact List.length_pos_iff.mpr hM.ne⟩
  | k + 1 => ledOn_ok hM (rowsAt_ok hM k)
theorem sumF_end (S : Mch) (i k s : Nat) : sumF S (endN S i k) s = endN S i (k + 1) s := by
  unfold sumF
  show _ = (match at' S s with | .toss a b => endN S i k a + endN S i k b | _ => 0)
  cases at' S s <;> simp [fols]
theorem sumF_go (S : Mch) (k s : Nat) : sumF S (goN S k) s = goN S (k + 1) s := by
  unfold sumF
  show _ = (match at' S s with | .toss a b => goN S k a + goN S k b | _ => 0)
  cases at' S s <;> simp [fols]
theorem rowsAt_wgt (S : Mch) (g : Nat → Nat → Nat) (hg : ∀ k s, sumF S (g k) s = g (k + 1) s) : ∀ k j, wgt (g j) (rowsAt S k) = g (j + k) 0
  | 0, j => by simp [rowsAt, wgt]
  | k + 1, j => by
    show wgt (g j) (ledOn S (rowsAt S k)) = _
    rw [ledOn_wgt, show sumF S (g j) = g (j + 1) from funext fun s => hg j s, rowsAt_wgt S g hg k (j + 1)]
    congr 1
    omega
theorem rows_end (S : Mch) (i k : Nat) : wgt (endN S i 0) (rowsAt S k) = endN S i k 0 := by
  have := rowsAt_wgt S (endN S i) (sumF_end S i) k 0
  rwa [Nat.zero_add] at this
theorem rows_go (S : Mch) (k : Nat) : wgt (goN S 0) (rowsAt S k) = goN S k 0 := by
  have := rowsAt_wgt S (goN S) (sumF_go S) k 0
  rwa [Nat.zero_add] at this
/-- the chances within t bits, in 2 ^ t-th parts -/
def topsN (S : Mch) (i : Nat) : Nat → Nat
  | 0 => endN S i 0 0
  | t + 1 => 2 * topsN S i t + endN S i (t + 1) 0
theorem mc_sum2 (f g : Nat → Nat) : ∀ l : List Nat, (l.map fun i => f i + g i).sum = (l.map f).sum + (l.map g).sum
  | [] => rfl
  | a :: l => by
    simp only [List.map_cons, List.sum_cons, mc_sum2 f g l]
    omega
theorem mc_sumd (f g : Nat → Nat) : ∀ l : List Nat, (l.map fun i => 2 * f i + g i).sum = 2 * (l.map f).sum + (l.map g).sum
  | [] => rfl
  | a :: l => by
    simp only [List.map_cons, List.sum_cons, mc_sumd f g l]
    omega
theorem mc_sum1 (j : Nat) : ∀ n : Nat, ((List.range n).map fun i => if j = i then 1 else 0).sum = if j < n then 1 else 0
  | 0 => by simp
  | n + 1 => by
    rw [List.range_succ, List.map_append, List.sum_append_nat, mc_sum1 j n]
    by_cases c : j < n
    · have : j ≠ n := by omega
      have c2 : j < n + 1 := by omega
      simp [c, c2, this]
    · by_cases d : j = n
      · subst d; simp
      · have c2 : ¬ j < n + 1 := by omega
        simp [c, c2, d]
theorem mc_sum0 (l : List Nat) : (l.map fun _ => 0).sum = 0 := by
  induction l with
  | nil => rfl
  | cons a l ih => simp [ih]
def allN (S : Mch) (n k s : Nat) : Nat := ((List.range n).map fun i => endN S i k s).sum + goN S k s
theorem all_zero {n : Nat} {S : Mch} (hM : MacOk n S) {s : Nat} (hs : s < S.length) : allN S n 0 s = 1 := by
  unfold allN
  have := hM.all _ (at_mem hs)
  cases e : at' S s with
  | toss a b =>
    have e1 : ∀ i, endN S i 0 s = 0 := fun i => by unfold endN; rw [e]
    have e2 : goN S 0 s = 1 := by unfold goN; rw [e]
    rw [List.map_congr_left (g := fun _ => 0) fun i _ => e1 i, mc_sum0, e2]
  | out j =>
    rw [e] at this
    have e1 : ∀ i, endN S i 0 s = if j = i then 1 else 0 := fun i => by unfold endN; rw [e]
    have e2 : goN S 0 s = 0 := by unfold goN; rw [e]
    rw [List.map_congr_left (g := fun i => if j = i then 1 else 0) fun i _ => e1 i, mc_sum1, e2, if_pos (show j < n from this)]
theorem all_succ {n : Nat} {S : Mch} (k s : Nat) : allN S n (k + 1) s = match at' S s with | .toss a b => allN S n k a + allN S n k b | _ => 0 := by
  unfold allN
  cases e : at' S s with
  | toss a b =>
    have e1 : ∀ i, endN S i (k + 1) s = endN S i k a + endN S i k b := fun i => by
      show (match at' S s with | .toss a b => endN S i k a + endN S i k b | _ => 0) = _
      rw [e]
    have e2 : goN S (k + 1) s = goN S k a + goN S k b := by
      show (match at' S s with | .toss a b => goN S k a + goN S k b | _ => 0) = _
      rw [e]
    rw [List.map_congr_left (g := fun i => endN S i k a + endN S i k b) fun i _ => e1 i, mc_sum2, e2]
    simp only
    omega
  | out j =>
    have e1 : ∀ i, endN S i (k + 1) s = 0 := fun i => by
      show (match at' S s with | .toss a b => endN S i k a + endN S i k b | _ => 0) = _
      rw [e]
    have e2 : goN S (k + 1) s = 0 := by
      show (match at' S s with | .toss a b => goN S k a + goN S k b | _ => 0) = _
      rw [e]
    rw [List.map_congr_left (g := fun _ => 0) fun i _ => e1 i, mc_sum0, e2]
theorem end_go {n : Nat} {S : Mch} (hM : MacOk n S) : ∀ (k s : Nat), s < S.length → allN S n (k + 1) s = 2 * goN S k s
  | k, s, hs => by
    rw [all_succ]
    have hf := fol_lt hM hs
    cases e : at' S s with
    | out j =>
      have : goN S k s = 0 := by cases k <;> (unfold goN; rw [e])
      rw [this]
    | toss a b =>
      rw [e] at hf
      have ha := hf a (by simp [fols])
      have hb := hf b (by simp [fols])
      cases k with
      | zero =>
        have : goN S 0 s = 1 := by unfold goN; rw [e]
        simp only [all_zero hM ha, all_zero hM hb, this]
      | succ k =>
        have : goN S (k + 1) s = goN S k a + goN S k b := by
          show (match at' S s with | .toss a b => goN S k a + goN S k b | _ => 0) = _
          rw [e]
        simp only [end_go hM k a ha, end_go hM k b hb, this]
        omega
theorem tops_all {n : Nat} {S : Mch} (hM : MacOk n S) : ∀ t, ((List.range n).map fun i => topsN S i t).sum + goN S t 0 = 2 ^ t
  | 0 => all_zero hM (List.length_pos_iff.mpr hM.ne)
  | t + 1 => by
    have h1 := tops_all hM t
    have h2 := end_go hM t 0 (List.length_pos_iff.mpr hM.ne)
    unfold allN at h2
    show ((List.range n).map fun i => 2 * topsN S i t + endN S i (t + 1) 0).sum + _ = _
    rw [mc_sumd, Nat.pow_succ]
    omega
theorem endN_le (S : Mch) (i : Nat) : ∀ k s, endN S i k s ≤ 2 ^ k
  | 0, s => by
    unfold endN
    split
    · split <;> decide
    · decide
  | k + 1, s => by
    show (match at' S s with | .toss a b => endN S i k a + endN S i k b | _ => 0) ≤ _
    rw [Nat.pow_succ]
    split
    · rename_i a b _
      have h1 := endN_le S i k a
      have h2 := endN_le S i k b
      show endN S i k a + endN S i k b ≤ _
      omega
    · omega
/-! ### all rows of bits; two machines behind one bit; machines turned -/
def bitRows : Nat → List (List Nat)
  | 0 => [[]]
  | k + 1 => (bitRows k).flatMap fun l => [l ++ [0], l ++ [1]]
def Sd.map (f : Nat → Nat) : Sd → Sd
  | .toss a b => .toss (f a) (f b)
  | .out i => .out i
def both (S T : Mch) : Mch := .toss 1 (1 + S.length) :: (S.map (Sd.map (· + 1)) ++ T.map (Sd.map (· + (1 + S.length))))
end MR

/-! Md: runs cut short, rows counted one by one, machines turned, machines put together. -/
namespace MR
theorem runR_out {S : Mch} {s i : Nat} (h : at' S s = .out i) (bs : List Nat) : runR S s bs = some (i, 0) := by
  have : led S s bs = (s, 0) := by
    cases bs with
    | nil => rfl
    | cons b bs => show (match at' S s with | .out _ => (s, 0) | .toss x y => _) = _; rw [h]
  unfold runR
  rw [this]
  simp only [h]
theorem runR_nil {S : Mch} {s x y : Nat} (h : at' S s = .toss x y) : runR S s [] = none := by
  unfold runR
  rw [show led S s [] = (s, 0) from rfl]
  simp only [h]
theorem runR_cons {S : Mch} {s x y : Nat} (h : at' S s = .toss x y) (b : Nat) (bs : List Nat) : runR S s (b :: bs) = (runR S (if b = 0 then x else y) bs).map fun p => (p.1, p.2 + 1) := by
  have e : led S s (b :: bs) = ((led S (if b = 0 then x else y) bs).1, (led S (if b = 0 then x else y) bs).2 + 1) := by
    show (match at' S s with | .out _ => (s, 0) | .toss x y => _) = _
    rw [h]
  unfold runR
  rw [e]
  simp only
  cases at' S (led S (if b = 0 then x else y) bs).1 <;> rfl
theorem run_take {S : Mch} {i : Nat} : ∀ (bs : List Nat) (s k : Nat), runR S s bs = some (i, k) → k ≤ bs.length ∧ runR S s (bs.take k) = some (i, k) ∧ (0 < k → runR S s (bs.take (k - 1)) = none)
  | bs, s, k, h => by
    cases c : at' S s with
    | out j =>
      rw [runR_out c] at h
      have h := Option.some.inj h
      rw [Prod.mk.injEq] at h
      obtain ⟨rfl, rfl⟩ := h
      exact ⟨Nat.zero_le _, runR_out c _, fun z => by omega⟩
    | toss x y =>
      cases bs with
      | nil => rw [runR_nil c] at h; cases h
      | cons b bs =>
        rw [runR_cons c] at h
        cases e : runR S (if b = 0 then x else y) bs with
        | none => rw [e] at h; cases h
        | some p =>
          rw [e] at h
          have h := Option.some.inj h
          rw [Prod.mk.injEq] at h
          obtain ⟨h1, h2⟩ := h
          obtain ⟨q1, q2, q3⟩ := run_take (i := p.1) bs (if b = 0 then x else y) p.2 (by rw [e])
          have hk : k = p.2 + 1 := h2.symm
          subst hk
          rw [h1] at q2
          refine ⟨by rw [List.length_cons]; omega, ?_, fun _ => ?_⟩
          · rw [List.take_succ_cons, runR_cons c, q2]
            rfl
          · rw [Nat.add_sub_cancel]
            cases e2 : p.2 with
            | zero => rw [List.take_zero]; exact runR_nil c
            | succ j =>
              have := q3 (by omega)
              rw [e2, Nat.add_sub_cancel] at this
              rw [List.take_succ_cons, runR_cons c, this]
              rfl
theorem bitRows_perm : ∀ k, List.Perm (bitRows (k + 1)) ((bitRows k).map (0 :: ·) ++ (bitRows k).map (1 :: ·))
  | 0 => by decide
  | k + 1 => by
    have h := (bitRows_perm k).flatMap_right fun l => [l ++ [0], l ++ [1]]
    have e : ∀ (d : Nat) (L : List (List Nat)), (L.map (d :: ·)).flatMap (fun l => [l ++ [0], l ++ [1]]) = (L.flatMap fun l => [l ++ [0], l ++ [1]]).map (d :: ·) := fun d L => by
      induction L with
      | nil => rfl
      | cons a L ih => rw [List.map_cons, List.flatMap_cons, List.flatMap_cons, List.map_append, ih]; rfl
    rw [List.flatMap_append, e, e] at h
    exact h
def cntR (S : Mch) (i k s : Nat) : Nat := ((bitRows k).filter fun b => runR S s b == some (i, k)).length
theorem cnt_end (S : Mch) (i : Nat) : ∀ k s, cntR S i k s = endN S i k s
  | 0, s => by
    unfold cntR
    show (([[]] : List (List Nat)).filter fun b => runR S s b == some (i, 0)).length = _
    unfold endN
    cases c : at' S s with
    | out j =>
      rw [List.filter_cons, runR_out c]
      by_cases h : j = i
      · subst h; simp
      · simp [h]
    | toss x y =>
      rw [List.filter_cons, runR_nil c]
      simp
  | k + 1, s => by
    have hp := ((bitRows_perm k).filter fun b => runR S s b == some (i, k + 1)).length_eq
    have hu : cntR S i (k + 1) s = ((bitRows (k + 1)).filter fun b => runR S s b == some (i, k + 1)).length := rfl
    rw [hu, hp, List.filter_append, List.length_append, List.filter_map, List.filter_map, List.length_map, List.length_map]
    show _ = (match at' S s with | .toss a b => endN S i k a + endN S i k b | _ => 0)
    cases c : at' S s with
    | out j =>
      have e : ∀ d : Nat, ((fun b => runR S s b == some (i, k + 1)) ∘ fun x => d :: x) = fun _ => false := fun d => by
        funext b
        simp only [Function.comp, runR_out c]
        rw [beq_eq_false_iff_ne]
        intro h
        have := Option.some.inj h
        rw [Prod.mk.injEq] at this
        omega
      rw [e, e]
      simp
    | toss x y =>
      have e : ∀ (d t : Nat), (if d = 0 then x else y) = t → ((fun b => runR S s b == some (i, k + 1)) ∘ fun x => d :: x) = fun b => runR S t b == some (i, k) := fun d t ht => by
        funext b
        simp only [Function.comp, runR_cons c, ht]
        cases runR S t b with
        | none => rfl
        | some p =>
          rw [Bool.eq_iff_iff, beq_iff_eq, beq_iff_eq]
          simp only [Option.map_some, Option.some.injEq]
          rw [Prod.ext_iff, Prod.ext_iff]
          simp
      rw [e 0 x (by simp), e 1 y (by simp)]
      exact congr (congrArg _ (cnt_end S i k x)) (cnt_end S i k y)
theorem run_bnd {n : Nat} {S : Mch} (hM : MacOk n S) : ∀ {bs : List Nat} {s : Nat} {p : Nat × Nat}, s < S.length → runR S s bs = some p → p.1 < n ∧ p.2 ≤ bs.length
  | bs, s, p, hs, h => by
    have hf := fol_lt hM hs
    have ha := hM.all _ (at_mem hs)
    cases c : at' S s with
    | out j =>
      rw [c] at ha
      rw [runR_out c] at h
      have h := Option.some.inj h
      subst h
      exact ⟨ha, Nat.zero_le _⟩
    | toss x y =>
      rw [c] at hf
      cases bs with
      | nil => rw [runR_nil c] at h; cases h
      | cons b bs =>
        rw [runR_cons c] at h
        cases e : runR S (if b = 0 then x else y) bs with
        | none => rw [e] at h; cases h
        | some q =>
          rw [e] at h
          have h := Option.some.inj h
          subst h
          obtain ⟨h1, h2⟩ := run_bnd hM (bs := bs) (s := if b = 0 then x else y) (by split; exact hf x (by simp [fols]); exact hf y (by simp [fols])) e
          exact ⟨h1, by rw [List.length_cons]; show q.2 + 1 ≤ _; omega⟩
/-! ### turned -/
structure Iso (S T : Mch) (f : Nat → Nat) : Prop where
  at_ : ∀ s, s < S.length → at' T (f s) = (at' S s).map f
theorem iso_end {n : Nat} {S T : Mch} {f : Nat → Nat} (hM : MacOk n S) (h : Iso S T f) (i : Nat) : ∀ k s, s < S.length → endN T i k (f s) = endN S i k s
  | 0, s, hs => by
    unfold endN
    rw [h.at_ s hs]
    cases at' S s <;> rfl
  | k + 1, s, hs => by
    show (match at' T (f s) with | .toss a b => endN T i k a + endN T i k b | _ => 0) = (match at' S s with | .toss a b => endN S i k a + endN S i k b | _ => 0)
    have hf := fol_lt hM hs
    rw [h.at_ s hs]
    cases c : at' S s with
    | out j => rfl
    | toss x y =>
      rw [c] at hf
      show endN T i k (f x) + endN T i k (f y) = endN S i k x + endN S i k y
      rw [iso_end hM h i k x (hf x (by simp [fols])), iso_end hM h i k y (hf y (by simp [fols]))]
theorem iso_run {n : Nat} {S T : Mch} {f : Nat → Nat} (hM : MacOk n S) (h : Iso S T f) : ∀ (bs : List Nat) (s : Nat), s < S.length → runR T (f s) bs = runR S s bs
  | bs, s, hs => by
    have hf := fol_lt hM hs
    have ha := h.at_ s hs
    cases c : at' S s with
    | out j =>
      rw [c] at ha
      rw [runR_out c, runR_out (i := j) ha]
    | toss x y =>
      rw [c] at ha hf
      cases bs with
      | nil => rw [runR_nil c, runR_nil (x := f x) (y := f y) ha]
      | cons b bs =>
        rw [runR_cons c, runR_cons (x := f x) (y := f y) ha]
        have e : (if b = 0 then f x else f y) = f (if b = 0 then x else y) := by split <;> rfl
        rw [e, iso_run hM h bs _ (by split; exact hf x (by simp [fols]); exact hf y (by simp [fols]))]
theorem iso_tops {n : Nat} {S T : Mch} {f : Nat → Nat} (hM : MacOk n S) (h : Iso S T f) (h0 : f 0 = 0) (i : Nat) : ∀ t, topsN T i t = topsN S i t
  | 0 => by
    have := iso_end hM h i 0 0 (List.length_pos_iff.mpr hM.ne)
    rw [h0] at this
    exact this
  | t + 1 => by
    have := iso_end hM h i (t + 1) 0 (List.length_pos_iff.mpr hM.ne)
    rw [h0] at this
    show 2 * topsN T i t + endN T i (t + 1) 0 = 2 * topsN S i t + endN S i (t + 1) 0
    rw [iso_tops hM h h0 i t, this]
def turnM (S : Mch) (O : List Nat) : Mch := O.map fun a => (at' S a).map fun x => O.idxOf x
theorem turn_iso {n : Nat} {S : Mch} {O : List Nat} (hM : MacOk n S) (hO : List.Perm O (List.range S.length)) : MacOk n (turnM S O) ∧ (turnM S O).length = S.length ∧ Iso S (turnM S O) fun x => O.idxOf x := by
  have hl : O.length = S.length := by rw [hO.length_eq, List.length_range]
  have hm : ∀ s, s < S.length → s ∈ O := fun s hs => hO.mem_iff.mpr (List.mem_range.mpr hs)
  have hT : (turnM S O).length = S.length := by unfold turnM; rw [List.length_map, hl]
  have h0 := List.length_pos_iff.mpr hM.ne
  refine ⟨⟨hM.n1, hM.n8, fun h => by rw [h] at hT; simp at hT; omega, fun z hz => ?_⟩, hT, ⟨fun s hs => ?_⟩⟩
  · rw [hT]
    unfold turnM at hz
    obtain ⟨a, ha, rfl⟩ := List.mem_map.mp hz
    have has : a < S.length := List.mem_range.mp (hO.mem_iff.mp ha)
    have := hM.all _ (at_mem has)
    cases c : at' S a with
    | out j => rw [c] at this; exact this
    | toss x y =>
      rw [c] at this
      exact ⟨by rw [← hl]; exact List.idxOf_lt_length_iff.mpr (hm x this.1), by rw [← hl]; exact List.idxOf_lt_length_iff.mpr (hm y this.2)⟩
  · have hi : O.idxOf s < O.length := List.idxOf_lt_length_iff.mpr (hm s hs)
    have : (turnM S O)[O.idxOf s]? = some ((at' S s).map fun x => O.idxOf x) := by
      unfold turnM
      rw [List.getElem?_map, List.getElem?_eq_getElem hi, List.getElem_idxOf]
      rfl
    show (turnM S O).getD (O.idxOf s) (.out 0) = _
    rw [List.getD_eq_getElem?_getD, this]
    rfl
/-! ### put together -/
theorem both_one (S T : Mch) : Iso S (both S T) (· + 1) := ⟨fun s hs => by
  have : (both S T)[s + 1]? = some ((at' S s).map (· + 1)) := by
    show (S.map (Sd.map (· + 1)) ++ T.map (Sd.map (· + (1 + S.length))))[s]? = _
    rw [List.getElem?_append_left (by simpa using hs), List.getElem?_map, at_get hs]
    rfl
  show (both S T).getD (s + 1) (.out 0) = _
  rw [List.getD_eq_getElem?_getD, this]
  rfl⟩
theorem both_two (S T : Mch) : Iso T (both S T) (· + (1 + S.length)) := ⟨fun s hs => by
  have : (both S T)[s + (1 + S.length)]? = some ((at' T s).map (· + (1 + S.length))) := by
    rw [show s + (1 + S.length) = (S.length + s) + 1 by omega]
    show (S.map (Sd.map (· + 1)) ++ T.map (Sd.map (· + (1 + S.length))))[S.length + s]? = _
    rw [List.getElem?_append_right (by simp), List.length_map, Nat.add_sub_cancel_left, List.getElem?_map, at_get hs]
    rfl
  show (both S T).getD (s + (1 + S.length)) (.out 0) = _
  rw [List.getD_eq_getElem?_getD, this]
  rfl⟩
theorem both_end {n m : Nat} {S T : Mch} (hS : MacOk n S) (hT : MacOk m T) (i k : Nat) : endN (both S T) i (k + 1) 0 = endN S i k 0 + endN T i k 0 := by
  have h1 := iso_end hS (both_one S T) i k 0 (List.length_pos_iff.mpr hS.ne)
  have h2 := iso_end hT (both_two S T) i k 0 (List.length_pos_iff.mpr hT.ne)
  show endN (both S T) i k 1 + endN (both S T) i k (1 + S.length) = _
  rw [Nat.zero_add] at h1 h2
  rw [h1, h2]
theorem both_run {m : Nat} {S T : Mch} (hT : MacOk m T) (bs : List Nat) : runR (both S T) 0 (1 :: bs) = (runR T 0 bs).map fun p => (p.1, p.2 + 1) := by
  have h2 := iso_run hT (both_two S T) bs 0 (List.length_pos_iff.mpr hT.ne)
  rw [Nat.zero_add] at h2
  rw [runR_cons (x := 1) (y := 1 + S.length) rfl, if_neg (by decide), h2]
theorem end_big {n : Nat} {S : Mch} (hM : MacOk n S) {i : Nat} (hi : n ≤ i) : ∀ k s, s < S.length → endN S i k s = 0
  | 0, s, hs => by
    have := hM.all _ (at_mem hs)
    unfold endN
    cases c : at' S s with
    | toss x y => rfl
    | out j =>
      rw [c] at this
      have hj : j < n := this
      show (if j = i then 1 else 0) = 0
      rw [if_neg (by omega)]
  | k + 1, s, hs => by
    have hf := fol_lt hM hs
    show (match at' S s with | .toss a b => endN S i k a + endN S i k b | _ => 0) = 0
    cases c : at' S s with
    | out j => rfl
    | toss x y =>
      rw [c] at hf
      show endN S i k x + endN S i k y = 0
      rw [end_big hM hi k x (hf x (by simp [fols])), end_big hM hi k y (hf y (by simp [fols]))]
theorem both_ok {n m : Nat} {S T : Mch} (hS : MacOk n S) (hT : MacOk m T) : MacOk (max n m) (both S T) := by
  have l1 := List.length_pos_iff.mpr hS.ne
  have l2 := List.length_pos_iff.mpr hT.ne
  have hl : (both S T).length = 1 + S.length + T.length := by unfold both; simp; omega
  have := hS.n1
  have := hS.n8
  have := hT.n8
  refine ⟨by omega, by omega, by unfold both; simp, fun s hs => ?_⟩
  rw [hl]
  unfold both at hs
  rcases List.mem_cons.mp hs with rfl | hs
  · exact ⟨by omega, by omega⟩
  · rcases List.mem_append.mp hs with hs | hs
    · obtain ⟨z, hz, rfl⟩ := List.mem_map.mp hs
      have := hS.all z hz
      cases z with
      | toss x y => exact ⟨by show x + 1 < _; have := this.1; omega, by show y + 1 < _; have := this.2; omega⟩
      | out j => show j < _; have h : j < n := this; omega
    · obtain ⟨z, hz, rfl⟩ := List.mem_map.mp hs
      have := hT.all z hz
      cases z with
      | toss x y => exact ⟨by show x + (1 + S.length) < _; have := this.1; omega, by show y + (1 + S.length) < _; have := this.2; omega⟩
      | out j => show j < _; have h : j < m := this; omega
end MR

/-! Fx: a layer of plain values over the hand layer: readings as transformers over plain data. -/
namespace Fx
open PySem PySem.Spec PyProof.Rows L2

/-- plain values: numbers, texts, tuples, lists that nobody changes any more, and names of things that change -/
inductive PV where
  | non | bl (b : Bool) | int (i : Int) | str (x : Str) | ty (n : String)
  | tup (xs : List PV) | lst (xs : List PV) | kl (xs : List PV) | mr (n : Nat)

/-- what changes: lists and dicts, by their numbers in the store -/
inductive MO where
  | lst (xs : List PV) | dk (kvs : List (Key × PV)) | fd (o : Obj) (ws : List (Key × V)) (kvs : List (Key × PV))
abbrev Store := List MO
abbrev PEnv := List (Option PV)

/-- where the things of the store stand; what is being made -/
structure Wd where
  am : List Addr
  ban : List Addr

def hp0 : Hp := fun _ => none
section
variable (K : PySem.W.Frag) (d : Wd) (H : Hp)
def TupAt (a : Addr) (vs : List V) : Prop := (Rd H a (.tup vs) ∧ a ∉ d.am) ∨ SqT K hp0 a vs
def LstAt (a : Addr) (vs : List V) : Prop := H a = some (.lst vs) ∧ a ∉ d.am ∧ a ∉ d.ban
/-- a list that is only read: the script, a list of the module -/
def KlAt (a : Addr) (vs : List V) : Prop := (Rd H a (.lst vs) ∧ a ∉ d.am ∧ a ∉ d.ban) ∨ SqL K hp0 a vs
mutual
inductive RV : PV → V → Prop
  | non : RV .non .non
  | bl (b : Bool) : RV (.bl b) (.bl b)
  | int (i : Int) : RV (.int i) (.int i)
  | str (x : Str) : RV (.str x) (.str x)
  | ty (n : String) : RV (.ty n) (.ty n)
  | tup {xs : List PV} {a : Addr} {vs : List V} : TupAt K d H a vs → RVs xs vs → RV (.tup xs) (.ref a)
  | lst {xs : List PV} {a : Addr} {vs : List V} : LstAt d H a vs → RVs xs vs → RV (.lst xs) (.ref a)
  | kl {xs : List PV} {a : Addr} {vs : List V} : KlAt K d H a vs → RVs xs vs → RV (.kl xs) (.ref a)
  | mr {n : Nat} {a : Addr} : d.am[n]? = some a → RV (.mr n) (.ref a)
inductive RVs : List PV → List V → Prop
  | nil : RVs [] []
  | cons {x : PV} {v : V} {xs : List PV} {vs : List V} : RV x v → RVs xs vs → RVs (x :: xs) (v :: vs)
end
def MOK (a : Addr) : MO → Prop
  | .lst xs => ∃ vs, H a = some (.lst vs) ∧ RVs K d H xs vs
  | .dk kvs => ∃ vs, H a = some (.dK vs) ∧ vs.map (·.1) = kvs.map (·.1) ∧ RVs K d H (kvs.map (·.2)) (vs.map (·.2))
  | .fd o vs kvs => H a = some (.frz o (.dK vs)) ∧ vs.map (·.1) = kvs.map (·.1) ∧ RVs K d H (kvs.map (·.2)) (vs.map (·.2))
structure WOk (μ : Store) : Prop where
  len : d.am.length = μ.length
  nd : d.am.Nodup
  ob : ∀ (i : Nat) (a : Addr) (m : MO), d.am[i]? = some a → μ[i]? = some m → MOK K d H a m
  ban : ∀ b ∈ d.ban, H b ≠ none ∧ b ∉ d.am
def REnv (ρ : PEnv) (σ : L2.St) : Prop := ρ.length = σ.length ∧ ∀ (i : Nat) x, ρ[i]? = some (some x) → ∃ v, σ[i]? = some (some v) ∧ RV K d H x v
end

structure Ext (d : Wd) (H : Hp) (d' : Wd) (H' : Hp) : Prop where
  am : ∃ ex, d'.am = d.am ++ ex ∧ ∀ p ∈ ex, H p = none ∧ p ∉ d.am
  ban : d'.ban = d.ban
  keep : ∀ b o, H b = some o → b ∉ d.am → H' b = some o

section
variable {K : PySem.W.Frag} {d d' d'' : Wd} {H H' H'' : Hp} {a : Addr} {vs : List V} {μ : Store}
theorem Ext.refl : Ext d H d H := ⟨⟨[], by simp, fun p hp => by simp at hp⟩, rfl, fun _ _ e _ => e⟩
theorem Ext.mem (e : Ext d H d' H') (h : a ∈ d.am) : a ∈ d'.am := by
  obtain ⟨ex, q, _⟩ := e.am
  rw [q]; exact List.mem_append_left _ h
theorem Ext.at (e : Ext d H d' H') {n : Nat} (h : d.am[n]? = some a) : d'.am[n]? = some a := by
  obtain ⟨ex, q, _⟩ := e.am
  rw [q, List.getElem?_append_left]
  · exact h
  · exact (List.getElem?_eq_some_iff.mp h).1
theorem Ext.nmem (e : Ext d H d' H') (h : a ∉ d.am) (t : H a ≠ none) : a ∉ d'.am := by
  obtain ⟨ex, q, f⟩ := e.am
  rw [q]
  intro z
  rcases List.mem_append.mp z with z | z
  · exact h z
  · exact t (f a z).1
theorem Ext.trans (e : Ext d H d' H') (f : Ext d' H' d'' H'') : Ext d H d'' H'' := by
  refine ⟨?_, f.ban.trans e.ban, fun b o h n => f.keep b o (e.keep b o h n) (e.nmem n (by rw [h]; simp))⟩
  obtain ⟨x1, q1, f1⟩ := e.am
  obtain ⟨x2, q2, f2⟩ := f.am
  refine ⟨x1 ++ x2, by rw [q2, q1, List.append_assoc], fun p hp => ?_⟩
  rcases List.mem_append.mp hp with hp | hp
  · exact f1 p hp
  · obtain ⟨n1, n2⟩ := f2 p hp
    have n3 : p ∉ d.am := fun z => n2 (e.mem z)
    refine ⟨?_, n3⟩
    cases q : H p with
    | none => rfl
    | some o => rw [e.keep p o q n3] at n1; cases n1
theorem Rd.ne {u : HO} (r : Rd H a u) : H a ≠ none := by
  rcases r with r | ⟨o, r⟩ <;> rw [r] <;> simp
theorem Ext.rd (e : Ext d H d' H') {u : HO} (r : Rd H a u) (n : a ∉ d.am) : Rd H' a u := by
  rcases r with r | ⟨o, r⟩
  · exact .inl (e.keep _ _ r n)
  · exact .inr ⟨o, e.keep _ _ r n⟩
theorem Ext.tupAt (e : Ext d H d' H') (h : TupAt K d H a vs) : TupAt K d' H' a vs := by
  rcases h with ⟨r, n⟩ | h
  · exact .inl ⟨e.rd r n, e.nmem n (Rd.ne r)⟩
  · exact .inr h
theorem Ext.lstAt (e : Ext d H d' H') (h : LstAt d H a vs) : LstAt d' H' a vs := by
  obtain ⟨r, n, b⟩ := h
  exact ⟨e.keep _ _ r n, e.nmem n (by rw [r]; simp), by rw [e.ban]; exact b⟩
theorem Ext.klAt (e : Ext d H d' H') (h : KlAt K d H a vs) : KlAt K d' H' a vs := by
  rcases h with ⟨r, n, b⟩ | h
  · exact .inl ⟨e.rd r n, e.nmem n (Rd.ne r), by rw [e.ban]; exact b⟩
  · exact .inr h
mutual
theorem RV.mono (e : Ext d H d' H') : ∀ {x : PV} {v : V}, RV K d H x v → RV K d' H' x v
  | _, _, .non => .non
  | _, _, .bl b => .bl b
  | _, _, .int i => .int i
  | _, _, .str x => .str x
  | _, _, .ty n => .ty n
  | _, _, .tup h r => .tup (e.tupAt h) (RVs.mono e r)
  | _, _, .lst h r => .lst (e.lstAt h) (RVs.mono e r)
  | _, _, .kl h r => .kl (e.klAt h) (RVs.mono e r)
  | _, _, .mr h => .mr (e.at h)
theorem RVs.mono (e : Ext d H d' H') : ∀ {xs : List PV} {vs : List V}, RVs K d H xs vs → RVs K d' H' xs vs
  | _, _, .nil => .nil
  | _, _, .cons r t => .cons (RV.mono e r) (RVs.mono e t)
end
theorem SqT.of0 (h : SqT K hp0 a vs) : SqT K H a vs := by
  rcases h with (h | ⟨o, h⟩) | h
  · cases h
  · cases h
  · exact .inr h
theorem SqL.of0 (h : SqL K hp0 a vs) : SqL K H a vs := by
  rcases h with (h | ⟨o, h⟩) | h
  · cases h
  · cases h
  · exact .inr h
theorem TupAt.sq (h : TupAt K d H a vs) : SqT K H a vs := by
  rcases h with ⟨r, n⟩ | h
  · exact .inl r
  · exact SqT.of0 h
theorem LstAt.sq (h : LstAt d H a vs) : SqL K H a vs := .of h.1
theorem KlAt.sq (h : KlAt K d H a vs) : SqL K H a vs := by
  rcases h with ⟨r, n⟩ | h
  · exact .inl r
  · exact SqL.of0 h
theorem RVs.length : ∀ {xs : List PV} {vs : List V}, RVs K d H xs vs → xs.length = vs.length
  | _, _, .nil => rfl
  | _, _, .cons _ t => by rw [List.length_cons, List.length_cons, RVs.length t]
theorem RVs.get : ∀ {xs : List PV} {vs : List V} {i : Nat} {x : PV}, RVs K d H xs vs → xs[i]? = some x → ∃ v, vs[i]? = some v ∧ RV K d H x v
  | _, _, _, _, .nil, h => by simp at h
  | _, _, 0, _, .cons r _, h => by
    simp at h; subst h; exact ⟨_, rfl, r⟩
  | _, _, i + 1, _, .cons _ t, h => by
    obtain ⟨v, e, r⟩ := RVs.get (i := i) t (by simpa using h)
    exact ⟨v, by simpa using e, r⟩
theorem RVs.getr : ∀ {xs : List PV} {vs : List V} {i : Nat} {v : V}, RVs K d H xs vs → vs[i]? = some v → ∃ x, xs[i]? = some x ∧ RV K d H x v
  | _, _, _, _, .nil, h => by simp at h
  | _, _, 0, _, .cons r _, h => by
    simp at h; subst h; exact ⟨_, rfl, r⟩
  | _, _, i + 1, _, .cons _ t, h => by
    obtain ⟨v, e, r⟩ := RVs.getr (i := i) t (by simpa using h)
    exact ⟨v, by simpa using e, r⟩
theorem RVs.append : ∀ {xs ys : List PV} {vs us : List V}, RVs K d H xs vs → RVs K d H ys us → RVs K d H (xs ++ ys) (vs ++ us)
  | _, _, _, _, .nil, h => h
  | _, _, _, _, .cons r t, h => .cons r (RVs.append t h)
theorem RVs.drop : ∀ {xs : List PV} {vs : List V} (n : Nat), RVs K d H xs vs → RVs K d H (xs.drop n) (vs.drop n)
  | _, _, 0, h => h
  | _, _, _ + 1, .nil => .nil
  | _, _, n + 1, .cons _ t => RVs.drop n t
theorem RVs.take : ∀ {xs : List PV} {vs : List V} (n : Nat), RVs K d H xs vs → RVs K d H (xs.take n) (vs.take n)
  | _, _, 0, h => .nil
  | _, _, _ + 1, .nil => .nil
  | _, _, n + 1, .cons r t => .cons r (RVs.take n t)
theorem RVs.rev : ∀ {xs : List PV} {vs : List V}, RVs K d H xs vs → RVs K d H xs.reverse vs.reverse
  | _, _, .nil => .nil
  | _, _, .cons r t => by
    rw [List.reverse_cons, List.reverse_cons]
    exact (RVs.rev t).append (.cons r .nil)
theorem RVs.set {x : PV} {v : V} (r : RV K d H x v) : ∀ {xs : List PV} {vs : List V} (i : Nat), RVs K d H xs vs → RVs K d H (xs.set i x) (vs.set i v)
  | _, _, _, .nil => .nil
  | _, _, 0, .cons _ t => .cons r t
  | _, _, i + 1, .cons q t => .cons q (RVs.set r i t)
theorem RVs.ints : ∀ {ns : List Int} {vs : List V}, RVs K d H (ns.map PV.int) vs → vs = ns.map V.int
  | [], _, .nil => rfl
  | n :: ns, _, .cons (.int _) t => by rw [RVs.ints t]; rfl
theorem RVs.bools : ∀ {bs : List Bool} {vs : List V}, RVs K d H (bs.map PV.bl) vs → vs = bs.map V.bl
  | [], _, .nil => rfl
  | n :: ns, _, .cons (.bl _) t => by rw [RVs.bools t]; rfl
theorem RVs.of_ints : ∀ (ns : List Int), RVs K d H (ns.map PV.int) (ns.map V.int)
  | [] => .nil
  | n :: ns => .cons (.int n) (RVs.of_ints ns)
theorem REnv.mono (e : Ext d H d' H') {ρ : PEnv} {σ : L2.St} (h : REnv K d H ρ σ) : REnv K d' H' ρ σ :=
  ⟨h.1, fun i x q => let ⟨v, a, b⟩ := h.2 i x q; ⟨v, a, b.mono e⟩⟩
theorem REnv.set {ρ : PEnv} {σ : L2.St} (h : REnv K d H ρ σ) {x : PV} {v : V} (r : RV K d H x v) (i : Nat) : REnv K d H (ρ.set i (some x)) (σ.set i (some v)) := by
  refine ⟨by rw [List.length_set, List.length_set]; exact h.1, fun j y q => ?_⟩
  rw [List.getElem?_set] at q ⊢
  by_cases hij : i = j
  · subst hij
    by_cases hl : i < ρ.length
    · rw [if_pos rfl, if_pos hl] at q
      simp at q; subst q
      exact ⟨v, by rw [if_pos rfl, if_pos (by rw [← h.1]; exact hl)], r⟩
    · rw [if_pos rfl, if_neg hl] at q; cases q
  · rw [if_neg hij] at q ⊢
    exact h.2 j y q
theorem REnv.unset {ρ : PEnv} {σ : L2.St} (h : REnv K d H ρ σ) (i : Nat) : REnv K d H (ρ.set i none) (σ.set i none) := by
  refine ⟨by rw [List.length_set, List.length_set]; exact h.1, fun j y q => ?_⟩
  rw [List.getElem?_set] at q ⊢
  by_cases hij : i = j
  · subst hij
    rw [if_pos rfl] at q
    split at q <;> cases q
  · rw [if_neg hij] at q ⊢
    exact h.2 j y q
/-- a new thing that is not in the store -/
theorem WOk.notin (w : WOk K d H μ) (h : H a = none) : a ∉ d.am := fun z => by
  obtain ⟨i, hi, e⟩ := List.getElem_of_mem z
  have e1 : d.am[i]? = some a := by rw [List.getElem?_eq_getElem hi, e]
  have hj : i < μ.length := by rw [← w.len]; exact hi
  have q := w.ob i a μ[i] e1 (List.getElem?_eq_getElem hj)
  cases m : μ[i] with
  | lst xs => rw [m] at q; obtain ⟨vs, q, _⟩ := q; rw [h] at q; cases q
  | dk kvs => rw [m] at q; obtain ⟨vs, q, _⟩ := q; rw [h] at q; cases q
  | fd o ws kvs => rw [m] at q; obtain ⟨q, _⟩ := q; rw [h] at q; cases q
theorem WOk.notban (w : WOk K d H μ) (h : H a = none) : a ∉ d.ban := fun z => (w.ban a z).1 h
theorem MOK.mono (e : Ext d H d' H') {m : MO} (hk : H' a = H a) (h : MOK K d H a m) : MOK K d' H' a m := by
  cases m with
  | lst xs => obtain ⟨vs, q, r⟩ := h; exact ⟨vs, by rw [hk]; exact q, r.mono e⟩
  | dk kvs => obtain ⟨vs, q, r1, r2⟩ := h; exact ⟨vs, by rw [hk]; exact q, r1, r2.mono e⟩
  | fd o ws kvs => obtain ⟨q, r1, r2⟩ := h; exact ⟨by rw [hk]; exact q, r1, r2.mono e⟩
/-- a thing is laid that is not in the store -/
theorem Ext.lay {o : HO} (w : WOk K d H μ) (h : H a = none) : Ext d H d (upd H a o) :=
  ⟨⟨[], by simp, fun p hp => by simp at hp⟩, rfl, fun b u e _ => by rw [upd_ne (ne_of_none e h)]; exact e⟩
theorem WOk.lay {o : HO} (w : WOk K d H μ) (h : H a = none) : WOk K d (upd H a o) μ := by
  have e : Ext d H d (upd H a o) := Ext.lay w h
  refine ⟨w.len, w.nd, fun i b m h1 h2 => ?_, fun b hb => ?_⟩
  · have hne : b ≠ a := by
      rintro rfl
      exact w.notin h (List.mem_of_getElem? h1)
    exact (w.ob i b m h1 h2).mono e (upd_ne hne)
  · obtain ⟨x, y⟩ := w.ban b hb
    refine ⟨?_, y⟩
    have hne : b ≠ a := by rintro rfl; exact x h
    rw [upd_ne hne]; exact x
/-- a new thing in the store -/
def Wd.push (d : Wd) (a : Addr) : Wd := ⟨d.am ++ [a], d.ban⟩
theorem Ext.push {o : HO} (w : WOk K d H μ) (h : H a = none) : Ext d H (d.push a) (upd H a o) :=
  ⟨⟨[a], rfl, fun p hp => by
    have : p = a := by simpa using hp
    subst this; exact ⟨h, w.notin h⟩⟩, rfl, fun b u e _ => by rw [upd_ne (ne_of_none e h)]; exact e⟩
theorem WOk.push {o : HO} {m : MO} (w : WOk K d H μ) (h : H a = none) (hm : MOK K (d.push a) (upd H a o) a m) : WOk K (d.push a) (upd H a o) (μ ++ [m]) := by
  have e : Ext d H (d.push a) (upd H a o) := Ext.push w h
  have na := w.notin h
  refine ⟨by simp [Wd.push, w.len], ?_, fun i b m' h1 h2 => ?_, fun b hb => ?_⟩
  · show (d.am ++ [a]).Nodup
    rw [List.nodup_append]
    exact ⟨w.nd, by simp, fun x hx y hy => by
      have : y = a := by simpa using hy
      subst this; rintro rfl; exact na hx⟩
  · replace h1 : (d.am ++ [a])[i]? = some b := h1
    by_cases hi : i < d.am.length
    · rw [List.getElem?_append_left hi] at h1
      rw [List.getElem?_append_left (by rw [← w.len]; exact hi)] at h2
      have hne : b ≠ a := by rintro rfl; exact na (List.mem_of_getElem? h1)
      exact (w.ob i b m' h1 h2).mono e (upd_ne hne)
    · have hi2 : i = d.am.length := by
        have := (List.getElem?_eq_some_iff.mp h1).1
        simp at this; omega
      subst hi2
      rw [List.getElem?_append_right (Nat.le_refl _)] at h1
      rw [w.len, List.getElem?_append_right (Nat.le_refl _)] at h2
      simp at h1 h2
      subst h1; subst h2
      exact hm
  · obtain ⟨x, y⟩ := w.ban b hb
    have hne : b ≠ a := by rintro rfl; exact x h
    exact ⟨by rw [upd_ne hne]; exact x, fun z => (List.mem_append.mp z).elim y (by simpa using hne)⟩
/-- a thing of the store changes -/
theorem Ext.chg {o : HO} (h : a ∈ d.am) : Ext d H d (upd H a o) :=
  ⟨⟨[], by simp, fun p hp => by simp at hp⟩, rfl, fun b u e n => by
    have hne : b ≠ a := by rintro rfl; exact n h
    rw [upd_ne hne]; exact e⟩
theorem WOk.chg {o : HO} {m : MO} {n : Nat} (w : WOk K d H μ) (h : d.am[n]? = some a) (hm : MOK K d (upd H a o) a m) : WOk K d (upd H a o) (μ.set n m) := by
  have ha : a ∈ d.am := List.mem_of_getElem? h
  have e : Ext d H d (upd H a o) := Ext.chg ha
  refine ⟨by rw [List.length_set]; exact w.len, w.nd, fun i b m' h1 h2 => ?_, fun b hb => ?_⟩
  · rw [List.getElem?_set] at h2
    by_cases hin : n = i
    · subst hin
      rw [h] at h1; cases h1
      rw [if_pos rfl] at h2
      split at h2
      · cases h2; exact hm
      · cases h2
    · rw [if_neg hin] at h2
      have hne : b ≠ a := by
        rintro rfl
        have z1 := List.getElem?_eq_some_iff.mp h
        have z2 := List.getElem?_eq_some_iff.mp h1
        obtain ⟨l1, z1⟩ := z1
        obtain ⟨l2, z2⟩ := z2
        exact hin ((List.getElem_inj w.nd).mp (z1.trans z2.symm))
      exact (w.ob i b m' h1 h2).mono e (upd_ne hne)
  · obtain ⟨x, y⟩ := w.ban b hb
    have hne : b ≠ a := by rintro rfl; exact y ha
    exact ⟨by rw [upd_ne hne]; exact x, y⟩
end
end Fx

/-! Fx2: readings of the hand layer as transformers over plain values. -/
namespace Fx
open PySem PySem.Spec PyProof.Rows L2

abbrev ME := PEnv → Store → (PV → Store → Prop) → Prop
abbrev MT := PEnv → Store → (Bool → Store → Prop) → Prop
abbrev MA := PEnv → Store → (List PV → Store → Prop) → Prop
structure MEnds where
  nx : PEnv → Store → Prop
  rt : PV → Store → Prop
  bk : PEnv → Store → Prop := fun _ _ => False
  ct : PEnv → Store → Prop := fun _ _ => False
abbrev MS := MEnds → PEnv → Store → Prop
abbrev MG := PV → PEnv → Store → (PEnv → Store → Prop) → Prop
abbrev MGs := List PV → PEnv → Store → (PEnv → Store → Prop) → Prop
abbrev MI := PEnv → Store → (List PV → Store → Prop) → Prop
abbrev MO2 := PV → PV → Store → (PV → Store → Prop) → Prop
abbrev MB := List PV → Store → (PV → Store → Prop) → Prop

section
variable (K : PySem.W.Frag)
class FE (t : TE) (m : outParam ME) : Prop where
  run : ∀ (d : Wd) (σ : L2.St) (H : Hp) (ρ : PEnv) (μ : Store) (P : PV → Store → Prop) (Q : VK), WOk K d H μ → REnv K d H ρ σ → m ρ μ P →
    (∀ d' H' μ' x v, Ext d H d' H' → WOk K d' H' μ' → RV K d' H' x v → P x μ' → Q v H') → t σ H Q
class FT (t : TT) (m : outParam MT) : Prop where
  run : ∀ (d : Wd) (σ : L2.St) (H : Hp) (ρ : PEnv) (μ : Store) (P : Bool → Store → Prop) (Q : Bool → Hp → Prop), WOk K d H μ → REnv K d H ρ σ → m ρ μ P →
    (∀ d' H' μ' b, Ext d H d' H' → WOk K d' H' μ' → P b μ' → Q b H') → t σ H Q
class FA (t : TA) (m : outParam MA) : Prop where
  run : ∀ (d : Wd) (σ : L2.St) (H : Hp) (ρ : PEnv) (μ : Store) (P : List PV → Store → Prop) (Q : List V → Hp → Prop), WOk K d H μ → REnv K d H ρ σ → m ρ μ P →
    (∀ d' H' μ' xs vs, Ext d H d' H' → WOk K d' H' μ' → RVs K d' H' xs vs → P xs μ' → Q vs H') → t σ H Q
structure Lk (d : Wd) (H : Hp) (P : MEnds) (D : Ends) : Prop where
  nx : ∀ d' σ' H' ρ' μ', Ext d H d' H' → WOk K d' H' μ' → REnv K d' H' ρ' σ' → P.nx ρ' μ' → D.nx σ' H'
  rt : ∀ d' H' μ' x v, Ext d H d' H' → WOk K d' H' μ' → RV K d' H' x v → P.rt x μ' → D.rt v H'
  bk : ∀ d' σ' H' ρ' μ', Ext d H d' H' → WOk K d' H' μ' → REnv K d' H' ρ' σ' → P.bk ρ' μ' → D.bk σ' H'
  ct : ∀ d' σ' H' ρ' μ', Ext d H d' H' → WOk K d' H' μ' → REnv K d' H' ρ' σ' → P.ct ρ' μ' → D.ct σ' H'
class FS (t : TS) (m : outParam MS) : Prop where
  run : ∀ (d : Wd) (σ : L2.St) (H : Hp) (ρ : PEnv) (μ : Store) (P : MEnds) (D : Ends), WOk K d H μ → REnv K d H ρ σ → m P ρ μ → Lk K d H P D → t D σ H
class FG (t : TG) (m : outParam MG) (sl : outParam (List Nat)) : Prop where
  run : ∀ (d : Wd) (σ : L2.St) (H : Hp) (ρ : PEnv) (μ : Store) (x : PV) (v : V) (P : PEnv → Store → Prop) (Q : L2.St → Hp → Prop), WOk K d H μ → REnv K d H ρ σ → RV K d H x v → m x ρ μ P →
    (∀ d' σ' H' ρ' μ', Ext d H d' H' → WOk K d' H' μ' → REnv K d' H' ρ' σ' → σ'.length = σ.length → (∀ i, i ∉ sl → σ'[i]? = σ[i]?) → P ρ' μ' → Q σ' H') → t v σ H Q
class FGs (t : TGs) (m : outParam MGs) (sl : outParam (List Nat)) : Prop where
  run : ∀ (d : Wd) (σ : L2.St) (H : Hp) (ρ : PEnv) (μ : Store) (xs : List PV) (vs : List V) (P : PEnv → Store → Prop) (Q : L2.St → Hp → Prop), WOk K d H μ → REnv K d H ρ σ → RVs K d H xs vs → m xs ρ μ P →
    (∀ d' σ' H' ρ' μ', Ext d H d' H' → WOk K d' H' μ' → REnv K d' H' ρ' σ' → σ'.length = σ.length → (∀ i, i ∉ sl → σ'[i]? = σ[i]?) → P ρ' μ' → Q σ' H') → t vs σ H Q
/-- the same world, perhaps with more that is being made -/
def Bars (d d' : Wd) (H : Hp) : Prop := d'.am = d.am ∧ ∀ b ∈ d'.ban, b ∈ d.ban ∨ H b = none
/-- what is walked: its items -/
def ItOk (d0 : Wd) (H0 : Hp) (J : It) (xs : List PV) : Prop :=
  ∀ d1 d H μ, Bars d0 d1 H0 → Ext d1 H0 d H → WOk K d H μ → (∀ (i : Nat) x, xs[i]? = some x → J.go i H ∧ ∀ v H', J.yld i H v H' → Ext d H d H' ∧ WOk K d H' μ ∧ RV K d H' x v) ∧ (∀ i, xs.length ≤ i → J.stop i H)
class FI (t : TI) (m : outParam MI) : Prop where
  run : ∀ (d : Wd) (σ : L2.St) (H : Hp) (ρ : PEnv) (μ : Store) (P : List PV → Store → Prop) (R : It → Hp → Prop), WOk K d H μ → REnv K d H ρ σ → m ρ μ P →
    (∀ d' H' μ' J xs, Ext d H d' H' → WOk K d' H' μ' → ItOk K d' H' J xs → P xs μ' → R J H') → t σ H R
/-- an operator by values -/
class F2 (r : R2) (p : outParam MO2) : Prop where
  run : ∀ (d : Wd) (H : Hp) (μ : Store) (x y : PV) (v u : V) (P : PV → Store → Prop) (Q : VK), WOk K d H μ → RV K d H x v → RV K d H y u → p x y μ P →
    (∀ d' H' μ' z w, Ext d H d' H' → WOk K d' H' μ' → RV K d' H' z w → P z μ' → Q w H') → r v u H Q
class F1 (r : V → Hp → VK → Prop) (p : outParam (PV → Store → (PV → Store → Prop) → Prop)) : Prop where
  run : ∀ (d : Wd) (H : Hp) (μ : Store) (x : PV) (v : V) (P : PV → Store → Prop) (Q : VK), WOk K d H μ → RV K d H x v → p x μ P →
    (∀ d' H' μ' z w, Ext d H d' H' → WOk K d' H' μ' → RV K d' H' z w → P z μ' → Q w H') → r v H Q
/-- a call of a built-in by values -/
class FB (r : List V → Hp → VK → Prop) (p : outParam MB) : Prop where
  run : ∀ (d : Wd) (H : Hp) (μ : Store) (xs : List PV) (vs : List V) (P : PV → Store → Prop) (Q : VK), WOk K d H μ → RVs K d H xs vs → p xs μ P →
    (∀ d' H' μ' z w, Ext d H d' H' → WOk K d' H' μ' → RV K d' H' z w → P z μ' → Q w H') → r vs H Q
/-- a method by values -/
class FM (r : V → List V → Hp → VK → Prop) (p : outParam (PV → List PV → Store → (PV → Store → Prop) → Prop)) : Prop where
  run : ∀ (d : Wd) (H : Hp) (μ : Store) (x : PV) (v : V) (xs : List PV) (vs : List V) (P : PV → Store → Prop) (Q : VK), WOk K d H μ → RV K d H x v → RVs K d H xs vs → p x xs μ P →
    (∀ d' H' μ' z w, Ext d H d' H' → WOk K d' H' μ' → RV K d' H' z w → P z μ' → Q w H') → r v vs H Q
end

section
variable {K : PySem.W.Frag}
theorem Lk.mono {d d1 : Wd} {H H1 : Hp} {P : MEnds} {D : Ends} (e : Ext d H d1 H1) (l : Lk K d H P D) : Lk K d1 H1 P D :=
  ⟨fun _ _ _ _ _ f => l.nx _ _ _ _ _ (e.trans f), fun _ _ _ _ _ f => l.rt _ _ _ _ _ (e.trans f), fun _ _ _ _ _ f => l.bk _ _ _ _ _ (e.trans f), fun _ _ _ _ _ f => l.ct _ _ _ _ _ (e.trans f)⟩

/-! ### names and constants -/
def mVar (i : Nat) : ME := fun ρ μ P => match ρ[i]? with | some (some x) => P x μ | _ => False
def mC (x : PV) : ME := fun _ μ P => P x μ
class CV (v : V) (x : outParam PV) : Prop where
  rv : ∀ K d H, RV K d H x v
instance : CV .non .non := ⟨fun _ _ _ => .non⟩
instance {b} : CV (.bl b) (.bl b) := ⟨fun _ _ _ => .bl b⟩
instance {b} : CV (.int b) (.int b) := ⟨fun _ _ _ => .int b⟩
instance {b} : CV (.str b) (.str b) := ⟨fun _ _ _ => .str b⟩
instance {b} : CV (.ty b) (.ty b) := ⟨fun _ _ _ => .ty b⟩
instance {i} : FE K (tVar i) (mVar i) := ⟨fun d σ H ρ μ P Q w e h k => by
  unfold mVar at h
  split at h
  · rename_i x hx
    obtain ⟨v, hv, r⟩ := e.2 i x hx
    exact ⟨v, hv, k d H μ x v .refl w r h⟩
  · exact h.elim⟩
instance {v x} [c : CV v x] : FE K (tC v) (mC x) := ⟨fun d σ H ρ μ P Q w e h k => k d H μ x v .refl w (c.rv _ _ _) h⟩

/-! ### operators -/
def mOp (p : MO2) (a b : ME) : ME := fun ρ μ P => a ρ μ fun x μ1 => b ρ μ1 fun y μ2 => p x y μ2 P
instance {r p ta tb ma mb} [h : F2 K r p] [ha : FE K ta ma] [hb : FE K tb mb] : FE K (tOp r ta tb) (mOp p ma mb) := ⟨fun d σ H ρ μ P Q w e q k => by
  refine ha.run d σ H ρ μ _ _ w e q fun d1 H1 μ1 x v e1 w1 r1 q1 => ?_
  refine hb.run d1 σ H1 ρ μ1 _ _ w1 (e.mono e1) q1 fun d2 H2 μ2 y u e2 w2 r2 q2 => ?_
  exact h.run d2 H2 μ2 x y v u P Q w2 (r1.mono e2) r2 q2 fun d3 H3 μ3 z w' e3 w3 r3 q3 => k d3 H3 μ3 z w' ((e1.trans e2).trans e3) w3 r3 q3⟩
def mUn (p : PV → Store → (PV → Store → Prop) → Prop) (a : ME) : ME := fun ρ μ P => a ρ μ fun x μ1 => p x μ1 P
instance {r p ta ma} [h : F1 K r p] [ha : FE K ta ma] : FE K (tUn r ta) (mUn p ma) := ⟨fun d σ H ρ μ P Q w e q k => by
  refine ha.run d σ H ρ μ _ _ w e q fun d1 H1 μ1 x v e1 w1 r1 q1 => ?_
  exact h.run d1 H1 μ1 x v P Q w1 r1 q1 fun d3 H3 μ3 z w' e3 w3 r3 q3 => k d3 H3 μ3 z w' (e1.trans e3) w3 r3 q3⟩

def pI (C : Int → Int → Prop) (g : Int → Int → PV) : MO2 := fun x y μ P => match x, y with | .int i, .int j => C i j ∧ P (g i j) μ | _, _ => False
def pI0 (g : Int → Int → PV) : MO2 := fun x y μ P => match x, y with | .int i, .int j => P (g i j) μ | _, _ => False
theorem pI_run {C : Int → Int → Prop} {g : Int → Int → PV} {x y : PV} {μ : Store} {P : PV → Store → Prop} (h : pI C g x y μ P) : ∃ i j, x = .int i ∧ y = .int j ∧ C i j ∧ P (g i j) μ := by
  cases x <;> cases y <;> first | exact h.elim | exact ⟨_, _, rfl, rfl, h.1, h.2⟩
theorem pI0_run {g : Int → Int → PV} {x y : PV} {μ : Store} {P : PV → Store → Prop} (h : pI0 g x y μ P) : ∃ i j, x = .int i ∧ y = .int j ∧ P (g i j) μ := by
  cases x <;> cases y <;> first | exact h.elim | exact ⟨_, _, rfl, rfl, h⟩
instance {C : Int → Int → Prop} {f : Int → Int → Int} : F2 K (rI C fun i j => .int (f i j)) (pI C fun i j => .int (f i j)) := ⟨fun d H μ x y v u P Q w r1 r2 q k => by
  obtain ⟨i, j, rfl, rfl, c, q⟩ := pI_run q
  cases r1; cases r2
  exact ⟨i, j, rfl, rfl, c, k d H μ _ _ .refl w (.int _) q⟩⟩
instance {f : Int → Int → Int} : F2 K (rI0 fun i j => .int (f i j)) (pI0 fun i j => .int (f i j)) := ⟨fun d H μ x y v u P Q w r1 r2 q k => by
  obtain ⟨i, j, rfl, rfl, q⟩ := pI0_run q
  cases r1; cases r2
  exact ⟨i, j, rfl, rfl, k d H μ _ _ .refl w (.int _) q⟩⟩
instance {C : Int → Int → Prop} {f : Int → Int → Bool} : F2 K (rI C fun i j => .bl (f i j)) (pI C fun i j => .bl (f i j)) := ⟨fun d H μ x y v u P Q w r1 r2 q k => by
  obtain ⟨i, j, rfl, rfl, c, q⟩ := pI_run q
  cases r1; cases r2
  exact ⟨i, j, rfl, rfl, c, k d H μ _ _ .refl w (.bl _) q⟩⟩
instance {f : Int → Int → Bool} : F2 K (rI0 fun i j => .bl (f i j)) (pI0 fun i j => .bl (f i j)) := ⟨fun d H μ x y v u P Q w r1 r2 q k => by
  obtain ⟨i, j, rfl, rfl, q⟩ := pI0_run q
  cases r1; cases r2
  exact ⟨i, j, rfl, rfl, k d H μ _ _ .refl w (.bl _) q⟩⟩
def pU (g : Int → PV) : PV → Store → (PV → Store → Prop) → Prop := fun x μ P => match x with | .int i => P (g i) μ | _ => False
instance {f : Int → Int} : F1 K (rU fun i => .int (f i)) (pU fun i => .int (f i)) := ⟨fun d H μ x v P Q w r1 q k => by
  cases x <;> try exact q.elim
  cases r1
  exact ⟨_, rfl, k d H μ _ _ .refl w (.int _) q⟩⟩

/-! ### tests -/
def mTest (m : ME) : MT := fun ρ μ P => m ρ μ fun x μ1 => match x with | .bl b => P b μ1 | _ => False
instance {t m} [h : FE K t m] : FT K (tTest t) (mTest m) := ⟨fun d σ H ρ μ P Q w e q k => by
  refine h.run d σ H ρ μ _ _ w e q fun d1 H1 μ1 x v e1 w1 r1 q1 => ?_
  cases x <;> try exact q1.elim
  cases r1
  exact ⟨_, rfl, k d1 H1 μ1 _ e1 w1 q1⟩⟩
instance {t m} [h : FE K t m] : FT K (tB t) (mTest m) := ⟨fun d σ H ρ μ P Q w e q k => by
  refine h.run d σ H ρ μ _ _ w e q fun d1 H1 μ1 x v e1 w1 r1 q1 => ?_
  cases x <;> try exact q1.elim
  cases r1
  exact ⟨_, rfl, k d1 H1 μ1 _ e1 w1 q1⟩⟩
def mAnd (a b : MT) : MT := fun ρ μ P => a ρ μ fun c μ1 => if c = true then b ρ μ1 P else P false μ1
def mOr (a b : MT) : MT := fun ρ μ P => a ρ μ fun c μ1 => if c = true then P true μ1 else b ρ μ1 P
def mNot (a : MT) : MT := fun ρ μ P => a ρ μ fun c μ1 => P (!c) μ1
def mYes : MT := fun _ μ P => P true μ
instance {a b ma mb} [ha : FT K a ma] [hb : FT K b mb] : FT K (tAnd a b) (mAnd ma mb) := ⟨fun d σ H ρ μ P Q w e q k => by
  refine ha.run d σ H ρ μ _ _ w e q fun d1 H1 μ1 c e1 w1 q1 => ?_
  cases c
  · rw [if_neg (by simp)] at q1 ⊢
    exact k d1 H1 μ1 _ e1 w1 q1
  · rw [if_pos rfl] at q1 ⊢
    exact hb.run d1 σ H1 ρ μ1 _ _ w1 (e.mono e1) q1 fun d2 H2 μ2 b e2 w2 q2 => k d2 H2 μ2 b (e1.trans e2) w2 q2⟩
instance {a b ma mb} [ha : FT K a ma] [hb : FT K b mb] : FT K (tOr a b) (mOr ma mb) := ⟨fun d σ H ρ μ P Q w e q k => by
  refine ha.run d σ H ρ μ _ _ w e q fun d1 H1 μ1 c e1 w1 q1 => ?_
  cases c
  · rw [if_neg (by simp)] at q1 ⊢
    exact hb.run d1 σ H1 ρ μ1 _ _ w1 (e.mono e1) q1 fun d2 H2 μ2 b e2 w2 q2 => k d2 H2 μ2 b (e1.trans e2) w2 q2
  · rw [if_pos rfl] at q1 ⊢
    exact k d1 H1 μ1 _ e1 w1 q1⟩
instance {a ma} [ha : FT K a ma] : FT K (tNot a) (mNot ma) := ⟨fun d σ H ρ μ P Q w e q k =>
  ha.run d σ H ρ μ _ _ w e q fun d1 H1 μ1 c e1 w1 q1 => k d1 H1 μ1 _ e1 w1 q1⟩
instance : FT K tYes mYes := ⟨fun d σ H ρ μ P Q w e q k => k d H μ _ .refl w q⟩
def mAndV (a b : ME) : ME := fun ρ μ P => a ρ μ fun x μ1 => match x with | .bl c => if c = true then b ρ μ1 P else P (.bl false) μ1 | _ => False
def mOrV (a b : ME) : ME := fun ρ μ P => a ρ μ fun x μ1 => match x with | .bl c => if c = true then P (.bl true) μ1 else b ρ μ1 P | _ => False
def mNotV (a : ME) : ME := fun ρ μ P => a ρ μ fun x μ1 => match x with | .bl c => P (.bl (!c)) μ1 | _ => False
instance {a b ma mb} [ha : FE K a ma] [hb : FE K b mb] : FE K (tAndV a b) (mAndV ma mb) := ⟨fun d σ H ρ μ P Q w e q k => by
  refine ha.run d σ H ρ μ _ _ w e q fun d1 H1 μ1 x v e1 w1 r1 q1 => ?_
  cases x <;> try exact q1.elim
  rename_i c
  cases r1
  refine ⟨c, rfl, ?_⟩
  cases c
  · exact k d1 H1 μ1 _ _ e1 w1 (.bl _) q1
  · exact hb.run d1 σ H1 ρ μ1 _ _ w1 (e.mono e1) q1 fun d2 H2 μ2 y u e2 w2 r2 q2 => k d2 H2 μ2 y u (e1.trans e2) w2 r2 q2⟩
instance {a b ma mb} [ha : FE K a ma] [hb : FE K b mb] : FE K (tOrV a b) (mOrV ma mb) := ⟨fun d σ H ρ μ P Q w e q k => by
  refine ha.run d σ H ρ μ _ _ w e q fun d1 H1 μ1 x v e1 w1 r1 q1 => ?_
  cases x <;> try exact q1.elim
  rename_i c
  cases r1
  refine ⟨c, rfl, ?_⟩
  cases c
  · exact hb.run d1 σ H1 ρ μ1 _ _ w1 (e.mono e1) q1 fun d2 H2 μ2 y u e2 w2 r2 q2 => k d2 H2 μ2 y u (e1.trans e2) w2 r2 q2
  · exact k d1 H1 μ1 _ _ e1 w1 (.bl _) q1⟩
instance {a ma} [ha : FE K a ma] : FE K (tNotV a) (mNotV ma) := ⟨fun d σ H ρ μ P Q w e q k => by
  refine ha.run d σ H ρ μ _ _ w e q fun d1 H1 μ1 x v e1 w1 r1 q1 => ?_
  cases x <;> try exact q1.elim
  cases r1
  exact ⟨_, rfl, k d1 H1 μ1 _ _ e1 w1 (.bl _) q1⟩⟩
def mIf (c : MT) (a b : ME) : ME := fun ρ μ P => c ρ μ fun x μ1 => if x = true then a ρ μ1 P else b ρ μ1 P
instance {t a b mt ma mb} [ht : FT K t mt] [ha : FE K a ma] [hb : FE K b mb] : FE K (tIf t a b) (mIf mt ma mb) := ⟨fun d σ H ρ μ P Q w e q k => by
  refine ht.run d σ H ρ μ _ _ w e q fun d1 H1 μ1 c e1 w1 q1 => ?_
  cases c
  · exact hb.run d1 σ H1 ρ μ1 _ _ w1 (e.mono e1) q1 fun d2 H2 μ2 y u e2 w2 r2 q2 => k d2 H2 μ2 y u (e1.trans e2) w2 r2 q2
  · exact ha.run d1 σ H1 ρ μ1 _ _ w1 (e.mono e1) q1 fun d2 H2 μ2 y u e2 w2 r2 q2 => k d2 H2 μ2 y u (e1.trans e2) w2 r2 q2⟩
def mChain (p q : MO2) (a b c : ME) : ME := fun ρ μ P => a ρ μ fun x μ1 => b ρ μ1 fun y μ2 => p x y μ2 fun z μ3 => match z with | .bl k => if k = true then c ρ μ3 fun w μ4 => q y w μ4 P else P (.bl false) μ3 | _ => False
instance {r r' p q ta tb tc ma mb mc} [h : F2 K r p] [h' : F2 K r' q] [ha : FE K ta ma] [hb : FE K tb mb] [hc : FE K tc mc] : FE K (tChain r r' ta tb tc) (mChain p q ma mb mc) := ⟨fun d σ H ρ μ P Q w e q k => by
  refine ha.run d σ H ρ μ _ _ w e q fun d1 H1 μ1 x v e1 w1 r1 q1 => ?_
  refine hb.run d1 σ H1 ρ μ1 _ _ w1 (e.mono e1) q1 fun d2 H2 μ2 y u e2 w2 r2 q2 => ?_
  refine h.run d2 H2 μ2 x y v u _ _ w2 (r1.mono e2) r2 q2 fun d3 H3 μ3 z w' e3 w3 r3 q3 => ?_
  cases z <;> try exact q3.elim
  rename_i c
  cases r3
  refine ⟨c, rfl, ?_⟩
  cases c
  · exact k d3 H3 μ3 _ _ ((e1.trans e2).trans e3) w3 (.bl _) q3
  · refine hc.run d3 σ H3 ρ μ3 _ _ w3 (e.mono ((e1.trans e2).trans e3)) q3 fun d4 H4 μ4 y' u' e4 w4 r4 q4 => ?_
    exact h'.run d4 H4 μ4 y y' u u' P Q w4 (r2.mono (e3.trans e4)) r4 q4 fun d5 H5 μ5 z w' e5 w5 r5 q5 => k d5 H5 μ5 z w' ((((e1.trans e2).trans e3).trans e4).trans e5) w5 r5 q5⟩

/-! ### arguments, displays -/
def mNil : MA := fun _ μ P => P [] μ
def mCons (a : ME) (r : MA) : MA := fun ρ μ P => a ρ μ fun x μ1 => r ρ μ1 fun xs μ2 => P (x :: xs) μ2
instance : FA K tNil mNil := ⟨fun d σ H ρ μ P Q w e q k => k d H μ [] [] .refl w .nil q⟩
instance {a ma t m} [ha : FE K a ma] [ht : FA K t m] : FA K (tCons a t) (mCons ma m) := ⟨fun d σ H ρ μ P Q w e q k => by
  refine ha.run d σ H ρ μ _ _ w e q fun d1 H1 μ1 x v e1 w1 r1 q1 => ?_
  exact ht.run d1 σ H1 ρ μ1 _ _ w1 (e.mono e1) q1 fun d2 H2 μ2 xs vs e2 w2 r2 q2 => k d2 H2 μ2 _ _ (e1.trans e2) w2 (.cons (r1.mono e2) r2) q2⟩
def lim : Nat := 1000000
theorem lim_le : lim ≤ sizeLine := by rw [sizeLine_eq]; decide
theorem lim_lt {n : Nat} (h : n ≤ lim) : n ≤ sizeLine := Nat.le_trans h lim_le
theorem lim_lt' {n : Nat} (h : n ≤ lim) : n < sizeLine := Nat.lt_of_le_of_lt h (by rw [sizeLine_eq]; decide)
def mTup (t : MA) : ME := fun ρ μ P => t ρ μ fun xs μ1 => xs.length ≤ lim ∧ P (.tup xs) μ1
def mLst (t : MA) : ME := fun ρ μ P => t ρ μ fun xs μ1 => xs.length ≤ lim ∧ P (.lst xs) μ1
def mLstM (t : MA) : ME := fun ρ μ P => t ρ μ fun xs μ1 => xs.length ≤ lim ∧ P (.mr μ1.length) (μ1 ++ [.lst xs])
theorem lay_tup {d : Wd} {H : Hp} {μ : Store} {xs : List PV} {vs : List V} {p : Addr} (w : WOk K d H μ) (r : RVs K d H xs vs) (h : H p = none) : RV K d (upd H p (.tup vs)) (.tup xs) (.ref p) :=
  .tup (.inl ⟨.inl upd_same, w.notin h⟩) (r.mono (Ext.lay w h))
theorem lay_lst {d : Wd} {H : Hp} {μ : Store} {xs : List PV} {vs : List V} {p : Addr} (w : WOk K d H μ) (r : RVs K d H xs vs) (h : H p = none) : RV K d (upd H p (.lst vs)) (.lst xs) (.ref p) :=
  .lst ⟨upd_same, w.notin h, w.notban h⟩ (r.mono (Ext.lay w h))
theorem lay_mr {d : Wd} {H : Hp} {μ : Store} {p : Addr} {o : HO} (w : WOk K d H μ) : RV K (d.push p) (upd H p o) (.mr μ.length) (.ref p) := by
  refine .mr ?_
  show (d.am ++ [p])[μ.length]? = some p
  rw [← w.len, List.getElem?_append_right (Nat.le_refl _)]
  simp
/-- a list display whose list is changed later -/
def tLstM (t : TA) : TE := tLst t
instance {t m} [h : FA K t m] : FE K (tTup t) (mTup m) := ⟨fun d σ H ρ μ P Q w e q k => by
  refine h.run d σ H ρ μ _ _ w e q fun d1 H1 μ1 xs vs e1 w1 r1 ⟨z, q1⟩ => ⟨by rw [← r1.length]; exact lim_lt z, fun p hp => ?_⟩
  exact k d1 _ μ1 _ _ (e1.trans (Ext.lay w1 hp)) (w1.lay hp) (lay_tup w1 r1 hp) q1⟩
instance {t m} [h : FA K t m] : FE K (tLst t) (mLst m) := ⟨fun d σ H ρ μ P Q w e q k => by
  refine h.run d σ H ρ μ _ _ w e q fun d1 H1 μ1 xs vs e1 w1 r1 ⟨z, q1⟩ => ⟨by rw [← r1.length]; exact lim_lt z, fun p hp => ?_⟩
  exact k d1 _ μ1 _ _ (e1.trans (Ext.lay w1 hp)) (w1.lay hp) (lay_lst w1 r1 hp) q1⟩
instance {t m} [h : FA K t m] : FE K (tLstM t) (mLstM m) := ⟨fun d σ H ρ μ P Q w e q k => by
  refine h.run d σ H ρ μ _ _ w e q fun d1 H1 μ1 xs vs e1 w1 r1 ⟨z, q1⟩ => ⟨by rw [← r1.length]; exact lim_lt z, fun p hp => ?_⟩
  have ee := Ext.push (o := .lst vs) w1 hp
  exact k (d1.push p) _ _ _ _ (e1.trans ee) (w1.push (m := .lst xs) hp ⟨vs, upd_same, r1.mono ee⟩) (lay_mr w1) q1⟩

/-! ### statements -/
def mNext : MS := fun P ρ μ => P.nx ρ μ
def mSeq (a b : MS) : MS := fun P ρ μ => a { P with nx := b P } ρ μ
instance : FS K tNext mNext := ⟨fun d σ H ρ μ P D w e q l => l.nx d σ H ρ μ .refl w e q⟩
instance {a b ma mb} [ha : FS K a ma] [hb : FS K b mb] : FS K (tSeq a b) (mSeq ma mb) := ⟨fun d σ H ρ μ P D w e q l =>
  ha.run d σ H ρ μ _ _ w e q ⟨fun d1 σ1 H1 ρ1 μ1 e1 w1 r1 q1 => hb.run d1 σ1 H1 ρ1 μ1 P D w1 r1 q1 (l.mono e1), l.rt, l.bk, l.ct⟩⟩
def mBreak : MS := fun P ρ μ => P.bk ρ μ
def mCont : MS := fun P ρ μ => P.ct ρ μ
instance : FS K tBreak mBreak := ⟨fun d σ H ρ μ P D w e q l => l.bk d σ H ρ μ .refl w e q⟩
instance : FS K tCont mCont := ⟨fun d σ H ρ μ P D w e q l => l.ct d σ H ρ μ .refl w e q⟩
def mDrop (m : ME) : MS := fun P ρ μ => m ρ μ fun _ μ1 => P.nx ρ μ1
instance {t m} [h : FE K t m] : FS K (tDrop t) (mDrop m) := ⟨fun d σ H ρ μ P D w e q l =>
  h.run d σ H ρ μ _ _ w e q fun d1 H1 μ1 x v e1 w1 r1 q1 => l.nx d1 σ H1 ρ μ1 e1 w1 (e.mono e1) q1⟩
def mRet (m : ME) : MS := fun P ρ μ => m ρ μ P.rt
instance {t m} [h : FE K t m] : FS K (tRet t) (mRet m) := ⟨fun d σ H ρ μ P D w e q l =>
  h.run d σ H ρ μ _ _ w e q fun d1 H1 μ1 x v e1 w1 r1 q1 => l.rt d1 H1 μ1 x v e1 w1 r1 q1⟩
def mRetN : MS := fun P ρ μ => P.rt .non μ
instance : FS K tRetN mRetN := ⟨fun d σ H ρ μ P D w e q l => l.rt d H μ .non .non .refl w .non q⟩
def mIfS (c : MT) (a b : MS) : MS := fun P ρ μ => c ρ μ fun x μ1 => if x = true then a P ρ μ1 else b P ρ μ1
instance {c a b mc ma mb} [hc : FT K c mc] [ha : FS K a ma] [hb : FS K b mb] : FS K (tIfS c a b) (mIfS mc ma mb) := ⟨fun d σ H ρ μ P D w e q l => by
  refine hc.run d σ H ρ μ _ _ w e q fun d1 H1 μ1 x e1 w1 q1 => ?_
  cases x
  · exact hb.run d1 σ H1 ρ μ1 P D w1 (e.mono e1) q1 (l.mono e1)
  · exact ha.run d1 σ H1 ρ μ1 P D w1 (e.mono e1) q1 (l.mono e1)⟩
def mNever : MS := fun _ _ _ => False
instance : FS K tNever mNever := ⟨fun d σ H ρ μ P D w e q l => q⟩
def mName (i : Nat) : MG := fun x ρ μ P => P (ρ.set i (some x)) μ
instance {i} : FG K (gName i) (mName i) [i] := ⟨fun d σ H ρ μ x v P Q w e r q k =>
  k d _ H _ μ .refl w (e.set r i) (by rw [List.length_set]) (fun j hj => by rw [List.getElem?_set_ne (by intro z; subst z; simp at hj)]) q⟩
def mGNil : MGs := fun xs ρ μ P => match xs with | [] => P ρ μ | _ => False
def mGCons (a : MG) (b : MGs) : MGs := fun xs ρ μ P => match xs with | x :: r => a x ρ μ fun ρ1 μ1 => b r ρ1 μ1 P | _ => False
instance : FGs K gNil mGNil [] := ⟨fun d σ H ρ μ xs vs P Q w e r q k => by
  cases xs
  · cases r; exact ⟨rfl, k d σ H ρ μ .refl w e rfl (fun _ _ => rfl) q⟩
  · exact q.elim⟩
instance {t m s u n s'} [h : FG K t m s] [h' : FGs K u n s'] : FGs K (gCons t u) (mGCons m n) (s ++ s') := ⟨fun d σ H ρ μ xs vs P Q w e r q k => by
  cases xs
  · exact q.elim
  · cases r with
    | cons r1 r2 =>
      refine ⟨_, _, rfl, h.run d σ H ρ μ _ _ _ _ w e r1 q fun d1 σ1 H1 ρ1 μ1 e1 w1 ee1 l1 u1 q1 => ?_⟩
      refine h'.run d1 σ1 H1 ρ1 μ1 _ _ _ _ w1 ee1 (r2.mono e1) q1 fun d2 σ2 H2 ρ2 μ2 e2 w2 ee2 l2 u2 q2 => ?_
      exact k d2 σ2 H2 ρ2 μ2 (e1.trans e2) w2 ee2 (l2.trans l1) (fun i hi => (u2 i fun z => hi (List.mem_append_right _ z)).trans (u1 i fun z => hi (List.mem_append_left _ z))) q2⟩
def mGTup (n : Nat) (t : MGs) : MG := fun x ρ μ P => match x with | .tup xs => xs.length = n ∧ t xs ρ μ P | _ => False
instance {n t m s} [h : FGs K t m s] : FG K (gTup K n t) (mGTup n m) s := ⟨fun d σ H ρ μ x v P Q w e r q k => by
  cases x <;> try exact q.elim
  cases r with
  | tup ha hr => exact ⟨_, _, rfl, ha.sq, by rw [← hr.length]; exact q.1, h.run d σ H ρ μ _ _ _ _ w e hr q.2 k⟩⟩
def mAsg (m : ME) (g : MG) : MS := fun P ρ μ => m ρ μ fun x μ1 => g x ρ μ1 P.nx
instance {t m g n s} [h : FE K t m] [h' : FG K g n s] : FS K (tAsg t g) (mAsg m n) := ⟨fun d σ H ρ μ P D w e q l => by
  refine h.run d σ H ρ μ _ _ w e q fun d1 H1 μ1 x v e1 w1 r1 q1 => ?_
  exact h'.run d1 σ H1 ρ μ1 x v _ _ w1 (e.mono e1) r1 q1 fun d2 σ2 H2 ρ2 μ2 e2 w2 ee2 _ _ q2 => l.nx d2 σ2 H2 ρ2 μ2 (e1.trans e2) w2 ee2 q2⟩
def mPar (i j : Nat) (t : MA) : MS := fun P ρ μ => t ρ μ fun xs μ1 => match xs with | [x, y] => P.nx ((ρ.set i (some x)).set j (some y)) μ1 | _ => False
instance {i j t m} [h : FA K t m] : FS K (tPar i j t) (mPar i j m) := ⟨fun d σ H ρ μ P D w e q l => by
  refine h.run d σ H ρ μ _ _ w e q fun d1 H1 μ1 xs vs e1 w1 r1 q1 => ?_
  match xs, r1, q1 with
  | [x, y], .cons (v := v) a (.cons (v := u) b .nil), q1 => exact ⟨v, u, rfl, l.nx d1 _ H1 _ μ1 e1 w1 (((e.mono e1).set a i).set b j) q1⟩⟩
def mPar3 (i j k : Nat) (t : MA) : MS := fun P ρ μ => t ρ μ fun xs μ1 => match xs with | [x, y, z] => P.nx (((ρ.set i (some x)).set j (some y)).set k (some z)) μ1 | _ => False
instance {i j k t m} [h : FA K t m] : FS K (tPar3 i j k t) (mPar3 i j k m) := ⟨fun d σ H ρ μ P D w e q l => by
  refine h.run d σ H ρ μ _ _ w e q fun d1 H1 μ1 xs vs e1 w1 r1 q1 => ?_
  match xs, r1, q1 with
  | [x, y, z], .cons (v := v) a (.cons (v := u) b (.cons (v := t) c .nil)), q1 => exact ⟨v, u, t, rfl, l.nx d1 _ H1 _ μ1 e1 w1 ((((e.mono e1).set a i).set b j).set c k) q1⟩⟩
def mAsg2 (m : ME) (g h : MG) : MS := fun P ρ μ => m ρ μ fun x μ1 => g x ρ μ1 fun ρ1 μ2 => h x ρ1 μ2 P.nx
instance {t m g n s g' n' s'} [h : FE K t m] [h1 : FG K g n s] [h2 : FG K g' n' s'] : FS K (tAsg2 t g g') (mAsg2 m n n') := ⟨fun d σ H ρ μ P D w e q l => by
  refine h.run d σ H ρ μ _ _ w e q fun d1 H1 μ1 x v e1 w1 r1 q1 => ?_
  refine h1.run d1 σ H1 ρ μ1 x v _ _ w1 (e.mono e1) r1 q1 fun d2 σ2 H2 ρ2 μ2 e2 w2 ee2 _ _ q2 => ?_
  exact h2.run d2 σ2 H2 ρ2 μ2 x v _ _ w2 ee2 (r1.mono e2) q2 fun d3 σ3 H3 ρ3 μ3 e3 w3 ee3 _ _ q3 => l.nx d3 σ3 H3 ρ3 μ3 ((e1.trans e2).trans e3) w3 ee3 q3⟩
end
end Fx

/-! Fx3: loops, comprehensions, what is walked. -/
namespace Fx
open PySem PySem.Spec PyProof.Rows L2
section
variable {K : PySem.W.Frag} {d d' : Wd} {H H' : Hp} {a : Addr} {vs : List V} {μ : Store}
theorem Bars.refl : Bars d d H := ⟨rfl, fun _ h => .inl h⟩
mutual
theorem RV.bars (b : Bars d d' H) : ∀ {x : PV} {v : V}, RV K d H x v → RV K d' H x v
  | _, _, .non => .non
  | _, _, .bl b => .bl b
  | _, _, .int i => .int i
  | _, _, .str x => .str x
  | _, _, .ty n => .ty n
  | _, _, .tup h r => .tup (h.imp (fun z => ⟨z.1, by rw [b.1]; exact z.2⟩) id) (RVs.bars b r)
  | _, _, .lst h r => .lst ⟨h.1, by rw [b.1]; exact h.2.1, fun q => (b.2 _ q).elim h.2.2 (by rw [h.1]; simp)⟩ (RVs.bars b r)
  | _, _, .kl h r => .kl (h.imp (fun z => ⟨z.1, by rw [b.1]; exact z.2.1, fun q => (b.2 _ q).elim z.2.2 (Rd.ne z.1)⟩) id) (RVs.bars b r)
  | _, _, .mr h => .mr (by rw [b.1]; exact h)
theorem RVs.bars (b : Bars d d' H) : ∀ {xs : List PV} {vs : List V}, RVs K d H xs vs → RVs K d' H xs vs
  | _, _, .nil => .nil
  | _, _, .cons r t => .cons (RV.bars b r) (RVs.bars b t)
end
theorem no_tup {D : Addr} {as : List V} (h : H D = some (.lst as)) : ∀ ts, ¬ Rd H D (.tup ts) := fun ts z => by
  rcases z with q | ⟨o, q⟩ <;> rw [h] at q <;> cases q
theorem no_tupK {D : Addr} {as : List (Key × V)} (h : H D = some (.dK as)) : ∀ ts, ¬ Rd H D (.tup ts) := fun ts z => by
  rcases z with q | ⟨o, q⟩ <;> rw [h] at q <;> cases q
/-- the thing D that is being made (or a thing of the store) changes -/
theorem Rd_upd {u o : HO} {D : Addr} (r : Rd H a u) (h : a ≠ D) : Rd (upd H D o) a u := by
  rcases r with r | ⟨o', r⟩
  · exact .inl (by rw [upd_ne h]; exact r)
  · exact .inr ⟨o', by rw [upd_ne h]; exact r⟩
mutual
theorem RV.made {D : Addr} {o : HO} (hb : D ∈ d.ban) (hD : ∀ ts, ¬ Rd H D (.tup ts)) : ∀ {x : PV} {v : V}, RV K d H x v → RV K d (upd H D o) x v
  | _, _, .non => .non
  | _, _, .bl b => .bl b
  | _, _, .int i => .int i
  | _, _, .str x => .str x
  | _, _, .ty n => .ty n
  | _, _, .tup h r => .tup (h.imp (fun z => ⟨Rd_upd z.1 (by rintro rfl; exact hD _ z.1), z.2⟩) id) (RVs.made hb hD r)
  | _, _, .lst h r => .lst ⟨by rw [upd_ne (by rintro rfl; exact h.2.2 hb)]; exact h.1, h.2⟩ (RVs.made hb hD r)
  | _, _, .kl h r => .kl (h.imp (fun z => ⟨Rd_upd z.1 (by rintro rfl; exact z.2.2 hb), z.2⟩) id) (RVs.made hb hD r)
  | _, _, .mr h => .mr h
theorem RVs.made {D : Addr} {o : HO} (hb : D ∈ d.ban) (hD : ∀ ts, ¬ Rd H D (.tup ts)) : ∀ {xs : List PV} {vs : List V}, RVs K d H xs vs → RVs K d (upd H D o) xs vs
  | _, _, .nil => .nil
  | _, _, .cons r t => .cons (RV.made hb hD r) (RVs.made hb hD t)
end
theorem MOK.made {D : Addr} {o : HO} (hb : D ∈ d.ban) (hD : ∀ ts, ¬ Rd H D (.tup ts)) (hne : a ≠ D) {m : MO} (h : MOK K d H a m) : MOK K d (upd H D o) a m := by
  cases m with
  | lst xs => obtain ⟨vs, q, r⟩ := h; exact ⟨vs, by rw [upd_ne hne]; exact q, r.made hb hD⟩
  | dk kvs => obtain ⟨vs, q, r1, r2⟩ := h; exact ⟨vs, by rw [upd_ne hne]; exact q, r1, r2.made hb hD⟩
  | fd o ws kvs => obtain ⟨q, r1, r2⟩ := h; exact ⟨by rw [upd_ne hne]; exact q, r1, r2.made hb hD⟩
theorem WOk.made {D : Addr} {o : HO} (w : WOk K d H μ) (hb : D ∈ d.ban) (hD : ∀ ts, ¬ Rd H D (.tup ts)) : WOk K d (upd H D o) μ := by
  refine ⟨w.len, w.nd, fun i b m h1 h2 => ?_, fun b hb' => ?_⟩
  · have hne : b ≠ D := by
      rintro rfl
      exact (w.ban _ hb).2 (List.mem_of_getElem? h1)
    exact (w.ob i b m h1 h2).made hb hD hne
  · obtain ⟨x, y⟩ := w.ban b hb'
    refine ⟨?_, y⟩
    by_cases hne : b = D
    · subst hne; rw [upd_same]; simp
    · rw [upd_ne hne]; exact x
mutual
/-- what is made comes into the store -/
theorem RV.pushed {D : Addr} (hb : D ∈ d.ban) (hD : ∀ ts, ¬ Rd H D (.tup ts)) {bn : List Addr} (hs : ∀ b ∈ bn, b ∈ d.ban) : ∀ {x : PV} {v : V}, RV K d H x v → RV K ⟨d.am ++ [D], bn⟩ H x v
  | _, _, .non => .non
  | _, _, .bl b => .bl b
  | _, _, .int i => .int i
  | _, _, .str x => .str x
  | _, _, .ty n => .ty n
  | _, _, .tup h r => .tup (h.imp (fun z => ⟨z.1, fun q => (List.mem_append.mp q).elim z.2 (fun q => by
      have e := List.mem_singleton.mp q
      subst e
      exact hD _ z.1)⟩) id) (RVs.pushed hb hD hs r)
  | _, _, .lst h r => .lst ⟨h.1, fun q => (List.mem_append.mp q).elim h.2.1 (fun q => by
      have e := List.mem_singleton.mp q
      subst e
      exact h.2.2 hb), fun q => h.2.2 (hs _ q)⟩ (RVs.pushed hb hD hs r)
  | _, _, .kl h r => .kl (h.imp (fun z => ⟨z.1, fun q => (List.mem_append.mp q).elim z.2.1 (fun q => by
      have e := List.mem_singleton.mp q
      subst e
      exact z.2.2 hb), fun q => z.2.2 (hs _ q)⟩) id) (RVs.pushed hb hD hs r)
  | _, _, .mr h => .mr (by
      show (d.am ++ [D])[_]? = _
      rw [List.getElem?_append_left (List.getElem?_eq_some_iff.mp h).1]; exact h)
theorem RVs.pushed {D : Addr} (hb : D ∈ d.ban) (hD : ∀ ts, ¬ Rd H D (.tup ts)) {bn : List Addr} (hs : ∀ b ∈ bn, b ∈ d.ban) : ∀ {xs : List PV} {vs : List V}, RVs K d H xs vs → RVs K ⟨d.am ++ [D], bn⟩ H xs vs
  | _, _, .nil => .nil
  | _, _, .cons r t => .cons (RV.pushed hb hD hs r) (RVs.pushed hb hD hs t)
end
mutual
theorem RV.less {bn : List Addr} (hs : ∀ b ∈ bn, b ∈ d.ban) : ∀ {x : PV} {v : V}, RV K d H x v → RV K ⟨d.am, bn⟩ H x v
  | _, _, .non => .non
  | _, _, .bl b => .bl b
  | _, _, .int i => .int i
  | _, _, .str x => .str x
  | _, _, .ty n => .ty n
  | _, _, .tup h r => .tup h (RVs.less hs r)
  | _, _, .lst h r => .lst ⟨h.1, h.2.1, fun q => h.2.2 (hs _ q)⟩ (RVs.less hs r)
  | _, _, .kl h r => .kl (h.imp (fun z => ⟨z.1, z.2.1, fun q => z.2.2 (hs _ q)⟩) id) (RVs.less hs r)
  | _, _, .mr h => .mr h
theorem RVs.less {bn : List Addr} (hs : ∀ b ∈ bn, b ∈ d.ban) : ∀ {xs : List PV} {vs : List V}, RVs K d H xs vs → RVs K ⟨d.am, bn⟩ H xs vs
  | _, _, .nil => .nil
  | _, _, .cons r t => .cons (RV.less hs r) (RVs.less hs t)
end
theorem MOK.less {bn : List Addr} (hs : ∀ b ∈ bn, b ∈ d.ban) {m : MO} (h : MOK K d H a m) : MOK K ⟨d.am, bn⟩ H a m := by
  cases m with
  | lst xs => obtain ⟨vs, q, r⟩ := h; exact ⟨vs, q, r.less hs⟩
  | dk kvs => obtain ⟨vs, q, r1, r2⟩ := h; exact ⟨vs, q, r1, r2.less hs⟩
  | fd o ws kvs => obtain ⟨q, r1, r2⟩ := h; exact ⟨q, r1, r2.less hs⟩
theorem WOk.less {bn : List Addr} (w : WOk K d H μ) (hs : ∀ b ∈ bn, b ∈ d.ban) : WOk K ⟨d.am, bn⟩ H μ :=
  ⟨w.len, w.nd, fun i b m h1 h2 => (w.ob i b m h1 h2).less hs, fun b hb => w.ban b (hs b hb)⟩
theorem MOK.pushed {D : Addr} (hb : D ∈ d.ban) (hD : ∀ ts, ¬ Rd H D (.tup ts)) {bn : List Addr} (hs : ∀ b ∈ bn, b ∈ d.ban) {m : MO} (h : MOK K d H a m) : MOK K ⟨d.am ++ [D], bn⟩ H a m := by
  cases m with
  | lst xs => obtain ⟨vs, q, r⟩ := h; exact ⟨vs, q, r.pushed hb hD hs⟩
  | dk kvs => obtain ⟨vs, q, r1, r2⟩ := h; exact ⟨vs, q, r1, r2.pushed hb hD hs⟩
  | fd o ws kvs => obtain ⟨q, r1, r2⟩ := h; exact ⟨q, r1, r2.pushed hb hD hs⟩
theorem WOk.pushed {D : Addr} (w : WOk K d H μ) (hb : D ∈ d.ban) (hD : ∀ ts, ¬ Rd H D (.tup ts)) {bn : List Addr} (hs : ∀ b ∈ bn, b ∈ d.ban) (hn : D ∉ bn) {m : MO} (hm : MOK K ⟨d.am ++ [D], bn⟩ H D m) : WOk K ⟨d.am ++ [D], bn⟩ H (μ ++ [m]) := by
  have na := (w.ban D hb).2
  refine ⟨by simp [w.len], ?_, fun i b m' h1 h2 => ?_, fun b hb' => ?_⟩
  · show (d.am ++ [D]).Nodup
    rw [List.nodup_append]
    exact ⟨w.nd, by simp, fun x hx y hy => by
      have : y = D := by simpa using hy
      subst this; rintro rfl; exact na hx⟩
  · replace h1 : (d.am ++ [D])[i]? = some b := h1
    by_cases hi : i < d.am.length
    · rw [List.getElem?_append_left hi] at h1
      rw [List.getElem?_append_left (by rw [← w.len]; exact hi)] at h2
      exact (w.ob i b m' h1 h2).pushed hb hD hs
    · have hi2 : i = d.am.length := by
        have := (List.getElem?_eq_some_iff.mp h1).1
        simp at this; omega
      subst hi2
      rw [List.getElem?_append_right (Nat.le_refl _)] at h1
      rw [w.len, List.getElem?_append_right (Nat.le_refl _)] at h2
      simp at h1 h2
      subst h1; subst h2
      exact hm
  · obtain ⟨x, y⟩ := w.ban b (hs b hb')
    exact ⟨x, fun z => (List.mem_append.mp z).elim y (fun z => by
      have e : b = D := by simpa using z
      subst e; exact hn hb')⟩

/-! ### for -/
def mForL (g : MG) (b : MS) (P : MEnds) : List PV → PEnv → Store → Prop
  | [], ρ, μ => P.nx ρ μ
  | x :: xs, ρ, μ => g x ρ μ fun ρ1 μ1 => b { P with nx := mForL g b P xs, ct := mForL g b P xs, bk := P.nx } ρ1 μ1
def mFor (mi : MI) (g : MG) (b : MS) : MS := fun P ρ μ => mi ρ μ fun xs μ1 => mForL g b P xs ρ μ1
theorem drop_cons {α : Type} {xs : List α} {i : Nat} {x : α} (h : xs[i]? = some x) : xs.drop i = x :: xs.drop (i + 1) := by
  obtain ⟨hl, e⟩ := List.getElem?_eq_some_iff.mp h
  rw [List.drop_eq_getElem_cons hl, e]
instance {wi mi g mg s tb mb} [hi : FI K wi mi] [hg : FG K g mg s] [hb : FS K tb mb] : FS K (tFor wi g tb) (mFor mi mg mb) := ⟨fun d σ H ρ μ P D w e q l => by
  refine hi.run d σ H ρ μ _ _ w e q fun d1 H1 μ1 J xs e1 w1 it q1 => ?_
  refine ⟨fun i m σ' H' => ∃ d' ρ' μ', Ext d1 H1 d' H' ∧ WOk K d' H' μ' ∧ REnv K d' H' ρ' σ' ∧ i + m = xs.length ∧ mForL mg mb P (xs.drop i) ρ' μ', ⟨xs.length, d1, ρ, μ1, .refl, w1, e.mono e1, by omega, by simpa using q1⟩, fun i m σ' H' hW => ?_⟩
  obtain ⟨d2, ρ2, μ2, e2, w2, ee2, em, q2⟩ := hW
  obtain ⟨itg, its⟩ := it d1 d2 H' μ2 .refl e2 w2
  cases hx : xs[i]? with
  | none =>
    have hle : xs.length ≤ i := List.getElem?_eq_none_iff.mp hx
    rw [List.drop_of_length_le hle] at q2
    exact .inl ⟨its i hle, l.nx d2 σ' H' ρ2 μ2 (e1.trans e2) w2 ee2 q2⟩
  | some x =>
    have hlt : i < xs.length := (List.getElem?_eq_some_iff.mp hx).1
    rw [drop_cons hx] at q2
    obtain ⟨go, yl⟩ := itg i x hx
    refine .inr ⟨go, fun σ3 H3 => ∃ d' ρ' μ', Ext d1 H1 d' H3 ∧ WOk K d' H3 μ' ∧ REnv K d' H3 ρ' σ3 ∧ mForL mg mb P (xs.drop (i + 1)) ρ' μ', fun σ3 H3 hN => ?_, fun v H3 hy => ?_⟩
    · obtain ⟨d3, ρ3, μ3, a1, a2, a3, a4⟩ := hN
      exact ⟨m - 1, by omega, d3, ρ3, μ3, a1, a2, a3, by omega, a4⟩
    · obtain ⟨ey, wy, ry⟩ := yl v H3 hy
      refine hg.run d2 σ' H3 ρ2 μ2 x v _ _ wy (ee2.mono ey) ry q2 fun d4 σ4 H4 ρ4 μ4 e4 w4 ee4 _ _ q4 => ?_
      have E4 : Ext d H d4 H4 := ((e1.trans e2).trans ey).trans e4
      have E4' : Ext d1 H1 d4 H4 := (e2.trans ey).trans e4
      exact hb.run d4 σ4 H4 ρ4 μ4 _ _ w4 ee4 q4
        ⟨fun d5 σ5 H5 ρ5 μ5 e5 w5 ee5 q5 => ⟨d5, ρ5, μ5, E4'.trans e5, w5, ee5, q5⟩, fun d5 H5 μ5 x v e5 => l.rt d5 H5 μ5 x v (E4.trans e5),
         fun d5 σ5 H5 ρ5 μ5 e5 => l.nx d5 σ5 H5 ρ5 μ5 (E4.trans e5), fun d5 σ5 H5 ρ5 μ5 e5 w5 ee5 q5 => ⟨d5, ρ5, μ5, E4'.trans e5, w5, ee5, q5⟩⟩⟩

/-! ### while -/
def mWhile (c : MT) (b : MS) : MS := fun P ρ μ => ∃ W : Nat → PEnv → Store → Prop, (∃ n, W n ρ μ) ∧ ∀ n ρ μ, W n ρ μ →
  c ρ μ fun x μ1 => if x = true then b { P with nx := fun ρ' μ' => ∃ n', n' < n ∧ W n' ρ' μ', ct := fun ρ' μ' => ∃ n', n' < n ∧ W n' ρ' μ', bk := P.nx } ρ μ1 else P.nx ρ μ1
instance {tc mc tb mb} [hc : FT K tc mc] [hb : FS K tb mb] : FS K (tWhile tc tb) (mWhile mc mb) := ⟨fun d σ H ρ μ P D w e q l => by
  obtain ⟨W, ⟨n0, w0⟩, turn⟩ := q
  refine ⟨fun n σ' H' => ∃ d' ρ' μ', Ext d H d' H' ∧ WOk K d' H' μ' ∧ REnv K d' H' ρ' σ' ∧ W n ρ' μ', ⟨n0, d, ρ, μ, .refl, w, e, w0⟩, fun n σ' H' hW => ?_⟩
  obtain ⟨d1, ρ1, μ1, e1, w1, ee1, q1⟩ := hW
  refine hc.run d1 σ' H' ρ1 μ1 _ _ w1 ee1 (turn n ρ1 μ1 q1) fun d2 H2 μ2 x e2 w2 q2 => ?_
  have E2 : Ext d H d2 H2 := e1.trans e2
  cases x
  · exact l.nx d2 σ' H2 ρ1 μ2 E2 w2 (ee1.mono e2) q2
  · refine ⟨fun σ3 H3 => ∃ n', n' < n ∧ ∃ d' ρ' μ', Ext d H d' H3 ∧ WOk K d' H3 μ' ∧ REnv K d' H3 ρ' σ3 ∧ W n' ρ' μ', fun σ3 H3 h => h, ?_⟩
    exact hb.run d2 σ' H2 ρ1 μ2 _ _ w2 (ee1.mono e2) q2
      ⟨fun d5 σ5 H5 ρ5 μ5 e5 w5 ee5 ⟨n', hn, q5⟩ => ⟨n', hn, d5, ρ5, μ5, E2.trans e5, w5, ee5, q5⟩, fun d5 H5 μ5 x v e5 => l.rt d5 H5 μ5 x v (E2.trans e5),
       fun d5 σ5 H5 ρ5 μ5 e5 => l.nx d5 σ5 H5 ρ5 μ5 (E2.trans e5), fun d5 σ5 H5 ρ5 μ5 e5 w5 ee5 ⟨n', hn, q5⟩ => ⟨n', hn, d5, ρ5, μ5, E2.trans e5, w5, ee5, q5⟩⟩⟩

/-! ### comprehensions -/
def wipeP (ρ : PEnv) : List Nat → PEnv
  | [] => ρ
  | v :: vs => (wipeP ρ vs).set v none
theorem wipe_get (σ : L2.St) (i : Nat) : ∀ vs : List Nat, (wipe σ vs)[i]? = if i ∈ vs then (if i < σ.length then some none else none) else σ[i]?
  | [] => by simp [wipe]
  | v :: vs => by
    show ((wipe σ vs).set v none)[i]? = _
    rw [List.getElem?_set, wipe_get σ i vs, wipe_length]
    by_cases h : v = i
    · subst h
      rw [if_pos rfl, if_pos (List.mem_cons_self)]
    · rw [if_neg h]
      have e : (i ∈ v :: vs) = (i ∈ vs) := by
        simp [Ne.symm h]
      simp only [e]
theorem wipe_same {σ σ' : L2.St} {vs sl : List Nat} (hl : σ'.length = (wipe σ vs).length) (h : ∀ i, i ∉ sl → σ'[i]? = (wipe σ vs)[i]?) (hs : ∀ i ∈ sl, i ∈ vs) : wipe σ' vs = wipe σ vs := by
  rw [wipe_length] at hl
  apply List.ext_getElem?
  intro i
  rw [wipe_get, wipe_get, hl]
  by_cases hi : i ∈ vs
  · rw [if_pos hi, if_pos hi]
  · rw [if_neg hi, if_neg hi, h i (fun z => hi (hs i z)), wipe_get, if_neg hi]
theorem REnv.wipe {ρ : PEnv} {σ : L2.St} (e : REnv K d H ρ σ) : ∀ vs : List Nat, REnv K d H (wipeP ρ vs) (wipe σ vs)
  | [] => e
  | v :: vs => (REnv.wipe e vs).unset v
theorem REnv.bars {ρ : PEnv} {σ : L2.St} (b : Bars d d' H) (e : REnv K d H ρ σ) : REnv K d' H ρ σ :=
  ⟨e.1, fun i x q => let ⟨v, a, c⟩ := e.2 i x q; ⟨v, a, c.bars b⟩⟩
theorem WOk.barD {D : Addr} (w : WOk K d H μ) (h : H D = none) : WOk K ⟨d.am, D :: d.ban⟩ (upd H D (.lst [])) μ := by
  have b : Bars d ⟨d.am, D :: d.ban⟩ H := ⟨rfl, fun x q => (List.mem_cons.mp q).elim (fun z => .inr (by rw [z]; exact h)) .inl⟩
  refine ⟨w.len, w.nd, fun i a m h1 h2 => ?_, fun x hx => ?_⟩
  · have hm := w.ob i a m h1 h2
    have hne : a ≠ D := by rintro rfl; exact w.notin h (List.mem_of_getElem? h1)
    have e : Ext ⟨d.am, D :: d.ban⟩ H ⟨d.am, D :: d.ban⟩ (upd H D (.lst [])) := ⟨⟨[], by simp, fun p hp => by simp at hp⟩, rfl, fun b u e _ => by rw [upd_ne (ne_of_none e h)]; exact e⟩
    cases m with
    | lst xs => obtain ⟨vs, q, r⟩ := hm; exact ⟨vs, by rw [upd_ne hne]; exact q, (r.bars b).mono e⟩
    | dk kvs => obtain ⟨vs, q, r1, r2⟩ := hm; exact ⟨vs, by rw [upd_ne hne]; exact q, r1, (r2.bars b).mono e⟩
    | fd o ws kvs => obtain ⟨q, r1, r2⟩ := hm; exact ⟨by rw [upd_ne hne]; exact q, r1, (r2.bars b).mono e⟩
  · rcases List.mem_cons.mp hx with z | z
    · subst z
      exact ⟨by rw [upd_same]; simp, w.notin h⟩
    · obtain ⟨q1, q2⟩ := w.ban x z
      refine ⟨?_, q2⟩
      have hne : x ≠ D := by rintro rfl; exact q1 h
      rw [upd_ne hne]; exact q1

def mLcL (g : MG) (c : MT) (e : ME) (ρ0 : PEnv) (P : List PV → Store → Prop) : List PV → List PV → Store → Prop
  | [], acc, μ => P acc μ
  | x :: xs, acc, μ => g x ρ0 μ fun ρ1 μ1 => c ρ1 μ1 fun b μ2 => if b = true then e ρ1 μ2 fun y μ3 => mLcL g c e ρ0 P xs (acc ++ [y]) μ3 else mLcL g c e ρ0 P xs acc μ2

theorem lc_run {wi mi g mg s tt mt te me} {vs : List Nat} [hi : FI K wi mi] [hg : FG K g mg s] [hc : FT K tt mt] [he : FE K te me] {σ : L2.St} {ρ : PEnv} {P : List PV → Store → Prop} {Q : VK} (w : WOk K d H μ) (e : REnv K d H ρ σ) (hs : ∀ i ∈ s, i ∈ vs)
    (q : mi ρ μ fun xs μ1 => xs.length ≤ lim ∧ mLcL mg mt me (wipeP ρ vs) P xs [] μ1)
    (fin : ∀ (d1 : Wd) (H1 : Hp) (D : Addr) (dB : Wd) (H' : Hp) (μ' : Store) (acc : List PV) (avs : List V), Ext d H d1 H1 → H1 D = none → D ∉ d1.ban → Ext ⟨d1.am, D :: d1.ban⟩ H1 dB H' → WOk K dB H' μ' → H' D = some (.lst avs) → RVs K dB H' acc avs → P acc μ' → Q (.ref D) H') :
    tLc wi g tt te vs σ H Q := by
  refine hi.run d σ H ρ μ _ _ w e q fun d1 H1 μ1 J xs e1 w1 it ⟨hz, q1⟩ => ?_
  intro D hD
  have bD : Bars d1 ⟨d1.am, D :: d1.ban⟩ H1 := ⟨rfl, fun x q => (List.mem_cons.mp q).elim (fun z => .inr (by rw [z]; exact hD)) .inl⟩
  have envB : REnv K ⟨d1.am, D :: d1.ban⟩ H1 (wipeP ρ vs) (wipe σ vs) := ((e.mono e1).bars bD).wipe vs
  have lay0 : Ext ⟨d1.am, D :: d1.ban⟩ H1 ⟨d1.am, D :: d1.ban⟩ (upd H1 D (.lst [])) := ⟨⟨[], by simp, fun p hp => by simp at hp⟩, rfl, fun b u e _ => by rw [upd_ne (ne_of_none e hD)]; exact e⟩
  refine ⟨fun i m H' => ∃ dB μ' acc avs, Ext ⟨d1.am, D :: d1.ban⟩ H1 dB H' ∧ WOk K dB H' μ' ∧ H' D = some (.lst avs) ∧ RVs K dB H' acc avs ∧ i + m = xs.length ∧ acc.length ≤ i ∧ mLcL mg mt me (wipeP ρ vs) P (xs.drop i) acc μ',
    ⟨xs.length, _, μ1, [], [], lay0, w1.barD hD, upd_same, .nil, by omega, Nat.le_refl _, by simpa using q1⟩, fun i m H' hW => ?_⟩
  obtain ⟨dB, μ', acc, avs, eB, wB, hDv, rA, em, hal, q2⟩ := hW
  have hDban : D ∈ dB.ban := by rw [eB.ban]; exact List.mem_cons_self
  obtain ⟨itg, its⟩ := it _ dB H' μ' bD eB wB
  cases hx : xs[i]? with
  | none =>
    have hle : xs.length ≤ i := List.getElem?_eq_none_iff.mp hx
    rw [List.drop_of_length_le hle] at q2
    exact .inl ⟨its i hle, fin d1 H1 D dB H' μ' acc avs e1 hD (w1.notban hD) eB wB hDv rA q2⟩
  | some x =>
    have hlt : i < xs.length := (List.getElem?_eq_some_iff.mp hx).1
    rw [drop_cons hx] at q2
    obtain ⟨go, yl⟩ := itg i x hx
    refine .inr ⟨go, fun H3 => ∃ dB μ' acc avs, Ext ⟨d1.am, D :: d1.ban⟩ H1 dB H3 ∧ WOk K dB H3 μ' ∧ H3 D = some (.lst avs) ∧ RVs K dB H3 acc avs ∧ acc.length ≤ i + 1 ∧ mLcL mg mt me (wipeP ρ vs) P (xs.drop (i + 1)) acc μ', fun H3 hN => ?_, fun v H3 hy => ?_⟩
    · obtain ⟨a1, a2, a3, a4, a5, a6, a7, a8, a9, a10⟩ := hN
      exact ⟨m - 1, by omega, a1, a2, a3, a4, a5, a6, a7, a8, by omega, a9, a10⟩
    · obtain ⟨ey, wy, ry⟩ := yl v H3 hy
      refine hg.run dB (wipe σ vs) H3 (wipeP ρ vs) μ' x v _ _ wy (envB.mono (eB.trans ey)) ry q2 fun d4 σ4 H4 ρ4 μ4 e4 w4 ee4 hl4 hs4 q4 => ⟨wipe_same hl4 hs4 hs, ?_⟩
      refine hc.run d4 σ4 H4 ρ4 μ4 _ _ w4 ee4 q4 fun d5 H5 μ5 b e5 w5 q5 => ?_
      have nD : D ∉ dB.am := (wB.ban D hDban).2
      have E5 : Ext dB H' d5 H5 := (ey.trans e4).trans e5
      cases b
      · exact ⟨d5, μ5, acc, avs, eB.trans E5, w5, E5.keep _ _ hDv nD, rA.mono E5, by omega, q5⟩
      · refine he.run d5 σ4 H5 ρ4 μ5 _ _ w5 (ee4.mono e5) q5 fun d6 H6 μ6 y u e6 w6 r6 q6 => ?_
        have E6 : Ext dB H' d6 H6 := E5.trans e6
        have hD6 : H6 D = some (.lst avs) := E6.keep _ _ hDv nD
        have ban6 : D ∈ d6.ban := by rw [E6.ban]; exact hDban
        have rA6 := (rA.mono E6).append (.cons r6 .nil)
        refine ⟨avs, hD6, by rw [← rA.length]; exact lim_lt' (by omega), d6, μ6, acc ++ [y], avs ++ [u], ?_, w6.made ban6 (no_tup hD6), upd_same, rA6.made ban6 (no_tup hD6), by rw [List.length_append]; simp; omega, q6⟩
        have E7 := eB.trans E6
        exact ⟨E7.am, E7.ban, fun b o hb hn => by rw [upd_ne (ne_of_none hb hD)]; exact E7.keep b o hb hn⟩

/-- the made list as a value that stays -/
theorem lc_frozen {d1 dB : Wd} {H1 : Hp} {D : Addr} {acc : List PV} {avs : List V} (e1 : Ext d H d1 H1) (hD : H1 D = none) (hDn : D ∉ d1.ban) (eB : Ext ⟨d1.am, D :: d1.ban⟩ H1 dB H') (w : WOk K dB H' μ) (hv : H' D = some (.lst avs)) (r : RVs K dB H' acc avs) :
    Ext d H ⟨dB.am, d1.ban⟩ H' ∧ WOk K ⟨dB.am, d1.ban⟩ H' μ ∧ RV K ⟨dB.am, d1.ban⟩ H' (.lst acc) (.ref D) := by
  have hs : ∀ b ∈ d1.ban, b ∈ dB.ban := fun b hb => by rw [eB.ban]; exact List.mem_cons_of_mem _ hb
  have hb : D ∈ dB.ban := by rw [eB.ban]; exact List.mem_cons_self
  refine ⟨e1.trans ⟨eB.am, rfl, eB.keep⟩, w.less hs, .lst ⟨hv, (w.ban D hb).2, hDn⟩ (r.less hs)⟩
/-- the made list as a thing that changes -/
theorem lc_store {d1 dB : Wd} {H1 : Hp} {D : Addr} {acc : List PV} {avs : List V} (e1 : Ext d H d1 H1) (hD : H1 D = none) (hDn : D ∉ d1.ban) (eB : Ext ⟨d1.am, D :: d1.ban⟩ H1 dB H') (w : WOk K dB H' μ) (hv : H' D = some (.lst avs)) (r : RVs K dB H' acc avs) :
    Ext d H ⟨dB.am ++ [D], d1.ban⟩ H' ∧ WOk K ⟨dB.am ++ [D], d1.ban⟩ H' (μ ++ [.lst acc]) ∧ RV K ⟨dB.am ++ [D], d1.ban⟩ H' (.mr μ.length) (.ref D) := by
  have hs : ∀ b ∈ d1.ban, b ∈ dB.ban := fun b hb => by rw [eB.ban]; exact List.mem_cons_of_mem _ hb
  have hb : D ∈ dB.ban := by rw [eB.ban]; exact List.mem_cons_self
  have hn := (w.ban D hb).2
  have hm : MOK K ⟨dB.am ++ [D], d1.ban⟩ H' D (.lst acc) := ⟨avs, hv, r.pushed hb (no_tup hv) hs⟩
  refine ⟨e1.trans ⟨?_, rfl, eB.keep⟩, w.pushed hb (no_tup hv) hs hDn hm, .mr ?_⟩
  · obtain ⟨ex, q, f⟩ := eB.am
    refine ⟨ex ++ [D], by rw [q, List.append_assoc], fun p hp => ?_⟩
    rcases List.mem_append.mp hp with z | z
    · exact f p z
    · have e := List.mem_singleton.mp z
      subst e
      refine ⟨hD, fun z => hn ?_⟩
      rw [q]; exact List.mem_append_left _ z
  · show (dB.am ++ [D])[μ.length]? = some D
    rw [← w.len, List.getElem?_append_right (Nat.le_refl _)]
    simp
def mLc (mi : MI) (g : MG) (c : MT) (e : ME) (s vs : List Nat) : ME := fun ρ μ P => (∀ i ∈ s, i ∈ vs) ∧ mi ρ μ fun xs μ1 => xs.length ≤ lim ∧ mLcL g c e (wipeP ρ vs) (fun acc μ2 => P (.lst acc) μ2) xs [] μ1
def mLcM (mi : MI) (g : MG) (c : MT) (e : ME) (s vs : List Nat) : ME := fun ρ μ P => (∀ i ∈ s, i ∈ vs) ∧ mi ρ μ fun xs μ1 => xs.length ≤ lim ∧ mLcL g c e (wipeP ρ vs) (fun acc μ2 => P (.mr μ2.length) (μ2 ++ [.lst acc])) xs [] μ1
def tLcM (wi : TI) (g : TG) (tt : TT) (te : TE) (vs : List Nat) : TE := tLc wi g tt te vs
instance {wi mi g mg s tt mt te me vs} [hi : FI K wi mi] [hg : FG K g mg s] [hc : FT K tt mt] [he : FE K te me] : FE K (tLc wi g tt te vs) (mLc mi mg mt me s vs) := ⟨fun d σ H ρ μ P Q w e q k => by
  refine lc_run w e q.1 q.2 fun d1 H1 D dB H' μ' acc avs e1 hD hDn eB w' hv r p => ?_
  obtain ⟨x1, x2, x3⟩ := lc_frozen e1 hD hDn eB w' hv r
  exact k _ H' μ' _ _ x1 x2 x3 p⟩
instance {wi mi g mg s tt mt te me vs} [hi : FI K wi mi] [hg : FG K g mg s] [hc : FT K tt mt] [he : FE K te me] : FE K (tLcM wi g tt te vs) (mLcM mi mg mt me s vs) := ⟨fun d σ H ρ μ P Q w e q k => by
  refine lc_run w e q.1 q.2 fun d1 H1 D dB H' μ' acc avs e1 hD hDn eB w' hv r p => ?_
  obtain ⟨x1, x2, x3⟩ := lc_store e1 hD hDn eB w' hv r
  exact k _ H' _ _ _ x1 x2 x3 p⟩
end
end Fx

/-! Fx4: what is walked; built-ins by values. -/
namespace Fx
open PySem PySem.Spec PyProof.Rows L2 RZ

/-! ### iterators -/
/-- a list or a tuple -/
def iSeq (K : PySem.W.Frag) (tl : TE) : TI := fun σ H R => tl σ H fun x H1 => ∃ a, x = .ref a ∧ (((∃ xs, SqL K H1 a xs) ∧ R (Itl K a) H1) ∨ ((∃ xs, SqT K H1 a xs) ∧ R (Itt K a) H1))
theorem pi_seq {X : Cx} {tg l : Expr} {tl : TE} (hl : PE X l tl) : PI X tg l (iSeq X.K tl) := by
  refine ⟨fun pins s σ H R I h => thn (hl.run pins s σ H _ I h) fun v s1 hq => ?_⟩
  obtain ⟨x, H1, I1, r1, a, e, q⟩ := hq
  subst e
  cases r1
  have fr : ∀ b ∈ [s1.heap.objs.size], FpOk X pins H1 b := fun b hb => by
    have e := List.mem_singleton.mp hb
    subst e
    exact I1.fpOk (Nat.le_refl _) (I1.hok.fresh (Nat.le_refl _))
  rcases q with ⟨⟨xs, hq⟩, q⟩ | ⟨⟨xs, hq⟩, q⟩
  · obtain ⟨its, rv, p, hz⟩ := I1.list hq
    refine wpAny_pyIter_list p.isList ?_
    exact ⟨_, _, _, _, H1, rfl, I1.kept (t' := s1.toks) fun b o e => Heap.get?_push_of_some _ e, turn_list a _, ⟨_, Heap.get?_push_size _ rfl, rfl, rfl⟩, fr, q⟩
  · obtain ⟨its, rv, p, hz⟩ := I1.tuple hq
    refine wpAny_pyIter_tuple (show s1.heap.IsTuple a its.toArray from p) ?_
    exact ⟨_, _, _, _, H1, rfl, I1.kept (t' := s1.toks) fun b o e => Heap.get?_push_of_some _ e, turn_tuple a _, ⟨_, Heap.get?_push_size _ rfl, rfl, rfl⟩, fr, q⟩
section
variable {K : PySem.W.Frag} {d d' : Wd} {H H' : Hp} {a b : Addr} {vs us : List V} {xs ys : List PV} {μ : Store}
theorem it_tup (h : TupAt K d H a vs) (r : RVs K d H xs vs) : ItOk (K := K) d H (Itt K a) xs := fun d1 d2 H2 μ2 bb e w => by
  have h2 : TupAt K d2 H2 a vs := e.tupAt (h.imp (fun z => ⟨z.1, by rw [bb.1]; exact z.2⟩) id)
  have r2 : RVs K d2 H2 xs vs := (r.bars bb).mono e
  refine ⟨fun i x hx => ?_, fun i hi => ⟨vs, h2.sq, by rw [← r2.length]; exact hi⟩⟩
  obtain ⟨v, hv, rv⟩ := r2.get hx
  refine ⟨⟨vs, v, h2.sq, hv⟩, fun u H3 hy => ?_⟩
  obtain ⟨rfl, f⟩ := hy
  have e1 := f vs h2.sq
  rw [hv] at e1; cases e1
  exact ⟨.refl, w, rv⟩
theorem it_kl (h : KlAt K d H a vs) (r : RVs K d H xs vs) : ItOk (K := K) d H (Itl K a) xs := fun d1 d2 H2 μ2 bb e w => by
  have h2 : KlAt K d2 H2 a vs := e.klAt (h.imp (fun z => ⟨z.1, by rw [bb.1]; exact z.2.1, fun q => (bb.2 _ q).elim z.2.2 (Rd.ne z.1)⟩) id)
  have r2 : RVs K d2 H2 xs vs := (r.bars bb).mono e
  refine ⟨fun i x hx => ?_, fun i hi => ⟨vs, h2.sq, by rw [← r2.length]; exact hi⟩⟩
  obtain ⟨v, hv, rv⟩ := r2.get hx
  refine ⟨⟨vs, v, h2.sq, hv⟩, fun u H3 hy => ?_⟩
  obtain ⟨rfl, f⟩ := hy
  have e1 := f vs h2.sq
  rw [hv] at e1; cases e1
  exact ⟨.refl, w, rv⟩
theorem it_lst (h : LstAt d H a vs) (r : RVs K d H xs vs) : ItOk (K := K) d H (Itl K a) xs := it_kl (.inl ⟨.inl h.1, h.2⟩) r
def mSeqI (m : ME) : MI := fun ρ μ P => m ρ μ fun x μ1 => match x with | .tup xs => P xs μ1 | .lst xs => P xs μ1 | .kl xs => P xs μ1 | _ => False
instance {t m} [h : FE K t m] : FI K (iSeq K t) (mSeqI m) := ⟨fun d σ H ρ μ P R w e q k => by
  refine h.run d σ H ρ μ _ _ w e q fun d1 H1 μ1 x v e1 w1 r1 q1 => ?_
  cases x <;> try exact q1.elim
  · cases r1 with
    | tup ha hr => exact ⟨_, rfl, .inr ⟨⟨_, ha.sq⟩, k d1 H1 μ1 _ _ e1 w1 (it_tup ha hr) q1⟩⟩
  · cases r1 with
    | lst ha hr => exact ⟨_, rfl, .inl ⟨⟨_, ha.sq⟩, k d1 H1 μ1 _ _ e1 w1 (it_lst ha hr) q1⟩⟩
  · cases r1 with
    | kl ha hr => exact ⟨_, rfl, .inl ⟨⟨_, ha.sq⟩, k d1 H1 μ1 _ _ e1 w1 (it_kl ha hr) q1⟩⟩⟩
def rangeP (lo : Int) (n : Nat) : List PV := (List.range n).map fun i => .int (lo + (i : Nat))
theorem rangeP_get {lo : Int} {n i : Nat} {x : PV} (h : (rangeP lo n)[i]? = some x) : i < n ∧ x = .int (lo + (i : Nat)) := by
  unfold rangeP at h
  rw [List.getElem?_map] at h
  cases e : (List.range n)[i]? with
  | none => rw [e] at h; cases h
  | some j =>
    rw [e] at h; cases h
    obtain ⟨h1, h2⟩ := List.getElem?_eq_some_iff.mp e
    rw [List.length_range] at h1
    rw [List.getElem_range] at h2
    subst h2
    exact ⟨h1, rfl⟩
theorem it_rng (lo : Int) (n : Nat) : ItOk (K := K) d H (Itr lo n) (rangeP lo n) := fun d1 d2 H2 μ2 bb e w => by
  refine ⟨fun i x hx => ?_, fun i hi => show n ≤ i by simpa [rangeP] using hi⟩
  obtain ⟨h1, rfl⟩ := rangeP_get hx
  refine ⟨h1, fun u H3 hy => ?_⟩
  obtain ⟨rfl, rfl⟩ := hy
  exact ⟨.refl, w, .int _⟩
def mRng1 (m : MA) : MI := fun ρ μ P => m ρ μ fun xs μ1 => match xs with | [.int j] => (-1000000000000 ≤ j ∧ j ≤ 1000000000000) ∧ P (rangeP 0 j.toNat) μ1 | _ => False
def mRng2 (m : MA) : MI := fun ρ μ P => m ρ μ fun xs μ1 => match xs with | [.int i, .int j] => (-1000000000000 ≤ i ∧ i ≤ 1000000000000 ∧ -1000000000000 ≤ j ∧ j ≤ 1000000000000) ∧ P (rangeP i (j - i).toNat) μ1 | _ => False
instance {t m} [h : FA K t m] : FI K (iRng1 t) (mRng1 m) := ⟨fun d σ H ρ μ P R w e q k => by
  refine h.run d σ H ρ μ _ _ w e q fun d1 H1 μ1 xs vs e1 w1 r1 q1 => ?_
  match xs, r1, q1 with
  | [.int j], .cons (.int _) .nil, ⟨z, q1⟩ => exact ⟨j, rfl, by omega, by omega, k d1 H1 μ1 _ _ e1 w1 (it_rng 0 j.toNat) q1⟩⟩
instance {t m} [h : FA K t m] : FI K (iRng2 t) (mRng2 m) := ⟨fun d σ H ρ μ P R w e q k => by
  refine h.run d σ H ρ μ _ _ w e q fun d1 H1 μ1 xs vs e1 w1 r1 q1 => ?_
  match xs, r1, q1 with
  | [.int i, .int j], .cons (.int _) (.cons (.int _) .nil), ⟨z, q1⟩ => exact ⟨i, j, rfl, by omega, k d1 H1 μ1 _ _ e1 w1 (it_rng i (j - i).toNat) q1⟩⟩
def zipP : List PV → List PV → List PV
  | x :: xs, y :: ys => .tup [x, y] :: zipP xs ys
  | _, _ => []
theorem zipP_get : ∀ {xs ys : List PV} {i : Nat} {z : PV}, (zipP xs ys)[i]? = some z → ∃ x y, xs[i]? = some x ∧ ys[i]? = some y ∧ z = .tup [x, y]
  | [], _, _, _, h => by simp [zipP] at h
  | _ :: _, [], _, _, h => by simp [zipP] at h
  | x :: xs, y :: ys, 0, z, h => by
    simp [zipP] at h
    exact ⟨x, y, rfl, rfl, h.symm⟩
  | x :: xs, y :: ys, i + 1, z, h => by
    simp only [zipP, List.getElem?_cons_succ] at h
    obtain ⟨a, b, h1, h2, h3⟩ := zipP_get h
    exact ⟨a, b, by simpa using h1, by simpa using h2, h3⟩
theorem zipP_length : ∀ xs ys : List PV, (zipP xs ys).length = min xs.length ys.length
  | [], _ => by simp [zipP]
  | _ :: _, [] => by simp [zipP]
  | x :: xs, y :: ys => by simp [zipP, zipP_length xs ys]
theorem tup_pair {x y : PV} {v u : V} {T : Addr} (w : WOk K d H μ) (hT : H T = none) (rx : RV K d H x v) (ry : RV K d H y u) : Ext d H d (upd H T (.tup [v, u])) ∧ WOk K d (upd H T (.tup [v, u])) μ ∧ RV K d (upd H T (.tup [v, u])) (.tup [x, y]) (.ref T) :=
  ⟨Ext.lay w hT, w.lay hT, lay_tup w (.cons rx (.cons ry .nil)) hT⟩
theorem it_zipT (h : TupAt K d H a vs) (r : RVs K d H xs vs) (h' : TupAt K d H b us) (r' : RVs K d H ys us) : ItOk (K := K) d H (ItzT K a b) (zipP xs ys) := fun d1 d2 H2 μ2 bb e w => by
  have h2 : TupAt K d2 H2 a vs := e.tupAt (h.imp (fun z => ⟨z.1, by rw [bb.1]; exact z.2⟩) id)
  have r2 : RVs K d2 H2 xs vs := (r.bars bb).mono e
  have h2' : TupAt K d2 H2 b us := e.tupAt (h'.imp (fun z => ⟨z.1, by rw [bb.1]; exact z.2⟩) id)
  have r2' : RVs K d2 H2 ys us := (r'.bars bb).mono e
  refine ⟨fun i z hz => ?_, fun i hi => ⟨vs, us, h2.sq, h2'.sq, ?_⟩⟩
  · obtain ⟨x, y, hx, hy, rfl⟩ := zipP_get hz
    obtain ⟨v, hv, rv⟩ := r2.get hx
    obtain ⟨u, hu, ru⟩ := r2'.get hy
    refine ⟨⟨vs, us, v, u, h2.sq, h2'.sq, hv, hu⟩, fun t H3 hy => ?_⟩
    obtain ⟨T, x', y', rfl, hT, rfl, f, g⟩ := hy
    have e1 := f vs h2.sq
    have e2 := g us h2'.sq
    rw [hv] at e1; cases e1
    rw [hu] at e2; cases e2
    exact tup_pair w hT rv ru
  · rw [zipP_length] at hi
    rw [← r2.length, ← r2'.length]
    omega
theorem it_zipL (h : LstAt d H a vs) (r : RVs K d H xs vs) (h' : LstAt d H b us) (r' : RVs K d H ys us) : ItOk (K := K) d H (Itz K a b) (zipP xs ys) := fun d1 d2 H2 μ2 bb e w => by
  have bl : ∀ {c : Addr} {ws : List V}, LstAt d H c ws → LstAt d2 H2 c ws := fun h => e.lstAt ⟨h.1, by rw [bb.1]; exact h.2.1, fun q => (bb.2 _ q).elim h.2.2 (by rw [h.1]; simp)⟩
  have h2 := bl h
  have r2 : RVs K d2 H2 xs vs := (r.bars bb).mono e
  have h2' := bl h'
  have r2' : RVs K d2 H2 ys us := (r'.bars bb).mono e
  refine ⟨fun i z hz => ?_, fun i hi => ⟨vs, us, h2.sq, h2'.sq, ?_⟩⟩
  · obtain ⟨x, y, hx, hy, rfl⟩ := zipP_get hz
    obtain ⟨v, hv, rv⟩ := r2.get hx
    obtain ⟨u, hu, ru⟩ := r2'.get hy
    refine ⟨⟨vs, us, v, u, h2.sq, h2'.sq, hv, hu⟩, fun t H3 hy => ?_⟩
    obtain ⟨T, x', y', rfl, hT, rfl, f, g⟩ := hy
    have e1 := f vs h2.sq
    have e2 := g us h2'.sq
    rw [hv] at e1; cases e1
    rw [hu] at e2; cases e2
    exact tup_pair w hT rv ru
  · rw [zipP_length] at hi
    rw [← r2.length, ← r2'.length]
    omega
def mZip (m : MA) : MI := fun ρ μ P => m ρ μ fun zs μ1 => match zs with | [.tup xs, .tup ys] => P (zipP xs ys) μ1 | [.lst xs, .lst ys] => P (zipP xs ys) μ1 | _ => False
instance {t m} [h : FA K t m] : FI K (iZipA K t) (mZip m) := ⟨fun d σ H ρ μ P R w e q k => by
  refine h.run d σ H ρ μ _ _ w e q fun d1 H1 μ1 zs vs e1 w1 r1 q1 => ?_
  match zs, r1, q1 with
  | [.tup xs, .tup ys], .cons (.tup ha hr) (.cons (.tup ha' hr') .nil), q1 => exact ⟨_, _, _, _, rfl, .inr ⟨ha.sq, ha'.sq, k d1 H1 μ1 _ _ e1 w1 (it_zipT ha hr ha' hr') q1⟩⟩
  | [.lst xs, .lst ys], .cons (.lst ha hr) (.cons (.lst ha' hr') .nil), q1 => exact ⟨_, _, _, _, rfl, .inl ⟨ha.sq, ha'.sq, k d1 H1 μ1 _ _ e1 w1 (it_zipL ha hr ha' hr') q1⟩⟩⟩
end
end Fx

/-! Fx5: operators, built-ins and methods by plain values. -/
namespace Fx
open PySem PySem.Spec PyProof.Rows L2 RZ
section
variable {K : PySem.W.Frag} {d d' : Wd} {H H' : Hp} {a b : Addr} {vs us : List V} {xs ys : List PV} {μ : Store}
theorem WOk.obj (w : WOk K d H μ) {n : Nat} {m : MO} (h : d.am[n]? = some a) (hm : μ[n]? = some m) : MOK K d H a m := w.ob n a m h hm
theorem WOk.has (w : WOk K d H μ) {n : Nat} {m : MO} (hm : μ[n]? = some m) : ∃ a, d.am[n]? = some a := by
  have : n < d.am.length := by rw [w.len]; exact (List.getElem?_eq_some_iff.mp hm).1
  exact ⟨d.am[n], List.getElem?_eq_getElem this⟩
theorem RVs.atI {i : Int} {x : PV} (r : RVs K d H xs vs) (h : atI xs i = some x) : ∃ v, L2.atI vs i = some v ∧ RV K d H x v := by
  unfold L2.atI at h ⊢
  rw [← r.length]
  cases e : ixN xs.length i with
  | none => rw [e] at h; cases h
  | some j =>
    rw [e] at h
    exact r.get h
/-! ### xs[i] -/
/-- the items of a sequence -/
def itemsOf (x : PV) (μ : Store) : Option (List PV) := match x with
  | .tup xs => some xs
  | .lst xs => some xs
  | .kl xs => some xs
  | .mr n => match μ[n]? with | some (.lst xs) => some xs | _ => none
  | _ => none
def pIx : MO2 := fun x y μ P => match y with | .int i => (match itemsOf x μ with | some xs => (match atI xs i with | some v => P v μ | none => False) | none => False) | _ => False
theorem seq_of {x : PV} {v : V} (w : WOk K d H μ) (r : RV K d H x v) (h : itemsOf x μ = some xs) : ∃ a vs, v = .ref a ∧ RVs K d H xs vs ∧ (SqL K H a vs ∨ SqT K H a vs) := by
  cases r with
  | tup h1 h2 => cases h; exact ⟨_, _, rfl, h2, .inr h1.sq⟩
  | lst h1 h2 => cases h; exact ⟨_, _, rfl, h2, .inl h1.sq⟩
  | kl h1 h2 => cases h; exact ⟨_, _, rfl, h2, .inl h1.sq⟩
  | @mr n a h1 =>
    unfold itemsOf at h
    cases e : μ[n]? with
    | none => simp [e] at h
    | some m =>
      cases m with
      | lst zs =>
        simp [e] at h
        subst h
        obtain ⟨vs, q, r⟩ := w.obj h1 e
        exact ⟨_, _, rfl, r, .inl (.of q)⟩
      | dk _ => simp [e] at h
      | fd _ _ _ => simp [e] at h
  | _ => cases h
instance : F2 K (rIx K) pIx := ⟨fun d H μ x y v u P Q w r1 r2 q k => by
  unfold pIx at q
  cases y <;> try exact q.elim
  cases r2
  rename_i i
  cases e : itemsOf x μ with
  | none => rw [e] at q; exact q.elim
  | some xs =>
    rw [e] at q
    simp only at q
    obtain ⟨a, vs, rfl, rv, hq⟩ := seq_of w r1 e
    cases e2 : atI xs i with
    | none => rw [e2] at q; exact q.elim
    | some z =>
      rw [e2] at q
      obtain ⟨v', hv, rz⟩ := rv.atI e2
      have fin := k d H μ _ _ .refl w rz q
      rcases hq with hq | hq
      · exact .inl ⟨a, vs, i, v', rfl, rfl, hq, hv, fin⟩
      · exact .inr (.inl ⟨a, vs, i, v', rfl, rfl, hq, hv, fin⟩)⟩

/-! ### equality -/
def scalP : PV → PV → Option Bool
  | .int i, .int j => some (decide (i = j))
  | .bl i, .bl j => some (decide (i = j))
  | .str i, .str j => some (decide (i = j))
  | .non, .non => some true
  | .non, .int _ => some false | .int _, .non => some false | .non, .bl _ => some false | .bl _, .non => some false | .non, .str _ => some false | .str _, .non => some false
  | .int _, .str _ => some false | .str _, .int _ => some false | .bl _, .str _ => some false | .str _, .bl _ => some false
  | _, _ => none
mutual
def datP : PV → Option PyData
  | .non => some .none
  | .bl b => some (.bool b)
  | .int i => some (.int i)
  | .str x => some (.str x)
  | .tup xs => (datPs xs).map .tuple
  | .lst xs => (datPs xs).map .list
  | .ty _ => none
  | .kl _ => none
  | .mr _ => none
def datPs : List PV → Option (List PyData)
  | [] => some []
  | x :: xs => match datP x, datPs xs with | some d, some ds => some (d :: ds) | _, _ => none
end
mutual
theorem dat_dp : ∀ {x : PV} {v : V} {e : PyData}, RV K d H x v → datP x = some e → Dp K H v e
  | _, _, _, .non, h => by cases h; exact .non
  | _, _, _, .bl b, h => by cases h; exact .bl b
  | _, _, _, .int i, h => by cases h; exact .int i
  | _, _, _, .str x, h => by cases h; exact .str x
  | _, _, _, .ty n, h => by simp [datP] at h
  | .tup xs, _, _, .tup h1 r, h => by
    simp only [datP] at h
    cases e : datPs xs with
    | none => rw [e] at h; cases h
    | some ds => rw [e] at h; cases h; exact .tup h1.sq (dats_dp r e)
  | .lst xs, _, _, .lst h1 r, h => by
    simp only [datP] at h
    cases e : datPs xs with
    | none => rw [e] at h; cases h
    | some ds => rw [e] at h; cases h; exact .lst h1.sq (dats_dp r e)
  | _, _, _, .kl _ _, h => by simp [datP] at h
  | _, _, _, .mr n, h => by simp [datP] at h
theorem dats_dp : ∀ {xs : List PV} {vs : List V} {es : List PyData}, RVs K d H xs vs → datPs xs = some es → DpAll K H vs es
  | _, _, _, .nil, h => by simp [datPs] at h; subst h; exact .nil
  | x :: xs, _, _, .cons r t, h => by
    simp only [datPs] at h
    cases e1 : datP x with
    | none => rw [e1] at h; simp at h
    | some d1 =>
      cases e2 : datPs xs with
      | none => rw [e1, e2] at h; simp at h
      | some ds => rw [e1, e2] at h; simp at h; subst h; exact .cons (dat_dp r e1) (dats_dp t e2)
end
/-- the list of a thing that changes, as data -/
def frzP (x : PV) (μ : Store) : PV := match x with | .mr n => (match μ[n]? with | some (.lst xs) => .lst xs | _ => x) | _ => x
theorem frz_dp {x : PV} {v : V} {e : PyData} (w : WOk K d H μ) (r : RV K d H x v) (h : datP (frzP x μ) = some e) : Dp K H v e := by
  match x, r, h with
  | .mr n, .mr (a := a) h1, h =>
    unfold frzP at h
    cases q : μ[n]? with
    | none => simp [q, datP] at h
    | some m =>
      cases m with
      | dk _ => simp [q, datP] at h
      | fd _ _ _ => simp [q, datP] at h
      | lst zs =>
        simp only [q, datP] at h
        cases e : datPs zs with
        | none => rw [e] at h; cases h
        | some ds =>
          rw [e] at h; cases h
          obtain ⟨vs, q, r⟩ := w.obj h1 q
          exact .lst (.of q) (dats_dp r e)
  | .non, r, h => exact dat_dp r h
  | .bl _, r, h => exact dat_dp r h
  | .int _, r, h => exact dat_dp r h
  | .str _, r, h => exact dat_dp r h
  | .ty _, r, h => exact dat_dp r h
  | .tup _, r, h => exact dat_dp r h
  | .lst _, r, h => exact dat_dp r h
  | .kl _, r, h => exact dat_dp r h
def eqP (x y : PV) (μ : Store) : Option Bool := match scalP x y with
  | some b => some b
  | none => match datP (frzP x μ), datP (frzP y μ) with
    | some a, some b => if SeqAt.shaped a = true ∧ SeqAt.shaped b = true then some (PyData.eqv a b) else none
    | _, _ => none
def rEqX (K : PySem.W.Frag) : R2 := fun x y H Q => rEq x y H Q ∨ rEqD K x y H Q
def rNeX (K : PySem.W.Frag) : R2 := fun x y H Q => rNe x y H Q ∨ rNeD K x y H Q
theorem op_eqX {X : Cx} (hu : X.A.units + 64 < cLine) : OpR X (compareOp .Eq) (rEqX X.K) := fun pins s σ H x y v u Q I rx ry h =>
  h.elim (op_eq pins s σ H x y v u Q I rx ry) (op_eqD hu pins s σ H x y v u Q I rx ry)
theorem op_neX {X : Cx} (hu : X.A.units + 64 < cLine) : OpR X (compareOp .NotEq) (rNeX X.K) := fun pins s σ H x y v u Q I rx ry h =>
  h.elim (op_ne pins s σ H x y v u Q I rx ry) (op_neD hu pins s σ H x y v u Q I rx ry)
def pEq : MO2 := fun x y μ P => match eqP x y μ with | some b => P (.bl b) μ | none => False
def pNe : MO2 := fun x y μ P => match eqP x y μ with | some b => P (.bl (!b)) μ | none => False
theorem scal_rv {x y : PV} {v u : V} {c : Bool} (r1 : RV K d H x v) (r2 : RV K d H y u) (h : scalP x y = some c) : scal v u = true ∧ decide (v = u) = c := by
  cases r1 <;> cases r2 <;> simp [scalP] at h <;> subst h <;> simp [scal]
theorem eq_run {x y : PV} {v u : V} {c : Bool} (w : WOk K d H μ) (r1 : RV K d H x v) (r2 : RV K d H y u) (h : eqP x y μ = some c) :
    (scal v u = true ∧ decide (v = u) = c) ∨ ∃ a b, Dp K H v a ∧ Dp K H u b ∧ SeqAt.shaped a = true ∧ SeqAt.shaped b = true ∧ PyData.eqv a b = c := by
  unfold eqP at h
  cases e : scalP x y with
  | some c' => rw [e] at h; cases h; exact .inl (scal_rv r1 r2 e)
  | none =>
    rw [e] at h
    simp only at h
    cases e1 : datP (frzP x μ) with
    | none => rw [e1] at h; cases h
    | some a =>
      cases e2 : datP (frzP y μ) with
      | none => rw [e1, e2] at h; cases h
      | some b =>
        rw [e1, e2] at h
        simp only at h
        split at h
        · rename_i hs
          cases h
          exact .inr ⟨a, b, frz_dp w r1 e1, frz_dp w r2 e2, hs.1, hs.2, rfl⟩
        · cases h
instance : F2 K (rEqX K) pEq := ⟨fun d H μ x y v u P Q w r1 r2 q k => by
  unfold pEq at q
  cases e : eqP x y μ with
  | none => rw [e] at q; exact q.elim
  | some c =>
    rw [e] at q
    have fin := k d H μ _ _ .refl w (.bl c) q
    rcases eq_run w r1 r2 e with ⟨h1, h2⟩ | ⟨a, b, h1, h2, h3, h4, h5⟩
    · exact .inl ⟨h1, by rw [h2]; exact fin⟩
    · exact .inr ⟨a, b, h1, h2, h3, h4, by rw [h5]; exact fin⟩⟩
instance : F2 K (rNeX K) pNe := ⟨fun d H μ x y v u P Q w r1 r2 q k => by
  unfold pNe at q
  cases e : eqP x y μ with
  | none => rw [e] at q; exact q.elim
  | some c =>
    rw [e] at q
    have fin := k d H μ _ _ .refl w (.bl (!c)) q
    rcases eq_run w r1 r2 e with ⟨h1, h2⟩ | ⟨a, b, h1, h2, h3, h4, h5⟩
    · exact .inl ⟨h1, by rw [h2]; exact fin⟩
    · exact .inr ⟨a, b, h1, h2, h3, h4, by rw [h5]; exact fin⟩⟩
/-! ### x in xs, items that are no tuples -/
def flatP : PV → Bool
  | .non => true | .bl _ => true | .int _ => true | .str _ => true | _ => false
def eqFlat : PV → PV → Bool
  | .non, .non => true
  | .bl a, .bl b => a == b
  | .bl a, .int b => (if a then 1 else 0) == b
  | .int a, .bl b => a == (if b then 1 else 0)
  | .int a, .int b => a == b
  | .str a, .str b => a == b
  | _, _ => false
def inP (x : PV) (xs : List PV) : Bool := xs.any fun y => eqFlat y x
theorem flat_rv {x : PV} {v : V} (r : RV K d H x v) : flatP x = true → flatV v = true := by
  cases r <;> simp [flatP, flatV]
theorem flats_rv : ∀ {xs : List PV} {vs : List V}, RVs K d H xs vs → xs.all flatP = true → vs.all flatV = true
  | _, _, .nil, _ => rfl
  | _, _, .cons r t, h => by
    rw [List.all_cons, Bool.and_eq_true] at h ⊢
    exact ⟨flat_rv r h.1, flats_rv t h.2⟩
theorem eqFlat_rv {x y : PV} {v u : V} (r : RV K d H x v) (r' : RV K d H y u) (h : flatP x = true) (h' : flatP y = true) : eqV v u = eqFlat x y := by
  cases r <;> simp [flatP] at h <;> cases r' <;> simp [flatP] at h' <;> rfl
theorem in_rv {x : PV} {v : V} (r : RV K d H x v) (h : flatP x = true) : ∀ {xs : List PV} {vs : List V}, RVs K d H xs vs → xs.all flatP = true → inV v vs = inP x xs
  | _, _, .nil, _ => rfl
  | _, _, .cons r' t, h' => by
    rw [List.all_cons, Bool.and_eq_true] at h'
    show ((eqV _ v) || inV v _) = (eqFlat _ x || inP x _)
    rw [eqFlat_rv r' r h'.1 h, in_rv r h t h'.2]
def pIn (neg : Bool) : MO2 := fun x y μ P => match itemsOf y μ with | some xs => (flatP x = true ∧ xs.all flatP = true) ∧ P (.bl (if neg then !inP x xs else inP x xs)) μ | none => False
instance {neg} : F2 K (rIn K neg) (pIn neg) := ⟨fun d H μ x y v u P Q w r1 r2 q k => by
  unfold pIn at q
  cases e : itemsOf y μ with
  | none => rw [e] at q; exact q.elim
  | some xs =>
    rw [e] at q
    obtain ⟨⟨h1, h2⟩, q⟩ := q
    obtain ⟨a, vs, rfl, rv, hq⟩ := seq_of w r2 e
    refine ⟨a, vs, rfl, hq, flat_rv r1 h1, flats_rv rv h2, ?_⟩
    rw [in_rv r1 h1 rv h2]
    exact k d H μ _ _ .refl w (.bl _) q⟩
/-! ### is, for bools -/
def pIsB (neg : Bool) : MO2 := fun x y μ P => match x, y with | .bl a, .bl b => P (.bl (if neg then !decide (a = b) else decide (a = b))) μ | _, _ => False
instance : F2 K rIsB (pIsB false) := ⟨fun d H μ x y v u P Q w r1 r2 q k => by
  cases x <;> try exact q.elim
  cases y <;> try exact q.elim
  cases r1; cases r2
  exact ⟨_, _, rfl, rfl, k d H μ _ _ .refl w (.bl _) q⟩⟩
instance : F2 K rNotB (pIsB true) := ⟨fun d H μ x y v u P Q w r1 r2 q k => by
  cases x <;> try exact q.elim
  cases y <;> try exact q.elim
  cases r1; cases r2
  exact ⟨_, _, rfl, rfl, k d H μ _ _ .refl w (.bl _) q⟩⟩
/-! ### tuples joined -/
def pCatT : MO2 := fun x y μ P => match x, y with | .tup xs, .tup ys => xs.length + ys.length ≤ lim ∧ P (.tup (xs ++ ys)) μ | _, _ => False
instance : F2 K (rCatA K) pCatT := ⟨fun d H μ x y v u P Q w r1 r2 q k => by
  cases x <;> try exact q.elim
  cases y <;> try exact q.elim
  rename_i xs ys
  obtain ⟨z, q⟩ := q
  cases r1 with
  | @tup _ a vs h1 h2 =>
    cases r2 with
    | @tup _ b us h3 h4 =>
      refine ⟨a, b, vs, us, rfl, rfl, h1.sq, h3.sq, by rw [← h2.length, ← h4.length]; exact lim_lt z, fun e => ?_, fun e1 e2 => ?_, fun e1 e2 p hp => ?_⟩
      · subst e
        cases h2
        exact k d H μ _ _ .refl w (.tup h3 h4) (by simpa using q)
      · subst e2
        cases h4
        exact k d H μ _ _ .refl w (.tup h1 h2) (by simpa using q)
      · exact k d _ μ _ _ (Ext.lay w hp) (w.lay hp) (lay_tup w (h2.append h4) hp) q⟩
/-! ### slices -/
class FO (K : PySem.W.Frag) (t : TO) (m : outParam (PEnv → Store → (Option Int → Store → Prop) → Prop)) : Prop where
  run : ∀ (d : Wd) (σ : L2.St) (H : Hp) (ρ : PEnv) (μ : Store) (P : Option Int → Store → Prop) (Q : Option Int → Hp → Prop), WOk K d H μ → REnv K d H ρ σ → m ρ μ P →
    (∀ d' H' μ' o, Ext d H d' H' → WOk K d' H' μ' → P o μ' → Q o H') → t σ H Q
def mNoPart : PEnv → Store → (Option Int → Store → Prop) → Prop := fun _ μ P => P none μ
def mPart (m : ME) : PEnv → Store → (Option Int → Store → Prop) → Prop := fun ρ μ P => m ρ μ fun x μ1 => match x with | .int i => P (some i) μ1 | _ => False
instance : FO K tNoPart mNoPart := ⟨fun d σ H ρ μ P Q w e q k => k d H μ none .refl w q⟩
instance {t m} [h : FE K t m] : FO K (tPart t) (mPart m) := ⟨fun d σ H ρ μ P Q w e q k => by
  refine h.run d σ H ρ μ _ _ w e q fun d1 H1 μ1 x v e1 w1 r1 q1 => ?_
  cases x <;> try exact q1.elim
  cases r1
  exact ⟨_, rfl, k d1 H1 μ1 _ e1 w1 q1⟩⟩
def cutP (xs : List PV) (lo hi : Option Int) : List PV := (xs.drop (HT.sIx xs.length 0 lo)).take (HT.sIx xs.length xs.length hi - HT.sIx xs.length 0 lo)
theorem RVs.cut (r : RVs K d H xs vs) (lo hi : Option Int) : RVs K d H (cutP xs lo hi) (cutV vs lo hi) := by
  unfold cutP cutV
  rw [← r.length]
  exact (r.drop _).take _
theorem cut_whole {xs : List PV} {lo hi : Option Int} (h : HT.sIx xs.length 0 lo = 0 ∧ HT.sIx xs.length xs.length hi = xs.length) : cutP xs lo hi = xs := by
  unfold cutP
  rw [h.1, h.2]
  simp
def mSl (m : ME) (lo hi : PEnv → Store → (Option Int → Store → Prop) → Prop) : ME := fun ρ μ P => m ρ μ fun x μ1 => lo ρ μ1 fun l μ2 => hi ρ μ2 fun h μ3 => match x with | .tup xs => P (.tup (cutP xs l h)) μ3 | .lst xs => P (.lst (cutP xs l h)) μ3 | .kl xs => P (.lst (cutP xs l h)) μ3 | .mr n => (match μ3[n]? with | some (.lst xs) => P (.lst (cutP xs l h)) μ3 | _ => False) | _ => False
/-- a slice of a list or a tuple -/
def rSlX (K : PySem.W.Frag) : V → Option Int → Option Int → Hp → VK → Prop := fun x lo hi H Q => rSlL K x lo hi H Q ∨ rSlA K x lo hi H Q
theorem sl_any {X : Cx} : SlR X (rSlX X.K) := SlR.or sl_list sl_tupA
instance {t m lo hi ml mh} [h : FE K t m] [hl : FO K lo ml] [hh : FO K hi mh] : FE K (tSl (rSlX K) t lo hi) (mSl m ml mh) := ⟨fun d σ H ρ μ P Q w e q k => by
  refine h.run d σ H ρ μ _ _ w e q fun d1 H1 μ1 x v e1 w1 r1 q1 => ?_
  refine hl.run d1 σ H1 ρ μ1 _ _ w1 (e.mono e1) q1 fun d2 H2 μ2 l e2 w2 q2 => ?_
  refine hh.run d2 σ H2 ρ μ2 _ _ w2 (e.mono (e1.trans e2)) q2 fun d3 H3 μ3 h e3 w3 q3 => ?_
  have E3 := (e1.trans e2).trans e3
  have r3 := r1.mono (e2.trans e3)
  cases r3 with
  | @tup xs a vs h1 h2 =>
    refine .inr ⟨a, vs, rfl, h1.sq, fun z => ?_, fun z p hp => ?_⟩
    · have q3' : P (.tup (cutP xs l h)) μ3 := q3
      rw [cut_whole (by rw [h2.length]; exact z)] at q3'
      exact k d3 H3 μ3 _ _ E3 w3 (.tup h1 h2) q3'
    · exact k d3 _ μ3 _ _ (E3.trans (Ext.lay w3 hp)) (w3.lay hp) (lay_tup w3 (h2.cut l h) hp) q3
  | @lst xs a vs h1 h2 =>
    exact .inl ⟨a, vs, rfl, h1.sq, fun p hp => k d3 _ μ3 _ _ (E3.trans (Ext.lay w3 hp)) (w3.lay hp) (lay_lst w3 (h2.cut l h) hp) q3⟩
  | @kl xs a vs h1 h2 =>
    exact .inl ⟨a, vs, rfl, h1.sq, fun p hp => k d3 _ μ3 _ _ (E3.trans (Ext.lay w3 hp)) (w3.lay hp) (lay_lst w3 (h2.cut l h) hp) q3⟩
  | @mr n a h1 =>
    simp only at q3
    cases e4 : μ3[n]? with
    | none => rw [e4] at q3; exact q3.elim
    | some m =>
      cases m with
      | dk _ => rw [e4] at q3; exact q3.elim
      | fd _ _ _ => rw [e4] at q3; exact q3.elim
      | lst zs =>
        rw [e4] at q3
        obtain ⟨vs, q, r⟩ := w3.obj h1 e4
        exact .inl ⟨a, vs, rfl, .of q, fun p hp => k d3 _ μ3 _ _ (E3.trans (Ext.lay w3 hp)) (w3.lay hp) (lay_lst w3 (r.cut l h) hp) q3⟩
  | _ => exact q3.elim⟩
/-- xs[::-1] -/
def mRevL (m : ME) : ME := fun ρ μ P => m ρ μ fun x μ1 => match itemsOf x μ1 with | some xs => (match x with | .tup _ => False | _ => P (.lst xs.reverse) μ1) | none => False
def tRevLM (K : PySem.W.Frag) (te : TE) : TE := tRevL K te
def mRevLM (m : ME) : ME := fun ρ μ P => m ρ μ fun x μ1 => match itemsOf x μ1 with | some xs => (match x with | .tup _ => False | _ => P (.mr μ1.length) (μ1 ++ [.lst xs.reverse])) | none => False
theorem seqL_of {x : PV} {v : V} (w : WOk K d H μ) (r : RV K d H x v) (h : itemsOf x μ = some xs) (hx : ∀ ys, x ≠ .tup ys) : ∃ a vs, v = .ref a ∧ RVs K d H xs vs ∧ SqL K H a vs := by
  cases r with
  | tup h1 h2 => exact absurd rfl (hx _)
  | lst h1 h2 => cases h; exact ⟨_, _, rfl, h2, h1.sq⟩
  | kl h1 h2 => cases h; exact ⟨_, _, rfl, h2, h1.sq⟩
  | @mr n a h1 =>
    unfold itemsOf at h
    cases e : μ[n]? with
    | none => simp [e] at h
    | some m =>
      cases m with
      | lst zs =>
        simp [e] at h
        subst h
        obtain ⟨vs, q, r⟩ := w.obj h1 e
        exact ⟨_, _, rfl, r, .of q⟩
      | dk _ => simp [e] at h
      | fd _ _ _ => simp [e] at h
  | _ => cases h
instance {t m} [h : FE K t m] : FE K (tRevL K t) (mRevL m) := ⟨fun d σ H ρ μ P Q w e q k => by
  refine h.run d σ H ρ μ _ _ w e q fun d1 H1 μ1 x v e1 w1 r1 q1 => ?_
  cases e2 : itemsOf x μ1 with
  | none => rw [e2] at q1; exact q1.elim
  | some xs =>
    rw [e2] at q1
    simp only at q1
    have hx : ∀ ys, x ≠ .tup ys := by rintro ys rfl; exact q1
    obtain ⟨a, vs, rfl, rv, hq⟩ := seqL_of w1 r1 e2 hx
    refine ⟨a, vs, rfl, hq, fun p hp => ?_⟩
    refine k d1 _ μ1 _ _ (e1.trans (Ext.lay w1 hp)) (w1.lay hp) (lay_lst w1 rv.rev hp) ?_
    cases x <;> first | exact q1.elim | exact q1⟩
instance {t m} [h : FE K t m] : FE K (tRevLM K t) (mRevLM m) := ⟨fun d σ H ρ μ P Q w e q k => by
  refine h.run d σ H ρ μ _ _ w e q fun d1 H1 μ1 x v e1 w1 r1 q1 => ?_
  cases e2 : itemsOf x μ1 with
  | none => rw [e2] at q1; exact q1.elim
  | some xs =>
    rw [e2] at q1
    simp only at q1
    have hx : ∀ ys, x ≠ .tup ys := by rintro ys rfl; exact q1
    obtain ⟨a, vs, rfl, rv, hq⟩ := seqL_of w1 r1 e2 hx
    refine ⟨a, vs, rfl, hq, fun p hp => ?_⟩
    have ee := Ext.push (o := .lst vs.reverse) w1 hp
    refine k (d1.push p) _ _ _ _ (e1.trans ee) (w1.push (m := .lst xs.reverse) hp ⟨_, upd_same, rv.rev.mono ee⟩) (lay_mr w1) ?_
    cases x <;> first | exact q1.elim | exact q1⟩
end
end Fx

/-! Fx6: built-ins and methods by plain values. -/
namespace Fx
open PySem PySem.Spec PyProof.Rows L2 RZ
section
variable {K : PySem.W.Frag} {d d' : Wd} {H H' : Hp} {a b : Addr} {vs us : List V} {xs ys : List PV} {μ : Store}
def mCB (p : MB) (t : MA) : ME := fun ρ μ P => t ρ μ fun xs μ1 => p xs μ1 P
instance {r p t m} [h : FB K r p] [ht : FA K t m] : FE K (tCB r t) (mCB p m) := ⟨fun d σ H ρ μ P Q w e q k => by
  refine ht.run d σ H ρ μ _ _ w e q fun d1 H1 μ1 xs vs e1 w1 r1 q1 => ?_
  exact h.run d1 H1 μ1 xs vs P Q w1 r1 q1 fun d2 H2 μ2 z w' e2 => k d2 H2 μ2 z w' (e1.trans e2)⟩
/-! ### of numbers -/
def rAbs : List V → Hp → VK → Prop := fun xs H Q => ∃ i, xs = [.int i] ∧ Q (.int (if i < 0 then -i else i)) H
theorem cb_abs {X : Cx} : CallR X (.builtin "abs") rAbs := call_abs
def pAbs : MB := fun xs μ P => match xs with | [.int i] => P (.int (if i < 0 then -i else i)) μ | _ => False
instance : FB K rAbs pAbs := ⟨fun d H μ xs vs P Q w r q k => by
  match xs, r, q with
  | [.int i], .cons (.int _) .nil, q => exact ⟨i, rfl, k d H μ _ _ .refl w (.int _) q⟩⟩
def rMax2 : List V → Hp → VK → Prop := fun xs H Q => ∃ i j, xs = [.int i, .int j] ∧ Q (.int (if j > i then j else i)) H
theorem cb_max2 {X : Cx} (hc : X.calm = true) : CallR X (.builtin "max") rMax2 := call_max2 hc
def rMin2 : List V → Hp → VK → Prop := fun xs H Q => ∃ i j, xs = [.int i, .int j] ∧ Q (.int (if j < i then j else i)) H
theorem cb_min2 {X : Cx} (hc : X.calm = true) : CallR X (.builtin "min") rMin2 := call_min2 hc
def pMax2 : MB := fun xs μ P => match xs with | [.int i, .int j] => P (.int (if j > i then j else i)) μ | _ => False
def pMin2 : MB := fun xs μ P => match xs with | [.int i, .int j] => P (.int (if j < i then j else i)) μ | _ => False
instance : FB K rMax2 pMax2 := ⟨fun d H μ xs vs P Q w r q k => by
  match xs, r, q with
  | [.int i, .int j], .cons (.int _) (.cons (.int _) .nil), q => exact ⟨i, j, rfl, k d H μ _ _ .refl w (.int _) q⟩⟩
instance : FB K rMin2 pMin2 := ⟨fun d H μ xs vs P Q w r q k => by
  match xs, r, q with
  | [.int i, .int j], .cons (.int _) (.cons (.int _) .nil), q => exact ⟨i, j, rfl, k d H μ _ _ .refl w (.int _) q⟩⟩
def rInt1 : List V → Hp → VK → Prop := fun xs H Q => (∃ i, xs = [.int i] ∧ Q (.int i) H) ∨ ∃ k, xs = [.bl k] ∧ Q (.int (if k then 1 else 0)) H
theorem cb_int1 {X : Cx} : CallR X (.type "int") rInt1 := call_int1
def pInt1 : MB := fun xs μ P => match xs with | [.int i] => P (.int i) μ | [.bl k] => P (.int (if k then 1 else 0)) μ | _ => False
instance : FB K rInt1 pInt1 := ⟨fun d H μ xs vs P Q w r q k => by
  match xs, r, q with
  | [.int i], .cons (.int _) .nil, q => exact .inl ⟨i, rfl, k d H μ _ _ .refl w (.int _) q⟩
  | [.bl b], .cons (.bl _) .nil, q => exact .inr ⟨b, rfl, k d H μ _ _ .refl w (.int _) q⟩⟩
def pGcd : MB := fun xs μ P => match xs with | [.int a, .int b] => P (.int ((Nat.gcd a.natAbs b.natAbs : Nat) : Int)) μ | _ => False
instance : FB K rGcd pGcd := ⟨fun d H μ xs vs P Q w r q k => by
  match xs, r, q with
  | [.int i, .int j], .cons (.int _) (.cons (.int _) .nil), q => exact ⟨i, j, rfl, k d H μ _ _ .refl w (.int _) q⟩⟩
/-! ### of sequences -/
def rLen (K : PySem.W.Frag) : List V → Hp → VK → Prop := fun xs H Q => ∃ x n, xs = [x] ∧ LenV K x H n ∧ Q (.int n) H
theorem cb_len {X : Cx} : CallR X (.builtin "len") (rLen X.K) := call_len
def pLen : MB := fun xs μ P => match xs with | [x] => (match itemsOf x μ with | some ys => P (.int (ys.length : Nat)) μ | none => False) | _ => False
instance : FB K (rLen K) pLen := ⟨fun d H μ xs vs P Q w r q k => by
  match xs, r, q with
  | [x], .cons r .nil, q =>
    unfold pLen at q
    simp only at q
    cases e : itemsOf x μ with
    | none => rw [e] at q; exact q.elim
    | some ys =>
      rw [e] at q
      obtain ⟨a, vs, rfl, rv, hq⟩ := seq_of w r e
      refine ⟨_, ys.length, rfl, ?_, k d H μ _ _ .refl w (.int _) q⟩
      rw [rv.length]
      exact hq.imp (fun h => ⟨vs, h, rfl⟩) (fun h => ⟨vs, h, rfl⟩)⟩
theorem RVs.ints_of : ∀ {xs : List PV} {vs : List V}, RVs K d H xs vs → ∀ {ns : List Int}, xs = ns.map PV.int → vs = ns.map V.int := fun r ns e => by
  subst e; exact RVs.ints r
def intsP : List PV → Option (List Int)
  | [] => some []
  | .int i :: xs => (intsP xs).map (i :: ·)
  | _ => none
theorem intsP_of : ∀ {xs : List PV} {ns : List Int}, intsP xs = some ns → xs = ns.map PV.int
  | [], ns, h => by cases h; rfl
  | x :: xs, ns, h => by
    cases x <;> simp [intsP] at h
    obtain ⟨ms, e, rfl⟩ := h
    rw [intsP_of e]; rfl
theorem intsP_map : ∀ (ns : List Int), intsP (ns.map PV.int) = some ns
  | [] => rfl
  | n :: ns => by simp [intsP, intsP_map ns]
def pSum : MB := fun xs μ P => match xs with | [x] => (match x with | .tup _ => False | _ => match itemsOf x μ with | some ys => (match intsP ys with | some ns => P (.int ns.sum) μ | none => False) | none => False) | _ => False
instance : FB K (rSum K) pSum := ⟨fun d H μ xs vs P Q w r q k => by
  match xs, r, q with
  | [x], .cons r .nil, q =>
    have hx : ∀ ys, x ≠ .tup ys := by rintro ys rfl; exact q
    cases e : itemsOf x μ with
    | none => cases x <;> simp [pSum, e] at q
    | some ys =>
      have q' : (match intsP ys with | some ns => P (.int ns.sum) μ | none => False) := by
        cases x <;> first | exact q.elim | (simp only [pSum, e] at q; exact q)
      obtain ⟨a, vs, rfl, rv, hq⟩ := seqL_of w r e hx
      cases e2 : intsP ys with
      | none => rw [e2] at q'; exact q'.elim
      | some ns =>
        rw [e2] at q'
        have ev := RVs.ints_of rv (intsP_of e2)
        subst ev
        exact ⟨a, ns, rfl, hq, k d H μ _ _ .refl w (.int _) q'⟩⟩
/-- the greatest of a list or tuple of numbers -/
def maxP : List Int → Int
  | [] => 0
  | n :: ns => ns.foldl (fun a y => if a < y then y else a) n
def minP : List Int → Int
  | [] => 0
  | n :: ns => ns.foldl (fun a y => if y < a then y else a) n
theorem fold_max : ∀ (ns : List Int) (a : Int), (a ≤ ns.foldl (fun a y => if a < y then y else a) a) ∧ (∀ y ∈ ns, y ≤ ns.foldl (fun a y => if a < y then y else a) a) ∧ (ns.foldl (fun a y => if a < y then y else a) a = a ∨ ns.foldl (fun a y => if a < y then y else a) a ∈ ns)
  | [], a => by simp
  | n :: ns, a => by
    rw [List.foldl_cons]
    obtain ⟨h1, h2, h3⟩ := fold_max ns (if a < n then n else a)
    refine ⟨?_, fun y hy => ?_, ?_⟩
    · by_cases h : a < n
      · rw [if_pos h] at h1 ⊢; omega
      · rw [if_neg h] at h1 ⊢; exact h1
    · rcases List.mem_cons.mp hy with rfl | hy
      · by_cases h : a < y
        · rw [if_pos h] at h1 ⊢; exact h1
        · rw [if_neg h] at h1 ⊢; omega
      · exact h2 y hy
    · by_cases h : a < n
      · rw [if_pos h] at h3 ⊢
        rcases h3 with h3 | h3
        · exact .inr (by rw [h3]; exact List.mem_cons_self)
        · exact .inr (List.mem_cons_of_mem _ h3)
      · rw [if_neg h] at h3 ⊢
        exact h3.imp id (List.mem_cons_of_mem _)
theorem maxP_mem {ns : List Int} (h : ns ≠ []) : maxP ns ∈ ns := by
  cases ns with
  | nil => exact absurd rfl h
  | cons n ns =>
    rcases (fold_max ns n).2.2 with e | e
    · show ns.foldl _ n ∈ _; rw [e]; exact List.mem_cons_self
    · exact List.mem_cons_of_mem _ e
theorem maxP_le {ns : List Int} {y : Int} (h : y ∈ ns) : y ≤ maxP ns := by
  cases ns with
  | nil => cases h
  | cons n ns =>
    rcases List.mem_cons.mp h with rfl | h
    · exact (fold_max ns y).1
    · exact (fold_max ns n).2.1 y h
theorem maxP_uniq {ns : List Int} {m : Int} (h1 : m ∈ ns) (h2 : ∀ y, y ∈ ns → y ≤ m) : m = maxP ns := by
  have h3 := maxP_le h1
  have h4 := h2 _ (maxP_mem (by intro e; rw [e] at h1; cases h1))
  omega
def rMaxS (K : PySem.W.Frag) : List V → Hp → VK → Prop := fun vs H Q => rMax K vs H Q ∨ ∃ (a : Addr) (ns : List Int), vs = [V.ref a] ∧ SqT K H a (ns.map V.int) ∧ 0 < ns.length ∧ Q (.int (maxP ns)) H
theorem holdAll_ints {h : Heap} : ∀ {us : List Value} {ns : List Int}, IntsAre us ns → PySem.W.HoldAll h us ns
  | _, _, .nil => ⟨[], .nil⟩
  | _, _, .cons n t r => let ⟨as, q⟩ := holdAll_ints (h := h) r; ⟨[] ++ as, .cons (.int n t) q⟩
theorem cb_maxS {X : Cx} (hc : X.calm = true) (hu : X.A.units + 64 < cLine) : CallR X (.builtin "max") (rMaxS X.K) := by
  intro pins s σ H vs us Q I r h
  rcases h with h | ⟨a, ns, rfl, hs, hne, q⟩
  · exact cr_max hc pins s σ H vs us Q I r h
  · obtain ⟨its, rv, ht, _⟩ := I.tuple hs
    rw [Vals.ref1 r]
    cases ns with
    | nil => simp at hne
    | cons n ns =>
      refine PySem.W.max_tuple_datum (α := Int) (x := n) (xs := ns) (I.ok.hd hc) (show s.heap.IsTuple a its.toArray from ht) (holdAll_ints rv.ints) (by show X.A.units + 1 + 0 < cLine; omega) fun i v h' tk hv hh hk => ?_
      obtain ⟨as, rd⟩ := hh
      have e1 : PySem.W.maxOf n ns = maxP (n :: ns) := by
        show ns.foldl _ n = ns.foldl _ n
        congr 1
        funext a y
        show (if decide (a < y) = true then y else a) = if a < y then y else a
        by_cases h : a < y <;> simp [h]
      rw [e1] at rd
      generalize maxP (n :: ns) = mm at rd q
      have rd' : Reads h' v (.int mm) as := rd
      cases rd' with
      | int i t => exact ⟨.int mm, H, I.kept hk, ⟨_, rfl⟩, q⟩
def pMaxS : MB := fun xs μ P => match xs with | [x] => (match itemsOf x μ with | some ys => (match intsP ys with | some ns => ns ≠ [] ∧ P (.int (maxP ns)) μ | none => False) | none => False) | _ => False
instance : FB K (rMaxS K) pMaxS := ⟨fun d H μ xs vs P Q w r q k => by
  match xs, r, q with
  | [x], .cons r .nil, q =>
    unfold pMaxS at q
    simp only at q
    cases e : itemsOf x μ with
    | none => rw [e] at q; exact q.elim
    | some ys =>
      rw [e] at q
      simp only at q
      obtain ⟨a, vs, rfl, rv, hq⟩ := seq_of w r e
      cases e2 : intsP ys with
      | none => rw [e2] at q; exact q.elim
      | some ns =>
        rw [e2] at q
        obtain ⟨hne, q⟩ := q
        have ev := RVs.ints_of rv (intsP_of e2)
        subst ev
        have hl : 0 < ns.length := List.length_pos_iff.mpr hne
        rcases hq with hq | hq
        · exact .inl ⟨a, ns, rfl, hq, hl, fun m h1 h2 => by rw [maxP_uniq h1 h2]; exact k d H μ _ _ .refl w (.int _) q⟩
        · exact .inr ⟨a, ns, rfl, hq, hl, k d H μ _ _ .refl w (.int _) q⟩⟩
def boolsP : List PV → Option (List Bool)
  | [] => some []
  | .bl i :: xs => (boolsP xs).map (i :: ·)
  | _ => none
theorem boolsP_of : ∀ {xs : List PV} {ns : List Bool}, boolsP xs = some ns → xs = ns.map PV.bl
  | [], ns, h => by cases h; rfl
  | x :: xs, ns, h => by
    cases x <;> simp [boolsP] at h
    obtain ⟨ms, e, rfl⟩ := h
    rw [boolsP_of e]; rfl
theorem boolsP_map : ∀ (ns : List Bool), boolsP (ns.map PV.bl) = some ns
  | [] => rfl
  | n :: ns => by simp [boolsP, boolsP_map ns]
def pAll : MB := fun xs μ P => match xs with | [.lst ys] => (match boolsP ys with | some bs => P (.bl (bs.all id)) μ | none => False) | _ => False
def pAny : MB := fun xs μ P => match xs with | [.lst ys] => (match boolsP ys with | some bs => P (.bl (bs.any id)) μ | none => False) | _ => False
instance : FB K (rAll K) pAll := ⟨fun d H μ xs vs P Q w r q k => by
  match xs, r, q with
  | [.lst ys], .cons (.lst (a := a) h1 h2) .nil, q =>
    unfold pAll at q
    simp only at q
    cases e2 : boolsP ys with
    | none => rw [e2] at q; exact q.elim
    | some ns =>
      rw [e2] at q
      have ev := boolsP_of e2
      subst ev
      have ev := RVs.bools h2
      subst ev
      exact ⟨a, ns, rfl, h1.sq, k d H μ _ _ .refl w (.bl _) q⟩⟩
instance : FB K (rAny K) pAny := ⟨fun d H μ xs vs P Q w r q k => by
  match xs, r, q with
  | [.lst ys], .cons (.lst (a := a) h1 h2) .nil, q =>
    unfold pAny at q
    simp only at q
    cases e2 : boolsP ys with
    | none => rw [e2] at q; exact q.elim
    | some ns =>
      rw [e2] at q
      have ev := boolsP_of e2
      subst ev
      have ev := RVs.bools h2
      subst ev
      exact ⟨a, ns, rfl, h1.sq, k d H μ _ _ .refl w (.bl _) q⟩⟩
def rTupOf (K : PySem.W.Frag) : List V → Hp → VK → Prop := fun xs H Q => ∃ p ys, xs = [.ref p] ∧ ((SqL K H p ys ∧ ∀ l, H l = none → Q (.ref l) (upd H l (.tup ys))) ∨ (SqT K H p ys ∧ Q (.ref p) H))
theorem cb_tup {X : Cx} : CallR X (.type "tuple") (rTupOf X.K) := call_tuple_of
def pTupOf : MB := fun xs μ P => match xs with | [x] => (match itemsOf x μ with | some ys => P (.tup ys) μ | none => False) | _ => False
instance : FB K (rTupOf K) pTupOf := ⟨fun d H μ xs vs P Q w r q k => by
  match xs, r, q with
  | [x], .cons r .nil, q =>
    unfold pTupOf at q
    simp only at q
    cases e : itemsOf x μ with
    | none => rw [e] at q; exact q.elim
    | some ys =>
      rw [e] at q
      simp only at q
      match x, r, e with
      | .tup zs, r, e =>
        cases e
        cases r with
        | tup h1 h2 => exact ⟨_, _, rfl, .inr ⟨h1.sq, k d H μ _ _ .refl w (.tup h1 h2) q⟩⟩
      | .lst zs, r, e =>
        obtain ⟨a, vs, rfl, rv, hq⟩ := seqL_of w r e (by rintro _ ⟨⟩)
        exact ⟨a, vs, rfl, .inl ⟨hq, fun p hp => k d _ μ _ _ (Ext.lay w hp) (w.lay hp) (lay_tup w rv hp) q⟩⟩
      | .kl zs, r, e =>
        obtain ⟨a, vs, rfl, rv, hq⟩ := seqL_of w r e (by rintro _ ⟨⟩)
        exact ⟨a, vs, rfl, .inl ⟨hq, fun p hp => k d _ μ _ _ (Ext.lay w hp) (w.lay hp) (lay_tup w rv hp) q⟩⟩
      | .mr n, r, e =>
        obtain ⟨a, vs, rfl, rv, hq⟩ := seqL_of w r e (by rintro _ ⟨⟩)
        exact ⟨a, vs, rfl, .inl ⟨hq, fun p hp => k d _ μ _ _ (Ext.lay w hp) (w.lay hp) (lay_tup w rv hp) q⟩⟩⟩
def rLstOf (K : PySem.W.Frag) : List V → Hp → VK → Prop := fun xs H Q => ∃ p ys, xs = [.ref p] ∧ (SqL K H p ys ∨ SqT K H p ys) ∧ ∀ l, H l = none → Q (.ref l) (upd H l (.lst ys))
theorem cb_lst {X : Cx} : CallR X (.type "list") (rLstOf X.K) := call_list_of
def rLstOfM (K : PySem.W.Frag) : List V → Hp → VK → Prop := rLstOf K
theorem cb_lstM {X : Cx} : CallR X (.type "list") (rLstOfM X.K) := call_list_of
def pLstOf : MB := fun xs μ P => match xs with | [x] => (match itemsOf x μ with | some ys => P (.lst ys) μ | none => False) | _ => False
def pLstOfM : MB := fun xs μ P => match xs with | [x] => (match itemsOf x μ with | some ys => P (.mr μ.length) (μ ++ [.lst ys]) | none => False) | _ => False
instance : FB K (rLstOf K) pLstOf := ⟨fun d H μ xs vs P Q w r q k => by
  match xs, r, q with
  | [x], .cons r .nil, q =>
    unfold pLstOf at q
    simp only at q
    cases e : itemsOf x μ with
    | none => rw [e] at q; exact q.elim
    | some ys =>
      rw [e] at q
      obtain ⟨a, vs, rfl, rv, hq⟩ := seq_of w r e
      exact ⟨a, vs, rfl, hq, fun p hp => k d _ μ _ _ (Ext.lay w hp) (w.lay hp) (lay_lst w rv hp) q⟩⟩
instance : FB K (rLstOfM K) pLstOfM := ⟨fun d H μ xs vs P Q w r q k => by
  match xs, r, q with
  | [x], .cons r .nil, q =>
    unfold pLstOfM at q
    simp only at q
    cases e : itemsOf x μ with
    | none => rw [e] at q; exact q.elim
    | some ys =>
      rw [e] at q
      obtain ⟨a, vs, rfl, rv, hq⟩ := seq_of w r e
      refine ⟨a, vs, rfl, hq, fun p hp => ?_⟩
      have ee := Ext.push (o := .lst vs) w hp
      exact k (d.push p) _ _ _ _ ee (w.push (m := .lst ys) hp ⟨_, upd_same, rv.mono ee⟩) (lay_mr w) q⟩
/-! ### tuple(range(..)) -/
class FR (K : PySem.W.Frag) (t : L2.St → Hp → (Int → Int → Hp → Prop) → Prop) (m : outParam (PEnv → Store → (Int → Int → Store → Prop) → Prop)) : Prop where
  run : ∀ (d : Wd) (σ : L2.St) (H : Hp) (ρ : PEnv) (μ : Store) (P : Int → Int → Store → Prop) (Q : Int → Int → Hp → Prop), WOk K d H μ → REnv K d H ρ σ → m ρ μ P →
    (∀ d' H' μ' i j, Ext d H d' H' → WOk K d' H' μ' → P i j μ' → Q i j H') → t σ H Q
def mRg1 (a : ME) : PEnv → Store → (Int → Int → Store → Prop) → Prop := fun ρ μ P => a ρ μ fun x μ1 => match x with | .int n => P 0 n μ1 | _ => False
def mRg2 (a b : ME) : PEnv → Store → (Int → Int → Store → Prop) → Prop := fun ρ μ P => a ρ μ fun x μ1 => b ρ μ1 fun y μ2 => match x, y with | .int i, .int j => P i j μ2 | _, _ => False
instance {a m} [h : FE K a m] : FR K (tRg1 a) (mRg1 m) := ⟨fun d σ H ρ μ P Q w e q k => by
  refine h.run d σ H ρ μ _ _ w e q fun d1 H1 μ1 x v e1 w1 r1 q1 => ?_
  cases x <;> try exact q1.elim
  cases r1
  exact ⟨_, rfl, k d1 H1 μ1 _ _ e1 w1 q1⟩⟩
instance {a b m n} [h : FE K a m] [h' : FE K b n] : FR K (tRg2 a b) (mRg2 m n) := ⟨fun d σ H ρ μ P Q w e q k => by
  refine h.run d σ H ρ μ _ _ w e q fun d1 H1 μ1 x v e1 w1 r1 q1 => ?_
  refine h'.run d1 σ H1 ρ μ1 _ _ w1 (e.mono e1) q1 fun d2 H2 μ2 y u e2 w2 r2 q2 => ?_
  cases x <;> try exact q2.elim
  cases y <;> try exact q2.elim
  cases r1; cases r2
  exact ⟨_, _, rfl, rfl, k d2 H2 μ2 _ _ (e1.trans e2) w2 q2⟩⟩
def mTupRg (m : PEnv → Store → (Int → Int → Store → Prop) → Prop) : ME := fun ρ μ P => m ρ μ fun i j μ1 => (-1000000 ≤ i ∧ i ≤ 1000000 ∧ -1000000 ≤ j ∧ j ≤ 1000000) ∧ P (.tup (rangeP i (j - i).toNat)) μ1
def mLstRg (m : PEnv → Store → (Int → Int → Store → Prop) → Prop) : ME := fun ρ μ P => m ρ μ fun i j μ1 => (-1000000 ≤ i ∧ i ≤ 1000000 ∧ -1000000 ≤ j ∧ j ≤ 1000000) ∧ P (.lst (rangeP i (j - i).toNat)) μ1
theorem rvs_rg (i j : Int) : RVs K d H (rangeP i (j - i).toNat) (rgV i j) := by
  unfold rangeP rgV
  generalize List.range (j - i).toNat = l
  induction l with
  | nil => exact .nil
  | cons x l ih => exact .cons (.int _) ih
instance {t m} [h : FR K t m] : FE K (tTupRg t) (mTupRg m) := ⟨fun d σ H ρ μ P Q w e q k => by
  refine h.run d σ H ρ μ _ _ w e q fun d1 H1 μ1 i j e1 w1 ⟨z, q1⟩ => ⟨⟨by omega, by omega, by omega, by omega, by omega⟩, fun p hp => ?_⟩
  exact k d1 _ μ1 _ _ (e1.trans (Ext.lay w1 hp)) (w1.lay hp) (lay_tup w1 (rvs_rg i j) hp) q1⟩
instance {t m} [h : FR K t m] : FE K (tLstRg t) (mLstRg m) := ⟨fun d σ H ρ μ P Q w e q k => by
  refine h.run d σ H ρ μ _ _ w e q fun d1 H1 μ1 i j e1 w1 ⟨z, q1⟩ => ⟨⟨by omega, by omega, by omega, by omega, by omega⟩, fun p hp => ?_⟩
  exact k d1 _ μ1 _ _ (e1.trans (Ext.lay w1 hp)) (w1.lay hp) (lay_lst w1 (rvs_rg i j) hp) q1⟩
end
end Fx

/-! Fx7: arithmetic of any size, methods, dicts, repr, isinstance by plain values. -/
namespace Fx
open PySem PySem.Spec PyProof.Rows L2 RZ
section
variable {K : PySem.W.Frag} {d d' : Wd} {H H' : Hp} {a b : Addr} {vs us : List V} {xs ys : List PV} {μ : Store}
/-- the items of a list that stands in the heap by itself -/
def lstItems (x : PV) (μ : Store) : Option (List PV) := match x with
  | .lst xs => some xs
  | .mr n => match μ[n]? with | some (.lst xs) => some xs | _ => none
  | _ => none
theorem lst_of {x : PV} {v : V} (w : WOk K d H μ) (r : RV K d H x v) (h : lstItems x μ = some xs) : ∃ a vs, v = .ref a ∧ RVs K d H xs vs ∧ H a = some (.lst vs) := by
  cases r with
  | lst h1 h2 => cases h; exact ⟨_, _, rfl, h2, h1.1⟩
  | @mr n a h1 =>
    unfold lstItems at h
    cases e : μ[n]? with
    | none => simp [e] at h
    | some m =>
      cases m with
      | lst zs =>
        simp [e] at h
        subst h
        obtain ⟨vs, q, r⟩ := w.obj h1 e
        exact ⟨_, _, rfl, r, q⟩
      | dk _ => simp [e] at h
      | fd _ _ _ => simp [e] at h
  | _ => cases h
/-! ### + * // % ** -/
def rPlus (K : PySem.W.Frag) : R2 := fun x y H Q => rI0 (fun i j => .int (i + j)) x y H Q ∨ rCatA K x y H Q ∨ rCat x y H Q
theorem op_plus {X : Cx} : OpR X (binaryOp .Add) (rPlus X.K) := OpR.or op_add (OpR.or op_catA op_cat)
def pPlus : MO2 := fun x y μ P => match x, y with
  | .int i, .int j => P (.int (i + j)) μ
  | .tup xs, .tup ys => xs.length + ys.length ≤ lim ∧ P (.tup (xs ++ ys)) μ
  | _, _ => match lstItems x μ, lstItems y μ with | some xs, some ys => xs.length + ys.length ≤ lim ∧ P (.lst (xs ++ ys)) μ | _, _ => False
def rPlusM (K : PySem.W.Frag) : R2 := rPlus K
theorem op_plusM {X : Cx} : OpR X (binaryOp .Add) (rPlusM X.K) := op_plus
def pPlusM : MO2 := fun x y μ P => match lstItems x μ, lstItems y μ with | some xs, some ys => xs.length + ys.length ≤ lim ∧ P (.mr μ.length) (μ ++ [.lst (xs ++ ys)]) | _, _ => False
theorem cat_run {x y : PV} {v u : V} {P : PV → Store → Prop} {Q : VK} (w : WOk K d H μ) (r1 : RV K d H x v) (r2 : RV K d H y u) (q : match lstItems x μ, lstItems y μ with | some xs, some ys => xs.length + ys.length ≤ lim ∧ P (.lst (xs ++ ys)) μ | _, _ => False)
    (k : ∀ d' H' μ' z w', Ext d H d' H' → WOk K d' H' μ' → RV K d' H' z w' → P z μ' → Q w' H') : rCat v u H Q := by
  cases e1 : lstItems x μ with
  | none => rw [e1] at q; exact q.elim
  | some xs =>
    cases e2 : lstItems y μ with
    | none => rw [e1, e2] at q; exact q.elim
    | some ys =>
      rw [e1, e2] at q
      obtain ⟨a, vs, rfl, rv, h1⟩ := lst_of w r1 e1
      obtain ⟨b, us, rfl, ru, h2⟩ := lst_of w r2 e2
      exact ⟨a, b, vs, us, rfl, rfl, h1, h2, by rw [← rv.length, ← ru.length]; exact lim_lt q.1, fun p hp => k d _ μ _ _ (Ext.lay w hp) (w.lay hp) (lay_lst w (rv.append ru) hp) q.2⟩
instance : F2 K (rPlus K) pPlus := ⟨fun d H μ x y v u P Q w r1 r2 q k => by
  match x, y, r1, r2, q with
  | .int i, .int j, .int _, .int _, q => exact .inl ⟨i, j, rfl, rfl, k d H μ _ _ .refl w (.int _) q⟩
  | .tup xs, .tup ys, .tup (a := a) (vs := vs) h1 h2, .tup (a := b) (vs := us) h3 h4, ⟨z, q⟩ =>
    refine .inr (.inl ⟨a, b, vs, us, rfl, rfl, h1.sq, h3.sq, by rw [← h2.length, ← h4.length]; exact lim_lt z, fun e => ?_, fun e1 e2 => ?_, fun e1 e2 p hp => ?_⟩)
    · subst e
      cases h2
      exact k d H μ _ _ .refl w (.tup h3 h4) (by simpa using q)
    · subst e2
      cases h4
      exact k d H μ _ _ .refl w (.tup h1 h2) (by simpa using q)
    · exact k d _ μ _ _ (Ext.lay w hp) (w.lay hp) (lay_tup w (h2.append h4) hp) q
  | .lst xs, y, r1, r2, q => exact .inr (.inr (cat_run w r1 r2 (by cases y <;> exact q) k))
  | .mr xs, y, r1, r2, q => exact .inr (.inr (cat_run w r1 r2 (by cases y <;> exact q) k))⟩
instance : F2 K (rPlusM K) pPlusM := ⟨fun d H μ x y v u P Q w r1 r2 q k => by
  unfold pPlusM at q
  refine .inr (.inr ?_)
  cases e1 : lstItems x μ with
  | none => rw [e1] at q; exact q.elim
  | some xs =>
    cases e2 : lstItems y μ with
    | none => rw [e1, e2] at q; exact q.elim
    | some ys =>
      rw [e1, e2] at q
      obtain ⟨a, vs, rfl, rv, h1⟩ := lst_of w r1 e1
      obtain ⟨b, us, rfl, ru, h2⟩ := lst_of w r2 e2
      refine ⟨a, b, vs, us, rfl, rfl, h1, h2, by rw [← rv.length, ← ru.length]; exact lim_lt q.1, fun p hp => ?_⟩
      have ee := Ext.push (o := .lst (vs ++ us)) w hp
      exact k (d.push p) _ _ _ _ ee (w.push (m := .lst (xs ++ ys)) hp ⟨_, upd_same, (rv.append ru).mono ee⟩) (lay_mr w) q.2⟩
def MulOk (i j : Int) : Prop := CMul i j ∨ CMulW i j
theorem op_mulX {X : Cx} : OpR X (binaryOp .Mult) (rI MulOk fun i j => .int (i * j)) := by
  intro pins s σ H x y v u Q I rx ry h
  obtain ⟨i, j, e1, e2, c, q⟩ := h
  rcases c with c | c
  · exact op_mul pins s σ H x y v u Q I rx ry ⟨i, j, e1, e2, c, q⟩
  · exact op_mulW pins s σ H x y v u Q I rx ry ⟨i, j, e1, e2, c, q⟩
def DivOk (i j : Int) : Prop := (0 < j ∧ j.natAbs.log2 < 9000) ∨ (j < 0 ∧ j.natAbs < 1073741824)
theorem op_divX {X : Cx} : OpR X (binaryOp .FloorDiv) (rI DivOk fun i j => .int (i.fdiv j)) := by
  intro pins s σ H x y v u Q I rx ry h
  obtain ⟨i, j, e1, e2, c, q⟩ := h
  rcases c with c | c
  · have q : Q (.int (i.fdiv j)) H := q
    rw [Int.fdiv_eq_ediv_of_nonneg i (by omega : 0 ≤ j)] at q
    exact op_fdivW pins s σ H x y v u Q I rx ry ⟨i, j, e1, e2, c, q⟩
  · exact op_fdivN pins s σ H x y v u Q I rx ry ⟨i, j, e1, e2, ⟨by omega, c.2⟩, q⟩
/-! ### t * n -/
/-! ### methods of lists that change -/
def mBM (p : PV → List PV → Store → (PV → Store → Prop) → Prop) (mo : ME) (ma : MA) : ME := fun ρ μ P => mo ρ μ fun x μ1 => match x with | .mr n => (match μ1[n]? with | some (.lst _) => ma ρ μ1 fun xs μ2 => p (.mr n) xs μ2 P | _ => False) | _ => False
instance {r p to mo t ma} [h : FM K r p] [ho : FE K to mo] [ha : FA K t ma] : FE K (tBM K "list" r to t) (mBM p mo ma) := ⟨fun d σ H ρ μ P Q w e q k => by
  refine ho.run d σ H ρ μ _ _ w e q fun d1 H1 μ1 x v e1 w1 r1 q1 => ?_
  cases r1 with
  | @mr n a h1 =>
    simp only at q1
    cases e2 : μ1[n]? with
    | none => rw [e2] at q1; exact q1.elim
    | some m =>
      cases m with
      | dk _ => rw [e2] at q1; exact q1.elim
      | fd _ _ _ => rw [e2] at q1; exact q1.elim
      | lst ys =>
        rw [e2] at q1
        obtain ⟨vs, q, _⟩ := w1.obj h1 e2
        refine ⟨.inl ⟨rfl, vs, .of q⟩, ?_⟩
        refine ha.run d1 σ H1 ρ μ1 _ _ w1 (e.mono e1) q1 fun d3 H3 μ3 xs us e3 w3 r3 q3 => ?_
        exact h.run d3 H3 μ3 (.mr n) (.ref a) xs us P Q w3 (.mr (e3.at h1)) r3 q3 fun d4 H4 μ4 z w' e4 => k d4 H4 μ4 z w' ((e1.trans e3).trans e4)
  | _ => exact q1.elim⟩
def mBM0 (p : PV → List PV → Store → (PV → Store → Prop) → Prop) (mo : ME) : ME := fun ρ μ P => mo ρ μ fun x μ1 => match x with | .mr n => (match μ1[n]? with | some (.lst _) => p (.mr n) [] μ1 P | _ => False) | _ => False
instance {r p to mo} [h : FM K r p] [ho : FE K to mo] : FE K (tBM0 K "list" r to) (mBM0 p mo) := ⟨fun d σ H ρ μ P Q w e q k => by
  refine ho.run d σ H ρ μ _ _ w e q fun d1 H1 μ1 x v e1 w1 r1 q1 => ?_
  cases r1 with
  | @mr n a h1 =>
    simp only at q1
    cases e2 : μ1[n]? with
    | none => rw [e2] at q1; exact q1.elim
    | some m =>
      cases m with
      | dk _ => rw [e2] at q1; exact q1.elim
      | fd _ _ _ => rw [e2] at q1; exact q1.elim
      | lst ys =>
        rw [e2] at q1
        obtain ⟨vs, q, _⟩ := w1.obj h1 e2
        refine ⟨.inl ⟨rfl, vs, .of q⟩, ?_⟩
        exact h.run d1 H1 μ1 (.mr n) (.ref a) [] [] P Q w1 (.mr h1) .nil q1 fun d4 H4 μ4 z w' e4 => k d4 H4 μ4 z w' (e1.trans e4)
  | _ => exact q1.elim⟩
def pAppend : PV → List PV → Store → (PV → Store → Prop) → Prop := fun x zs μ P => match x, zs with | .mr n, [y] => (match μ[n]? with | some (.lst xs) => xs.length ≤ lim ∧ P .non (μ.set n (.lst (xs ++ [y]))) | _ => False) | _, _ => False
theorem chg_list {n : Nat} {zs : List PV} {ws vs : List V} (w : WOk K d H μ) (h : d.am[n]? = some a) (r : RVs K d H zs ws) : Ext d H d (upd H a (.lst ws)) ∧ WOk K d (upd H a (.lst ws)) (μ.set n (.lst zs)) := by
  have ha : a ∈ d.am := List.mem_of_getElem? h
  have e : Ext d H d (upd H a (.lst ws)) := Ext.chg ha
  exact ⟨e, w.chg h ⟨ws, upd_same, r.mono e⟩⟩
instance : FM K rAppend pAppend := ⟨fun d H μ x v zs us P Q w r rs q k => by
  match x, zs, r, rs, q with
  | .mr n, [y], .mr (a := a) h1, .cons (v := u) ry .nil, q =>
    simp only [pAppend] at q
    cases e : μ[n]? with
    | none => rw [e] at q; exact q.elim
    | some m =>
      cases m with
      | dk _ => rw [e] at q; exact q.elim
      | fd _ _ _ => rw [e] at q; exact q.elim
      | lst xs =>
        rw [e] at q
        obtain ⟨vs, hq, rv⟩ := w.obj h1 e
        obtain ⟨e1, w1⟩ := chg_list (vs := vs) w h1 (rv.append (.cons ry .nil))
        exact ⟨a, vs, u, rfl, rfl, hq, by rw [← rv.length]; exact lim_lt' q.1, k d _ _ _ _ e1 w1 .non q.2⟩⟩
def pExtend : PV → List PV → Store → (PV → Store → Prop) → Prop := fun x zs μ P => match x, zs with | .mr n, [y] => (match μ[n]?, lstItems y μ with | some (.lst xs), some ys => xs.length + ys.length ≤ lim ∧ P .non (μ.set n (.lst (xs ++ ys))) | _, _ => False) | _, _ => False
instance : FM K rExtend pExtend := ⟨fun d H μ x v zs us P Q w r rs q k => by
  match x, zs, r, rs, q with
  | .mr n, [y], .mr (a := a) h1, .cons (v := u) ry .nil, q =>
    simp only [pExtend] at q
    cases e : μ[n]? with
    | none => rw [e] at q; exact q.elim
    | some m =>
      cases m with
      | dk _ => rw [e] at q; exact q.elim
      | fd _ _ _ => rw [e] at q; exact q.elim
      | lst xs =>
        rw [e] at q
        cases e2 : lstItems y μ with
        | none => rw [e2] at q; exact q.elim
        | some ys =>
          rw [e2] at q
          obtain ⟨vs, hq, rv⟩ := w.obj h1 e
          obtain ⟨b, ws, rfl, rw', hb⟩ := lst_of w ry e2
          obtain ⟨e1, w1⟩ := chg_list (vs := vs) w h1 (rv.append rw')
          exact ⟨a, b, vs, ws, rfl, rfl, hq, hb, by rw [← rv.length, ← rw'.length]; exact lim_lt q.1, k d _ _ _ _ e1 w1 .non q.2⟩⟩
theorem RVs.dropLast (r : RVs K d H xs vs) : RVs K d H xs.dropLast vs.dropLast := by
  rw [List.dropLast_eq_take, List.dropLast_eq_take, r.length]
  exact r.take _
def pPop : PV → List PV → Store → (PV → Store → Prop) → Prop := fun x zs μ P => match x, zs with | .mr n, [] => (match μ[n]? with | some (.lst xs) => (match xs[xs.length - 1]? with | some y => P y (μ.set n (.lst xs.dropLast)) | none => False) | _ => False) | _, _ => False
instance : FM K rPop pPop := ⟨fun d H μ x v zs us P Q w r rs q k => by
  match x, zs, r, rs, q with
  | .mr n, [], .mr (a := a) h1, .nil, q =>
    simp only [pPop] at q
    cases e : μ[n]? with
    | none => rw [e] at q; exact q.elim
    | some m =>
      cases m with
      | dk _ => rw [e] at q; exact q.elim
      | fd _ _ _ => rw [e] at q; exact q.elim
      | lst xs =>
        rw [e] at q
        simp only at q
        obtain ⟨vs, hq, rv⟩ := w.obj h1 e
        cases e2 : xs[xs.length - 1]? with
        | none => rw [e2] at q; exact q.elim
        | some y =>
          rw [e2] at q
          obtain ⟨u, hu, ry⟩ := rv.get e2
          obtain ⟨e1, w1⟩ := chg_list (vs := vs) w h1 rv.dropLast
          exact ⟨a, vs, u, rfl, rfl, hq, by rw [← rv.length]; exact hu, k d _ _ _ _ e1 w1 (ry.mono e1) q⟩⟩
/-! ### xs[i] = v -/
class FSet (K : PySem.W.Frag) (r : TSet) (p : outParam (PV → PV → PV → Store → (Store → Prop) → Prop)) : Prop where
  run : ∀ (d : Wd) (H : Hp) (μ : Store) (x y z : PV) (v u t : V) (P : Store → Prop) (Q : Hp → Prop), WOk K d H μ → RV K d H x v → RV K d H y u → RV K d H z t → p x y z μ P →
    (∀ d' H' μ', Ext d H d' H' → WOk K d' H' μ' → P μ' → Q H') → r v u t H Q
def mSub (p : PV → PV → PV → Store → (Store → Prop) → Prop) (mo mi : ME) : MG := fun z ρ μ P => mo ρ μ fun x μ1 => mi ρ μ1 fun y μ2 => p x y z μ2 fun μ3 => P ρ μ3
instance {to ti t mo mi p} [h : FSet K t p] [ho : FE K to mo] [hi : FE K ti mi] : FG K (gSub to ti t) (mSub p mo mi) [] := ⟨fun d σ H ρ μ x v P Q w e r q k => by
  refine ho.run d σ H ρ μ _ _ w e q fun d1 H1 μ1 y u e1 w1 r1 q1 => ?_
  refine hi.run d1 σ H1 ρ μ1 _ _ w1 (e.mono e1) q1 fun d2 H2 μ2 z t e2 w2 r2 q2 => ?_
  exact h.run d2 H2 μ2 y z x u t v _ _ w2 (r1.mono e2) r2 (r.mono (e1.trans e2)) q2 fun d3 H3 μ3 e3 w3 q3 =>
    k d3 σ H3 ρ μ3 ((e1.trans e2).trans e3) w3 (e.mono ((e1.trans e2).trans e3)) rfl (fun _ _ => rfl) q3⟩
def pSetL : PV → PV → PV → Store → (Store → Prop) → Prop := fun x y z μ P => match x, y with | .mr n, .int i => (match μ[n]? with | some (.lst xs) => (match ixN xs.length i with | some j => P (μ.set n (.lst (xs.set j z))) | none => False) | _ => False) | _, _ => False
instance : FSet K rSetL pSetL := ⟨fun d H μ x y z v u t P Q w r1 r2 r3 q k => by
  match x, y, r1, r2, q with
  | .mr n, .int i, .mr (a := a) h1, .int _, q =>
    simp only [pSetL] at q
    cases e : μ[n]? with
    | none => rw [e] at q; exact q.elim
    | some m =>
      cases m with
      | dk _ => rw [e] at q; exact q.elim
      | fd _ _ _ => rw [e] at q; exact q.elim
      | lst xs =>
        rw [e] at q
        simp only at q
        obtain ⟨vs, hq, rv⟩ := w.obj h1 e
        cases e2 : ixN xs.length i with
        | none => rw [e2] at q; exact q.elim
        | some j =>
          rw [e2] at q
          obtain ⟨e1, w1⟩ := chg_list (vs := vs) w h1 (rv.set r3 j)
          exact ⟨a, vs, i, j, rfl, rfl, hq, by rw [← rv.length]; exact e2, k d _ _ e1 w1 q⟩⟩
/-! ### dicts -/
def keyP : PV → Option Key
  | .int i => some (.inl i)
  | .str x => some (.inr x)
  | _ => none
theorem keyP_rv {x : PV} {v : V} {k : Key} (r : RV K d H x v) (h : keyP x = some k) : v = kV k := by
  cases r <;> simp [keyP] at h <;> subst h <;> rfl
def valP (kvs : List (Key × PV)) (k : Key) : Option PV := (kvs.find? fun kv => decide (kv.1 = k)).map (·.2)
def putP (kvs : List (Key × PV)) (k : Key) (v : PV) : List (Key × PV) :=
  if (kvs.any fun kv => decide (kv.1 = k)) = true then kvs.map (fun kv => if kv.1 = k then (kv.1, v) else kv) else kvs ++ [(k, v)]
def RKs (K : PySem.W.Frag) (d : Wd) (H : Hp) (kvs : List (Key × PV)) (ws : List (Key × V)) : Prop := ws.map (·.1) = kvs.map (·.1) ∧ RVs K d H (kvs.map (·.2)) (ws.map (·.2))
theorem RKs.nil : RKs K d H [] [] := ⟨rfl, .nil⟩
theorem RKs.cases {kvs : List (Key × PV)} {ws : List (Key × V)} (r : RKs K d H kvs ws) : (kvs = [] ∧ ws = []) ∨ ∃ k x v kvs' ws', kvs = (k, x) :: kvs' ∧ ws = (k, v) :: ws' ∧ RV K d H x v ∧ RKs K d H kvs' ws' := by
  obtain ⟨h1, h2⟩ := r
  cases kvs with
  | nil => simp at h1; exact .inl ⟨rfl, h1⟩
  | cons p kvs =>
    cases ws with
    | nil => simp at h1
    | cons q ws =>
      obtain ⟨k, x⟩ := p
      obtain ⟨k', v⟩ := q
      simp only [List.map_cons, List.cons.injEq] at h1
      obtain ⟨e, h1⟩ := h1
      subst e
      cases h2 with
      | cons r t => exact .inr ⟨_, _, _, _, _, rfl, rfl, r, h1, t⟩
theorem RKs.cons {k : Key} {x : PV} {v : V} {kvs : List (Key × PV)} {ws : List (Key × V)} (r : RV K d H x v) (t : RKs K d H kvs ws) : RKs K d H ((k, x) :: kvs) ((k, v) :: ws) :=
  ⟨by simp only [List.map_cons, t.1], .cons r t.2⟩
theorem RKs.val {k : Key} : ∀ {kvs : List (Key × PV)} {ws : List (Key × V)}, RKs K d H kvs ws → (valP kvs k = none ∧ valV ws k = none) ∨ ∃ x v, valP kvs k = some x ∧ valV ws k = some v ∧ RV K d H x v
  | [], ws, r => by
    rcases r.cases with ⟨_, e⟩ | ⟨_, _, _, _, _, e, _⟩
    · subst e; exact .inl ⟨rfl, rfl⟩
    · cases e
  | p :: kvs, ws, r => by
    rcases r.cases with ⟨e, _⟩ | ⟨k', x, v, kvs', ws', e1, e2, r1, t⟩
    · cases e
    · cases e1; subst e2
      by_cases h : k' = k
      · subst h
        exact .inr ⟨x, v, by simp [valP], by simp [valV], r1⟩
      · have := RKs.val (k := k) t
        have a1 : valP ((k', x) :: kvs) k = valP kvs k := by simp [valP, List.find?_cons, h]
        have a2 : valV ((k', v) :: ws') k = valV ws' k := by simp [valV, List.find?_cons, h]
        rw [a1, a2]; exact this
theorem RKs.len {kvs : List (Key × PV)} {ws : List (Key × V)} (r : RKs K d H kvs ws) : kvs.length = ws.length := by
  have := congrArg List.length r.1
  simpa using this.symm
theorem RKs.append : ∀ {kvs kvs' : List (Key × PV)} {ws ws' : List (Key × V)}, RKs K d H kvs ws → RKs K d H kvs' ws' → RKs K d H (kvs ++ kvs') (ws ++ ws') := fun r t => by
  refine ⟨by rw [List.map_append, List.map_append, r.1, t.1], ?_⟩
  rw [List.map_append, List.map_append]
  exact r.2.append t.2
theorem RKs.any {k : Key} {kvs : List (Key × PV)} {ws : List (Key × V)} (r : RKs K d H kvs ws) : (ws.any fun kv => decide (kv.1 = k)) = kvs.any fun kv => decide (kv.1 = k) := by
  have e1 : ∀ l : List (Key × V), (l.any fun kv => decide (kv.1 = k)) = (l.map (·.1)).any fun z => decide (z = k) := fun l => by rw [List.any_map]; rfl
  have e2 : ∀ l : List (Key × PV), (l.any fun kv => decide (kv.1 = k)) = (l.map (·.1)).any fun z => decide (z = k) := fun l => by rw [List.any_map]; rfl
  rw [e1, e2, r.1]
theorem RKs.upd1 {k : Key} {x : PV} {v : V} (rx : RV K d H x v) : ∀ {kvs : List (Key × PV)} {ws : List (Key × V)}, RKs K d H kvs ws → RKs K d H (kvs.map (fun kv => if kv.1 = k then (kv.1, x) else kv)) (ws.map (fun kv => if kv.1 = k then (kv.1, v) else kv))
  | [], ws, r => by
    rcases r.cases with ⟨_, e⟩ | ⟨_, _, _, _, _, e, _⟩
    · subst e; exact .nil
    · cases e
  | p :: kvs, ws, r => by
    rcases r.cases with ⟨e, _⟩ | ⟨k', x', v', kvs', ws', e1, e2, r1, t⟩
    · cases e
    · cases e1; subst e2
      rw [List.map_cons, List.map_cons]
      by_cases h : k' = k
      · simp only [h, if_true]
        exact .cons rx (RKs.upd1 rx t)
      · simp only [h, if_false]
        exact .cons r1 (RKs.upd1 rx t)
theorem RKs.put {k : Key} {x : PV} {v : V} (rx : RV K d H x v) {kvs : List (Key × PV)} {ws : List (Key × V)} (r : RKs K d H kvs ws) : RKs K d H (putP kvs k x) (putK ws k v) := by
  unfold putP putK
  rw [r.any]
  split
  · exact r.upd1 rx
  · exact r.append (.cons rx .nil)
theorem RKs.mono (e : Ext d H d' H') {kvs : List (Key × PV)} {ws : List (Key × V)} (r : RKs K d H kvs ws) : RKs K d' H' kvs ws := ⟨r.1, r.2.mono e⟩
def dictOfP (x : PV) (μ : Store) : Option (List (Key × PV)) := match x with | .mr n => (match μ[n]? with | some (.dk kvs) => some kvs | some (.fd _ _ kvs) => some kvs | _ => none) | _ => none
theorem dict_of {x : PV} {v : V} {kvs : List (Key × PV)} (w : WOk K d H μ) (r : RV K d H x v) (h : dictOfP x μ = some kvs) : ∃ n a ws, x = .mr n ∧ v = .ref a ∧ d.am[n]? = some a ∧ Rd H a (.dK ws) ∧ RKs K d H kvs ws := by
  cases r with
  | @mr n a h1 =>
    unfold dictOfP at h
    cases e : μ[n]? with
    | none => simp [e] at h
    | some m =>
      cases m with
      | lst zs => simp [e] at h
      | dk zs =>
        simp [e] at h
        subst h
        obtain ⟨ws, q, r1, r2⟩ := w.obj h1 e
        exact ⟨n, a, ws, rfl, rfl, h1, .inl q, r1, r2⟩
      | fd o ws zs =>
        simp [e] at h
        subst h
        obtain ⟨q, r1, r2⟩ := w.obj h1 e
        exact ⟨n, a, ws, rfl, rfl, h1, .inr ⟨o, q⟩, r1, r2⟩
  | _ => cases h
def mDGet (md my : ME) : ME := fun ρ μ P => md ρ μ fun x μ1 => my ρ μ1 fun y μ2 => match dictOfP x μ2, keyP y with | some kvs, some k => (match valP kvs k with | some v => P v μ2 | none => False) | _, _ => False
instance {td ty md my} [hd : FE K td md] [hy : FE K ty my] : FE K (tDGet td ty) (mDGet md my) := ⟨fun d σ H ρ μ P Q w e q k => by
  refine hd.run d σ H ρ μ _ _ w e q fun d1 H1 μ1 x v e1 w1 r1 q1 => ?_
  refine hy.run d1 σ H1 ρ μ1 _ _ w1 (e.mono e1) q1 fun d2 H2 μ2 y u e2 w2 r2 q2 => ?_
  cases a1 : dictOfP x μ2 with
  | none => rw [a1] at q2; exact q2.elim
  | some kvs =>
    cases a2 : keyP y with
    | none => rw [a1, a2] at q2; exact q2.elim
    | some kk =>
      rw [a1, a2] at q2
      simp only at q2
      obtain ⟨n, a, ws, rfl, rfl, _, hq, rk⟩ := dict_of w2 (r1.mono e2) a1
      obtain rfl := keyP_rv r2 a2
      rcases rk.val (k := kk) with ⟨z, _⟩ | ⟨x, v, z1, z2, rv⟩
      · rw [z] at q2; exact q2.elim
      · rw [z1] at q2
        exact ⟨a, v, rfl, .inl ⟨ws, kk, hq, rfl, z2.symm⟩, k d2 H2 μ2 _ _ (e1.trans e2) w2 rv q2⟩⟩
def mDIn (neg : Bool) (my md : ME) : ME := fun ρ μ P => my ρ μ fun y μ1 => md ρ μ1 fun x μ2 => match dictOfP x μ2, keyP y with | some kvs, some k => P (.bl (if neg then !(valP kvs k).isSome else (valP kvs k).isSome)) μ2 | _, _ => False
theorem din_run {x y : PV} {v u : V} {P : Option PV → Prop} {Q : Option V → Addr → Prop} (w : WOk K d H μ) (r1 : RV K d H x v) (r2 : RV K d H y u) (q : match dictOfP x μ, keyP y with | some kvs, some k => P (valP kvs k) | _, _ => False) :
    ∃ a o o', v = .ref a ∧ DGet H a u o ∧ o.isSome = o'.isSome ∧ P o' := by
  cases a1 : dictOfP x μ with
  | none => rw [a1] at q; exact q.elim
  | some kvs =>
    cases a2 : keyP y with
    | none => rw [a1, a2] at q; exact q.elim
    | some kk =>
      rw [a1, a2] at q
      obtain ⟨n, a, ws, rfl, rfl, _, hq, rk⟩ := dict_of w r1 a1
      obtain rfl := keyP_rv r2 a2
      refine ⟨a, valV ws kk, valP kvs kk, rfl, .inl ⟨ws, kk, hq, rfl, rfl⟩, ?_, q⟩
      rcases rk.val (k := kk) with ⟨z, z'⟩ | ⟨x, v, z1, z2, rv⟩
      · rw [z, z']; rfl
      · rw [z1, z2]; rfl
instance {td ty md my} [hd : FE K td md] [hy : FE K ty my] : FE K (tDIn ty td) (mDIn false my md) := ⟨fun d σ H ρ μ P Q w e q k => by
  refine hy.run d σ H ρ μ _ _ w e q fun d1 H1 μ1 y u e1 w1 r1 q1 => ?_
  refine hd.run d1 σ H1 ρ μ1 _ _ w1 (e.mono e1) q1 fun d2 H2 μ2 x v e2 w2 r2 q2 => ?_
  obtain ⟨a, o, o', rfl, g, eo, p⟩ := din_run (P := fun o => P (.bl o.isSome) μ2) (Q := fun _ _ => True) w2 r2 (r1.mono e2) q2
  exact ⟨a, o, rfl, g, by rw [eo]; exact k d2 H2 μ2 _ _ (e1.trans e2) w2 (.bl _) p⟩⟩
instance {td ty md my} [hd : FE K td md] [hy : FE K ty my] : FE K (tDNotIn ty td) (mDIn true my md) := ⟨fun d σ H ρ μ P Q w e q k => by
  refine hy.run d σ H ρ μ _ _ w e q fun d1 H1 μ1 y u e1 w1 r1 q1 => ?_
  refine hd.run d1 σ H1 ρ μ1 _ _ w1 (e.mono e1) q1 fun d2 H2 μ2 x v e2 w2 r2 q2 => ?_
  obtain ⟨a, o, o', rfl, g, eo, p⟩ := din_run (P := fun o => P (.bl (!o.isSome)) μ2) (Q := fun _ _ => True) w2 r2 (r1.mono e2) q2
  exact ⟨a, o, rfl, g, by rw [eo]; exact k d2 H2 μ2 _ _ (e1.trans e2) w2 (.bl _) p⟩⟩
def mDPut (md my mv : ME) : MS := fun P ρ μ => mv ρ μ fun z μ1 => md ρ μ1 fun x μ2 => my ρ μ2 fun y μ3 => match x, keyP y with | .mr n, some k => (match μ3[n]? with | some (.dk kvs) => kvs.length ≤ lim ∧ P.nx ρ (μ3.set n (.dk (putP kvs k z))) | _ => False) | _, _ => False
instance {td ty tv md my mv} [hd : FE K td md] [hy : FE K ty my] [hv : FE K tv mv] : FS K (sDPut td ty tv) (mDPut md my mv) := ⟨fun d σ H ρ μ P D w e q l => by
  refine hv.run d σ H ρ μ _ _ w e q fun d1 H1 μ1 z t e1 w1 r1 q1 => ?_
  refine hd.run d1 σ H1 ρ μ1 _ _ w1 (e.mono e1) q1 fun d2 H2 μ2 x v e2 w2 r2 q2 => ?_
  refine hy.run d2 σ H2 ρ μ2 _ _ w2 (e.mono (e1.trans e2)) q2 fun d3 H3 μ3 y u e3 w3 r3 q3 => ?_
  cases r2 with
  | @mr n a h1 =>
    cases a2 : keyP y with
    | none => rw [a2] at q3; exact q3.elim
    | some kk =>
      rw [a2] at q3
      simp only at q3
      cases a3 : μ3[n]? with
      | none => rw [a3] at q3; exact q3.elim
      | some m =>
        cases m with
        | lst _ => rw [a3] at q3; exact q3.elim
        | fd _ _ _ => rw [a3] at q3; exact q3.elim
        | dk kvs =>
          rw [a3] at q3
          have h3 := e3.at h1
          obtain ⟨ws, hq, rk1, rk2⟩ := w3.obj h3 a3
          have rk : RKs K d3 H3 kvs ws := ⟨rk1, rk2⟩
          obtain rfl := keyP_rv r3 a2
          have ha : a ∈ d3.am := List.mem_of_getElem? h3
          have ee : Ext d3 H3 d3 (upd H3 a (.dK (putK ws kk t))) := Ext.chg ha
          have rk' := (rk.put (k := kk) (r1.mono (e2.trans e3))).mono ee
          refine ⟨a, _, rfl, .inl ⟨ws, kk, hq, rfl, by rw [← rk.len]; exact lim_lt' q3.1, rfl⟩, ?_⟩
          exact l.nx d3 σ _ ρ _ (((e1.trans e2).trans e3).trans ee) (w3.chg (m := .dk (putP kvs kk z)) h3 ⟨_, upd_same, rk'.1, rk'.2⟩) (e.mono (((e1.trans e2).trans e3).trans ee)) q3.2
  | _ => exact q3.elim⟩
/-- a display -/
class FPs (K : PySem.W.Frag) (t : List (TE × TE)) (m : outParam (PEnv → Store → (List (PV × PV) → Store → Prop) → Prop)) : Prop where
  run : ∀ (d : Wd) (σ : L2.St) (H : Hp) (ρ : PEnv) (μ : Store) (P : List (PV × PV) → Store → Prop) (Q : List (V × V) → Hp → Prop), WOk K d H μ → REnv K d H ρ σ → m ρ μ P →
    (∀ d' H' μ' ps qs, Ext d H d' H' → WOk K d' H' μ' → RVs K d' H' (ps.map (·.1)) (qs.map (·.1)) → RVs K d' H' (ps.map (·.2)) (qs.map (·.2)) → P ps μ' → Q qs H') → tPairs t σ H Q
def mPs0 : PEnv → Store → (List (PV × PV) → Store → Prop) → Prop := fun _ μ P => P [] μ
def mPs (a b : ME) (r : PEnv → Store → (List (PV × PV) → Store → Prop) → Prop) : PEnv → Store → (List (PV × PV) → Store → Prop) → Prop := fun ρ μ P => a ρ μ fun x μ1 => b ρ μ1 fun y μ2 => r ρ μ2 fun ps μ3 => P ((x, y) :: ps) μ3
instance : FPs K [] mPs0 := ⟨fun d σ H ρ μ P Q w e q k => k d H μ [] [] .refl w .nil .nil q⟩
instance {a b r m n s} [ha : FE K a m] [hb : FE K b n] [hr : FPs K r s] : FPs K ((a, b) :: r) (mPs m n s) := ⟨fun d σ H ρ μ P Q w e q k => by
  refine ha.run d σ H ρ μ _ _ w e q fun d1 H1 μ1 x v e1 w1 r1 q1 => ?_
  refine hb.run d1 σ H1 ρ μ1 _ _ w1 (e.mono e1) q1 fun d2 H2 μ2 y u e2 w2 r2 q2 => ?_
  exact hr.run d2 σ H2 ρ μ2 _ _ w2 (e.mono (e1.trans e2)) q2 fun d3 H3 μ3 ps qs e3 w3 r3 r4 q3 =>
    k d3 H3 μ3 ((x, y) :: ps) ((v, u) :: qs) ((e1.trans e2).trans e3) w3 (.cons (r1.mono (e2.trans e3)) r3) (.cons (r2.mono e3) r4) q3⟩
def keysP : List (PV × PV) → Option (List (Key × PV))
  | [] => some []
  | (x, y) :: r => match keyP x, keysP r with | some k, some ks => some ((k, y) :: ks) | _, _ => none
def mDisp (m : PEnv → Store → (List (PV × PV) → Store → Prop) → Prop) : ME := fun ρ μ P => m ρ μ fun ps μ1 => match keysP ps with | some kvs => kvs.length ≤ 15 ∧ P (.mr μ1.length) (μ1 ++ [.dk (kvs.foldl (fun acc kv => putP acc kv.1 kv.2) [])]) | none => False
theorem keysP_rv : ∀ {ps : List (PV × PV)} {qs : List (V × V)} {kvs : List (Key × PV)}, RVs K d H (ps.map (·.1)) (qs.map (·.1)) → RVs K d H (ps.map (·.2)) (qs.map (·.2)) → keysP ps = some kvs →
    ∃ ws : List (Key × V), qs = ws.map (fun kv => (kV kv.1, kv.2)) ∧ RKs K d H kvs ws
  | [], [], _, _, _, h => by cases h; exact ⟨[], rfl, .nil⟩
  | [], _ :: _, _, r, _, _ => by cases r
  | _ :: _, [], _, r, _, _ => by cases r
  | (x, y) :: ps, (v, u) :: qs, kvs, r1, r2, h => by
    simp only [keysP] at h
    cases a1 : keyP x with
    | none => rw [a1] at h; simp at h
    | some k =>
      cases a2 : keysP ps with
      | none => rw [a1, a2] at h; simp at h
      | some ks =>
        rw [a1, a2] at h; simp at h; subst h
        cases r1 with
        | cons r1 t1 =>
          cases r2 with
          | cons r2 t2 =>
            obtain ⟨ws, e, rk⟩ := keysP_rv t1 t2 a2
            have e1 : v = kV k := keyP_rv r1 a1
            have e1 : v = kV k := e1
            refine ⟨(k, u) :: ws, ?_, .cons r2 rk⟩
            rw [List.map_cons, ← e, ← e1]
theorem RKs.fold : ∀ {more : List (Key × PV)} {ws : List (Key × V)} {acc : List (Key × PV)} {as : List (Key × V)}, RKs K d H more ws → RKs K d H acc as → RKs K d H (more.foldl (fun acc kv => putP acc kv.1 kv.2) acc) (mergeK as ws)
  | [], ws, acc, as, r, ra => by
    rcases r.cases with ⟨_, e⟩ | ⟨_, _, _, _, _, e, _⟩
    · subst e; exact ra
    · cases e
  | p :: more, ws, acc, as, r, ra => by
    rcases r.cases with ⟨e, _⟩ | ⟨k', x', v', kvs', ws', e1, e2, r1, t⟩
    · cases e
    · cases e1; subst e2
      exact RKs.fold (more := more) (ws := ws') t (ra.put r1)
theorem WOk.barK {D : Addr} {o : HO} (w : WOk K d H μ) (h : H D = none) : WOk K ⟨d.am, D :: d.ban⟩ (upd H D o) μ := by
  have b : Bars d ⟨d.am, D :: d.ban⟩ H := ⟨rfl, fun x q => (List.mem_cons.mp q).elim (fun z => .inr (by rw [z]; exact h)) .inl⟩
  refine ⟨w.len, w.nd, fun i a m h1 h2 => ?_, fun x hx => ?_⟩
  · have hm := w.ob i a m h1 h2
    have hne : a ≠ D := by rintro rfl; exact w.notin h (List.mem_of_getElem? h1)
    have e : Ext ⟨d.am, D :: d.ban⟩ H ⟨d.am, D :: d.ban⟩ (upd H D o) := ⟨⟨[], by simp, fun p hp => by simp at hp⟩, rfl, fun b u e _ => by rw [upd_ne (ne_of_none e h)]; exact e⟩
    cases m with
    | lst xs => obtain ⟨vs, q, r⟩ := hm; exact ⟨vs, by rw [upd_ne hne]; exact q, (r.bars b).mono e⟩
    | dk kvs => obtain ⟨vs, q, r1, r2⟩ := hm; exact ⟨vs, by rw [upd_ne hne]; exact q, r1, (r2.bars b).mono e⟩
    | fd o ws kvs => obtain ⟨q, r1, r2⟩ := hm; exact ⟨by rw [upd_ne hne]; exact q, r1, (r2.bars b).mono e⟩
  · rcases List.mem_cons.mp hx with z | z
    · subst z
      exact ⟨by rw [upd_same]; simp, w.notin h⟩
    · obtain ⟨q1, q2⟩ := w.ban x z
      refine ⟨?_, q2⟩
      have hne : x ≠ D := by rintro rfl; exact q1 h
      rw [upd_ne hne]; exact q1
instance {t m} [h : FPs K t m] : FE K (tDisp t) (mDisp m) := ⟨fun d σ H ρ μ P Q w e q k => by
  intro D hD
  have bD : Bars d ⟨d.am, D :: d.ban⟩ H := ⟨rfl, fun x q => (List.mem_cons.mp q).elim (fun z => .inr (by rw [z]; exact hD)) .inl⟩
  have lay0 : Ext ⟨d.am, D :: d.ban⟩ H ⟨d.am, D :: d.ban⟩ (upd H D (.dK [])) := ⟨⟨[], by simp, fun p hp => by simp at hp⟩, rfl, fun b u e _ => by rw [upd_ne (ne_of_none e hD)]; exact e⟩
  refine h.run _ σ _ ρ μ _ _ (w.barK hD) ((e.bars bD).mono lay0) q fun dB H1 μ1 ps qs e1 w1 r1 r2 q1 => ?_
  have nD : D ∉ (⟨d.am, D :: d.ban⟩ : Wd).am := w.notin hD
  have hD1 : H1 D = some (.dK []) := e1.keep _ _ upd_same nD
  refine ⟨hD1, ?_⟩
  cases a1 : keysP ps with
  | none => rw [a1] at q1; exact q1.elim
  | some kvs =>
    rw [a1] at q1
    obtain ⟨ws, eq, rk⟩ := keysP_rv r1 r2 a1
    refine ⟨ws, eq, by rw [← rk.len]; exact q1.1, ?_⟩
    have banB : D ∈ dB.ban := by rw [e1.ban]; exact List.mem_cons_self
    have nt := no_tupK hD1
    have w2 := w1.made (o := .dK (mergeK [] ws)) banB nt
    have hD2 : (upd H1 D (.dK (mergeK [] ws))) D = some (.dK (mergeK [] ws)) := upd_same
    have nt2 := no_tupK hD2
    have rk2 := rk.fold (K := K) (d := dB) (H := H1) .nil
    have hs : ∀ b ∈ d.ban, b ∈ dB.ban := fun b hb => by rw [e1.ban]; exact List.mem_cons_of_mem _ hb
    have hnD := (w1.ban D banB).2
    have hm : MOK K ⟨dB.am ++ [D], d.ban⟩ (upd H1 D (.dK (mergeK [] ws))) D (.dk (kvs.foldl (fun acc kv => putP acc kv.1 kv.2) [])) := ⟨_, hD2, rk2.1, (rk2.2.made banB nt).pushed banB nt2 hs⟩
    refine k ⟨dB.am ++ [D], d.ban⟩ _ _ _ _ ⟨?_, rfl, fun b o hb hn => ?_⟩ (w2.pushed banB nt2 hs (w.notban hD) hm) (.mr ?_) q1.2
    · obtain ⟨ex, q, f⟩ := e1.am
      refine ⟨ex ++ [D], by rw [q, List.append_assoc], fun p hp => ?_⟩
      rcases List.mem_append.mp hp with z | z
      · obtain ⟨f1, f2⟩ := f p z
        refine ⟨?_, f2⟩
        by_cases hpD : p = D
        · subst hpD; exact hD
        · rw [upd_ne hpD] at f1; exact f1
      · have e := List.mem_singleton.mp z
        subst e
        exact ⟨hD, nD⟩
    · have hne : b ≠ D := ne_of_none hb hD
      rw [upd_ne hne]
      exact e1.keep b o (by rw [upd_ne hne]; exact hb) hn
    · show (dB.am ++ [D])[μ1.length]? = some D
      rw [← w1.len, List.getElem?_append_right (Nat.le_refl _)]
      simp⟩
/-! ### repr -/
def isSeqD : PyData → Bool | .list _ => true | .tuple _ => true | _ => false
def rRepr (K : PySem.W.Frag) : List V → Hp → VK → Prop := fun xs H Q => ∃ x e, xs = [x] ∧ Dp K H x e ∧ isSeqD e = true ∧ e.showable = true ∧ e.hasDict = false ∧ e.depth ≤ 60 ∧ e.shown.length ≤ lim ∧ Q (.str e.shown) H
theorem cb_repr {X : Cx} (hg : X.A.guards = some []) (hu : X.A.units + 64 < cLine) : CallR X (.builtin "repr") (rRepr X.K) := by
  intro pins s σ H vs us Q I r h
  obtain ⟨x, e, rfl, hd, hs, h1, h2, h3, h4, q⟩ := h
  obtain ⟨u, rfl, ru⟩ := vals1 r
  obtain ⟨as, rd⟩ := Dp.reads I e x u hd ru
  have hv : ∃ a, u = .ref a := by
    cases rd <;> first | exact ⟨_, rfl⟩ | cases hs
  obtain ⟨a, rfl⟩ := hv
  exact repr_of_reads' rd h1 (PyData.noDict_hsm h2) hg (by omega) (fun _ _ z => z) (fun h' u tk hk => ⟨.str e.shown, H, I.kept hk, ⟨_, rfl⟩, q⟩) (lim_lt h4)
def pRepr : MB := fun xs μ P => match xs with | [x] => (match datP (frzP x μ) with | some e => (isSeqD e = true ∧ e.showable = true ∧ e.hasDict = false ∧ e.depth ≤ 60 ∧ e.shown.length ≤ lim) ∧ P (.str e.shown) μ | none => False) | _ => False
instance : FB K (rRepr K) pRepr := ⟨fun d H μ xs vs P Q w r q k => by
  match xs, r, q with
  | [x], .cons (v := v) r .nil, q =>
    unfold pRepr at q
    simp only at q
    cases e : datP (frzP x μ) with
    | none => rw [e] at q; exact q.elim
    | some dd =>
      rw [e] at q
      obtain ⟨⟨h1, h2, h3, h4, h5⟩, q⟩ := q
      exact ⟨v, dd, rfl, frz_dp w r e, h1, h2, h3, h4, h5, k d H μ _ _ .refl w (.str _) q⟩⟩
/-! ### isinstance -/
def tyP : PV → Option String
  | .non => some "NoneType" | .bl _ => some "bool" | .int _ => some "int" | .str _ => some "str" | .tup _ => some "tuple" | .lst _ => some "list" | _ => none
theorem tyP_rv {x : PV} {v : V} {T : String} (r : RV K d H x v) (h : tyP x = some T) : TyX K H v (.type T) := by
  cases r with
  | non => cases h; exact .base .non
  | bl b => cases h; exact .base (.bl b)
  | int i => cases h; exact .base (.int i)
  | str i => cases h; exact .base (.str i)
  | ty i => cases h
  | tup h1 h2 =>
    cases h
    rcases h1 with ⟨z | ⟨o, z⟩, _⟩ | (z | ⟨o, z⟩) | ⟨o, its, n, z1, z2, _⟩
    · exact .base (.tup z)
    · exact .fTuple z
    · cases z
    · cases z
    · exact .kTuple z1 z2
  | lst h1 h2 => cases h; exact .base (.lst h1.1)
  | kl h1 h2 => cases h
  | mr h1 => cases h
def pIsi : MB := fun xs μ P => match xs with | [x, .ty n] => (match tyP x with | some T => (match kitB T n with | some b => P (.bl b) μ | none => False) | none => False) | _ => False
instance : FB K (rIsi K) pIsi := ⟨fun d H μ xs vs P Q w r q k => by
  match xs, r, q with
  | [x, .ty n], .cons (v := v) r (.cons (.ty _) .nil), q =>
    unfold pIsi at q
    simp only at q
    cases e : tyP x with
    | none => rw [e] at q; exact q.elim
    | some T =>
      rw [e] at q
      simp only at q
      cases e2 : kitB T n with
      | none => rw [e2] at q; exact q.elim
      | some b =>
        rw [e2] at q
        exact ⟨v, .ty n, .type T, .type n, b, rfl, .ty n, tyP_rv r e, kit_ty e2, k d H μ _ _ .refl w (.bl _) q⟩⟩
end
end Fx

/-! Fx8: calls of defs, a def's body, the end of a law. -/
namespace Fx
open PySem PySem.Spec PyProof.Rows L2 RZ

abbrev PSp := List PV → Store → (PV → Store → Prop) → Prop
/-- what a caller sees behind a call -/
def QvOf (K : PySem.W.Frag) (d : Wd) (H : Hp) (Q : PV → Store → Prop) : VK := fun v H' => ∃ d' x μ', Ext d H d' H' ∧ WOk K d' H' μ' ∧ RV K d' H' x v ∧ Q x μ'
/-- a def that does what S says; no repr runs around it -/
structure FnG (P : Program) (w : World) (K : PySem.W.Frag) (mg : Str → Option Value) (base : Heap) (k : Nat) (f : Addr) (fd : FuncData) (ps : List Str) (S : PSp) : Prop where
  len : ∀ xs μ Q, S xs μ Q → xs.length = ps.length
  run : ∀ (A : Around) (outer : List Env) (s : Shared) (H : Hp) (args : Args) (us : List Value) (vs : List V) (xs : List PV) (d : Wd) (μ : Store) (Q : PV → Store → Prop),
    Room k A → A.guards = some [] → Env0 P w K mg base A outer s H → BindsTo s fd args (ps.zip us) → Vals vs us → WOk K d H μ → RVs K d H xs vs → S xs μ Q →
    codeAny (model P w) A (.call (.ref f) args) (CR CX0 outer P w H s (QvOf K d H Q) E0) s
theorem FnG.mono {P : Program} {w : World} {K : PySem.W.Frag} {mg : Str → Option Value} {base : Heap} {j k : Nat} {f : Addr} {fd : FuncData} {ps : List Str} {S : PSp} (F : FnG P w K mg base j f fd ps S) (h : j ≤ k) : FnG P w K mg base k f fd ps S :=
  ⟨F.len, fun A outer s H args us vs xs d μ Q hr => F.run A outer s H args us vs xs d μ Q (hr.mono h)⟩
theorem FnG.imp {P : Program} {w : World} {K : PySem.W.Frag} {mg : Str → Option Value} {base : Heap} {k : Nat} {f : Addr} {fd : FuncData} {ps : List Str} {S S' : PSp} (F : FnG P w K mg base k f fd ps S) (h : ∀ xs μ Q, S' xs μ Q → S xs μ Q) : FnG P w K mg base k f fd ps S' :=
  ⟨fun xs μ Q q => F.len xs μ Q (h _ _ _ q), fun A outer s H args us vs xs d μ Q hr hg e0 hb hv w r q => F.run A outer s H args us vs xs d μ Q hr hg e0 hb hv w r (h _ _ _ q)⟩

/-! ### calls -/
def tCallG (K : PySem.W.Frag) (S : PSp) (t : TA) : TE := fun σ H Q => t σ H fun vs H1 => ∃ d μ xs Q', WOk K d H1 μ ∧ RVs K d H1 xs vs ∧ S xs μ Q' ∧ ∀ v H2, QvOf K d H1 Q' v H2 → Q v H2
def perm {α : Type} (ix : List Nat) (l : List α) : List α := ix.filterMap (l[·]?)
def tCallKG (K : PySem.W.Frag) (S : PSp) (ix : List Nat) (t tk : TA) : TE := fun σ H Q => t σ H fun vs H1 => tk σ H1 fun zs H2 => ∃ d μ xs Q', WOk K d H2 μ ∧ RVs K d H2 xs (perm ix (vs ++ zs)) ∧ S xs μ Q' ∧ ∀ v H3, QvOf K d H2 Q' v H3 → Q v H3
section
variable {X : Cx} {k : Nat} {f : Addr} {fd : FuncData} {ps ks : List Str} {S : PSp} {x : Str} {p pos : Pos} {e : Expr} {es : List Expr} {kws : List Keyword} {t tk : TA}
theorem go_fn {pins : List (Addr × Obj)} {σ : L2.St} {H : Hp} {s : Shared} {Q : VK} {us : List Value} {args : Args} {vs : List V} {d : Wd} {μ : Store} {xs : List PV} {Q' : PV → Store → Prop} (F : FnG X.prog X.w X.K X.mg X.base k f fd ps S) (hr : Room k X.A) (hg : X.A.guards = some [])
    (I : Inv X pins σ H s) (hb : BindsTo s fd args (ps.zip us)) (r : Vals vs us) (w : WOk X.K d H μ) (rx : RVs X.K d H xs vs) (h : S xs μ Q') (fin : ∀ v H2, QvOf X.K d H Q' v H2 → Q v H2) :
    codeAny (model X.prog X.w) X.A (.call (.ref f) args) (fun r s' => match r with | .ok (.ret u) => EP X pins σ Q u s' | _ => False) s := by
  refine codeAny_mono (F.run X.A X.stack s H args us vs xs d μ Q' hr hg I.env0 hb r w rx h) fun res s' hq => ?_
  match res, hq with
  | .ok (.ret u), hq =>
    obtain ⟨v, H', a1, a2, a3, a4, a5, a6⟩ := hq
    exact I.after ⟨v, H', a1, a2, a3, a4, a5, fin v H' a6⟩
  | .ok .next, hq => exact hq.elim
  | .ok .brk, hq => exact hq.elim
  | .ok .cont, hq => exact hq.elim
  | .error _, hq => exact hq.elim
theorem perm_rel {α β : Type} {R : α → β → Prop} {l : List α} {l' : List β} (h : Paired R l l') : ∀ ix : List Nat, Paired R (perm ix l) (perm ix l')
  | [] => .nil
  | i :: ix => by
    have ih := perm_rel h ix
    have g : ∀ {l : List α} {l' : List β} (i : Nat), Paired R l l' → (l[i]? = none ∧ l'[i]? = none) ∨ ∃ a b, l[i]? = some a ∧ l'[i]? = some b ∧ R a b := by
      intro l l' i h
      induction h generalizing i with
      | nil => exact .inl ⟨by simp, by simp⟩
      | cons r t ih =>
        cases i with
        | zero => exact .inr ⟨_, _, rfl, rfl, r⟩
        | succ i => simpa using ih i
    rcases g i h with ⟨h1, h2⟩ | ⟨a, b, h1, h2, r⟩
    · simpa [perm, h1, h2] using ih
    · simpa [perm, h1, h2] using Paired.cons r ih
theorem perm_rvs {K : PySem.W.Frag} {d : Wd} {H : Hp} {xs : List PV} {vs : List V} (h : RVs K d H xs vs) : ∀ ix : List Nat, RVs K d H (perm ix xs) (perm ix vs)
  | [] => .nil
  | i :: ix => by
    have ih := perm_rvs h ix
    cases e : xs[i]? with
    | none =>
      have e2 : vs[i]? = none := by
        have := List.getElem?_eq_none_iff.mp e
        exact List.getElem?_eq_none_iff.mpr (by rw [← h.length]; exact this)
      simpa [perm, e, e2] using ih
    | some a =>
      obtain ⟨b, e2, r⟩ := h.get e
      simpa [perm, e, e2] using RVs.cons r ih
theorem pe_callG (F : FnG X.prog X.w X.K X.mg X.base k f fd ps S) (hr : Room k X.A) (hgd : X.A.guards = some []) (hg : Gl X x) (hm : X.mg x = some (.ref f)) (hk : PySem.W.keepIn X.K (.ref f) = true) (hb : Binds X.K fd ps [])
    (ha : PA X (e :: es) t) (hdb : (x == ("__debug__" : Str)) = false := by decide) (he : starEach (e :: es) X.env = (false, eval e X.env) :: starEach es X.env := by rfl) (hpl : (backTo pos (starEach es X.env)).any (·.1) = false := by rfl) :
    PE X (.Call (.Name x p) (e :: es) [] pos) (tCallG X.K S t) := ⟨fun pins s σ H Q I h => by
  refine wpAny_Call_Name_kw (ld_glob I hg hm (PySem.W.callWith_K (h₀ := X.base) I.ok.mod.kin hk (thn (ha.run pos pins s σ H _ I h) fun us s1 hq => ?_) he hpl) hdb)
  obtain ⟨vs, H1, I1, r, d, μ, xs, Q', w, rx, hS, fin⟩ := hq
  have hl : us.length = ps.length := by rw [← r.length, ← rx.length]; exact F.len _ _ _ hS
  refine ⟨I1.kIn, wpAny_call ?_⟩
  have hb' := hb s1 us I1.kIn (by rw [List.append_nil]; exact hl)
  rw [List.append_nil] at hb'
  exact codeAny_mono (go_fn F hr hgd I1 hb' r w rx hS fin) fun res s' hq => by
    match res, hq with
    | .ok (.ret u), hq => exact hq⟩
/-- how keywords bind -/
def KBs (fd : FuncData) (ps ks : List Str) (n : Nat) (ix : List Nat) : Prop := ∀ (s : Shared) (us ws : List Value), us.length = n → ws.length = ks.length → BindsTo s fd ⟨us, ks.zip ws⟩ (ps.zip (perm ix (us ++ ws)))
def tEmpty : TA := tNil
theorem pe_callK0G {ix : List Nat} (F : FnG X.prog X.w X.K X.mg X.base k f fd ps S) (hr : Room k X.A) (hgd : X.A.guards = some []) (hg : Gl X x) (hm : X.mg x = some (.ref f)) (hk : PySem.W.keepIn X.K (.ref f) = true) (hb : KBs fd ps ks 0 ix)
    (hkw : PK X kws tk) (hln : ∀ ws : List Value, True := by intro _; trivial) (hall : (backToKw pos (keywordEach kws X.env)).all (·.1.isSome) = true := by rfl) (hks : (backToKw pos (keywordEach kws X.env)).filterMap (·.1) = ks := by rfl)
    (hn : kws.length = ks.length := by rfl) (hix : ∀ zs : List V, zs.length = ks.length → True := by intro _ _; trivial) (hdb : (x == ("__debug__" : Str)) = false := by decide)
    (hpl : ((backTo pos (starEach [] X.env)).any (·.1) || (backToKw pos (keywordEach kws X.env)).any (·.1.isNone)) = false := by rfl) (hkl : ((backToKw pos (keywordEach kws X.env)).map (·.2)).length = ks.length := by rfl) :
    PE X (.Call (.Name x p) [] kws pos) (tCallKG X.K S ix (fun _ H Q => Q [] H) (fun σ H Q => tk σ H fun zs H1 => zs.length = ks.length ∧ Q zs H1)) := ⟨fun pins s σ H Q I h => by
  refine wpAny_Call_Name_kw (ld_glob I hg hm (PySem.W.callWith_KW0 (h₀ := X.base) I.ok.mod.kin hk hall (thn (hkw.run pos pins s σ H _ I h) fun ws s2 hq => ?_) hpl) hdb)
  obtain ⟨zs, H2, I2, rz, hz, d, μ, xs, Q', w, rx, hS, fin⟩ := hq
  refine ⟨I2.kIn, wpAny_call ?_⟩
  rw [hks]
  have rz' : Vals (perm ix ([] ++ zs)) (perm ix ([] ++ ws)) := perm_rel (by simpa using rz) ix
  exact codeAny_mono (go_fn F hr hgd I2 (hb s2 [] ws rfl (by rw [← rz.length]; exact hz)) rz' w rx hS fin) fun res s' hq => by
    match res, hq with
    | .ok (.ret u), hq => exact hq⟩
end
section
variable {K : PySem.W.Frag}
def mCall (S : PSp) (m : MA) : ME := fun ρ μ P => m ρ μ fun xs μ1 => S xs μ1 P
instance {S t m} [h : FA K t m] : FE K (tCallG K S t) (mCall S m) := ⟨fun d σ H ρ μ P Q w e q k => by
  refine h.run d σ H ρ μ _ _ w e q fun d1 H1 μ1 xs vs e1 w1 r1 q1 => ?_
  refine ⟨d1, μ1, xs, P, w1, r1, q1, fun v H2 ⟨d2, x, μ2, e2, w2, r2, q2⟩ => k d2 H2 μ2 x v (e1.trans e2) w2 r2 q2⟩⟩
/-- a call with keywords alone -/
def mCallK (S : PSp) (ix : List Nat) (n : Nat) (m : MA) : ME := fun ρ μ P => m ρ μ fun xs μ1 => xs.length = n ∧ S (perm ix xs) μ1 P
instance {S ix t m} {n : Nat} [h : FA K t m] : FE K (tCallKG K S ix (fun _ H Q => Q [] H) (fun σ H Q => t σ H fun zs H1 => zs.length = n ∧ Q zs H1)) (mCallK S ix n m) := ⟨fun d σ H ρ μ P Q w e q k => by
  refine h.run d σ H ρ μ _ _ w e q fun d1 H1 μ1 xs vs e1 w1 r1 q1 => ?_
  refine ⟨by rw [← r1.length]; exact q1.1, d1, μ1, perm ix xs, P, w1, by simpa using perm_rvs r1 ix, q1.2, fun v H2 ⟨d2, x, μ2, e2, w2, r2, q2⟩ => k d2 H2 μ2 x v (e1.trans e2) w2 r2 q2⟩⟩
end

/-! ### what a def leaves behind -/
mutual
def noRef : PV → Bool
  | .mr _ => false
  | .tup xs => noRefs xs
  | .lst xs => noRefs xs
  | .kl xs => noRefs xs
  | _ => true
def noRefs : List PV → Bool
  | [] => true
  | x :: xs => noRef x && noRefs xs
end
/-- the value and the store as the caller sees them -/
inductive Gc (μ0 : Store) (x : PV) (μ : Store) : PV → Store → Prop
  | keep : Gc μ0 x μ x μ
  | drop (g : Store) : μ = μ0 ++ g → noRef x = true → Gc μ0 x μ x μ0
  | froz (n : Nat) (g : Store) (xs : List PV) : x = .mr n → μ = μ0 ++ g → μ[n]? = some (.lst xs) → μ0.length ≤ n → noRefs xs = true → Gc μ0 x μ (.lst xs) μ0
  | newl (n : Nat) (g : Store) (xs : List PV) : x = .mr n → μ = μ0 ++ g → μ[n]? = some (.lst xs) → μ0.length ≤ n → noRefs xs = true → Gc μ0 x μ (.mr μ0.length) (μ0 ++ [.lst xs])
  | newd (n : Nat) (g : Store) (kvs : List (Key × PV)) : x = .mr n → μ = μ0 ++ g → μ[n]? = some (.dk kvs) → μ0.length ≤ n → noRefs (kvs.map (·.2)) = true → Gc μ0 x μ (.mr μ0.length) (μ0 ++ [.dk kvs])
  | froz2 (n : Nat) (g : Store) (ks : List Nat) (yss : List (List PV)) : x = .mr n → μ = μ0 ++ g → μ[n]? = some (.lst (ks.map .mr)) → μ0.length ≤ n → ks.length = yss.length →
      (∀ (i k : Nat) (ys : List PV), ks[i]? = some k → yss[i]? = some ys → μ[k]? = some (.lst ys) ∧ μ0.length ≤ k ∧ noRefs ys = true) → Gc μ0 x μ (.lst (yss.map .lst)) μ0
section
variable {K : PySem.W.Frag} {d d' : Wd} {H H' : Hp} {μ0 μ : Store}
mutual
theorem RV.fewer {am : List Addr} (ha : ∀ b ∈ am, b ∈ d.am) : ∀ {x : PV} {v : V}, RV K d H x v → noRef x = true → RV K ⟨am, d.ban⟩ H x v
  | _, _, .non, _ => .non
  | _, _, .bl b, _ => .bl b
  | _, _, .int i, _ => .int i
  | _, _, .str x, _ => .str x
  | _, _, .ty n, _ => .ty n
  | _, _, .tup h r, z => .tup (h.imp (fun q => ⟨q.1, fun m => q.2 (ha _ m)⟩) id) (RVs.fewer ha r z)
  | _, _, .lst h r, z => .lst ⟨h.1, fun m => h.2.1 (ha _ m), h.2.2⟩ (RVs.fewer ha r z)
  | _, _, .kl h r, z => .kl (h.imp (fun q => ⟨q.1, fun m => q.2.1 (ha _ m), q.2.2⟩) id) (RVs.fewer ha r z)
  | _, _, .mr h, z => by cases z
theorem RVs.fewer {am : List Addr} (ha : ∀ b ∈ am, b ∈ d.am) : ∀ {xs : List PV} {vs : List V}, RVs K d H xs vs → noRefs xs = true → RVs K ⟨am, d.ban⟩ H xs vs
  | _, _, .nil, _ => .nil
  | _, _, .cons r t, z => by
    simp only [noRefs, Bool.and_eq_true] at z
    exact .cons (RV.fewer ha r z.1) (RVs.fewer ha t z.2)
end
mutual
/-- a value that stood in the old store, seen in the new heap -/
theorem RV.back {am am2 bn : List Addr} {H0 : Hp} (hs : ∀ b ∈ am2, b ∈ d'.am) (hp : ∀ (n : Nat) b, am[n]? = some b → am2[n]? = some b ∧ d'.am[n]? = some b) : ∀ {x : PV} {v u : V}, RV K ⟨am, bn⟩ H0 x v → RV K d' H' x u → RV K ⟨am2, d'.ban⟩ H' x u
  | _, _, _, .non, .non => .non
  | _, _, _, .bl b, .bl _ => .bl b
  | _, _, _, .int i, .int _ => .int i
  | _, _, _, .str x, .str _ => .str x
  | _, _, _, .ty n, .ty _ => .ty n
  | _, _, _, .tup _ r, .tup h' r' => .tup (h'.imp (fun q => ⟨q.1, fun m => q.2 (hs _ m)⟩) id) (RVs.back hs hp r r')
  | _, _, _, .lst _ r, .lst h r' => .lst ⟨h.1, fun m => h.2.1 (hs _ m), h.2.2⟩ (RVs.back hs hp r r')
  | _, _, _, .kl _ r, .kl h' r' => .kl (h'.imp (fun q => ⟨q.1, fun m => q.2.1 (hs _ m), q.2.2⟩) id) (RVs.back hs hp r r')
  | _, _, _, .mr h, .mr h' => .mr (by
      obtain ⟨h1, h2⟩ := hp _ _ h
      rw [h2] at h'; cases h'
      exact h1)
theorem RVs.back {am am2 bn : List Addr} {H0 : Hp} (hs : ∀ b ∈ am2, b ∈ d'.am) (hp : ∀ (n : Nat) b, am[n]? = some b → am2[n]? = some b ∧ d'.am[n]? = some b) : ∀ {xs : List PV} {vs us : List V}, RVs K ⟨am, bn⟩ H0 xs vs → RVs K d' H' xs us → RVs K ⟨am2, d'.ban⟩ H' xs us
  | _, _, _, .nil, .nil => .nil
  | _, _, _, .cons r t, .cons r' t' => .cons (RV.back hs hp r r') (RVs.back hs hp t t')
end
theorem MOK.back {am am2 bn : List Addr} {H0 : Hp} {a : Addr} (hs : ∀ b ∈ am2, b ∈ d'.am) (hp : ∀ (n : Nat) b, am[n]? = some b → am2[n]? = some b ∧ d'.am[n]? = some b) {m : MO} (m0 : MOK K ⟨am, bn⟩ H0 a m) (m1 : MOK K d' H' a m) : MOK K ⟨am2, d'.ban⟩ H' a m := by
  cases m with
  | lst xs =>
    obtain ⟨vs, q, r⟩ := m0
    obtain ⟨us, q', r'⟩ := m1
    exact ⟨us, q', RVs.back hs hp r r'⟩
  | dk kvs =>
    obtain ⟨vs, q, r1, r⟩ := m0
    obtain ⟨us, q', r1', r'⟩ := m1
    exact ⟨us, q', r1', RVs.back hs hp r r'⟩
  | fd o ws kvs =>
    obtain ⟨q, r1, r⟩ := m0
    obtain ⟨q', r1', r'⟩ := m1
    exact ⟨q', r1', RVs.back hs hp r r'⟩
theorem WOk.back {g : Store} (e : Ext d H d' H') (w0 : WOk K d H μ0) (w : WOk K d' H' (μ0 ++ g)) : Ext d H d H' ∧ WOk K d H' μ0 := by
  obtain ⟨am, bn⟩ := d
  have hb := e.ban
  simp only at hb
  refine ⟨⟨⟨[], by simp, fun p hp => by simp at hp⟩, rfl, e.keep⟩, w0.len, w0.nd, fun i a m h1 h2 => ?_, fun b hb' => ?_⟩
  · have hi : i < μ0.length := (List.getElem?_eq_some_iff.mp h2).1
    have h3 : (μ0 ++ g)[i]? = some m := by rw [List.getElem?_append_left hi]; exact h2
    have := MOK.back (am2 := am) (fun b hb => e.mem hb) (fun n b q => ⟨q, e.at q⟩) (w0.ob i a m h1 h2) (w.ob i a m (e.at h1) h3)
    rw [hb] at this
    exact this
  · obtain ⟨q1, q2⟩ := w.ban b (by rw [hb]; exact hb')
    exact ⟨q1, fun z => q2 (e.mem z)⟩
theorem Gc.ok {x y : PV} {μ' : Store} {v : V} (h : Gc μ0 x μ y μ') (e : Ext d H d' H') (w0 : WOk K d H μ0) (w : WOk K d' H' μ) (r : RV K d' H' x v) : ∃ d2, Ext d H d2 H' ∧ WOk K d2 H' μ' ∧ RV K d2 H' y v := by
  obtain ⟨ex, ha, hf⟩ := e.am
  have eb : (⟨d.am, d'.ban⟩ : Wd) = d := by rw [e.ban]
  have later : ∀ {n : Nat} {a : Addr}, d'.am[n]? = some a → μ0.length ≤ n → a ∉ d.am := fun {n a} h1 hm z => by
    obtain ⟨j, hj, ej⟩ := List.getElem_of_mem z
    have h2 : d'.am[j]? = some a := e.at (by rw [List.getElem?_eq_getElem hj, ej])
    obtain ⟨l1, z1⟩ := List.getElem?_eq_some_iff.mp h1
    obtain ⟨l2, z2⟩ := List.getElem?_eq_some_iff.mp h2
    have := (List.getElem_inj w.nd).mp (z1.trans z2.symm)
    have h4 := w0.len
    omega
  cases h with
  | keep => exact ⟨d', e, w, r⟩
  | drop g hg hn =>
    subst hg
    obtain ⟨e1, w1⟩ := WOk.back e w0 w
    have := RV.fewer (am := d.am) (fun b hb => e.mem hb) r hn
    rw [eb] at this
    exact ⟨d, e1, w1, this⟩
  | froz n g xs hx hg hm hn hr =>
    subst hg; subst hx
    obtain ⟨e1, w1⟩ := WOk.back e w0 w
    cases r with
    | @mr _ a h1 =>
      obtain ⟨vs, q, rv⟩ := w.obj h1 hm
      have := RVs.fewer (am := d.am) (fun b hb => e.mem hb) rv hr
      rw [eb] at this
      exact ⟨d, e1, w1, .lst ⟨q, later h1 hn, fun z => (w.ban a (by rw [e.ban]; exact z)).2 (List.mem_of_getElem? h1)⟩ this⟩
  | newl n g xs hx hg hm hn hr =>
    subst hg; subst hx
    obtain ⟨e1, w1⟩ := WOk.back e w0 w
    cases r with
    | @mr _ a h1 =>
      obtain ⟨vs, q, rv⟩ := w.obj h1 hm
      have hna : a ∉ d.am := later h1 hn
      have hae : a ∈ ex := by
        have := List.mem_of_getElem? h1
        rw [ha] at this
        exact (List.mem_append.mp this).resolve_left hna
      have hHa := (hf a hae).1
      have sub : ∀ b, b ∈ d.am ++ [a] → b ∈ d'.am := fun b hb => by
        rcases List.mem_append.mp hb with z | z
        · exact e.mem z
        · rw [List.mem_singleton.mp z]; exact List.mem_of_getElem? h1
      have rs : RVs K ⟨d.am ++ [a], d.ban⟩ H' xs vs := by
        have := RVs.fewer (am := d.am ++ [a]) sub rv hr
        rw [e.ban] at this
        exact this
      refine ⟨⟨d.am ++ [a], d.ban⟩, ⟨⟨[a], rfl, fun p hp => by
        have e := List.mem_singleton.mp hp
        subst e; exact ⟨hHa, hna⟩⟩, rfl, e1.keep⟩, ⟨by simp [w0.len], ?_, fun i b m h2 h3 => ?_, fun b hb' => ?_⟩, .mr ?_⟩
      · show (d.am ++ [a]).Nodup
        rw [List.nodup_append]
        exact ⟨w0.nd, by simp, fun x hx y hy => by
          have := List.mem_singleton.mp hy
          subst this; rintro rfl; exact hna hx⟩
      · replace h2 : (d.am ++ [a])[i]? = some b := h2
        by_cases hi : i < d.am.length
        · rw [List.getElem?_append_left hi] at h2
          have hi' : i < μ0.length := by rw [← w0.len]; exact hi
          rw [List.getElem?_append_left hi'] at h3
          have h4 : (μ0 ++ g)[i]? = some m := by rw [List.getElem?_append_left hi']; exact h3
          have := MOK.back (am := d.am) (bn := d.ban) (am2 := d.am ++ [a]) sub (fun n b q => ⟨by rw [List.getElem?_append_left (List.getElem?_eq_some_iff.mp q).1]; exact q, e.at q⟩) (w0.ob i b m h2 h3) (w.ob i b m (e.at h2) h4)
          rw [e.ban] at this
          exact this
        · have hi2 : i = d.am.length := by
            have := (List.getElem?_eq_some_iff.mp h2).1
            simp at this; omega
          subst hi2
          rw [List.getElem?_append_right (Nat.le_refl _)] at h2
          rw [w0.len, List.getElem?_append_right (Nat.le_refl _)] at h3
          simp at h2 h3
          subst h2; subst h3
          exact ⟨vs, q, rs⟩
      · obtain ⟨q1, q2⟩ := w.ban b (by rw [e.ban]; exact hb')
        exact ⟨q1, fun z => q2 (sub b z)⟩
      · show (d.am ++ [a])[μ0.length]? = some a
        rw [← w0.len, List.getElem?_append_right (Nat.le_refl _)]
        simp
  | newd n g kvs hx hg hm hn hr =>
    subst hg; subst hx
    obtain ⟨e1, w1⟩ := WOk.back e w0 w
    cases r with
    | @mr _ a h1 =>
      obtain ⟨vs, q, rk, rv⟩ := w.obj h1 hm
      have hna : a ∉ d.am := later h1 hn
      have hae : a ∈ ex := by
        have := List.mem_of_getElem? h1
        rw [ha] at this
        exact (List.mem_append.mp this).resolve_left hna
      have hHa := (hf a hae).1
      have sub : ∀ b, b ∈ d.am ++ [a] → b ∈ d'.am := fun b hb => by
        rcases List.mem_append.mp hb with z | z
        · exact e.mem z
        · rw [List.mem_singleton.mp z]; exact List.mem_of_getElem? h1
      have rs : RVs K ⟨d.am ++ [a], d.ban⟩ H' (kvs.map (·.2)) (vs.map (·.2)) := by
        have := RVs.fewer (am := d.am ++ [a]) sub rv hr
        rw [e.ban] at this
        exact this
      refine ⟨⟨d.am ++ [a], d.ban⟩, ⟨⟨[a], rfl, fun p hp => by
        have e := List.mem_singleton.mp hp
        subst e; exact ⟨hHa, hna⟩⟩, rfl, e1.keep⟩, ⟨by simp [w0.len], ?_, fun i b m h2 h3 => ?_, fun b hb' => ?_⟩, .mr ?_⟩
      · show (d.am ++ [a]).Nodup
        rw [List.nodup_append]
        exact ⟨w0.nd, by simp, fun x hx y hy => by
          have := List.mem_singleton.mp hy
          subst this; rintro rfl; exact hna hx⟩
      · replace h2 : (d.am ++ [a])[i]? = some b := h2
        by_cases hi : i < d.am.length
        · rw [List.getElem?_append_left hi] at h2
          have hi' : i < μ0.length := by rw [← w0.len]; exact hi
          rw [List.getElem?_append_left hi'] at h3
          have h4 : (μ0 ++ g)[i]? = some m := by rw [List.getElem?_append_left hi']; exact h3
          have := MOK.back (am := d.am) (bn := d.ban) (am2 := d.am ++ [a]) sub (fun n b q => ⟨by rw [List.getElem?_append_left (List.getElem?_eq_some_iff.mp q).1]; exact q, e.at q⟩) (w0.ob i b m h2 h3) (w.ob i b m (e.at h2) h4)
          rw [e.ban] at this
          exact this
        · have hi2 : i = d.am.length := by
            have := (List.getElem?_eq_some_iff.mp h2).1
            simp at this; omega
          subst hi2
          rw [List.getElem?_append_right (Nat.le_refl _)] at h2
          rw [w0.len, List.getElem?_append_right (Nat.le_refl _)] at h3
          simp at h2 h3
          subst h2; subst h3
          exact ⟨vs, q, rk, rs⟩
      · obtain ⟨q1, q2⟩ := w.ban b (by rw [e.ban]; exact hb')
        exact ⟨q1, fun z => q2 (sub b z)⟩
      · show (d.am ++ [a])[μ0.length]? = some a
        rw [← w0.len, List.getElem?_append_right (Nat.le_refl _)]
        simp
  | froz2 n g ks yss hx hg hm hn hl hk =>
    subst hg; subst hx
    obtain ⟨e1, w1⟩ := WOk.back e w0 w
    cases r with
    | @mr _ a h1 =>
      obtain ⟨vs, q, rv⟩ := w.obj h1 hm
      have nb : ∀ {n : Nat} {a : Addr}, d'.am[n]? = some a → a ∉ d.ban := fun {n a} h z => (w.ban a (by rw [e.ban]; exact z)).2 (List.mem_of_getElem? h)
      have go : ∀ (ks : List Nat) (yss : List (List PV)) (vs : List V), ks.length = yss.length → (∀ (i k : Nat) (ys : List PV), ks[i]? = some k → yss[i]? = some ys → (μ0 ++ g)[k]? = some (.lst ys) ∧ μ0.length ≤ k ∧ noRefs ys = true) →
          RVs K d' H' (ks.map .mr) vs → RVs K d H' (yss.map .lst) vs := by
        intro ks
        induction ks with
        | nil =>
          intro yss vs hl hk rv
          cases yss with
          | nil => cases rv; exact .nil
          | cons y r => simp at hl
        | cons k ks ih =>
          intro yss vs hl hk rv
          cases yss with
          | nil => simp at hl
          | cons ys yss =>
            cases rv with
            | cons r1 rv =>
              refine .cons ?_ (ih yss _ (by simpa using hl) (fun i k ys h2 h3 => hk (i + 1) k ys (by simpa using h2) (by simpa using h3)) rv)
              cases r1 with
              | @mr _ b h2 =>
                obtain ⟨z1, z2, z3⟩ := hk 0 k ys rfl rfl
                obtain ⟨us, q2, ru⟩ := w.obj h2 z1
                have := RVs.fewer (am := d.am) (fun b hb => e.mem hb) ru z3
                rw [eb] at this
                exact .lst ⟨q2, later h2 z2, nb h2⟩ this
      exact ⟨d, e1, w1, .lst ⟨q, later h1 hn, nb h1⟩ (go ks yss vs hl hk rv)⟩
end

/-! ### a def by its body -/
def startP (N : List Str) (xs : List PV) : PEnv := xs.map some ++ List.replicate (N.length - xs.length) none
theorem start_env {K : PySem.W.Frag} {d : Wd} {H : Hp} {N : List Str} {xs : List PV} {vs : List V} (r : RVs K d H xs vs) : REnv K d H (startP N xs) (L2.start N vs) := by
  unfold startP L2.start
  refine ⟨by simp [r.length], fun i x h => ?_⟩
  by_cases hi : i < xs.length
  · rw [List.getElem?_append_left (by simpa using hi), List.getElem?_map] at h
    rw [List.getElem?_append_left (by simpa [← r.length] using hi), List.getElem?_map]
    cases e : xs[i]? with
    | none => rw [e] at h; cases h
    | some y =>
      rw [e] at h; simp at h; subst h
      obtain ⟨v, e2, rv⟩ := r.get e
      exact ⟨v, by rw [e2]; rfl, rv⟩
  · rw [List.getElem?_append_right (by simpa using hi), List.getElem?_replicate] at h
    split at h <;> cases h
/-- what is wanted at a body's end -/
def mEnd (μ0 : Store) (Q : PV → Store → Prop) : MEnds := { nx := fun _ μ => ∃ y μ', Gc μ0 .non μ y μ' ∧ Q y μ', rt := fun x μ => ∃ y μ', Gc μ0 x μ y μ' ∧ Q y μ' }
theorem FnG.of {P : Program} {w : World} {K : PySem.W.Frag} {mg : Str → Option Value} {base : Heap} {x qual : Str} {st : Stmt} {f : Addr} {fd : FuncData} {N ps : List Str} {k : Nat} {S : PSp} (F : Fun K x qual st f fd) (sc : FnScope N ps (defScope st))
    (len : ∀ xs μ Q, S xs μ Q → xs.length = ps.length)
    (hbody : ∀ (cdv : Value) (A : Around) (outer : List Env) (s : Shared) (H : Hp), Room k (A.deeper (envOfC qual (defScope st) s.heap.objs.size f cdv)) → A.guards = some [] →
      ∃ t m, PSs (cxOf CX0 P w K mg base N qual (defScope st) f cdv A outer s H E0).nox (defBody st) t ∧ FS K t m ∧ ∀ xs μ Q, S xs μ Q → m (mEnd μ Q) (startP N xs) μ) : FnG P w K mg base (k + 1) f fd ps S := by
  obtain ⟨oc, od, kV, doc, pm, an, cdv, ct, osl, rfl, lk, hcd⟩ := F.ex
  refine ⟨len, fun A outer s H args us vs xs d μ Q hr hgd e0 hb hv wk rx hS => ?_⟩
  have hl : vs.length = ps.length := by rw [← rx.length]; exact len _ _ _ hS
  have kp := fun b o e => (e0.bs b o e).1
  have KX : K.In s.heap := e0.mod.kin.keeps kp
  refine codeAny_call_function hr.depth (KX _ _ lk) rfl sc.co sc.gen rfl (PySem.W.codeRec_of KX hcd) (hb _ _ _ _ ?_)
  refine wpAny_newFunctionEnv_cells sc.kind (fun p hp => ?_) fun env he s1 en => ?_
  · obtain ⟨n, u⟩ := p
    exact (sc.par n (List.of_mem_zip hp).1).imp id fun q => ⟨q, PySem.W.cellsFrom_some _ _ _ (.inl q)⟩
  subst he
  obtain ⟨t, m, hP, hF, hM⟩ := hbody cdv A outer s H (hr.deeper _) hgd
  have I := (inv_start (CX := CX0) (qual := qual) (f := f) (cd := cdv) (A := A) (outer := outer) (E := E0) sc hr.hd e0 hl hv en).wish (fun _ _ => False)
  have reading := hF.run d (L2.start N vs) H (startP N xs) μ (mEnd μ Q) { nx := fun _ H' => QvOf K d H Q .non H', rt := QvOf K d H Q } wk (start_env rx) (hM xs μ Q hS)
    ⟨fun d' σ' H' ρ' μ' e' w' _ ⟨y, μ2, g, q⟩ => by
        obtain ⟨d2, a1, a2, a3⟩ := g.ok e' wk w' .non
        exact ⟨d2, y, μ2, a1, a2, a3, q⟩,
     fun d' H' μ' z v e' w' r ⟨y, μ2, g, q⟩ => by
        obtain ⟨d2, a1, a2, a3⟩ := g.ok e' wk w' r
        exact ⟨d2, y, μ2, a1, a2, a3, q⟩,
     fun _ _ _ _ _ _ _ _ q => q.elim, fun _ _ _ _ _ _ _ _ q => q.elim⟩
  refine ⟨e0.mod.nolimit.keeps (fun b o z => en.toInCall.keep b o (kp b o z)), codeAny_func (wpAny_mono (hP.run [] s1 (L2.start N vs) H _ I reading) (fun fl s' hs => ?_) fun _ _ z => z.elim)⟩
  match fl, hs with
  | .ret u, ⟨v, σ', H', J, rv, q⟩ => exact ⟨v, H', J.os, J.bare, J.base, J.hok, rv, q⟩
  | .next, ⟨σ', H', J, q⟩ => exact ⟨.non, H', J.os, J.bare, J.base, J.hok, rfl, q⟩
  | .brk, ⟨_, _, _, q⟩ => exact q.elim
  | .cont, ⟨_, _, _, q⟩ => exact q.elim
end Fx

/-! Fx9: the end of a law, from its def's promise. -/
namespace Fx
open PySem PySem.Spec PyProof.Rows L2 RZ

theorem law_go {P : Program} {w : World} {K : PySem.W.Frag} {mg mb : Str → Option Value} {k : Nat} {fa a : Addr} {fd : FuncData} {x : Str} {S : PSp} {s₁ : Shared} {us : List Value} {ns : List Int}
    (hK : K.In s₁.heap) (gl : s₁.heap.Ns mainGlobals mg) (bl : s₁.heap.Ns builtinsNs mb) (bb : ∀ y : Str, y ≠ "__name__" → mb y = bootBuiltins y) (nl : s₁.heap.NoLimit) (gn : s₁.gens = #[])
    (ob : s₁.heap.get? a = some { cls := .type "list", data := .seq us.toArray }) (is : IntsAre us ns) (sz : ns.length ≤ sizeLine) (room : Room k callerA)
    (F : ∀ base : Heap, K.In base → base.Ns mainGlobals mg → FnG P w K mg base k fa fd [x] S) (bind : ∀ (s : Shared) (u : Value), BindsTo s fd ⟨[u], []⟩ [(x, u)])
    (hS : S [.kl (ns.map PV.int)] [] (fun v _ => v = .bl true)) :
    codeAny (model P w) callerA (.call (.ref fa) ⟨[.ref a], []⟩) (fun r s' => r = .ok (.ret (.bool true)) ∧ OldK s₁.heap s'.heap ∧ s'.os = s₁.os ∧ AllBare s'.gens) s₁ := by
  have vals := vals_ints is
  have lens := is.length
  suffices core : ∀ H : Hp, Only H → SqL K H a (ns.map V.int) → HOk P w H s₁.heap → (∀ b, H b ≠ none → b = a ∧ K.lookup a = none) →
      codeAny (model P w) callerA (.call (.ref fa) ⟨[.ref a], []⟩) (fun r s' => r = .ok (.ret (.bool true)) ∧ OldK s₁.heap s'.heap ∧ s'.os = s₁.os ∧ AllBare s'.gens) s₁ by
    cases hk : K.lookup a with
    | some o =>
      have e := hK a o hk
      rw [ob] at e
      cases e
      exact core hp0 (fun _ => .inl rfl) (.inr ⟨_, us.toArray, _, hk, rfl, rfl, rfl, by rw [List.size_toArray, lens]; exact sz, by simpa using vals⟩) (fun b u z => by cases z) fun b z => absurd rfl z
    | none =>
      have there : HOk P w (upd hp0 a (.frz { cls := .type "list", data := .seq us.toArray } (.lst (ns.map V.int)))) s₁.heap := fun b u z => by
        by_cases hb : b = a
        · subst hb
          rw [upd_same] at z; cases z
          exact ⟨ob, by rw [List.length_map]; exact sz, us, _, vals, ob⟩
        · rw [upd_ne hb] at z; cases z
      refine core _ (fun b => ?_) (.inl (.inr ⟨_, upd_same⟩)) there fun b z => ?_
      · by_cases hb : b = a
        · subst hb; exact .inr ⟨_, _, upd_same⟩
        · exact .inl (upd_ne hb)
      · by_cases hb : b = a
        · exact ⟨hb, hk⟩
        · exact absurd (upd_ne hb) z
  intro H only sq hok away
  have plainB : ∀ {b : Addr} {o : Obj}, s₁.heap.get? b = some o → H b = none → (hidT s₁.heap H).get? b = some o := fun e n => hidT_get e n
  have dictB : ∀ {b : Addr} {o : Obj} {es : Array DictEntry} {ep : Nat}, s₁.heap.get? b = some o → o.data = .dict es ep → H b = none := fun {b o es ep} e dd => by
    cases q : H b with
    | none => rfl
    | some u =>
      obtain ⟨z, _⟩ := away b (by rw [q]; simp)
      subst z
      rw [ob] at e; cases e
      exact nomatch (show Data.seq us.toArray _ = Data.dict es ep from dd)
  have nsB : ∀ {b : Addr} {m : Str → Option Value}, s₁.heap.Ns b m → (hidT s₁.heap H).Ns b m := fun ⟨o, es, ep, e, dd, r⟩ => ⟨o, es, ep, plainB e (dictB e dd), dd, r⟩
  have inB : K.In (hidT s₁.heap H) := fun b o e => plainB (hK b o e) (by
    cases q : H b with
    | none => rfl
    | some u =>
      obtain ⟨z, z2⟩ := away b (by rw [q]; simp)
      subst z
      rw [z2] at e; cases e)
  have md : Mod K mg (hidT s₁.heap H) := ⟨inB, nsB gl, ⟨mb, nsB bl, bb⟩, let ⟨mc, h1, h2⟩ := nl; ⟨mc, nsB h1, h2⟩⟩
  have none_in : ∀ b, b ∉ frs ([] : List Env) := fun b z => by cases z
  have env : Env0 P w K mg (hidT s₁.heap H) callerA [] s₁ H := ⟨rfl, md, fun b o e => of_hidT e, Nat.le_of_eq (hidT_size _ _), trivial, fun b hb => absurd hb (none_in b), hok, .of_eq gn⟩
  have wk : WOk K ⟨[], []⟩ H [] := ⟨rfl, List.nodup_nil, fun i b m h _ => by simp at h, fun b hb => by cases hb⟩
  have kl : RV K ⟨[], []⟩ H (.kl (ns.map PV.int)) (.ref a) := by
    refine .kl ?_ (RVs.of_ints ns)
    rcases sq with sq | sq
    · exact .inl ⟨sq, (fun z => by cases z), (fun z => by cases z)⟩
    · exact .inr (.inr sq)
  refine codeAny_mono ((F _ inB (nsB gl)).run callerA [] s₁ H ⟨[.ref a], []⟩ [.ref a] [.ref a] [.kl (ns.map PV.int)] ⟨[], []⟩ [] _ room rfl env (bind s₁ (.ref a)) (.cons rfl .nil) wk (.cons kl .nil) hS) fun r s' h => ?_
  match r, h with
  | .ok (.ret u), ⟨v, H', os, bare, un, hok', rv, d', x, μ', _, _, rx, ex⟩ =>
    subst ex
    cases rx
    obtain rfl : u = Value.bool true := rv
    refine ⟨rfl, OldK.of_keep fun b o e => ?_, os, bare⟩
    rcases only b with z | ⟨ob', ys, z⟩
    · exact un.keep b o e z (none_in b) (by simp)
    · obtain ⟨e1, _⟩ := hok b _ z
      obtain ⟨e2, _⟩ := hok' b _ (un.frzs b ob' _ z)
      rw [e] at e1; cases e1
      exact e2
  | .ok .next, h => exact h.elim
  | .ok .brk, h => exact h.elim
  | .ok .cont, h => exact h.elim
  | .error _, h => exact h.elim

/-- the law's promise: its script is a list of numbers, its answer True -/
def lawS (n : Nat) : PSp := fun xs μ0 Q => μ0 = [] ∧ ∃ ns : List Int, xs = [.kl (ns.map PV.int)] ∧ ns.length ≤ n ∧ ∀ μ, Q (.bl true) μ
theorem walk_law {l : PySem.W.OpenLaw} {n k : Nat} {q : Program} {loose : List Str} {XP : (Str → Option Value) → Heap → Prop} {YP : World → Heap → Prop} {d : DefRec} {K : Params → PySem.W.Frag} {x : Str}
    (hn : l.most = some n) (small : n ≤ sizeLine) (nodef : d.params.defaults = []) (room : Room k callerA) (hY : ∀ (w : World) (h : Heap), YP w h → (K w.params).In h)
    (F : ∀ (w : World) (mg : Str → Option Value) (fa : Addr) (h : Heap), (K w.params).In h → h.Ns mainGlobals mg → mg d.name = some (.ref fa) →
      ∃ fd : FuncData, (∀ (s : Shared) (u : Value), BindsTo s fd ⟨[u], []⟩ [(x, u)]) ∧ ∀ base : Heap, (K w.params).In base → base.Ns mainGlobals mg → FnG l.prog w (K w.params) mg base k fa fd [x] (lawS n)) :
    PySem.W.WalkO q loose XP YP l.row.toRowW d [] (fun f vs => PySem.call f vs) := by
  refine Att.attach_call hn nodef fun w s₀ s₁ mg mb fa o pm cd doc a us ns G Y ho hd hcd hmg hobj hints hlen hg => ?_
  obtain ⟨fd, hb, hF⟩ := F w mg fa _ (hY w _ Y) G.T.g hmg
  exact law_go (hY w _ Y) G.T.g G.T.b G.T.builtins G.T.nolimit hg hobj hints (Nat.le_trans hlen small) room hF hb ⟨rfl, ns, rfl, hlen, fun _ => rfl⟩
end Fx

/-! Fx10: tuples times numbers, walks of numbered tuples, two loops in a comprehension; short words. -/
namespace Fx
open PySem PySem.Spec PyProof.Rows L2 RZ

/-! ### t * n -/
theorem tup_mul_one (l : Addr) (items : Array Value) (n : Nat) (dd : Option Addr) (sl : Array (Option Value)) (u : Tok) :
    Meets (Builtin.«tuple.__mul__» ⟨[.ref l, .int 1 u], []⟩) (fun _ R s => s.heap.get? l = some { cls := .type "tuple", dict := dd, data := .seq items n, slots := sl } ∧ R (.ok (.ret (Value.ref l))) s) :=
  .of_wp fun prog w A R s h => by
    obtain ⟨hp, g, d, tk, os⟩ := s
    obtain ⟨hl, h⟩ := h
    have ix := AutoSeq1.idx_int
    wp_walk using wpAny_loadPart' hl
    repeat (first
      | (refine wpAny_ite_false (by decide) ?_; wp_walk using wpAny_loadPart' hl)
      | (refine wpAny_ite_true (by simp) ?_; wp_walk using wpAny_loadPart' hl))
    exact ⟨_, rfl, h⟩
theorem tup_mul_none (l : Addr) (items : Array Value) (n : Nat) (dd : Option Addr) (sl : Array (Option Value)) (x : Int) (u : Tok) (h0 : (decide (x < -(2 ^ 63)) || decide (x ≥ 2 ^ 63)) = false) (h1 : (items.isEmpty || x == 1) = false) (h2 : (decide (x ≤ 0) || items.isEmpty) = true) :
    Meets (Builtin.«tuple.__mul__» ⟨[.ref l, .int x u], []⟩) (fun _ R s => s.heap.get? l = some { cls := .type "tuple", dict := dd, data := .seq items n, slots := sl } ∧
      R (.ok (.ret (Value.ref s.heap.objs.size))) { s with heap := s.heap.push { cls := Value.type "tuple", data := Data.seq #[] }, toks := s.toks }) :=
  .of_wp fun prog w A R s h => by
    obtain ⟨hp, g, d, tk, os⟩ := s
    obtain ⟨hl, h⟩ := h
    have ix := AutoSeq1.idx_int
    wp_walk using wpAny_loadPart' hl
    repeat (first
      | (refine wpAny_ite_false (decide_eq_false (by rw [h0]; exact Bool.false_ne_true)) ?_; wp_walk using wpAny_loadPart' hl)
      | (refine wpAny_ite_false (decide_eq_false (by rw [h1]; exact Bool.false_ne_true)) ?_; wp_walk using wpAny_loadPart' hl)
      | (refine wpAny_ite_true (decide_eq_true h2) ?_; wp_walk using wpAny_loadPart' hl))
    exact ⟨_, rfl, h⟩
/-- t * k of a tuple that is not () -/
def rRepX (K : PySem.W.Frag) : R2 := fun x y H Q => ∃ l k xs, x = .ref l ∧ y = .int k ∧ SqT K H l xs ∧ xs ≠ [] ∧ -1000 ≤ k ∧ k ≤ 1000 ∧ xs.length ≤ 1000 ∧ (k = 1 → Q (.ref l) H) ∧ (k ≠ 1 → ∀ p, H p = none → Q (.ref p) (upd H p (.tup (List.replicate k.toNat xs).flatten)))
theorem op_repX {X : Cx} : OpR X (binaryOp .Mult) (rRepX X.K) := by
  intro pins s σ H x y v u Q I rx ry h
  obtain ⟨l, k, xs, rfl, rfl, hT, hne, hk0, hk1, hz, q1, q⟩ := h
  by_cases h2 : 2 ≤ k
  · exact op_repT pins s σ H _ _ v u Q I rx ry ⟨l, k, xs, rfl, rfl, hT, hne, h2, hk1, hz, q (by omega)⟩
  cases rx
  obtain ⟨t, rfl⟩ := ry
  obtain ⟨its, r, ⟨⟨cls, dd, data, sl⟩, ho, hc, n, hd⟩, hs⟩ := I.tuple hT
  simp only at hc hd
  subst hc hd
  have hn : its ≠ [] := fun e => hne (by
    have := r.length
    rw [e] at this
    exact List.eq_nil_of_length_eq_zero this)
  have hi : its.toArray.isEmpty = false := by
    cases its with
    | nil => exact absurd rfl hn
    | cons a b => rfl
  by_cases h1 : k = 1
  · subst h1
    refine wpAny_binaryOp_repeat_ref (T := "tuple") (U := "int") (by decide) ⟨_, ho, rfl⟩ (fun s' => typeIs_int s' 1 t) noFill_tuple_mul F.fills_int_mul F.slot_int_rmul repeat_tuple F.slot_int_index.lookup
      (call_meets F.slot_int_rmul (typeIs_int s 1 t) F.entry_int_rmul (F.args_int_rmul_2 _ _) (int_rmul_tuple 1 t l its.toArray n dd sl)
        ⟨ho, rfl, ⟨_, ho, rfl⟩, call_meets F.slot_tuple_mul ⟨_, ho, rfl⟩ F.entry_tuple_mul (F.args_tuple_mul_2 _ _) (tup_mul_one l its.toArray n dd sl t) ⟨ho, ?_⟩⟩)
    exact ⟨.ref l, H, I, rfl, q1 rfl⟩
  · have c0 : (decide (k < -(2 ^ 63)) || decide (k ≥ 2 ^ 63)) = false := by
      rw [decide_eq_false (by omega), decide_eq_false (by omega)] <;> rfl
    have c1 : (its.toArray.isEmpty || k == 1) = false := by
      rw [hi, Bool.false_or]
      exact beq_eq_false_iff_ne.mpr h1
    have c2 : (decide (k ≤ 0) || its.toArray.isEmpty) = true := by
      rw [decide_eq_true (by omega)]; rfl
    refine wpAny_binaryOp_repeat_ref (T := "tuple") (U := "int") (by decide) ⟨_, ho, rfl⟩ (fun s' => typeIs_int s' k t) noFill_tuple_mul F.fills_int_mul F.slot_int_rmul repeat_tuple F.slot_int_index.lookup
      (call_meets F.slot_int_rmul (typeIs_int s k t) F.entry_int_rmul (F.args_int_rmul_2 _ _) (int_rmul_tuple k t l its.toArray n dd sl)
        ⟨ho, rfl, ⟨_, ho, rfl⟩, call_meets F.slot_tuple_mul ⟨_, ho, rfl⟩ F.entry_tuple_mul (F.args_tuple_mul_2 _ _) (tup_mul_none l its.toArray n dd sl k t c0 c1 c2) ⟨ho, ?_⟩⟩)
    have e0 : (List.replicate k.toNat xs).flatten = [] := by
      have : k.toNat = 0 := by omega
      rw [this]; rfl
    have q' := q h1 _ (I.hok.fresh (Nat.le_refl s.heap.objs.size))
    rw [e0] at q'
    refine ⟨.ref s.heap.objs.size, _, I.laid (t' := s.toks) (o := .tup []) (fun b ob q => Heap.get?_push_of_some _ q) (Nat.le_refl _) ?_, rfl, q'⟩
    exact ⟨Nat.zero_le _, [], .nil, IsTup.new _ _⟩
def rTimes (K : PySem.W.Frag) : R2 := fun x y H Q => rI MulOk (fun i j => .int (i * j)) x y H Q ∨ rRepX K x y H Q
theorem op_times {X : Cx} : OpR X (binaryOp .Mult) (rTimes X.K) := OpR.or op_mulX op_repX
def pTimes : MO2 := fun x y μ P => match x, y with
  | .int i, .int j => MulOk i j ∧ P (.int (i * j)) μ
  | .tup xs, .int k => (xs ≠ [] ∧ -1000 ≤ k ∧ k ≤ 1000 ∧ xs.length ≤ 1000) ∧ P (.tup (List.replicate k.toNat xs).flatten) μ
  | _, _ => False
section
variable {K : PySem.W.Frag} {d d' : Wd} {H H' : Hp} {a b : Addr} {vs us : List V} {xs ys : List PV} {μ : Store}
theorem RVs.rep (r : RVs K d H xs vs) : ∀ n : Nat, RVs K d H (List.replicate n xs).flatten (List.replicate n vs).flatten
  | 0 => .nil
  | n + 1 => by
    rw [List.replicate_succ, List.replicate_succ, List.flatten_cons, List.flatten_cons]
    exact r.append (RVs.rep r n)
instance : F2 K (rTimes K) pTimes := ⟨fun d H μ x y v u P Q w r1 r2 q k => by
  match x, y, r1, r2, q with
  | .int i, .int j, .int _, .int _, ⟨c, q⟩ => exact .inl ⟨i, j, rfl, rfl, c, k d H μ _ _ .refl w (.int _) q⟩
  | .tup xs, .int n, .tup (a := a) (vs := vs) h1 h2, .int _, ⟨⟨z1, z2, z3, z4⟩, q⟩ =>
    refine .inr ⟨a, n, vs, rfl, rfl, h1.sq, ?_, z2, z3, by rw [← h2.length]; exact z4, fun e => ?_, fun e p hp => ?_⟩
    · rintro rfl
      cases h2
      exact z1 rfl
    · subst e
      exact k d H μ _ _ .refl w (.tup h1 h2) (by simpa using q)
    · exact k d _ μ _ _ (Ext.lay w hp) (w.lay hp) (lay_tup w (h2.rep n.toNat) hp) q⟩
/-! ### % -/
theorem op_modX {X : Cx} : OpR X (binaryOp .Mod) (rI (fun _ j => j ≠ 0) fun i j => .int (i.fmod j)) := op_modN
/-! ### min of a list -/
theorem fold_min : ∀ (ns : List Int) (a : Int), (ns.foldl (fun a y => if y < a then y else a) a ≤ a) ∧ (∀ y ∈ ns, ns.foldl (fun a y => if y < a then y else a) a ≤ y)
  | [], a => by simp
  | n :: ns, a => by
    rw [List.foldl_cons]
    obtain ⟨h1, h2⟩ := fold_min ns (if n < a then n else a)
    refine ⟨?_, fun y hy => ?_⟩
    · by_cases h : n < a
      · rw [if_pos h] at h1 ⊢; omega
      · rw [if_neg h] at h1 ⊢; exact h1
    · rcases List.mem_cons.mp hy with rfl | hy
      · by_cases h : y < a
        · rw [if_pos h] at h1 ⊢; exact h1
        · rw [if_neg h] at h1 ⊢; omega
      · exact h2 y hy
/-! ### short words -/
theorem psM {X : Cx} {st : Stmt} {wi : TI} {g : TG} {tt : TT} {te : TE} {vs : List Nat} {g' : TG} (h : PS X st (tAsg (tLc wi g tt te vs) g')) : PS X st (tAsg (tLcM wi g tt te vs) g') := h
theorem peCM {X : Cx} {e : Expr} {wi : TI} {g : TG} {tt : TT} {te : TE} {vs : List Nat} (h : PE X e (tLc wi g tt te vs)) : PE X e (tLcM wi g tt te vs) := h
theorem peLM {X : Cx} {e : Expr} {t : TA} (h : PE X e (tLst t)) : PE X e (tLstM t) := h
theorem peRM {X : Cx} {e : Expr} {K : PySem.W.Frag} {t : TE} (h : PE X e (tRevL K t)) : PE X e (tRevLM K t) := h
/-- built-in names that no one has taken -/
def names0 : List Str := ["abs", "len", "sum", "all", "any", "isinstance", "repr", "int", "tuple", "list", "bool", "str", "range", "zip", "enumerate", "max", "min", "sorted", "reversed", "set", "dict"]
def Blt (mg : Str → Option Value) : Prop := ∀ x ∈ names0, mg x = none
theorem Blt.mk {mg : Str → Option Value} (B : Blt mg) (x : Str) (h : x ∈ names0) : mg x = none := B x h
structure Own (K : PySem.W.Frag) (mg : Str → Option Value) (x : Str) (st : Stmt) : Prop where
  ex : ∃ f fd, Fun K x x st f fd ∧ mg x = some (.ref f)
structure Ok (P : Program) (w : World) (K : PySem.W.Frag) (mg : Str → Option Value) (base : Heap) (k : Nat) (x : Str) (st : Stmt) (ps : List Str) (S : PSp) : Prop where
  ex : ∃ f fd, Fun K x x st f fd ∧ mg x = some (.ref f) ∧ Binds K fd ps [] ∧ FnG P w K mg base k f fd ps S
theorem kbs_mk {x qual : Str} {st : Stmt} {f : Addr} {fd : FuncData} {ps ks : List Str} {n : Nat} {ix : List Nat} (F : Fun K x qual st f fd)
    (h : ∀ (kV doc pm : Value) (an : Option Addr) (cdv ct : Value) (us ws : List Value), us.length = n → ws.length = ks.length → bindArgs (PySem.W.fnOf x qual (defArgs st) (defBody st) (defScope st) .none kV doc pm an cdv ct) ⟨us, ks.zip ws⟩ = pure (ps.zip (perm ix (us ++ ws)))) : KBs fd ps ks n ix := by
  obtain ⟨oc, od, kV, doc, pm, an, cdv, ct, osl, rfl, lk, hcd⟩ := F.ex
  exact fun s us ws h1 h2 => .of_eq (h kV doc pm an cdv ct us ws h1 h2)
end
end Fx

/-! Fx11: lemmas to work a reading out over plain values. -/
namespace Fx
open PySem PySem.Spec PyProof.Rows L2 RZ

theorem fin_keep {μ : Store} {x : PV} {Q : PV → Store → Prop} {μ0 : Store} (h : Q x μ) : ∃ y μ', Gc μ0 x μ y μ' ∧ Q y μ' := ⟨x, μ, .keep, h⟩
theorem fin_drop {μ0 g : Store} {x : PV} {Q : PV → Store → Prop} (n : noRef x = true) (h : Q x μ0) : ∃ y μ', Gc μ0 x (μ0 ++ g) y μ' ∧ Q y μ' := ⟨x, μ0, .drop g rfl n, h⟩
theorem fin_froz {μ0 : Store} {xs : List PV} {Q : PV → Store → Prop} (n : noRefs xs = true) (h : Q (.lst xs) μ0) : ∃ y μ', Gc μ0 (.mr μ0.length) (μ0 ++ [.lst xs]) y μ' ∧ Q y μ' := ⟨.lst xs, μ0, .froz μ0.length [.lst xs] xs rfl rfl (by simp) (Nat.le_refl _) n, h⟩
section
variable {α β : Type}
theorem atI_zero {x : α} {xs : List α} : L2.atI (x :: xs) 0 = some x := atI_nat (j := 0) rfl
theorem atI_one {x y : α} {xs : List α} : L2.atI (x :: y :: xs) 1 = some y := atI_nat (j := 1) rfl
theorem atI_two {x y z : α} {xs : List α} : L2.atI (x :: y :: z :: xs) 2 = some z := atI_nat (j := 2) rfl
theorem atI_some {xs : List α} {i : Nat} {x : α} (h : xs[i]? = some x) : L2.atI xs (i : Int) = some x := atI_nat h
theorem atI_map {f : α → β} {xs : List α} {i : Nat} {x : α} (h : xs[i]? = some x) : L2.atI (xs.map f) (i : Int) = some (f x) := atI_nat (by rw [List.getElem?_map, h]; rfl)
end
/-! ### comprehensions worked out -/
section
variable {α : Type} {g : MG} {c : MT} {e : ME} {ρ0 : PEnv} {P : List PV → Store → Prop} {μ : Store}
theorem lc_map {enc out : α → PV} : ∀ {l : List α} {acc : List PV}, (∀ a ∈ l, ∀ k : PV → Store → Prop, k (out a) μ → g (enc a) ρ0 μ fun ρ1 μ1 => e ρ1 μ1 k) → P (acc ++ l.map out) μ → mLcL g mYes e ρ0 P (l.map enc) acc μ
  | [], acc, _, hP => by simpa [mLcL] using hP
  | a :: l, acc, h, hP => by
    show g (enc a) ρ0 μ fun ρ1 μ1 => e ρ1 μ1 fun y μ3 => mLcL g mYes e ρ0 P (l.map enc) (acc ++ [y]) μ3
    exact h a List.mem_cons_self _ (lc_map (fun b hb => h b (List.mem_cons_of_mem _ hb)) (by simpa using hP))
theorem lc_filter {enc out : α → PV} {p : α → Bool} : ∀ {l : List α} {acc : List PV}, (∀ a ∈ l, ∀ (k : PV → Store → Prop) (n : Store → Prop), (p a = true → k (out a) μ) → (p a = false → n μ) → g (enc a) ρ0 μ fun ρ1 μ1 => c ρ1 μ1 fun b μ2 => if b = true then e ρ1 μ2 k else n μ2) →
    P (acc ++ (l.filter p).map out) μ → mLcL g c e ρ0 P (l.map enc) acc μ
  | [], acc, _, hP => by simpa [mLcL] using hP
  | a :: l, acc, h, hP => by
    show g (enc a) ρ0 μ fun ρ1 μ1 => c ρ1 μ1 fun b μ2 => if b = true then e ρ1 μ2 (fun y μ3 => mLcL g c e ρ0 P (l.map enc) (acc ++ [y]) μ3) else mLcL g c e ρ0 P (l.map enc) acc μ2
    refine h a List.mem_cons_self _ _ (fun hp => ?_) fun hp => ?_
    · refine lc_filter (fun b hb => h b (List.mem_cons_of_mem _ hb)) ?_
      simpa [List.filter_cons, hp] using hP
    · refine lc_filter (fun b hb => h b (List.mem_cons_of_mem _ hb)) ?_
      simpa [List.filter_cons, hp] using hP
/-- any comprehension, by what holds of the list so far and the store -/
theorem lc_inv {enc : α → PV} (I : List α → List PV → Store → Prop) : ∀ {l done : List α} {acc : List PV} {μ : Store}, I done acc μ → (∀ pre a post acc μ, done ++ l = pre ++ a :: post → I pre acc μ →
      g (enc a) ρ0 μ fun ρ1 μ1 => c ρ1 μ1 fun b μ2 => if b = true then e ρ1 μ2 (fun y μ3 => I (pre ++ [a]) (acc ++ [y]) μ3) else I (pre ++ [a]) acc μ2) → (∀ acc μ, I (done ++ l) acc μ → P acc μ) →
      (∀ {x : PV} {ρ1 : PEnv} {μ : Store} {k k' : PEnv → Store → Prop}, (∀ ρ μ, k ρ μ → k' ρ μ) → g x ρ1 μ k → g x ρ1 μ k') → (∀ {ρ1 : PEnv} {μ : Store} {k k' : Bool → Store → Prop}, (∀ ρ μ, k ρ μ → k' ρ μ) → c ρ1 μ k → c ρ1 μ k') →
      (∀ {ρ1 : PEnv} {μ : Store} {k k' : PV → Store → Prop}, (∀ ρ μ, k ρ μ → k' ρ μ) → e ρ1 μ k → e ρ1 μ k') → mLcL g c e ρ0 P (l.map enc) acc μ
  | [], done, acc, μ, h0, _, hP, _, _, _ => hP acc μ (by simpa using h0)
  | a :: l, done, acc, μ, h0, hs, hP, mg, mc, me => by
    show g (enc a) ρ0 μ fun ρ1 μ1 => c ρ1 μ1 fun b μ2 => if b = true then e ρ1 μ2 (fun y μ3 => mLcL g c e ρ0 P (l.map enc) (acc ++ [y]) μ3) else mLcL g c e ρ0 P (l.map enc) acc μ2
    have e1 : done ++ a :: l = (done ++ [a]) ++ l := by simp
    have go : ∀ acc μ, I (done ++ [a]) acc μ → mLcL g c e ρ0 P (l.map enc) acc μ := fun acc μ h => lc_inv I (done := done ++ [a]) h (fun pre b post acc μ e2 => hs pre b post acc μ (by rw [e1]; exact e2)) (fun acc μ h => hP acc μ (by rw [e1]; exact h)) mg mc me
    refine mg (fun ρ1 μ1 h => ?_) (hs done a l acc μ rfl h0)
    refine mc (fun b μ2 h => ?_) h
    cases b
    · exact go _ _ h
    · exact me (fun y μ3 h => go _ _ h) h
end
/-! ### loops worked out -/
section
variable {α : Type} {g : MG} {b : MS} {P : MEnds}
theorem for_inv {enc : α → PV} (I : List α → PEnv → Store → Prop) : ∀ {l done : List α} {ρ : PEnv} {μ : Store}, I done ρ μ → (∀ pre a post ρ μ, done ++ l = pre ++ a :: post → I pre ρ μ → ∀ N : PEnv → Store → Prop, (∀ ρ μ, I (pre ++ [a]) ρ μ → N ρ μ) →
      g (enc a) ρ μ fun ρ1 μ1 => b { P with nx := N, ct := N, bk := P.nx } ρ1 μ1) → (∀ ρ μ, I (done ++ l) ρ μ → P.nx ρ μ) → mForL g b P (l.map enc) ρ μ
  | [], done, ρ, μ, h0, _, hP => hP ρ μ (by simpa using h0)
  | a :: l, done, ρ, μ, h0, hs, hP => by
    have e1 : done ++ a :: l = (done ++ [a]) ++ l := by simp
    exact hs done a l ρ μ rfl h0 (mForL g b P (l.map enc)) fun ρ μ h => for_inv I (done := done ++ [a]) h (fun pre x post ρ μ e2 => hs pre x post ρ μ (by rw [e1]; exact e2)) fun ρ μ h => hP ρ μ (by rw [e1]; exact h)
end
theorem zipP_map {α β : Type} (f : α → PV) (h : β → PV) : ∀ (xs : List α) (ys : List β), zipP (xs.map f) (ys.map h) = (xs.zip ys).map fun p => .tup [f p.1, h p.2]
  | [], _ => by simp [zipP]
  | _ :: _, [] => by simp [zipP]
  | x :: xs, y :: ys => by simp [zipP, zipP_map f h xs ys]
theorem rangeP_eq (n : Nat) : rangeP 0 n = (List.range n).map fun (i : Nat) => PV.int i := by
  unfold rangeP
  simp
end Fx

/-! Fx12: numbered items of a list or a tuple; two loops in a comprehension. -/
namespace Fx
open PySem PySem.Spec PyProof.Rows L2 RZ

theorem meets_num1 {u : Value} {ob : Obj} {C : Heap → Prop} (B : Begins u ob C) :
    Meets (Builtin.«enumerate.__new__» ⟨[.type "enumerate", u], []⟩) (fun _ Z st => C st.heap ∧ Z (.ok (.ret (.ref (st.heap.push ob).objs.size)))
      { st with heap := (st.heap.push ob).push { cls := .type "enumerate", data := .fields #[.none, .bool false, .ref st.heap.objs.size, rawInt 0, .none, .none] } }) :=
  .of_wp fun prog w A R st h => by
    obtain ⟨hp, gn, dr, tt, oo⟩ := st
    obtain ⟨h1, h⟩ := h
    have sb := sub_enumerate
    have go : ∀ {A' : Around} {E : Value → Shared → Prop} {Q : Value → Shared → Prop}, Q (.ref hp.objs.size) ⟨hp.push ob, gn, dr, tt, oo⟩ → wpAny (model prog w) A' (pyIter u) Q E ⟨hp, gn, dr, tt, oo⟩ := fun q => B.iter prog w _ _ _ _ h1 q
    wp_walk using go
    refine wpAny_stack_any fun stk => wpAny_pure ?_
    split
    · rename_i cc _ _ _ _ _
      cases (cc == Value.type "enumerate") <;> (wp_walk using go; exact ⟨_, rfl, h⟩)
    · wp_walk using go; exact ⟨_, rfl, h⟩
theorem num_begins {prog : Program} {w : World} {A : Around} {E : Value → Shared → Prop} {s : Shared} {u : Value} {ob : Obj} {C : Heap → Prop} {Q : Value → Shared → Prop} (B : Begins u ob C) (h1 : C s.heap)
    (h : ∀ h', IsEnum h' (s.heap.objs.size + 1) s.heap.objs.size 0 .none → h'.get? s.heap.objs.size = some ob → (∀ b o, s.heap.get? b = some o → h'.get? b = some o) → Q (.ref (s.heap.objs.size + 1)) { s with heap := h' }) :
    wpAny (model prog w) A (call (.type "enumerate") [u]) Q E s := by
  refine callType_new F.called_enumerate (by decide) (F.typeCall_enumerate_1 _) (F.newCall_enumerate_1 _) (fun obj => F.args_object_init_2 obj _) F.entry_enumerate_new (meets_num1 B) ⟨h1, ?_⟩
  have z1 : (s.heap.push ob).objs.size = s.heap.objs.size + 1 := Heap.size_push ..
  show _ ∧ _
  rw [z1]
  have e1 : IsEnum ((s.heap.push ob).push { cls := .type "enumerate", data := .fields #[.none, .bool false, .ref s.heap.objs.size, rawInt 0, .none, .none] }) (s.heap.objs.size + 1) s.heap.objs.size 0 .none := by
    have q := Heap.get?_push_size (s.heap.push ob) (o := { cls := .type "enumerate", data := .fields #[.none, .bool false, .ref s.heap.objs.size, rawInt 0, .none, .none] }) rfl
    rw [z1] at q; exact q
  exact ⟨⟨_, e1, rfl⟩, h _ e1 (Heap.get?_push_of_some _ (Heap.get?_push_size _ B.free)) fun b o x => Heap.get?_push_of_some _ (Heap.get?_push_of_some _ x)⟩
/-- the tuple at a as it stands at each turn, each item in a new pair -/
def IteT (K : PySem.W.Frag) (a : Addr) : It where
  go i H := ∃ (xs : List V) (x : V), SqT K H a xs ∧ xs[i]? = some x
  yld i H v H' := ∃ T x, v = .ref T ∧ H T = none ∧ H' = upd H T (.tup [.int (i : Nat), x]) ∧ ∀ xs, SqT K H a xs → xs[i]? = some x
  stop i H := ∃ xs : List V, SqT K H a xs ∧ xs.length ≤ i
theorem turn_enumT {P : Program} {w : World} {K : PySem.W.Frag} {es : List Expr} {k1 : Nat} {tp : Pos} (a e it : Addr) :
    Turn P w K (.Tuple es k1 tp) (IteT K a) [e, it] e (fun i h => (∃ old, IsEnum h e it ((i : Nat) : Int) old) ∧ h.IsTupleIter it a i ∧ e ≠ it ∧ a ≠ it ∧ e ≠ a) where
  mem := by simp
  obj := fun i h st b hb => by
    obtain ⟨⟨old, he⟩, ⟨o, ho, hc, hd⟩, _⟩ := st
    rcases (show b = e ∨ b = it by simpa using hb) with z | z
    · exact z ▸ ⟨_, he, fun v q => nomatch q⟩
    · exact z ▸ ⟨o, ho, fun v q => by rw [hd] at q; cases q⟩
  keep := fun i h h' st k => by
    obtain ⟨⟨old, he⟩, hi, r⟩ := st
    exact ⟨⟨old, k e (by simp) _ he⟩, hi.at fun o q => k it (by simp) o q, r⟩
  item := by
    intro X hP hw hK hc i pins s σ H E I hf st hg
    subst hP hw hK
    obtain ⟨⟨old, he⟩, hit, hne, hai, hea⟩ := st
    obtain ⟨xs, x, hq, hx⟩ := hg
    obtain ⟨its, rv, p, hz⟩ := I.tuple hq
    obtain ⟨u, hu, ru⟩ := rv.get hx
    have el := Heap.lt_size he
    have il : it < s.heap.objs.size := by obtain ⟨_, q, _⟩ := hit; exact Heap.lt_size q
    have isz : i < its.toArray.size := by
      have := (List.getElem?_eq_some_iff.mp hu).1
      simpa using this
    refine wpAny_pyNext_enum_itemD (Draws.tuple (A := X.A.in1) (I.ok.hd hc) it a hai its.toArray) he ⟨hit, p⟩ isz hne (by simp [hne, hea]) fun u' h' tk hu' ho st' hT hsz hk => ?_
    have hu'' : u' = u := by
      have q : its.toArray[i]? = some u := by simpa using hu
      have q' : its.toArray[i]? = some u' := hu'
      rw [q] at q'; cases q'; rfl
    subst hu''
    refine ⟨_, rfl, wpAny_letOwnedTupleGo_enum (s := { s with heap := h', toks := tk + 1 }) ho fun h2 he2 sb => ?_⟩
    have hT2 := (sb.2 _ (Nat.ne_of_gt el)).trans hT
    have new : ObjOk X.prog X.w (upd H s.heap.objs.size (.tup [.int (i : Nat), x])) h2 s.heap.objs.size (.tup [.int (i : Nat), x]) :=
      ⟨by show 2 ≤ sizeLine; decide, [.int i tk, u'], .cons ⟨_, rfl⟩ (.cons ru .nil), ⟨_, hT2, rfl, _, rfl⟩⟩
    have I1 : Inv X pins σ (upd H s.heap.objs.size (.tup [.int (i : Nat), x])) { s with heap := h2, toks := tk + 1 } := by
      refine I.turnedNew (ch := [e, it]) (fun b ob hb q => ?_) hf (Nat.le_refl _) new
      have nb : b ≠ e ∧ b ≠ it := by simpa using hb
      exact (sb.2 b nb.1).trans (hk b ob nb.1 nb.2 q)
    refine ⟨.ref s.heap.objs.size, _, I1, rfl, ⟨_, x, rfl, I.hok.fresh (Nat.le_refl _), rfl, fun ys hy => by rw [I.tuple_inj hy hq]; exact hx⟩, ⟨⟨u', ?_⟩, st'.1.at fun o q => (sb.2 it (Ne.symm hne)).trans q, hne, hai, hea⟩, fun b hb => ?_⟩
    · rw [show ((i + 1 : Nat) : Int) = (i : Int) + 1 by omega]
      exact he2
    · have bl : b < s.heap.objs.size := by
        rcases (show b = e ∨ b = it by simpa using hb) with z | z
        · exact z ▸ el
        · exact z ▸ il
      rw [upd_ne (Nat.ne_of_lt bl)]
      exact (hf b hb).1
  done := by
    intro X hP hw hK hc i pins s σ H E I hf st hg
    subst hP hw hK
    obtain ⟨⟨old, he⟩, hit, hne, hai, hea⟩ := st
    obtain ⟨xs, hq, hx⟩ := hg
    obtain ⟨its, rv, p, hz⟩ := I.tuple hq
    obtain ⟨f0, f1, f2, f3, f4, f5⟩ := hf it (by simp)
    have hl := rv.length
    have hT : s.TypeIs (.ref e) "enumerate" := ⟨_, he, rfl⟩
    unfold pyNext
    refine wpAny_bind (wpAny_attempt (wpAny_callSpecial?_slot (name := Str.ofString "__next__") hT F.slot_enumerate_next (wpAny_call_entry F.slot_enumerate_next hT F.entry_enumerate_next ?_ (F.args_enumerate_next_1 _))))
    show wpAny _ _ (field (.ref e) 2 >>= _) _ _ _
    refine wpAny_bind (wpAny_field he rfl (x := .ref it) rfl ?_)
    refine wpAny_bind (wpAny_nextOf_tuple_end (I.ok.hd hc) hit p (by simp; omega) fun h' x he' hx' => ?_)
    obtain ⟨o, ho, hc⟩ := hx'
    refine wpAny_bind (wpAny_isInstance (T := "StopIteration") (b := true) ⟨o, ho, hc⟩ isSubtype_stop ?_)
    exact wpAny_pure ⟨rfl, I.turned (t' := s.toks) (fun b o hb q => he' b o hb q) f0 f1 f3 f4 f5⟩
  self := fun A i s Q E st h => by
    obtain ⟨⟨_, he⟩, _⟩ := st
    exact wpAny_pyIter_enum he h
def iEnumS (K : PySem.W.Frag) (ta : TA) : TI := fun σ H R => ta σ H fun vs H1 => ∃ a, vs = [.ref a] ∧ (((∃ xs, SqL K H1 a xs) ∧ R (Ite K a) H1) ∨ ((∃ xs, SqT K H1 a xs) ∧ R (IteT K a) H1))
theorem pi_enumS {X : Cx} {e1 : Expr} {ta : TA} {p pos tpos : Pos} {es : List Expr} {k1 : Nat} (hg : Gl X "enumerate") (hm : X.mg "enumerate" = none) (ha : PA X [e1] ta) (hs : starEach [e1] X.env = [(false, eval e1 X.env)] := by rfl) :
    PI X (.Tuple es k1 tpos) (.Call (.Name "enumerate" p) [e1] [] pos) (iEnumS X.K ta) := by
  refine ⟨fun pins s σ H R I h => ?_⟩
  refine wpAny_Call_Name_kw (ld_blt I hg hm boot_enumerate (callWith_type1 (thn (ha.run pos pins s σ H _ I h) fun us s1 ⟨vs, H1, I1, r1, q1⟩ => ?_) hs rfl))
  obtain ⟨a, ex, q⟩ := q1
  subst ex
  cases r1 with
  | cons r rr =>
    cases rr
    cases r
    have fr : ∀ b ∈ [s1.heap.objs.size + 1, s1.heap.objs.size], FpOk X pins H1 b := fun b hb => by
      have le : s1.heap.objs.size ≤ b := by
        rcases (show b = s1.heap.objs.size + 1 ∨ b = s1.heap.objs.size by simpa using hb) with z | z
        · rw [z]; exact Nat.le_add_right _ _
        · rw [z]; exact Nat.le_refl _
      exact I1.fpOk le (I1.hok.fresh le)
    rcases q with ⟨⟨xs, hq⟩, q⟩ | ⟨⟨xs, hq⟩, q⟩
    · obtain ⟨its, rv, p', hz⟩ := I1.list hq
      refine num_begins (begins_list a its.toArray) p'.isList fun h' he hit hk => wpAny_pyIter_enum he ?_
      exact ⟨s1.heap.objs.size + 1, [s1.heap.objs.size + 1, s1.heap.objs.size], _, _, H1, rfl, I1.kept (t' := s1.toks) hk, turn_enum a (s1.heap.objs.size + 1) s1.heap.objs.size, ⟨⟨.none, he⟩, ⟨_, hit, rfl, rfl⟩, Nat.succ_ne_self _⟩, fr, q⟩
    · obtain ⟨its, rv, p', hz⟩ := I1.tuple hq
      have pt : s1.heap.IsTuple a its.toArray := p'
      have al : a < s1.heap.objs.size := by obtain ⟨_, q, _⟩ := pt; exact Heap.lt_size q
      refine num_begins (begins_tuple a its.toArray) pt fun h' he hit hk => wpAny_pyIter_enum he ?_
      exact ⟨s1.heap.objs.size + 1, [s1.heap.objs.size + 1, s1.heap.objs.size], _, _, H1, rfl, I1.kept (t' := s1.toks) hk, turn_enumT a (s1.heap.objs.size + 1) s1.heap.objs.size, ⟨⟨.none, he⟩, ⟨_, hit, rfl, rfl⟩, Nat.succ_ne_self _, Nat.ne_of_lt al, Nat.ne_of_gt (Nat.lt_succ_of_lt al)⟩, fr, q⟩
def enumP : Nat → List PV → List PV
  | _, [] => []
  | i, x :: xs => .tup [.int i, x] :: enumP (i + 1) xs
theorem enumP_get : ∀ {xs : List PV} {j i : Nat} {z : PV}, (enumP j xs)[i]? = some z → ∃ x, xs[i]? = some x ∧ z = .tup [.int ((j + i : Nat) : Int), x]
  | [], _, _, _, h => by simp [enumP] at h
  | x :: xs, j, 0, z, h => by
    simp [enumP] at h
    exact ⟨x, rfl, h.symm⟩
  | x :: xs, j, i + 1, z, h => by
    simp only [enumP, List.getElem?_cons_succ] at h
    obtain ⟨y, h1, h2⟩ := enumP_get h
    exact ⟨y, by simpa using h1, by rw [h2]; congr 3; congr 1; omega⟩
theorem enumP_length : ∀ (xs : List PV) (j : Nat), (enumP j xs).length = xs.length
  | [], _ => rfl
  | x :: xs, j => by simp [enumP, enumP_length xs]
section
variable {K : PySem.W.Frag} {d d' : Wd} {H H' : Hp} {a b : Addr} {vs us : List V} {xs ys : List PV} {μ : Store}
theorem it_enumT (h : TupAt K d H a vs) (r : RVs K d H xs vs) : ItOk (K := K) d H (IteT K a) (enumP 0 xs) := fun d1 d2 H2 μ2 bb e w => by
  have h2 : TupAt K d2 H2 a vs := e.tupAt (h.imp (fun z => ⟨z.1, by rw [bb.1]; exact z.2⟩) id)
  have r2 : RVs K d2 H2 xs vs := (r.bars bb).mono e
  refine ⟨fun i x hx => ?_, fun i hi => ⟨vs, h2.sq, by rw [enumP_length] at hi; rw [← r2.length]; exact hi⟩⟩
  obtain ⟨y, hy, rfl⟩ := enumP_get hx
  obtain ⟨v, hv, rv⟩ := r2.get hy
  refine ⟨⟨vs, v, h2.sq, hv⟩, fun u H3 hyl => ?_⟩
  obtain ⟨T, v', rfl, hT, rfl, f⟩ := hyl
  have e1 := f vs h2.sq
  rw [hv] at e1; cases e1
  rw [Nat.zero_add]
  exact tup_pair w hT (.int _) rv
theorem it_enumK (h : KlAt K d H a vs) (r : RVs K d H xs vs) : ItOk (K := K) d H (Ite K a) (enumP 0 xs) := fun d1 d2 H2 μ2 bb e w => by
  have h2 : KlAt K d2 H2 a vs := e.klAt (h.imp (fun z => ⟨z.1, by rw [bb.1]; exact z.2.1, fun q => (bb.2 _ q).elim z.2.2 (Rd.ne z.1)⟩) id)
  have r2 : RVs K d2 H2 xs vs := (r.bars bb).mono e
  refine ⟨fun i x hx => ?_, fun i hi => ⟨vs, h2.sq, by rw [enumP_length] at hi; rw [← r2.length]; exact hi⟩⟩
  obtain ⟨y, hy, rfl⟩ := enumP_get hx
  obtain ⟨v, hv, rv⟩ := r2.get hy
  refine ⟨⟨vs, v, h2.sq, hv⟩, fun u H3 hyl => ?_⟩
  obtain ⟨T, v', rfl, hT, rfl, f⟩ := hyl
  have e1 := f vs h2.sq
  rw [hv] at e1; cases e1
  rw [Nat.zero_add]
  exact tup_pair w hT (.int _) rv
def mEnum (m : MA) : MI := fun ρ μ P => m ρ μ fun xs μ1 => match xs with | [.tup ys] => P (enumP 0 ys) μ1 | [.lst ys] => P (enumP 0 ys) μ1 | [.kl ys] => P (enumP 0 ys) μ1 | _ => False
instance {t m} [h : FA K t m] : FI K (iEnumS K t) (mEnum m) := ⟨fun d σ H ρ μ P R w e q k => by
  refine h.run d σ H ρ μ _ _ w e q fun d1 H1 μ1 xs vs e1 w1 r1 q1 => ?_
  match xs, r1, q1 with
  | [.tup ys], .cons (.tup ha hr) .nil, q1 => exact ⟨_, rfl, .inr ⟨⟨_, ha.sq⟩, k d1 H1 μ1 _ _ e1 w1 (it_enumT ha hr) q1⟩⟩
  | [.lst ys], .cons (.lst ha hr) .nil, q1 => exact ⟨_, rfl, .inl ⟨⟨_, ha.sq⟩, k d1 H1 μ1 _ _ e1 w1 (it_enumK (.inl ⟨.inl ha.1, ha.2⟩) hr) q1⟩⟩
  | [.kl ys], .cons (.kl ha hr) .nil, q1 => exact ⟨_, rfl, .inl ⟨⟨_, ha.sq⟩, k d1 H1 μ1 _ _ e1 w1 (it_enumK ha hr) q1⟩⟩⟩
/-! ### two loops in a comprehension -/
/-- what is walked within: its items stay while a list is being made -/
def ItW (K : PySem.W.Frag) (J : It) (xs : List PV) (Iv : Wd → Hp → Prop) : Prop :=
  (∀ d H d2 H2, Iv d H → Ext d H d2 H2 → Iv d2 H2) ∧ (∀ d H D l l', Iv d H → D ∈ d.ban → H D = some (.lst l) → Iv d (upd H D (.lst l'))) ∧
  ∀ d H μ, Iv d H → WOk K d H μ → (∀ (i : Nat) x, xs[i]? = some x → J.go i H ∧ ∀ v H', J.yld i H v H' → Ext d H d H' ∧ WOk K d H' μ ∧ RV K d H' x v) ∧ (∀ i, xs.length ≤ i → J.stop i H)
class FW (K : PySem.W.Frag) (t : TI) (m : outParam MI) : Prop where
  run : ∀ (d : Wd) (σ : L2.St) (H : Hp) (ρ : PEnv) (μ : Store) (P : List PV → Store → Prop) (R : It → Hp → Prop), WOk K d H μ → REnv K d H ρ σ → m ρ μ P →
    (∀ d' H' μ' J xs Iv, Ext d H d' H' → WOk K d' H' μ' → ItW K J xs Iv → Iv d' H' → P xs μ' → R J H') → t σ H R
theorem TupAt.made {D : Addr} {l l' : List V} (h : TupAt K d H a vs) (hD : H D = some (.lst l)) : TupAt K d (upd H D (.lst l')) a vs := by
  rcases h with ⟨r, n⟩ | h
  · have ne : a ≠ D := by
      rintro rfl
      rcases r with r | ⟨o, r⟩ <;> rw [hD] at r <;> cases r
    refine .inl ⟨?_, n⟩
    rcases r with r | ⟨o, r⟩
    · exact .inl (by rw [upd_ne ne]; exact r)
    · exact .inr ⟨o, by rw [upd_ne ne]; exact r⟩
  · exact .inr h
theorem KlAt.made {D : Addr} {l l' : List V} (h : KlAt K d H a vs) (hb : D ∈ d.ban) : KlAt K d (upd H D (.lst l')) a vs := by
  rcases h with ⟨r, n, b⟩ | h
  · have ne : a ≠ D := by
      rintro rfl
      exact b hb
    refine .inl ⟨?_, n, b⟩
    rcases r with r | ⟨o, r⟩
    · exact .inl (by rw [upd_ne ne]; exact r)
    · exact .inr ⟨o, by rw [upd_ne ne]; exact r⟩
  · exact .inr h
theorem itw_tup : ItW K (Itt K a) xs fun d H => ∃ vs, TupAt K d H a vs ∧ RVs K d H xs vs := by
  refine ⟨fun d H d2 H2 ⟨vs, h, r⟩ e => ⟨vs, e.tupAt h, r.mono e⟩, fun d H D l l' ⟨vs, h, r⟩ hb hD => ⟨vs, h.made hD, r.made hb (no_tup hD)⟩, fun d H μ ⟨vs, h, r⟩ w => ?_⟩
  exact it_tup h r d d H μ ⟨rfl, fun _ h => .inl h⟩ .refl w
theorem itw_kl : ItW K (Itl K a) xs fun d H => ∃ vs, KlAt K d H a vs ∧ RVs K d H xs vs := by
  refine ⟨fun d H d2 H2 ⟨vs, h, r⟩ e => ⟨vs, e.klAt h, r.mono e⟩, fun d H D l l' ⟨vs, h, r⟩ hb hD => ⟨vs, h.made hb (l := l), r.made hb (no_tup hD)⟩, fun d H μ ⟨vs, h, r⟩ w => ?_⟩
  exact it_kl h r d d H μ ⟨rfl, fun _ h => .inl h⟩ .refl w
instance {t m} [h : FE K t m] : FW K (iSeq K t) (mSeqI m) := ⟨fun d σ H ρ μ P R w e q k => by
  refine h.run d σ H ρ μ _ _ w e q fun d1 H1 μ1 x v e1 w1 r1 q1 => ?_
  cases x <;> try exact q1.elim
  · cases r1 with
    | tup ha hr => exact ⟨_, rfl, .inr ⟨⟨_, ha.sq⟩, k d1 H1 μ1 _ _ _ e1 w1 itw_tup ⟨_, ha, hr⟩ q1⟩⟩
  · cases r1 with
    | lst ha hr => exact ⟨_, rfl, .inl ⟨⟨_, ha.sq⟩, k d1 H1 μ1 _ _ _ e1 w1 itw_kl ⟨_, .inl ⟨.inl ha.1, ha.2⟩, hr⟩ q1⟩⟩
  · cases r1 with
    | kl ha hr => exact ⟨_, rfl, .inl ⟨⟨_, ha.sq⟩, k d1 H1 μ1 _ _ _ e1 w1 itw_kl ⟨_, ha, hr⟩ q1⟩⟩⟩
instance {t m} [h : FA K t m] : FW K (iRng1 t) (mRng1 m) := ⟨fun d σ H ρ μ P R w e q k => by
  refine h.run d σ H ρ μ _ _ w e q fun d1 H1 μ1 xs vs e1 w1 r1 q1 => ?_
  match xs, r1, q1 with
  | [.int j], .cons (.int _) .nil, ⟨z, q1⟩ =>
    exact ⟨j, rfl, by omega, by omega, k d1 H1 μ1 _ _ (fun _ _ => True) e1 w1 ⟨fun _ _ _ _ _ _ => trivial, fun _ _ _ _ _ _ _ _ => trivial, fun d H μ _ w => it_rng 0 j.toNat d d H μ ⟨rfl, fun _ h => .inl h⟩ .refl w⟩ trivial q1⟩⟩
def mLcO (g : MG) (c : MT) (i1 : MI) (g1 : MG) (c1 : MT) (e : ME) (vs1 : List Nat) (ρ0 : PEnv) (P : List PV → Store → Prop) : List PV → List PV → Store → Prop
  | [], acc, μ => P acc μ
  | x :: xs, acc, μ => g x ρ0 μ fun ρ1 μ1 => c ρ1 μ1 fun b μ2 => if b = true then i1 ρ1 μ2 fun ys μ3 => (acc.length + ys.length ≤ lim ∧ mLcL g1 c1 e (wipeP ρ1 vs1) (fun acc' μ4 => mLcO g c i1 g1 c1 e vs1 ρ0 P xs acc' μ4) ys acc μ3) else mLcO g c i1 g1 c1 e vs1 ρ0 P xs acc μ2
def mLc2 (mi : MI) (g : MG) (c : MT) (i1 : MI) (g1 : MG) (c1 : MT) (e : ME) (s vs s1 vs1 : List Nat) : ME := fun ρ μ P => ((∀ i ∈ s, i ∈ vs) ∧ ∀ i ∈ s1, i ∈ vs1) ∧ mi ρ μ fun xs μ1 => mLcO g c i1 g1 c1 e vs1 (wipeP ρ vs) (fun acc μ2 => P (.lst acc) μ2) xs [] μ1
instance {wi mi g mg s tt mt wi1 mi1 g1 mg1 s1 tt1 mt1 te me vs vs1} [hi : FI K wi mi] [hg : FG K g mg s] [hc : FT K tt mt] [hi1 : FW K wi1 mi1] [hg1 : FG K g1 mg1 s1] [hc1 : FT K tt1 mt1] [he : FE K te me] :
    FE K (tLc2 wi g tt wi1 g1 tt1 te vs vs1) (mLc2 mi mg mt mi1 mg1 mt1 me s vs s1 vs1) := ⟨fun d σ H ρ μ P Q w e q k => by
  obtain ⟨⟨hs, hs1⟩, q⟩ := q
  refine hi.run d σ H ρ μ _ _ w e q fun d1 H1 μ1 J xs e1 w1 it q1 => ?_
  intro D hD
  have bD : Bars d1 ⟨d1.am, D :: d1.ban⟩ H1 := ⟨rfl, fun x q => (List.mem_cons.mp q).elim (fun z => .inr (by rw [z]; exact hD)) .inl⟩
  have envB : REnv K ⟨d1.am, D :: d1.ban⟩ H1 (wipeP ρ vs) (wipe σ vs) := ((e.mono e1).bars bD).wipe vs
  have lay0 : Ext ⟨d1.am, D :: d1.ban⟩ H1 ⟨d1.am, D :: d1.ban⟩ (upd H1 D (.lst [])) := ⟨⟨[], by simp, fun p hp => by simp at hp⟩, rfl, fun b u e _ => by rw [upd_ne (ne_of_none e hD)]; exact e⟩
  refine ⟨fun i m H' => ∃ dB μ' acc avs, Ext ⟨d1.am, D :: d1.ban⟩ H1 dB H' ∧ WOk K dB H' μ' ∧ H' D = some (.lst avs) ∧ RVs K dB H' acc avs ∧ i + m = xs.length ∧ mLcO mg mt mi1 mg1 mt1 me vs1 (wipeP ρ vs) (fun acc μ2 => P (.lst acc) μ2) (xs.drop i) acc μ',
    ⟨xs.length, _, μ1, [], [], lay0, w1.barD hD, upd_same, .nil, by omega, by simpa using q1⟩, fun i m H' hW => ?_⟩
  obtain ⟨dB, μ', acc, avs, eB, wB, hDv, rA, em, q2⟩ := hW
  have hDban : D ∈ dB.ban := by rw [eB.ban]; exact List.mem_cons_self
  obtain ⟨itg, its⟩ := it _ dB H' μ' bD eB wB
  cases hx : xs[i]? with
  | none =>
    have hle : xs.length ≤ i := List.getElem?_eq_none_iff.mp hx
    rw [List.drop_of_length_le hle] at q2
    refine .inl ⟨its i hle, ?_⟩
    obtain ⟨x1, x2, x3⟩ := lc_frozen e1 hD (w1.notban hD) eB wB hDv rA
    exact k _ H' μ' _ _ x1 x2 x3 q2
  | some x =>
    have hlt : i < xs.length := (List.getElem?_eq_some_iff.mp hx).1
    rw [drop_cons hx] at q2
    obtain ⟨go, yl⟩ := itg i x hx
    refine .inr ⟨go, fun H3 => ∃ dB μ' acc avs, Ext ⟨d1.am, D :: d1.ban⟩ H1 dB H3 ∧ WOk K dB H3 μ' ∧ H3 D = some (.lst avs) ∧ RVs K dB H3 acc avs ∧ mLcO mg mt mi1 mg1 mt1 me vs1 (wipeP ρ vs) (fun acc μ2 => P (.lst acc) μ2) (xs.drop (i + 1)) acc μ', fun H3 hN => ?_, fun v H3 hy => ?_⟩
    · obtain ⟨a1, a2, a3, a4, a5, a6, a7, a8, a10⟩ := hN
      exact ⟨m - 1, by omega, a1, a2, a3, a4, a5, a6, a7, a8, by omega, a10⟩
    · obtain ⟨ey, wy, ry⟩ := yl v H3 hy
      refine hg.run dB (wipe σ vs) H3 (wipeP ρ vs) μ' x v _ _ wy (envB.mono (eB.trans ey)) ry q2 fun d4 σ4 H4 ρ4 μ4 e4 w4 ee4 hl4 hs4 q4 => ⟨wipe_same hl4 hs4 hs, ?_⟩
      refine hc.run d4 σ4 H4 ρ4 μ4 _ _ w4 ee4 q4 fun d5 H5 μ5 b e5 w5 q5 => ?_
      have nD : D ∉ dB.am := (wB.ban D hDban).2
      have E5 : Ext dB H' d5 H5 := (ey.trans e4).trans e5
      cases b
      · exact ⟨d5, μ5, acc, avs, eB.trans E5, w5, E5.keep _ _ hDv nD, rA.mono E5, q5⟩
      · refine hi1.run d5 σ4 H5 ρ4 μ5 _ _ w5 (ee4.mono e5) q5 fun d6 H6 μ6 J1 ys Iv e6 w6 ⟨iv1, iv2, iv3⟩ iv ⟨hyl, q6⟩ => ?_
        have E6 : Ext dB H' d6 H6 := E5.trans e6
        have b6 : D ∈ d6.ban := by rw [E6.ban]; exact hDban
        have hD6 : H6 D = some (.lst avs) := E6.keep _ _ hDv nD
        refine ⟨fun j n H7 => ∃ dC μ' acc' bvs, Ext ⟨d1.am, D :: d1.ban⟩ H1 dC H7 ∧ WOk K dC H7 μ' ∧ H7 D = some (.lst bvs) ∧ RVs K dC H7 acc' bvs ∧ REnv K dC H7 (wipeP ρ4 vs1) (wipe σ4 vs1) ∧ Iv dC H7 ∧ j + n = ys.length ∧ acc'.length ≤ acc.length + j ∧
          mLcL mg1 mt1 me (wipeP ρ4 vs1) (fun acc' μ4 => mLcO mg mt mi1 mg1 mt1 me vs1 (wipeP ρ vs) (fun acc μ2 => P (.lst acc) μ2) (xs.drop (i + 1)) acc' μ4) (ys.drop j) acc' μ',
          ⟨ys.length, d6, μ6, acc, avs, eB.trans E6, w6, hD6, rA.mono E6, (ee4.mono (e5.trans e6)).wipe vs1, iv, by omega, by omega, by simpa using q6⟩, fun j n H7 hW1 => ?_⟩
        obtain ⟨dC, μ7, acc', bvs, E7, w7, hD7, rA7, env7, iv7, en, hal, q7⟩ := hW1
        obtain ⟨itg1, its1⟩ := iv3 dC H7 μ7 iv7 w7
        have bC : D ∈ dC.ban := by rw [E7.ban]; exact List.mem_cons_self
        have nC : D ∉ dC.am := (w7.ban D bC).2
        cases hy1 : ys[j]? with
        | none =>
          have hle : ys.length ≤ j := List.getElem?_eq_none_iff.mp hy1
          rw [List.drop_of_length_le hle] at q7
          exact .inl ⟨its1 j hle, dC, μ7, acc', bvs, E7, w7, hD7, rA7, q7⟩
        | some y =>
          have hlt1 : j < ys.length := (List.getElem?_eq_some_iff.mp hy1).1
          rw [drop_cons hy1] at q7
          obtain ⟨go1, yl1⟩ := itg1 j y hy1
          refine .inr ⟨go1, fun H8 => ∃ dC μ' acc' bvs, Ext ⟨d1.am, D :: d1.ban⟩ H1 dC H8 ∧ WOk K dC H8 μ' ∧ H8 D = some (.lst bvs) ∧ RVs K dC H8 acc' bvs ∧ REnv K dC H8 (wipeP ρ4 vs1) (wipe σ4 vs1) ∧ Iv dC H8 ∧ acc'.length ≤ acc.length + (j + 1) ∧
            mLcL mg1 mt1 me (wipeP ρ4 vs1) (fun acc' μ4 => mLcO mg mt mi1 mg1 mt1 me vs1 (wipeP ρ vs) (fun acc μ2 => P (.lst acc) μ2) (xs.drop (i + 1)) acc' μ4) (ys.drop (j + 1)) acc' μ', fun H8 hN => ?_, fun v8 H8 hy8 => ?_⟩
          · obtain ⟨a1, a2, a3, a4, a5, a6, a7, a8, a9, a10, a11, a12⟩ := hN
            exact ⟨n - 1, by omega, a1, a2, a3, a4, a5, a6, a7, a8, a9, a10, by omega, a11, a12⟩
          · obtain ⟨ey8, wy8, ry8⟩ := yl1 v8 H8 hy8
            refine hg1.run dC (wipe σ4 vs1) H8 (wipeP ρ4 vs1) μ7 y v8 _ _ wy8 (env7.mono ey8) ry8 q7 fun d9 σ9 H9 ρ9 μ9 e9 w9 ee9 hl9 hs9 q9 => ⟨wipe_same hl9 hs9 hs1, ?_⟩
            refine hc1.run d9 σ9 H9 ρ9 μ9 _ _ w9 ee9 q9 fun dE HE μE b eE wE qE => ?_
            have F9 : Ext dC H7 dE HE := (ey8.trans e9).trans eE
            cases b
            · exact ⟨dE, μE, acc', bvs, E7.trans F9, wE, F9.keep _ _ hD7 nC, rA7.mono F9, env7.mono F9, iv1 _ _ _ _ iv7 F9, by omega, qE⟩
            · refine he.run dE σ9 HE ρ9 μE _ _ wE (ee9.mono eE) qE fun dG HG μG z u eG wG rG qG => ?_
              have FG : Ext dC H7 dG HG := F9.trans eG
              have hDG : HG D = some (.lst bvs) := FG.keep _ _ hD7 nC
              have bG : D ∈ dG.ban := by rw [FG.ban]; exact bC
              have rAG := (rA7.mono FG).append (.cons rG .nil)
              have EG := E7.trans FG
              have nG := no_tup hDG
              refine ⟨bvs, hDG, by rw [← rA7.length]; exact lim_lt' (by omega), dG, μG, acc' ++ [z], bvs ++ [u], ⟨EG.am, EG.ban, fun b o hb hn => by rw [upd_ne (ne_of_none hb hD)]; exact EG.keep b o hb hn⟩, wG.made bG nG, upd_same, rAG.made bG nG, ?_, iv2 _ _ _ _ _ (iv1 _ _ _ _ iv7 FG) bG hDG, by rw [List.length_append]; simp; omega, qG⟩
              have em := env7.mono FG
              exact ⟨em.1, fun i x q => let ⟨v, a, c⟩ := em.2 i x q; ⟨v, a, c.made bG nG⟩⟩⟩
end
end Fx

/-! Fx13: the rules with the fragment named (within comprehensions). -/
namespace Fx
open PySem PySem.Spec PyProof.Rows L2 RZ
section
variable {X : Cx}
theorem opk_plus (K : PySem.W.Frag) (h : X.K = K) : OpR X (binaryOp .Add) (rPlus K) := h ▸ op_plus
theorem opk_plusM (K : PySem.W.Frag) (h : X.K = K) : OpR X (binaryOp .Add) (rPlusM K) := h ▸ op_plusM
theorem opk_times (K : PySem.W.Frag) (h : X.K = K) : OpR X (binaryOp .Mult) (rTimes K) := h ▸ op_times
theorem opk_eqX (K : PySem.W.Frag) (h : X.K = K) (hu : X.A.units + 64 < cLine) : OpR X (compareOp .Eq) (rEqX K) := h ▸ op_eqX hu
theorem opk_neX (K : PySem.W.Frag) (h : X.K = K) (hu : X.A.units + 64 < cLine) : OpR X (compareOp .NotEq) (rNeX K) := h ▸ op_neX hu
theorem opk_in_seq (K : PySem.W.Frag) (h : X.K = K) : OpR X (compareOp .In) (rIn K false) := h ▸ op_in_seq
theorem opk_notIn_seq (K : PySem.W.Frag) (h : X.K = K) : OpR X (compareOp .NotIn) (rIn K true) := h ▸ op_notIn_seq
theorem ixk_seq (K : PySem.W.Frag) (h : X.K = K) : IxR X (rIx K) := h ▸ ix_seq
theorem ck_isi (K : PySem.W.Frag) (h : X.K = K) : CallR X (.builtin "isinstance") (rIsi K) := h ▸ call_isi
theorem ck_len (K : PySem.W.Frag) (h : X.K = K) : CallR X (.builtin "len") (rLen K) := h ▸ cb_len
theorem ck_sum (K : PySem.W.Frag) (h : X.K = K) (hc : X.calm = true) : CallR X (.builtin "sum") (rSum K) := h ▸ cr_sum hc
theorem ck_all (K : PySem.W.Frag) (h : X.K = K) (hc : X.calm = true) : CallR X (.builtin "all") (rAll K) := h ▸ cr_all hc
theorem ck_any (K : PySem.W.Frag) (h : X.K = K) (hc : X.calm = true) : CallR X (.builtin "any") (rAny K) := h ▸ cr_any hc
theorem ck_maxS (K : PySem.W.Frag) (h : X.K = K) (hc : X.calm = true) (hu : X.A.units + 64 < cLine) : CallR X (.builtin "max") (rMaxS K) := h ▸ cb_maxS hc hu
theorem ck_repr (K : PySem.W.Frag) (h : X.K = K) (hg : X.A.guards = some []) (hu : X.A.units + 64 < cLine) : CallR X (.builtin "repr") (rRepr K) := h ▸ cb_repr hg hu
theorem ck_tup (K : PySem.W.Frag) (h : X.K = K) : CallR X (.type "tuple") (rTupOf K) := h ▸ cb_tup
theorem ck_lst (K : PySem.W.Frag) (h : X.K = K) : CallR X (.type "list") (rLstOf K) := h ▸ cb_lst
theorem slk_any (K : PySem.W.Frag) (h : X.K = K) : SlR X (rSlX K) := h ▸ sl_any
theorem pgk_tup (K : PySem.W.Frag) (n : Nat) (h : X.K = K) {pos : Pos} {es : List Expr} {k : Nat} {t : TGs} (hc : X.calm = true) (hp : PGs X es t) (hn : (assignEach es X.env).length = n) (hs : (assignEach es X.env).findIdx? (fun x => x.fst) = none) :
    PG X (.Tuple es k pos) (gTup K n t) := h ▸ pg_tup hc hp hn hs
theorem pek_revL (K : PySem.W.Frag) (h : X.K = K) {e : Expr} {te : TE} {k : Nat} {p1 p2 p3 pos : Pos} (he : PE X e te) : PE X (e.Subscript (Expr.Slice none none (some (Expr.UnaryOp UnaryOp.USub (Expr.Constant (Const.int 1) k p1) p2)) p3) pos) (tRevL K te) := h ▸ pe_revL he
theorem pik_seq (K : PySem.W.Frag) (h : X.K = K) {tg l : Expr} {tl : TE} (hl : PE X l tl) : PI X tg l (iSeq K tl) := h ▸ pi_seq hl
theorem pik_zipA (K : PySem.W.Frag) (h : X.K = K) {e e2 : Expr} {ta : TA} {p pos tpos : Pos} {elts : List Expr} {kk : Nat} (hg : Gl X "zip") (hm : X.mg "zip" = none) (ha : PA X [e, e2] ta)
    (h1 : starEach [e, e2] X.env = (false, eval e X.env) :: starEach [e2] X.env := by rfl) (h2 : ((backTo pos (starEach [e2] X.env)).any fun x => x.fst) = false := by rfl) :
    PI X (.Tuple elts kk tpos) ((Expr.Name "zip" p).Call [e, e2] [] pos) (iZipA K ta) := h ▸ pi_zipA hg hm ha h1 h2
theorem pik_enumS (K : PySem.W.Frag) (h : X.K = K) {e1 : Expr} {ta : TA} {p pos tpos : Pos} {es : List Expr} {k1 : Nat} (hg : Gl X "enumerate") (hm : X.mg "enumerate" = none) (ha : PA X [e1] ta) (hs : starEach [e1] X.env = [(false, eval e1 X.env)] := by rfl) :
    PI X (.Tuple es k1 tpos) (.Call (.Name "enumerate" p) [e1] [] pos) (iEnumS K ta) := h ▸ pi_enumS hg hm ha hs
variable {k : Nat} {f : Addr} {fd : FuncData} {ps ks : List Str} {S : PSp} {x : Str} {p pos : Pos} {e : Expr} {es : List Expr} {kws : List Keyword} {t tk : TA}
theorem pek_call (K : PySem.W.Frag) (h : X.K = K) {k : Nat} {f : Addr} {fd : FuncData} {ps : List Str} {S : PSp} {x : Str} {p pos : Pos} {e : Expr} {es : List Expr} {t : TA}
    (F : FnG X.prog X.w X.K X.mg X.base k f fd ps S) (hr : Room k X.A) (hgd : X.A.guards = some []) (hg : Gl X x) (hm : X.mg x = some (.ref f)) (hk : PySem.W.keepIn X.K (.ref f) = true) (hb : Binds X.K fd ps [])
    (ha : PA X (e :: es) t) (hdb : (x == ("__debug__" : Str)) = false := by decide) (he : starEach (e :: es) X.env = (false, eval e X.env) :: starEach es X.env := by rfl) (hpl : (backTo pos (starEach es X.env)).any (·.1) = false := by rfl) :
    PE X (.Call (.Name x p) (e :: es) [] pos) (tCallG K S t) := h ▸ pe_callG F hr hgd hg hm hk hb ha hdb he hpl
end
end Fx

/-! Fx14: walks of lists that change elsewhere; comprehensions by what holds. -/
namespace Fx
open PySem PySem.Spec PyProof.Rows L2 RZ
/-- a walk whose list must stand still: C says so of the store -/
abbrev MIC := PEnv → Store → (List PV → (Store → Prop) → Store → Prop) → Prop
def ItC (K : PySem.W.Frag) (d0 : Wd) (H0 : Hp) (J : It) (xs : List PV) (C : Store → Prop) : Prop :=
  ∀ d1 d H μ, Bars d0 d1 H0 → Ext d1 H0 d H → WOk K d H μ → C μ → (∀ (i : Nat) x, xs[i]? = some x → J.go i H ∧ ∀ v H', J.yld i H v H' → Ext d H d H' ∧ WOk K d H' μ ∧ RV K d H' x v) ∧ (∀ i, xs.length ≤ i → J.stop i H)
class FC (K : PySem.W.Frag) (t : TI) (m : outParam MIC) : Prop where
  run : ∀ (d : Wd) (σ : L2.St) (H : Hp) (ρ : PEnv) (μ : Store) (P : List PV → (Store → Prop) → Store → Prop) (R : It → Hp → Prop), WOk K d H μ → REnv K d H ρ σ → m ρ μ P →
    (∀ d' H' μ' J xs C, Ext d H d' H' → WOk K d' H' μ' → ItC K d' H' J xs C → P xs C μ' → R J H') → t σ H R
def iSeqM (K : PySem.W.Frag) (tl : TE) : TI := iSeq K tl
theorem pi_seqM {X : Cx} {tg l : Expr} {tl : TE} (hl : PE X l tl) : PI X tg l (iSeqM X.K tl) := pi_seq hl
section
variable {K : PySem.W.Frag} {d d' : Wd} {H H' : Hp} {a b : Addr} {vs us : List V} {xs ys : List PV} {μ : Store}
def mSeqC (m : ME) : MIC := fun ρ μ P => m ρ μ fun x μ1 => match x with | .mr n => (match μ1[n]? with | some (.lst xs) => P xs (fun μ2 => μ2[n]? = some (.lst xs)) μ1 | _ => False) | _ => False
instance {t m} [h : FE K t m] : FC K (iSeqM K t) (mSeqC m) := ⟨fun d σ H ρ μ P R w e q k => by
  refine h.run d σ H ρ μ _ _ w e q fun d1 H1 μ1 x v e1 w1 r1 q1 => ?_
  cases r1 with
  | @mr n a h1 =>
    simp only at q1
    cases e2 : μ1[n]? with
    | none => rw [e2] at q1; exact q1.elim
    | some m =>
      cases m with
      | dk _ => rw [e2] at q1; exact q1.elim
      | fd _ _ _ => rw [e2] at q1; exact q1.elim
      | lst xs =>
        rw [e2] at q1
        obtain ⟨vs, hq, rv⟩ := w1.obj h1 e2
        refine ⟨a, rfl, .inl ⟨⟨vs, .of hq⟩, k d1 H1 μ1 _ _ _ e1 w1 (fun d2 d3 H3 μ3 bb ee w3 hC => ?_) q1⟩⟩
        have h3 : d3.am[n]? = some a := ee.at (by rw [bb.1]; exact h1)
        obtain ⟨ws, hq3, rw3⟩ := w3.obj h3 hC
        refine ⟨fun i x hx => ?_, fun i hi => ⟨ws, .of hq3, by rw [← rw3.length]; exact hi⟩⟩
        obtain ⟨v, hv, rv'⟩ := rw3.get hx
        refine ⟨⟨ws, v, .of hq3, hv⟩, fun u H4 hy => ?_⟩
        obtain ⟨rfl, f⟩ := hy
        have e1 := f ws (.of hq3)
        rw [hv] at e1; cases e1
        exact ⟨.refl, w3, rv'⟩
  | _ => exact q1.elim⟩
def mForLC (C : Store → Prop) (g : MG) (b : MS) (P : MEnds) : List PV → PEnv → Store → Prop
  | [], ρ, μ => C μ ∧ P.nx ρ μ
  | x :: xs, ρ, μ => C μ ∧ g x ρ μ fun ρ1 μ1 => b { P with nx := mForLC C g b P xs, ct := mForLC C g b P xs, bk := P.nx } ρ1 μ1
def mForC (mi : MIC) (g : MG) (b : MS) : MS := fun P ρ μ => mi ρ μ fun xs C μ1 => mForLC C g b P xs ρ μ1
instance {wi mi g mg s tb mb} [hi : FC K wi mi] [hg : FG K g mg s] [hb : FS K tb mb] : FS K (tFor wi g tb) (mForC mi mg mb) := ⟨fun d σ H ρ μ P D w e q l => by
  refine hi.run d σ H ρ μ _ _ w e q fun d1 H1 μ1 J xs C e1 w1 it q1 => ?_
  refine ⟨fun i m σ' H' => ∃ d' ρ' μ', Ext d1 H1 d' H' ∧ WOk K d' H' μ' ∧ REnv K d' H' ρ' σ' ∧ i + m = xs.length ∧ mForLC C mg mb P (xs.drop i) ρ' μ', ⟨xs.length, d1, ρ, μ1, .refl, w1, e.mono e1, by omega, by simpa using q1⟩, fun i m σ' H' hW => ?_⟩
  obtain ⟨d2, ρ2, μ2, e2, w2, ee2, em, q2⟩ := hW
  have hC : C μ2 := by
    cases h : xs.drop i with
    | nil => rw [h] at q2; exact q2.1
    | cons x r => rw [h] at q2; exact q2.1
  obtain ⟨itg, its⟩ := it d1 d2 H' μ2 ⟨rfl, fun _ h => .inl h⟩ e2 w2 hC
  cases hx : xs[i]? with
  | none =>
    have hle : xs.length ≤ i := List.getElem?_eq_none_iff.mp hx
    rw [List.drop_of_length_le hle] at q2
    exact .inl ⟨its i hle, l.nx d2 σ' H' ρ2 μ2 (e1.trans e2) w2 ee2 q2.2⟩
  | some x =>
    have hlt : i < xs.length := (List.getElem?_eq_some_iff.mp hx).1
    rw [drop_cons hx] at q2
    obtain ⟨go, yl⟩ := itg i x hx
    refine .inr ⟨go, fun σ3 H3 => ∃ d' ρ' μ', Ext d1 H1 d' H3 ∧ WOk K d' H3 μ' ∧ REnv K d' H3 ρ' σ3 ∧ mForLC C mg mb P (xs.drop (i + 1)) ρ' μ', fun σ3 H3 hN => ?_, fun v H3 hy => ?_⟩
    · obtain ⟨d3, ρ3, μ3, a1, a2, a3, a4⟩ := hN
      exact ⟨m - 1, by omega, d3, ρ3, μ3, a1, a2, a3, by omega, a4⟩
    · obtain ⟨ey, wy, ry⟩ := yl v H3 hy
      refine hg.run d2 σ' H3 ρ2 μ2 x v _ _ wy (ee2.mono ey) ry q2.2 fun d4 σ4 H4 ρ4 μ4 e4 w4 ee4 _ _ q4 => ?_
      have E4 : Ext d H d4 H4 := ((e1.trans e2).trans ey).trans e4
      have E4' : Ext d1 H1 d4 H4 := (e2.trans ey).trans e4
      exact hb.run d4 σ4 H4 ρ4 μ4 _ _ w4 ee4 q4
        ⟨fun d5 σ5 H5 ρ5 μ5 e5 w5 ee5 q5 => ⟨d5, ρ5, μ5, E4'.trans e5, w5, ee5, q5⟩, fun d5 H5 μ5 x v e5 => l.rt d5 H5 μ5 x v (E4.trans e5),
         fun d5 σ5 H5 ρ5 μ5 e5 => l.nx d5 σ5 H5 ρ5 μ5 (E4.trans e5), fun d5 σ5 H5 ρ5 μ5 e5 w5 ee5 q5 => ⟨d5, ρ5, μ5, E4'.trans e5, w5, ee5, q5⟩⟩⟩
def mLcLC (C : Store → Prop) (g : MG) (c : MT) (e : ME) (ρ0 : PEnv) (P : List PV → Store → Prop) : List PV → List PV → Store → Prop
  | [], acc, μ => C μ ∧ P acc μ
  | x :: xs, acc, μ => C μ ∧ g x ρ0 μ fun ρ1 μ1 => c ρ1 μ1 fun b μ2 => if b = true then e ρ1 μ2 fun y μ3 => mLcLC C g c e ρ0 P xs (acc ++ [y]) μ3 else mLcLC C g c e ρ0 P xs acc μ2
theorem mLcLC_C {C : Store → Prop} {g : MG} {c : MT} {e : ME} {ρ0 : PEnv} {P : List PV → Store → Prop} {xs acc : List PV} {μ : Store} (h : mLcLC C g c e ρ0 P xs acc μ) : C μ := by
  cases xs <;> exact h.1
theorem lc_runC {wi mi g mg s tt mt te me} {vs : List Nat} [hi : FC K wi mi] [hg : FG K g mg s] [hc : FT K tt mt] [he : FE K te me] {σ : L2.St} {ρ : PEnv} {P : List PV → Store → Prop} {Q : VK} (w : WOk K d H μ) (e : REnv K d H ρ σ) (hs : ∀ i ∈ s, i ∈ vs)
    (q : mi ρ μ fun xs C μ1 => xs.length ≤ lim ∧ mLcLC C mg mt me (wipeP ρ vs) P xs [] μ1)
    (fin : ∀ (d1 : Wd) (H1 : Hp) (D : Addr) (dB : Wd) (H' : Hp) (μ' : Store) (acc : List PV) (avs : List V), Ext d H d1 H1 → H1 D = none → D ∉ d1.ban → Ext ⟨d1.am, D :: d1.ban⟩ H1 dB H' → WOk K dB H' μ' → H' D = some (.lst avs) → RVs K dB H' acc avs → P acc μ' → Q (.ref D) H') :
    tLc wi g tt te vs σ H Q := by
  refine hi.run d σ H ρ μ _ _ w e q fun d1 H1 μ1 J xs C e1 w1 it ⟨hz, q1⟩ => ?_
  intro D hD
  have bD : Bars d1 ⟨d1.am, D :: d1.ban⟩ H1 := ⟨rfl, fun x q => (List.mem_cons.mp q).elim (fun z => .inr (by rw [z]; exact hD)) .inl⟩
  have envB : REnv K ⟨d1.am, D :: d1.ban⟩ H1 (wipeP ρ vs) (wipe σ vs) := ((e.mono e1).bars bD).wipe vs
  have lay0 : Ext ⟨d1.am, D :: d1.ban⟩ H1 ⟨d1.am, D :: d1.ban⟩ (upd H1 D (.lst [])) := ⟨⟨[], by simp, fun p hp => by simp at hp⟩, rfl, fun b u e _ => by rw [upd_ne (ne_of_none e hD)]; exact e⟩
  refine ⟨fun i m H' => ∃ dB μ' acc avs, Ext ⟨d1.am, D :: d1.ban⟩ H1 dB H' ∧ WOk K dB H' μ' ∧ H' D = some (.lst avs) ∧ RVs K dB H' acc avs ∧ i + m = xs.length ∧ acc.length ≤ i ∧ mLcLC C mg mt me (wipeP ρ vs) P (xs.drop i) acc μ',
    ⟨xs.length, _, μ1, [], [], lay0, w1.barD hD, upd_same, .nil, by omega, Nat.le_refl _, by simpa using q1⟩, fun i m H' hW => ?_⟩
  obtain ⟨dB, μ', acc, avs, eB, wB, hDv, rA, em, hal, q2⟩ := hW
  have hDban : D ∈ dB.ban := by rw [eB.ban]; exact List.mem_cons_self
  obtain ⟨itg, its⟩ := it _ dB H' μ' bD eB wB (mLcLC_C q2)
  cases hx : xs[i]? with
  | none =>
    have hle : xs.length ≤ i := List.getElem?_eq_none_iff.mp hx
    rw [List.drop_of_length_le hle] at q2
    exact .inl ⟨its i hle, fin d1 H1 D dB H' μ' acc avs e1 hD (w1.notban hD) eB wB hDv rA q2.2⟩
  | some x =>
    have hlt : i < xs.length := (List.getElem?_eq_some_iff.mp hx).1
    rw [drop_cons hx] at q2
    obtain ⟨go, yl⟩ := itg i x hx
    refine .inr ⟨go, fun H3 => ∃ dB μ' acc avs, Ext ⟨d1.am, D :: d1.ban⟩ H1 dB H3 ∧ WOk K dB H3 μ' ∧ H3 D = some (.lst avs) ∧ RVs K dB H3 acc avs ∧ acc.length ≤ i + 1 ∧ mLcLC C mg mt me (wipeP ρ vs) P (xs.drop (i + 1)) acc μ', fun H3 hN => ?_, fun v H3 hy => ?_⟩
    · obtain ⟨a1, a2, a3, a4, a5, a6, a7, a8, a9, a10⟩ := hN
      exact ⟨m - 1, by omega, a1, a2, a3, a4, a5, a6, a7, a8, by omega, a9, a10⟩
    · obtain ⟨ey, wy, ry⟩ := yl v H3 hy
      refine hg.run dB (wipe σ vs) H3 (wipeP ρ vs) μ' x v _ _ wy (envB.mono (eB.trans ey)) ry q2.2 fun d4 σ4 H4 ρ4 μ4 e4 w4 ee4 hl4 hs4 q4 => ⟨wipe_same hl4 hs4 hs, ?_⟩
      refine hc.run d4 σ4 H4 ρ4 μ4 _ _ w4 ee4 q4 fun d5 H5 μ5 b e5 w5 q5 => ?_
      have nD : D ∉ dB.am := (wB.ban D hDban).2
      have E5 : Ext dB H' d5 H5 := (ey.trans e4).trans e5
      cases b
      · exact ⟨d5, μ5, acc, avs, eB.trans E5, w5, E5.keep _ _ hDv nD, rA.mono E5, by omega, q5⟩
      · refine he.run d5 σ4 H5 ρ4 μ5 _ _ w5 (ee4.mono e5) q5 fun d6 H6 μ6 y u e6 w6 r6 q6 => ?_
        have E6 : Ext dB H' d6 H6 := E5.trans e6
        have hD6 : H6 D = some (.lst avs) := E6.keep _ _ hDv nD
        have ban6 : D ∈ d6.ban := by rw [E6.ban]; exact hDban
        have rA6 := (rA.mono E6).append (.cons r6 .nil)
        refine ⟨avs, hD6, by rw [← rA.length]; exact lim_lt' (by omega), d6, μ6, acc ++ [y], avs ++ [u], ?_, w6.made ban6 (no_tup hD6), upd_same, rA6.made ban6 (no_tup hD6), by rw [List.length_append]; simp; omega, q6⟩
        have E7 := eB.trans E6
        exact ⟨E7.am, E7.ban, fun b o hb hn => by rw [upd_ne (ne_of_none hb hD)]; exact E7.keep b o hb hn⟩
def mLcC (mi : MIC) (g : MG) (c : MT) (e : ME) (s vs : List Nat) : ME := fun ρ μ P => (∀ i ∈ s, i ∈ vs) ∧ mi ρ μ fun xs C μ1 => xs.length ≤ lim ∧ mLcLC C g c e (wipeP ρ vs) (fun acc μ2 => P (.lst acc) μ2) xs [] μ1
instance {wi mi g mg s tt mt te me vs} [hi : FC K wi mi] [hg : FG K g mg s] [hc : FT K tt mt] [he : FE K te me] : FE K (tLc wi g tt te vs) (mLcC mi mg mt me s vs) := ⟨fun d σ H ρ μ P Q w e q k => by
  refine lc_runC w e q.1 q.2 fun d1 H1 D dB H' μ' acc avs e1 hD hDn eB w' hv r p => ?_
  obtain ⟨x1, x2, x3⟩ := lc_frozen e1 hD hDn eB w' hv r
  exact k _ H' μ' _ _ x1 x2 x3 p⟩
end
section
variable {α : Type} {g : MG} {c : MT} {e : ME} {ρ0 : PEnv} {P : List PV → Store → Prop} {C : Store → Prop}
/-- a comprehension by what holds of the list so far and the store -/
theorem lc_any {enc : α → PV} (I : List α → List PV → Store → Prop) : ∀ {l done : List α} {acc : List PV} {μ : Store}, I done acc μ → (∀ pre a post acc μ, done ++ l = pre ++ a :: post → I pre acc μ → ∀ N : List PV → Store → Prop, (∀ acc μ, I (pre ++ [a]) acc μ → N acc μ) →
      g (enc a) ρ0 μ fun ρ1 μ1 => c ρ1 μ1 fun b μ2 => if b = true then e ρ1 μ2 (fun y μ3 => N (acc ++ [y]) μ3) else N acc μ2) → (∀ acc μ, I (done ++ l) acc μ → P acc μ) → mLcL g c e ρ0 P (l.map enc) acc μ
  | [], done, acc, μ, h0, _, hP => hP acc μ (by simpa using h0)
  | a :: l, done, acc, μ, h0, hs, hP => by
    have e1 : done ++ a :: l = (done ++ [a]) ++ l := by simp
    show g (enc a) ρ0 μ fun ρ1 μ1 => c ρ1 μ1 fun b μ2 => if b = true then e ρ1 μ2 (fun y μ3 => mLcL g c e ρ0 P (l.map enc) (acc ++ [y]) μ3) else mLcL g c e ρ0 P (l.map enc) acc μ2
    exact hs done a l acc μ rfl h0 (fun acc μ => mLcL g c e ρ0 P (l.map enc) acc μ) fun acc μ h => lc_any I (done := done ++ [a]) h (fun pre b post acc μ e2 => hs pre b post acc μ (by rw [e1]; exact e2)) fun acc μ h => hP acc μ (by rw [e1]; exact h)
theorem lcC_map {enc out : α → PV} {μ : Store} (hC : C μ) : ∀ {l : List α} {acc : List PV}, (∀ a ∈ l, ∀ k : PV → Store → Prop, k (out a) μ → g (enc a) ρ0 μ fun ρ1 μ1 => e ρ1 μ1 k) → P (acc ++ l.map out) μ → mLcLC C g mYes e ρ0 P (l.map enc) acc μ
  | [], acc, _, hP => by simpa [mLcLC, hC] using hP
  | a :: l, acc, h, hP => by
    refine ⟨hC, ?_⟩
    show g (enc a) ρ0 μ fun ρ1 μ1 => e ρ1 μ1 fun y μ3 => mLcLC C g mYes e ρ0 P (l.map enc) (acc ++ [y]) μ3
    exact h a List.mem_cons_self _ (lcC_map hC (fun b hb => h b (List.mem_cons_of_mem _ hb)) (by simpa using hP))
end
end Fx

/-! Fx15: the law's end. -/
namespace Fx
open PySem PySem.Spec PyProof.Rows L2 RZ
theorem fun_uniq {K : PySem.W.Frag} {x qual : Str} {st : Stmt} {f : Addr} {fd fd' : FuncData} (F : Fun K x qual st f fd) (F' : Fun K x qual st f fd') : fd = fd' := by
  obtain ⟨oc, od, kV, doc, pm, an, cdv, ct, osl, e, lk, hcd⟩ := F.ex
  obtain ⟨oc', od', kV', doc', pm', an', cdv', ct', osl', e', lk', hcd'⟩ := F'.ex
  rw [lk] at lk'
  injection lk' with h
  injection h with h1 h2 h3
  injection h3
theorem law_fin {P : Program} {w : World} {K : PySem.W.Frag} {mg : Str → Option Value} {k n : Nat} {st : Stmt} {fa : Addr} {ps : Str} {S : PSp} (hfa : mg "law" = some (.ref fa)) (o : Own K mg "law" st)
    (hb : ∀ (kV doc pm : Value) (an : Option Addr) (cdv ct : Value) (s : Shared) (u : Value), BindsTo s (PySem.W.fnOf "law" "law" (defArgs st) (defBody st) (defScope st) .none kV doc pm an cdv ct) ⟨[u], []⟩ [(ps, u)])
    (ok : ∀ base : Heap, K.In base → base.Ns mainGlobals mg → Ok P w K mg base k "law" st [ps] S) (hS : ∀ xs μ Q, lawS n xs μ Q → S xs μ Q) :
    ∃ fd : FuncData, (∀ (s : Shared) (u : Value), BindsTo s fd ⟨[u], []⟩ [(ps, u)]) ∧ ∀ base : Heap, K.In base → base.Ns mainGlobals mg → FnG P w K mg base k fa fd [ps] (lawS n) := by
  obtain ⟨f, fd, F, e⟩ := o
  rw [hfa] at e
  cases e
  obtain ⟨oc, od, kV, doc, pm, an, cdv, ct, osl, ef, lk, hcd⟩ := F.ex
  refine ⟨fd, fun s u => by rw [ef]; exact hb kV doc pm an cdv ct s u, fun base hK hg => ?_⟩
  obtain ⟨f', fd', F', e', b', G'⟩ := ok base hK hg
  rw [hfa] at e'
  cases e'
  have := fun_uniq F F'
  subst this
  exact G'.imp hS
theorem own_mk {K : PySem.W.Frag} {h : Heap} {mg : Str → Option Value} {x : Str} {st : Stmt} {f : Addr} {od an : Option Addr} {sl : Array (Option Value)} {oc kV dc pm cd ct : Value} (X : K.In h) (G : h.Ns mainGlobals mg)
    (a : PySem.W.nsIn K mainGlobals x = some (some (.ref f))) (l : K.lookup f = some ⟨oc, od, .func (PySem.W.fnOf x x (defArgs st) (defBody st) (defScope st) .none kV dc pm an cd ct), sl⟩) (c : PySem.W.codeIn K cd x = true) (k : PySem.W.keepIn K (.ref f) = true) : Own K mg x st :=
  ⟨f, _, fun_mk l c k, PySem.W.mg_of X G a⟩
theorem blt_mk {K : PySem.W.Frag} {h : Heap} {mg : Str → Option Value} (X : K.In h) (G : h.Ns mainGlobals mg) (z : ∀ x ∈ names0, PySem.W.nsIn K mainGlobals x = some none) : Blt mg := fun x hx => PySem.W.mg_none_of X G (z x hx)
end Fx

/-! Fx16: sorted(set(t)), t a tuple of numbers. -/
namespace Fx
open PySem PySem.Spec PyProof.Rows L2 RZ
def tSortSet (K : PySem.W.Frag) (te : TE) : TE := fun σ H Q => te σ H fun v H1 => ∃ (p : Addr) (ns : List Int), v = .ref p ∧ SqT K H1 p (ns.map V.int) ∧ ns.length < 63 ∧
  ∀ (ms : List Int) (q : Addr), ms.Pairwise (· < ·) → (∀ k : Int, k ∈ ms ↔ k ∈ ns) → H1 q = none → Q (.ref q) (upd H1 q (.lst (ms.map V.int)))
theorem pe_sortSet {X : Cx} {a : Expr} {te : TE} {p p2 q pos : Pos} (hc : X.calm = true) (hg : Gl X "sorted") (hm : X.mg "sorted" = none) (hg2 : Gl X "set") (hm2 : X.mg "set" = none) (ha : PE X a te)
    (na : starEach [a] X.env = (false, eval a X.env) :: starEach [] X.env := by rfl) : PE X (.Call (.Name "sorted" p) [.Call (.Name "set" p2) [a] [] q] [] pos) (tSortSet X.K te) := by
  refine ⟨fun pins s σ H Q I h => ?_⟩
  refine wpAny_Call_Name_kw (ld_blt I hg hm boot_sorted ?_)
  refine PyProof.Rows.callWith_builtin1 (PyProof.Rows.args_cons ?_ rfl) rfl rfl
  refine wpAny_Call_Name_kw (ld_blt I hg2 hm2 boot_set ?_)
  refine PyProof.Rows.callWith_type1 (PyProof.Rows.args_cons (thn (ha.run pins s σ H _ I h) fun v s1 ⟨x, H1, I1, r1, q1⟩ => PyProof.Rows.args_nil ?_) na) na rfl
  obtain ⟨t, ns, rfl, hq, hl, q1⟩ := q1
  cases r1
  obtain ⟨its, rv, pt, hz⟩ := I1.tuple hq
  have hi : IntsAre its.toArray.toList ns := ints_of_vals rv
  have hd := I1.ok.hd hc
  refine call_set_tupI ns hd (show s1.heap.IsTuple t its.toArray from pt) hi (by unfold scanBound; omega) fun h' tk c R1 hcn k => ?_
  refine PyProof.Rows.args_nil ?_
  have hlt : s1.heap.objs.size < h'.objs.size := by
    have ⟨o, _, _, _, ho, _⟩ := R1
    exact Heap.lt_size ho
  refine sorted_set (s := { s1 with heap := h', toks := tk }) R1 hd (by omega) fun s' p out c2 ms k2 g o hp hg hi2 hs hm hln => ?_
  have hlen : (ms.map V.int).length ≤ sizeLine := by rw [List.length_map, hln, sizeLine_eq]; omega
  have hp' : s1.heap.objs.size ≤ p := Nat.le_trans (Nat.le_of_lt hlt) hp
  have hn : H1 p = none := I1.hok.fresh hp'
  have kall : ∀ b u, s1.heap.get? b = some u → s'.heap.get? b = some u := fun b u e => k2 b u (k b u e)
  have J : Inv X pins σ (upd H1 p (.lst (ms.map V.int))) { s1 with heap := s'.heap, gens := s'.gens, drawn := s'.drawn, toks := s'.toks } :=
    I1.call (ch := []) (Un.laid kall hp' hn) (I1.hok.laid kall hp' ⟨hlen, out.toList, c2, vals_of_ints hi2, hg⟩) (by rw [g]; exact I1.bare) (fun _ z => nomatch z)
  have e : s' = { s1 with heap := s'.heap, gens := s'.gens, drawn := s'.drawn, toks := s'.toks } := by
    cases s'
    cases s1
    cases o
    rfl
  rw [e]
  exact ⟨.ref p, _, J, rfl, q1 ms p hs (fun k => by rw [hm k, decide_eq_true_eq]) hn⟩
section
variable {K : PySem.W.Frag}
def mSortSet (m : ME) : ME := fun ρ μ P => m ρ μ fun x μ1 => match x with | .tup ys => (match intsP ys with | some ns => ns.length < 63 ∧ ∀ ms : List Int, ms.Pairwise (· < ·) → (∀ k : Int, k ∈ ms ↔ k ∈ ns) → P (.lst (ms.map PV.int)) μ1 | none => False) | _ => False
instance {t m} [h : FE K t m] : FE K (tSortSet K t) (mSortSet m) := ⟨fun d σ H ρ μ P Q w e q k => by
  refine h.run d σ H ρ μ _ _ w e q fun d1 H1 μ1 x v e1 w1 r1 q1 => ?_
  match x, r1, q1 with
  | .tup ys, .tup (a := a) (vs := vs) h1 h2, q1 =>
    simp only at q1
    cases e2 : intsP ys with
    | none => rw [e2] at q1; exact q1.elim
    | some ns =>
      rw [e2] at q1
      have ev := RVs.ints_of h2 (intsP_of e2)
      subst ev
      exact ⟨a, ns, rfl, h1.sq, q1.1, fun ms q hs hm hq => k d1 _ μ1 _ _ (e1.trans (Ext.lay w1 hq)) (w1.lay hq) (lay_lst w1 (RVs.of_ints ms) hq) (q1.2 ms hs hm)⟩⟩
end
theorem eqP_ints (L M : List Int) (μ : Store) : eqP (.lst (L.map PV.int)) (.lst (M.map PV.int)) μ = (match SeqAt.shaped (.list (L.map PyData.int)), SeqAt.shaped (.list (M.map PyData.int)) with | true, true => some (PyData.eqv (.list (L.map PyData.int)) (.list (M.map PyData.int))) | _, _ => none) := by
  have d : ∀ L : List Int, datPs (L.map PV.int) = some (L.map PyData.int) := fun L => by
    induction L with
    | nil => rfl
    | cons x xs ih => simp [datPs, datP, ih]
  unfold eqP
  simp only [scalP, frzP, datP, d, Option.map_some]
  cases SeqAt.shaped (.list (L.map PyData.int)) <;> cases SeqAt.shaped (.list (M.map PyData.int)) <;> simp
/-- two rising lists of the same numbers -/
theorem rising_eq : ∀ {L M : List Int}, L.Pairwise (· < ·) → M.Pairwise (· < ·) → (∀ k, k ∈ L ↔ k ∈ M) → L = M
  | [], M, _, _, h => by
    cases M with
    | nil => rfl
    | cons m M => exact absurd ((h m).mpr List.mem_cons_self) (by simp)
  | l :: L, [], _, _, h => absurd ((h l).mp List.mem_cons_self) (by simp)
  | l :: L, m :: M, hl, hm, h => by
    rw [List.pairwise_cons] at hl hm
    have e : l = m := by
      rcases List.mem_cons.mp ((h l).mp List.mem_cons_self) with z | z
      · exact z
      · have h1 := hm.1 l z
        rcases List.mem_cons.mp ((h m).mpr List.mem_cons_self) with y | y
        · exact y.symm
        · have := hl.1 m y
          omega
    subst e
    rw [rising_eq hl.2 hm.2 fun k => ?_]
    constructor
    · intro hk
      rcases List.mem_cons.mp ((h k).mp (List.mem_cons_of_mem _ hk)) with z | z
      · have := hl.1 k hk; omega
      · exact z
    · intro hk
      rcases List.mem_cons.mp ((h k).mpr (List.mem_cons_of_mem _ hk)) with z | z
      · have := hm.1 k hk; omega
      · exact z
end Fx

/-! Fx17: t[::-1] of a tuple. -/
namespace Fx
open PySem PySem.Spec PyProof.Rows L2 RZ
section
variable {prog : Program} {w : World} {A : Around} {E : Value → Shared → Prop} {s : Shared}
theorem applied_rev {sl : Addr} {vs : Value} {n : Nat} {Q : Int × Int × Nat → Shared → Prop} (hs : s.heap.IsSliceOf sl .none .none vs) (ps : IsPart vs (some (-1)))
    (h : Q ((n : Int) - 1, -1, n) s) : wpAny (model prog w) A (Builtin.Slice.sliceApplied (.ref sl) (pure (n : Int))) Q E s := by
  obtain ⟨os, hos, hcs, hds⟩ := id hs
  unfold Builtin.Slice.sliceApplied Builtin.Slice.sliceFields
  refine wpAny_bind (wpAny_bind (wpAny_field hos hds (x := .none) rfl (wpAny_bind (wpAny_field hos hds (x := .none) rfl (wpAny_bind (wpAny_field hos hds (x := vs) rfl (wpAny_pure ?_)))))))
  refine wpAny_bind (HT.slicePart_ ps ?_)
  show wpAny _ _ (if ((-1 : Int) == 0) = true then _ else _) _ _ s
  rw [if_neg (by decide)]
  refine wpAny_bind (HT.slicePart_ .none (wpAny_bind (HT.slicePart_ .none (wpAny_bind (wpAny_pure ?_)))))
  have e : Builtin.Slice.slicePlaces ((n : Int) - 1) (-1) (-1) = n := by
    unfold Builtin.Slice.slicePlaces
    rw [if_neg (by decide)]
    by_cases h : n = 0
    · subst h; rfl
    · rw [if_pos (by omega)]
      have : (- -1 : Int) = 1 := rfl
      rw [this, Int.ediv_one]
      omega
  show wpAny _ _ (pure ((n : Int) - 1, (-1 : Int), Builtin.Slice.slicePlaces ((n : Int) - 1) (-1) (-1))) _ _ s
  rw [e]
  exact wpAny_pure h
theorem fm_congr {α β : Type} {f g : α → Option β} : ∀ {l : List α}, (∀ a, a ∈ l → f a = g a) → l.filterMap f = l.filterMap g
  | [], _ => rfl
  | a :: l, h => by rw [List.filterMap_cons, List.filterMap_cons, h a List.mem_cons_self, fm_congr fun b hb => h b (List.mem_cons_of_mem _ hb)]
theorem pick_rev (xs : List Value) : ((List.range xs.length).filterMap fun (k : Nat) => xs.toArray[((xs.length : Int) - 1 + (k : Int) * -1).toNat]?) = xs.reverse := by
  have e : ∀ k, k ∈ List.range xs.length → xs.toArray[((xs.length : Int) - 1 + (k : Int) * -1).toNat]? = xs.reverse[k]? := fun k hk => by
    have hk' := List.mem_range.mp hk
    have : ((xs.length : Int) - 1 + (k : Int) * -1).toNat = xs.length - 1 - k := by omega
    rw [this, List.getElem?_reverse hk']
    simp
  rw [fm_congr e]
  have : ∀ (ys : List Value), (List.range ys.length).filterMap (fun k => ys[k]?) = ys := by
    intro ys
    induction ys with
    | nil => rfl
    | cons y ys ih =>
      rw [List.length_cons, List.range_succ_eq_map, List.filterMap_cons]
      simp only [List.getElem?_cons_zero, List.filterMap_map]
      congr 1
  have h := this xs.reverse
  rw [List.length_reverse] at h
  exact h
theorem getItem_tuple_rev {t sl : Addr} {items : List Value} {vs : Value} {Q : Value → Shared → Prop} (ht : IsTup s.heap t items.toArray) (hs : s.heap.IsSliceOf sl .none .none vs) (ps : IsPart vs (some (-1)))
    (h : Q (.ref s.heap.objs.size) { s with heap := s.heap.push { cls := .type "tuple", data := .seq items.reverse.toArray } }) (hsz : items.length ≤ sizeLine) : wpAny (model prog w) A (getItem (.ref t) (.ref sl)) Q E s := by
  have hok : sizeOk (.seq items.reverse.toArray) := by
    show items.reverse.toArray.size ≤ sizeLine
    rw [List.size_toArray, List.length_reverse]; exact hsz
  obtain ⟨os, hos, hcs, hds⟩ := id hs
  have hTs : s.TypeIs (.ref sl) "slice" := ⟨os, hos, hcs⟩
  unfold getItem; try with_reducible refine wpAny_holding ?_
  first | refine wpAny_bind (wpAny_pure ?_) | skip
  refine wpAny_bind (wpAny_sequenceKey (ht.typeIs) (by decide) (wpAny_bind (wpAny_callSpecial?_slot (name := Str.ofString "__getitem__") ht.typeIs PyProof.Rows.slot_tuple_getitem (wpAny_call_entry PyProof.Rows.slot_tuple_getitem ht.typeIs PyProof.Rows.entry_tuple_getitem ?_ (PyProof.Rows.args_tuple_getitem _ _)))))
  show wpAny _ _ ((Builtin.Tuple.tupleItemsOf (.ref t)) >>= _) _ _ s
  refine wpAny_bind (PyProof.Rows.tupleItemsOf_ ht (wpAny_bind (wpAny_typeOf hTs ?_)))
  rw [if_pos (by decide), List.size_toArray]
  refine wpAny_bind (applied_rev hs ps ?_)
  have hno : ¬ ((((items.length : Int) - 1) == 0 && (-1 : Int) == 1 && items.length == items.length) = true) := by
    intro q
    simp at q
  show wpAny _ _ (if (((items.length : Int) - 1) == 0 && (-1 : Int) == 1 && items.length == items.toArray.size) = true then _ else _) _ _ s
  rw [List.size_toArray, if_neg hno, pick_rev]
  exact (wpAny_bind (m := Builtin.Tuple.tupleExact _) ((wpAny_newObj_type (wpAny_pure ⟨_, rfl, wpAny_pure h⟩) hok)))
end
def tRevT (K : PySem.W.Frag) (te : TE) : TE := fun σ H Q => te σ H fun x H1 => ∃ a xs, x = .ref a ∧ SqT K H1 a xs ∧ ∀ p, H1 p = none → Q (.ref p) (upd H1 p (.tup xs.reverse))
theorem pe_revT {X : Cx} {e : Expr} {te : TE} {k : Nat} {p1 p2 p3 pos : Pos} (he : PE X e te) : PE X (.Subscript e (.Slice none none (some (.UnaryOp .USub (.Constant (.int 1) k p1) p2)) p3) pos) (tRevT X.K te) := by
  refine ⟨fun pins s σ H Q I h => ?_⟩
  refine Subscript_ (thn (he.run pins s σ H _ I h) fun v s1 ⟨x, H1, I1, r1, a, xs, ex, hx, q⟩ => ?_)
  subst ex
  cases r1
  have hst : PO X (some (.UnaryOp .USub (.Constant (.int 1) k p1) p2)) (tPart (tUn (rU fun i => .int (-i)) (tC (.int 1)))) := po_some (pe_un un_neg pe_int)
  refine wpAny_Slice (thn (po_none.run pins s1 σ H1 (fun o H2 => o = none ∧ H2 = H1) I1 ⟨rfl, rfl⟩) fun vl s2 ⟨l, H2, I2, pl, el, e2⟩ => ?_)
  subst el e2
  refine thn (po_none.run pins s2 σ H2 (fun o H3 => o = none ∧ H3 = H2) I2 ⟨rfl, rfl⟩) fun vu s3 ⟨u, H3, I3, pu, eu, e3⟩ => ?_
  subst eu e3
  refine thn (hst.run pins s3 σ H3 (fun o H4 => o = some (-1) ∧ H4 = H3) I3 ⟨1, rfl, -1, rfl, rfl, rfl⟩) fun vs s4 ⟨o, H4, I4, ps, eo, e4⟩ => ?_
  subst eo e4
  cases pl
  cases pu
  have I5 : Inv X pins σ H4 { s4 with heap := s4.heap.push { cls := .type "slice", data := .fields #[.none, .none, vs] } } := I4.kept (t' := s4.toks) fun b ob q => Heap.get?_push_of_some _ q
  obtain ⟨its, r, ht, hz⟩ := I5.tuple hx
  have hlen := r.length
  show wpAny (model X.prog X.w) X.A (subscriptTail e (.Slice none none (some (.UnaryOp .USub (.Constant (.int 1) k p1) p2)) p3) (.ref a) (.ref s4.heap.objs.size)) (EP X pins σ Q) X.xe { s4 with heap := s4.heap.push { cls := .type "slice", data := .fields #[.none, .none, vs] } }
  refine tail_any (ops := [.ref a, .ref s4.heap.objs.size]) ht.typeIs (PyProof.Rows.slot_tuple_getitem.lookup) ?_ (by with_unfolding_all rfl)
  refine getItem_tuple_rev ht (Heap.IsSliceOf.new _ .none .none vs) ps ?_ (by omega)
  refine ⟨.ref _, _, I5.laid (t' := s4.toks) (o := .tup xs.reverse) (fun b ob q => Heap.get?_push_of_some _ q) (Nat.le_refl _) ?_, rfl, q _ (I5.hok.fresh (Nat.le_refl _))⟩
  exact ⟨by rw [List.length_reverse]; exact hz, _, r.reverse, IsTup.new _ _⟩
section
variable {K : PySem.W.Frag}
def mRevT (m : ME) : ME := fun ρ μ P => m ρ μ fun x μ1 => match itemsOf x μ1 with | some xs => (match x with | .tup _ => P (.tup xs.reverse) μ1 | _ => False) | none => False
instance {t m} [h : FE K t m] : FE K (tRevT K t) (mRevT m) := ⟨fun d σ H ρ μ P Q w e q k => by
  refine h.run d σ H ρ μ _ _ w e q fun d1 H1 μ1 x v e1 w1 r1 q1 => ?_
  match x, r1, q1 with
  | .tup ys, .tup (a := a) (vs := vs) h1 h2, q1 => exact ⟨a, vs, rfl, h1.sq, fun p hp => k d1 _ μ1 _ _ (e1.trans (Ext.lay w1 hp)) (w1.lay hp) (lay_tup w1 h2.rev hp) q1⟩
  | .lst _, _, q1 => exact q1.elim
  | .kl _, _, q1 => exact q1.elim
  | .mr n, _, q1 => simp only at q1; split at q1 <;> exact q1.elim
  | .non, _, q1 => exact q1.elim
  | .bl _, _, q1 => exact q1.elim
  | .int _, _, q1 => exact q1.elim
  | .str _, _, q1 => exact q1.elim
  | .ty _, _, q1 => exact q1.elim⟩
end
end Fx

/-! Fx18: truth of numbers, repr of anything plain, len and list of a dict, len(set(t)), lists times numbers, an empty dict. -/
namespace Fx
open PySem PySem.Spec PyProof.Rows L2 RZ
def tTruth (K : PySem.W.Frag) (t : TE) : TT := fun σ H Q => t σ H fun x H' => ∃ k, TruV K x H' k ∧ Q k H'
theorem pt_tru {X : Cx} {a : Expr} {ta : TE} (ha : PE X a ta) (he : ∀ whole, isTrue a X.env whole = (do let v ← whole; standAt a.pos; holding [v] (truthy v))) : PT X a (tTruth X.K ta) := pt_truth ha he
section
variable {K : PySem.W.Frag} {d d' : Wd} {H H' : Hp} {a b : Addr} {vs us : List V} {xs ys : List PV} {μ : Store}
def mTruth (m : ME) : MT := fun ρ μ P => m ρ μ fun x μ1 => match x with | .bl b => P b μ1 | .int i => P (i != 0) μ1 | _ => False
instance {t m} [h : FE K t m] : FT K (tTruth K t) (mTruth m) := ⟨fun d σ H ρ μ P Q w e q k => by
  refine h.run d σ H ρ μ _ _ w e q fun d1 H1 μ1 x v e1 w1 r1 q1 => ?_
  match x, r1, q1 with
  | .bl b, .bl _, q1 => exact ⟨b, rfl, k d1 H1 μ1 _ e1 w1 q1⟩
  | .int i, .int _, q1 => exact ⟨_, rfl, k d1 H1 μ1 _ e1 w1 q1⟩⟩
/-! ### repr -/
def reprS : V → Option Str
  | .int i => if i.natAbs.log2 < 1920 then some (toString i : String) else none
  | .bl c => some (if c then "True" else "False" : String)
  | .non => some ("None" : String)
  | _ => none
def rReprA (K : PySem.W.Frag) : List V → Hp → VK → Prop := fun xs H Q => rRepr K xs H Q ∨ ∃ x z, xs = [x] ∧ reprS x = some z ∧ Q (.str z) H
theorem cb_reprA {X : Cx} (hg : X.A.guards = some []) (hu : X.A.units + 64 < cLine) : CallR X (.builtin "repr") (rReprA X.K) := by
  intro pins s σ H vs us Q I r h
  rcases h with h | ⟨x, z, rfl, hz, q⟩
  · exact cb_repr hg hu pins s σ H vs us Q I r h
  · obtain ⟨u, rfl, ru⟩ := vals1 r
    cases x with
    | non =>
      obtain rfl : u = Value.none := ru
      simp only [reprS, Option.some.injEq] at hz
      subst hz
      exact PySem.P.repr_of_none ⟨.str _, H, I.tok _, ⟨_, rfl⟩, q⟩
    | bl c =>
      obtain rfl : u = Value.bool c := ru
      simp only [reprS, Option.some.injEq] at hz
      subst hz
      exact PySem.P.repr_of_bool ⟨.str _, H, I.tok _, ⟨_, by cases c <;> rfl⟩, q⟩
    | int i =>
      obtain ⟨t, rfl⟩ := ru
      unfold reprS at hz
      simp only at hz
      split at hz
      · rename_i hl
        cases hz
        exact PySem.P.repr_of_int hl ⟨.str _, H, I.tok _, ⟨_, rfl⟩, q⟩
      · cases hz
    | _ => exact absurd hz (by simp [reprS])
theorem ckA_repr {X : Cx} (K : PySem.W.Frag) (h : X.K = K) (hg : X.A.guards = some []) (hu : X.A.units + 64 < cLine) : CallR X (.builtin "repr") (rReprA K) := h ▸ cb_reprA hg hu
def pReprA : MB := fun xs μ P => match xs with
  | [x] => (match x with
    | .int i => i.natAbs.log2 < 1920 ∧ P (.str (toString i : String)) μ
    | .bl c => P (.str (if c then "True" else "False" : String)) μ
    | .non => P (.str ("None" : String)) μ
    | y => pRepr [y] μ P)
  | _ => False
instance : FB K (rReprA K) pReprA := ⟨fun d H μ xs vs P Q w r q k => by
  have gen : pRepr xs μ P → rReprA K vs H Q := fun q => .inl (FB.run (p := pRepr) d H μ xs vs P Q w r q k)
  match xs, r, q, gen with
  | [.int i], .cons (.int _) .nil, ⟨hz, q⟩, _ => exact .inr ⟨_, _, rfl, by simp only [reprS]; rw [if_pos hz], k d H μ _ _ .refl w (.str _) q⟩
  | [.bl c], .cons (.bl _) .nil, q, _ => exact .inr ⟨_, _, rfl, rfl, k d H μ _ _ .refl w (.str _) q⟩
  | [], _, q, _ => exact q.elim
  | [.non], .cons .non .nil, q, _ => exact .inr ⟨_, _, rfl, rfl, k d H μ _ _ .refl w (.str _) q⟩
  | [.str _], _, q, gen => exact gen q
  | [.ty _], _, q, gen => exact gen q
  | [.tup _], _, q, gen => exact gen q
  | [.lst _], _, q, gen => exact gen q
  | [.kl _], _, q, gen => exact gen q
  | [.mr _], _, q, gen => exact gen q
  | _ :: _ :: _, _, q, gen => exact q.elim⟩
/-! ### len and list of a dict -/
def rLenD : List V → Hp → VK → Prop := fun xs H Q => ∃ a kvs, xs = [V.ref a] ∧ H a = some (.dK kvs) ∧ Q (.int kvs.length) H
end
theorem cb_lenD {X : Cx} : CallR X (.builtin "len") rLenD := call_lenD
def rLstD : List V → Hp → VK → Prop := rListD
theorem cb_lstD {X : Cx} (hc : X.calm = true) : CallR X (.type "list") rLstD := call_list_dK hc
section
variable {K : PySem.W.Frag} {d d' : Wd} {H H' : Hp} {a b : Addr} {vs us : List V} {xs ys : List PV} {μ : Store}
def dkOfP (x : PV) (μ : Store) : Option (List (Key × PV)) := match x with | .mr n => (match μ[n]? with | some (.dk kvs) => some kvs | _ => none) | _ => none
theorem dk_of {x : PV} {v : V} {kvs : List (Key × PV)} (w : WOk K d H μ) (r : RV K d H x v) (h : dkOfP x μ = some kvs) : ∃ n a ws, x = .mr n ∧ v = .ref a ∧ d.am[n]? = some a ∧ H a = some (.dK ws) ∧ RKs K d H kvs ws := by
  cases r with
  | @mr n a h1 =>
    unfold dkOfP at h
    cases e : μ[n]? with
    | none => simp [e] at h
    | some m =>
      cases m with
      | lst zs => simp [e] at h
      | fd _ _ _ => simp [e] at h
      | dk zs =>
        simp [e] at h
        subst h
        obtain ⟨ws, q, r1, r2⟩ := w.obj h1 e
        exact ⟨n, a, ws, rfl, rfl, h1, q, r1, r2⟩
  | _ => cases h
def pLenD : MB := fun xs μ P => match xs with | [x] => (match dkOfP x μ with | some kvs => P (.int (kvs.length : Nat)) μ | none => False) | _ => False
instance : FB K rLenD pLenD := ⟨fun d H μ xs vs P Q w r q k => by
  match xs, r, q with
  | [x], .cons r .nil, q =>
    unfold pLenD at q
    simp only at q
    cases e : dkOfP x μ with
    | none => rw [e] at q; exact q.elim
    | some kvs =>
      rw [e] at q
      obtain ⟨n, a, ws, rfl, rfl, _, hq, rk⟩ := dk_of w r e
      refine ⟨a, ws, rfl, hq, ?_⟩
      rw [← rk.len]
      exact k d H μ _ _ .refl w (.int _) q⟩
def keyPV : Key → PV
  | .inl i => .int i
  | .inr x => .str x
def pLstD : MB := fun xs μ P => match xs with | [x] => (match dkOfP x μ with | some kvs => P (.lst (kvs.map fun kv => keyPV kv.1)) μ | none => False) | _ => False
theorem keys_rv : ∀ (ks : List Key), RVs K d H (ks.map keyPV) (ks.map kV)
  | [] => .nil
  | .inl i :: ks => .cons (.int i) (keys_rv ks)
  | .inr x :: ks => .cons (.str x) (keys_rv ks)
instance : FB K rLstD pLstD := ⟨fun d H μ xs vs P Q w r q k => by
  match xs, r, q with
  | [x], .cons r .nil, q =>
    unfold pLstD at q
    simp only at q
    cases e : dkOfP x μ with
    | none => rw [e] at q; exact q.elim
    | some kvs =>
      rw [e] at q
      obtain ⟨n, a, ws, rfl, rfl, _, hq, rk⟩ := dk_of w r e
      refine ⟨a, ws, rfl, hq, fun p hp => ?_⟩
      have e1 : (ws.map fun kv => kV kv.1) = (kvs.map (·.1)).map kV := by rw [← rk.1, List.map_map]; rfl
      have e2 : (kvs.map fun kv => keyPV kv.1) = (kvs.map (·.1)).map keyPV := by rw [List.map_map]; rfl
      rw [e1]
      simp only at q
      rw [e2] at q
      exact k d _ μ _ _ (Ext.lay w hp) (w.lay hp) (lay_lst w (keys_rv _) hp) q⟩
/-! ### an empty dict -/
def mDNew : ME := fun _ μ P => P (.mr μ.length) (μ ++ [.dk []])
instance : FE K tDNewK mDNew := ⟨fun d σ H ρ μ P Q w e q k => fun p hp => by
  have ee := Ext.push (o := .dK []) w hp
  exact k (d.push p) _ _ _ _ ee (w.push (m := .dk []) hp ⟨[], upd_same, rfl, .nil⟩) (lay_mr w) q⟩
/-! ### [x] * n -/
def rRepL : R2 := rRep
end
theorem op_repL {X : Cx} : OpR X (binaryOp .Mult) rRepL := op_rep
section
variable {K : PySem.W.Frag} {d d' : Wd} {H H' : Hp} {a b : Addr} {vs us : List V} {xs ys : List PV} {μ : Store}
def pRepL : MO2 := fun x y μ P => match x, y with
  | .lst xs, .int k => (0 ≤ k ∧ k ≤ 1000 ∧ xs.length ≤ 1000) ∧ P (.lst (List.replicate k.toNat xs).flatten) μ
  | _, _ => False
instance : F2 K rRepL pRepL := ⟨fun d H μ x y v u P Q w r1 r2 q k => by
  match x, y, r1, r2, q with
  | .lst xs, .int n, .lst (a := a) (vs := vs) h1 h2, .int _, ⟨⟨z1, z2, z3⟩, q⟩ =>
    refine ⟨a, n, vs, rfl, rfl, h1.1, by omega, by omega, ?_, fun p hp => k d _ μ _ _ (Ext.lay w hp) (w.lay hp) (lay_lst w (RVs.rep h2 _) hp) q⟩
    rw [← h2.length]
    refine Nat.le_trans (Nat.mul_le_mul z3 (show n.toNat ≤ 1000 by omega)) ?_
    rw [sizeLine_eq]; decide⟩
/-! ### len(set(t)) -/
end
def tLenSetN (K : PySem.W.Frag) (te : TE) : TE := fun σ H Q => te σ H fun v H1 => ∃ (p : Addr) (ns : List Int), v = .ref p ∧ SqT K H1 p (ns.map V.int) ∧ ns.length ≤ 4000 ∧
  ∀ ms : List Int, ms.Nodup → (∀ k : Int, k ∈ ms ↔ k ∈ ns) → Q (.int (ms.length : Nat)) H1
theorem pe_lenSetN {X : Cx} {a : Expr} {te : TE} {p p2 q pos : Pos} (hc : X.calm = true) (hg : Gl X "len") (hm : X.mg "len" = none) (hg2 : Gl X "set") (hm2 : X.mg "set" = none) (ha : PE X a te)
    (na : starEach [a] X.env = (false, eval a X.env) :: starEach [] X.env := by rfl) : PE X (.Call (.Name "len" p) [.Call (.Name "set" p2) [a] [] q] [] pos) (tLenSetN X.K te) := by
  refine ⟨fun pins s σ H Q I h => ?_⟩
  refine Call_ (ld_blt I hg hm boot_len ?_)
  refine PyProof.Rows.callWith_builtin1 (PyProof.Rows.args_cons ?_ rfl) rfl rfl
  refine Call_ (ld_blt I hg2 hm2 boot_set ?_)
  refine PyProof.Rows.callWith_type1 (PyProof.Rows.args_cons (thn (ha.run pins s σ H _ I h) fun v s1 ⟨x, H1, I1, r1, q1⟩ => PyProof.Rows.args_nil ?_) na) na rfl
  obtain ⟨t, ns, rfl, hq, hl, q1⟩ := q1
  cases r1
  obtain ⟨its, rv, pt, hz⟩ := I1.tuple hq
  have hi : IntsAre its.toArray.toList ns := ints_of_vals rv
  refine call_set_tupI ns (I1.ok.hd hc) (show s1.heap.IsTuple t its.toArray from pt) hi (by unfold scanBound; omega) fun h' tk c R1 hcn k => ?_
  refine PyProof.Rows.args_nil ?_
  obtain ⟨o, es, ep, st, ho, hex, hd, g, nd, hm', hb, hf, hn, hr, hl'⟩ := R1
  have I2 : Inv X pins σ H1 { s1 with heap := h', toks := tk } := I1.kept k
  have e1 : (es.toList.map keyOf).length = es.size := by rw [List.length_map, Array.length_toList]
  refine call_len_set ho hex hd hf (by omega) ⟨.int (es.size : Nat), H1, I2.tok _, ⟨_, rfl⟩, ?_⟩
  rw [← e1]
  exact q1 _ nd fun j => by rw [← hm' j, decide_eq_true_eq]
section
variable {K : PySem.W.Frag}
def mLenSetN (m : ME) : ME := fun ρ μ P => m ρ μ fun x μ1 => match x with | .tup ys => (match intsP ys with | some ns => ns.length ≤ 4000 ∧ ∀ ms : List Int, ms.Nodup → (∀ k : Int, k ∈ ms ↔ k ∈ ns) → P (.int (ms.length : Nat)) μ1 | none => False) | _ => False
instance {t m} [h : FE K t m] : FE K (tLenSetN K t) (mLenSetN m) := ⟨fun d σ H ρ μ P Q w e q k => by
  refine h.run d σ H ρ μ _ _ w e q fun d1 H1 μ1 x v e1 w1 r1 q1 => ?_
  match x, r1, q1 with
  | .tup ys, .tup (a := a) (vs := vs) h1 h2, q1 =>
    simp only at q1
    cases e2 : intsP ys with
    | none => rw [e2] at q1; exact q1.elim
    | some ns =>
      rw [e2] at q1
      have ev := RVs.ints_of h2 (intsP_of e2)
      subst ev
      exact ⟨a, ns, rfl, h1.sq, q1.1, fun ms hs hm => k d1 H1 μ1 _ _ e1 w1 (.int _) (q1.2 ms hs hm)⟩⟩
end
theorem and_one (i : Int) : Builtin.bitAnd i 1 = i % 2 := bitAnd_m1 i
end Fx

/-! Fx19: dicts walked under a lock, get with a default, is None, repr of None. -/
namespace Fx
open PySem PySem.Spec PyProof.Rows L2 RZ
def tLockV (i : Nat) (t : TS) : TS := tLock t
theorem ps_lockV (i : Nat) {X : Cx} {st : Stmt} {t : TS} (h : PS X st t) : PS X st (tLockV i t) := ps_lock h
def tLockEV (i : Nat) (t : TE) : TE := tLockE t
theorem pe_lockV (i : Nat) {X : Cx} {e : Expr} {t : TE} (h : PE X e t) : PE X e (tLockEV i t) := pe_lock h
section
variable {K : PySem.W.Frag} {d d' : Wd} {H H' : Hp} {a b : Addr} {vs us : List V} {xs ys : List PV} {μ : Store}
theorem lock_in {n : Nat} {kvs : List (Key × PV)} (w : WOk K d H μ) (h1 : d.am[n]? = some a) (h2 : μ[n]? = some (.dk kvs)) :
    ∃ ws, H a = some (.dK ws) ∧ ∀ od, Ext d H d (upd H a (.frz od (.dK ws))) ∧ WOk K d (upd H a (.frz od (.dK ws))) (μ.set n (.fd od ws kvs)) ∧
      ∀ d' H' μ', Ext d (upd H a (.frz od (.dK ws))) d' H' → WOk K d' H' μ' → μ'[n]? = some (.fd od ws kvs) →
        H' a = some (.frz od (.dK ws)) ∧ Ext d H d' (upd H' a (.dK ws)) ∧ Ext d' H' d' (upd H' a (.dK ws)) ∧ WOk K d' (upd H' a (.dK ws)) (μ'.set n (.dk kvs)) := by
  obtain ⟨ws, hq, k1, k2⟩ := w.obj h1 h2
  have ha : a ∈ d.am := List.mem_of_getElem? h1
  refine ⟨ws, hq, fun od => ?_⟩
  have ee : Ext d H d (upd H a (.frz od (.dK ws))) := Ext.chg ha
  refine ⟨ee, w.chg (m := .fd od ws kvs) h1 ⟨upd_same, k1, k2.mono ee⟩, fun d' H' μ' f w' h3 => ?_⟩
  have h4 : d'.am[n]? = some a := f.at h1
  have ha' : a ∈ d'.am := List.mem_of_getElem? h4
  obtain ⟨q1, q2, q3⟩ := w'.obj h4 h3
  have ef : Ext d' H' d' (upd H' a (.dK ws)) := Ext.chg ha'
  exact ⟨q1, (ee.trans f).trans ef, ef, w'.chg (m := .dk kvs) h4 ⟨ws, upd_same, q2, q3.mono ef⟩⟩
def mLockV (i : Nat) (mb : MS) : MS := fun P ρ μ => match ρ[i]? with
  | some (some (.mr n)) => (match μ[n]? with
    | some (.dk kvs) => ∀ o ws, mb { nx := fun ρ' μ' => μ'[n]? = some (.fd o ws kvs) ∧ P.nx ρ' (μ'.set n (.dk kvs)), rt := fun x μ' => μ'[n]? = some (.fd o ws kvs) ∧ P.rt x (μ'.set n (.dk kvs)), bk := fun ρ' μ' => μ'[n]? = some (.fd o ws kvs) ∧ P.bk ρ' (μ'.set n (.dk kvs)), ct := fun ρ' μ' => μ'[n]? = some (.fd o ws kvs) ∧ P.ct ρ' (μ'.set n (.dk kvs)) } ρ (μ.set n (.fd o ws kvs))
    | _ => False)
  | _ => False
instance {i t m} [h : FS K t m] : FS K (tLockV i t) (mLockV i m) := ⟨fun d σ H ρ μ P D w e q l => by
  unfold mLockV at q
  split at q
  · rename_i n e1
    split at q
    · rename_i kvs e2
      obtain ⟨v, hv, r⟩ := e.2 i _ e1
      cases r with
      | @mr _ a h1 =>
        obtain ⟨ws, hq, hin⟩ := lock_in w h1 e2
        refine ⟨a, .dK ws, hq, trivial, fun od => ?_⟩
        obtain ⟨ee, w', back⟩ := hin od
        refine h.run d σ _ ρ _ _ _ w' (e.mono ee) (q od ws) ⟨fun d' σ' H' ρ' μ' f wk er ⟨q1, q2⟩ => ?_, fun d' H' μ' x v f wk rx ⟨q1, q2⟩ => ?_, fun d' σ' H' ρ' μ' f wk er ⟨q1, q2⟩ => ?_, fun d' σ' H' ρ' μ' f wk er ⟨q1, q2⟩ => ?_⟩
        · obtain ⟨b1, b2, b3, b4⟩ := back d' H' μ' f wk q1
          exact ⟨b1, l.nx d' σ' _ ρ' _ b2 b4 (er.mono b3) q2⟩
        · obtain ⟨b1, b2, b3, b4⟩ := back d' H' μ' f wk q1
          exact ⟨b1, l.rt d' _ _ x v b2 b4 (rx.mono b3) q2⟩
        · obtain ⟨b1, b2, b3, b4⟩ := back d' H' μ' f wk q1
          exact ⟨b1, l.bk d' σ' _ ρ' _ b2 b4 (er.mono b3) q2⟩
        · obtain ⟨b1, b2, b3, b4⟩ := back d' H' μ' f wk q1
          exact ⟨b1, l.ct d' σ' _ ρ' _ b2 b4 (er.mono b3) q2⟩
    · exact q.elim
  · exact q.elim⟩
def mLockE (i : Nat) (me : ME) : ME := fun ρ μ P => match ρ[i]? with
  | some (some (.mr n)) => (match μ[n]? with
    | some (.dk kvs) => ∀ o ws, me ρ (μ.set n (.fd o ws kvs)) fun x μ' => μ'[n]? = some (.fd o ws kvs) ∧ P x (μ'.set n (.dk kvs))
    | _ => False)
  | _ => False
instance {i t m} [h : FE K t m] : FE K (tLockEV i t) (mLockE i m) := ⟨fun d σ H ρ μ P Q w e q k => by
  unfold mLockE at q
  split at q
  · rename_i n e1
    split at q
    · rename_i kvs e2
      obtain ⟨v, hv, r⟩ := e.2 i _ e1
      cases r with
      | @mr _ a h1 =>
        obtain ⟨ws, hq, hin⟩ := lock_in w h1 e2
        refine ⟨a, .dK ws, hq, trivial, fun od => ?_⟩
        obtain ⟨ee, w', back⟩ := hin od
        refine h.run d σ _ ρ _ _ _ w' (e.mono ee) (q od ws) fun d' H' μ' x v f wk rx ⟨q1, q2⟩ => ?_
        obtain ⟨b1, b2, b3, b4⟩ := back d' H' μ' f wk q1
        exact ⟨b1, k d' _ _ x v b2 b4 (rx.mono b3) q2⟩
    · exact q.elim
  · exact q.elim⟩
/-! ### walks of a locked dict -/
theorem rks_get {ws : List (Key × V)} : ∀ {kvs : List (Key × PV)} {ws : List (Key × V)}, ws.map (·.1) = kvs.map (·.1) → RVs K d H (kvs.map (·.2)) (ws.map (·.2)) → ∀ (i : Nat) (k : Key) (x : PV), kvs[i]? = some (k, x) → ∃ v, ws[i]? = some (k, v) ∧ RV K d H x v
  | [], _, _, _, i, k, x, h => by simp at h
  | p :: kvs, [], h1, _, _, _, _, _ => by simp at h1
  | p :: kvs, q :: ws, h1, h2, i, k, x, h => by
    simp only [List.map_cons, List.cons.injEq] at h1
    obtain ⟨z1, z2⟩ := h1
    cases h2 with
    | cons r t =>
      cases i with
      | zero =>
        simp at h
        subst h
        exact ⟨q.2, by obtain ⟨q1, q2⟩ := q; simp at z1; subst z1; rfl, r⟩
      | succ i =>
        obtain ⟨v, hv, rv⟩ := rks_get (ws := ws) z2 t i k x (by simpa using h)
        exact ⟨v, by simpa using hv, rv⟩
def mItemsC (m : ME) : MIC := fun ρ μ P => m ρ μ fun x μ1 => match x with | .mr n => (match μ1[n]? with | some (.fd o ws kvs) => P (kvs.map fun kv => .tup [keyPV kv.1, kv.2]) (fun μ2 => μ2[n]? = some (.fd o ws kvs)) μ1 | _ => False) | _ => False
def mKeysC (m : ME) : MIC := fun ρ μ P => m ρ μ fun x μ1 => match x with | .mr n => (match μ1[n]? with | some (.fd o ws kvs) => P (kvs.map fun kv => keyPV kv.1) (fun μ2 => μ2[n]? = some (.fd o ws kvs)) μ1 | _ => False) | _ => False
theorem key_rv (k : Key) : RV K d H (keyPV k) (kV k) := by
  cases k with
  | inl i => exact .int i
  | inr x => exact .str x
theorem fd_len {ws : List (Key × V)} {kvs : List (Key × PV)} (h : ws.map (·.1) = kvs.map (·.1)) : ws.length = kvs.length := by
  have := congrArg List.length h
  simpa using this
instance {t m} [h : FE K t m] : FC K (iItems t) (mItemsC m) := ⟨fun d σ H ρ μ P R w e q k => by
  refine h.run d σ H ρ μ _ _ w e q fun d1 H1 μ1 x v e1 w1 r1 q1 => ?_
  cases r1 with
  | @mr n a h1 =>
    simp only at q1
    split at q1
    · rename_i o ws kvs e2
      obtain ⟨hq, k1, k2⟩ := w1.obj h1 e2
      refine ⟨a, o, ws, rfl, hq, k d1 H1 μ1 _ _ _ e1 w1 (fun d2 d3 H3 μ3 bb ee w3 hC => ?_) q1⟩
      have h3 : d3.am[n]? = some a := ee.at (by rw [bb.1]; exact h1)
      obtain ⟨hq3, k3, k4⟩ := w3.obj h3 hC
      refine ⟨fun i x hx => ?_, fun i hi => ⟨hq3, by rw [fd_len k3]; simpa using hi⟩⟩
      have hi : i < kvs.length := by simpa using (List.getElem?_eq_some_iff.mp hx).1
      refine ⟨⟨hq3, by rw [fd_len k3]; exact hi⟩, fun u H4 hy => ?_⟩
      obtain ⟨T, kk, v, hv, rfl, hT, rfl⟩ := hy
      rw [List.getElem?_map, List.getElem?_eq_getElem hi] at hx
      have hx := Option.some.inj hx
      obtain ⟨v', hv', rv⟩ := rks_get (ws := ws) k3 k4 i _ _ (List.getElem?_eq_getElem hi)
      rw [hv'] at hv
      simp only [Option.some.injEq, Prod.mk.injEq] at hv
      obtain ⟨z1, z2⟩ := hv
      subst z2
      rw [← hx, ← z1]
      exact ⟨Ext.lay w3 hT, w3.lay hT, lay_tup w3 (.cons (key_rv _) (.cons rv .nil)) hT⟩
    · exact q1.elim
  | _ => exact q1.elim⟩
instance {t m} [h : FE K t m] : FC K (iKeys t) (mKeysC m) := ⟨fun d σ H ρ μ P R w e q k => by
  refine h.run d σ H ρ μ _ _ w e q fun d1 H1 μ1 x v e1 w1 r1 q1 => ?_
  cases r1 with
  | @mr n a h1 =>
    simp only at q1
    split at q1
    · rename_i o ws kvs e2
      obtain ⟨hq, k1, k2⟩ := w1.obj h1 e2
      refine ⟨a, o, rfl, .inl ⟨ws, hq, k d1 H1 μ1 _ _ _ e1 w1 (fun d2 d3 H3 μ3 bb ee w3 hC => ?_) q1⟩⟩
      have h3 : d3.am[n]? = some a := ee.at (by rw [bb.1]; exact h1)
      obtain ⟨hq3, k3, k4⟩ := w3.obj h3 hC
      refine ⟨fun i x hx => ?_, fun i hi => ⟨hq3, by rw [fd_len k3]; simpa using hi⟩⟩
      have hi : i < kvs.length := by simpa using (List.getElem?_eq_some_iff.mp hx).1
      refine ⟨⟨hq3, by rw [fd_len k3]; exact hi⟩, fun u H4 hy => ?_⟩
      obtain ⟨rfl, kk, v, hv, rfl⟩ := hy
      rw [List.getElem?_map, List.getElem?_eq_getElem hi] at hx
      have hx := Option.some.inj hx
      obtain ⟨v', hv', rv⟩ := rks_get (ws := ws) k3 k4 i _ _ (List.getElem?_eq_getElem hi)
      rw [hv'] at hv
      simp only [Option.some.injEq, Prod.mk.injEq] at hv
      rw [← hx, ← hv.1]
      exact ⟨.refl, w3, key_rv _⟩
    · exact q1.elim
  | _ => exact q1.elim⟩
/-! ### d.get(k, x) -/
def mDGet2 (md my mx : ME) : ME := fun ρ μ P => md ρ μ fun x μ1 => (dictOfP x μ1).isSome = true ∧ my ρ μ1 fun y μ2 => mx ρ μ2 fun z μ3 => match dictOfP x μ3, keyP y with | some kvs, some k => P ((valP kvs k).getD z) μ3 | _, _ => False
instance {td ty tx md my mx} [hd : FE K td md] [hy : FE K ty my] [hx : FE K tx mx] : FE K (tDGet2 td ty tx) (mDGet2 md my mx) := ⟨fun d σ H ρ μ P Q w e q k => by
  refine hd.run d σ H ρ μ _ _ w e q fun d1 H1 μ1 x v e1 w1 r1 ⟨q0, q1⟩ => ?_
  obtain ⟨kv0, a0⟩ := Option.isSome_iff_exists.mp q0
  obtain ⟨n, a, ws0, rfl, rfl, hn, hq0, _⟩ := dict_of w1 r1 a0
  refine ⟨a, rfl, .inl ⟨ws0, hq0⟩, hy.run d1 σ H1 ρ μ1 _ _ w1 (e.mono e1) q1 fun d2 H2 μ2 y u e2 w2 r2 q2 => ?_⟩
  refine hx.run d2 σ H2 ρ μ2 _ _ w2 (e.mono (e1.trans e2)) q2 fun d3 H3 μ3 z t e3 w3 r3 q3 => ?_
  cases a1 : dictOfP (.mr n) μ3 with
  | none => rw [a1] at q3; exact q3.elim
  | some kvs =>
    cases a2 : keyP y with
    | none => rw [a1, a2] at q3; exact q3.elim
    | some kk =>
      rw [a1, a2] at q3
      simp only at q3
      obtain ⟨n', a', ws, en, ea, _, hq, rk⟩ := dict_of w3 ((r1.mono e2).mono e3) a1
      cases ea
      obtain rfl := keyP_rv r2 a2
      rcases rk.val (k := kk) with ⟨z1, z2⟩ | ⟨x, v, z1, z2, rv⟩
      · rw [z1] at q3
        exact ⟨none, .inl ⟨ws, kk, hq, rfl, z2.symm⟩, k d3 H3 μ3 _ _ ((e1.trans e2).trans e3) w3 r3 q3⟩
      · rw [z1] at q3
        exact ⟨some v, .inl ⟨ws, kk, hq, rfl, z2.symm⟩, k d3 H3 μ3 _ _ ((e1.trans e2).trans e3) w3 rv q3⟩⟩
/-! ### is None -/
def rIsN : R2 := fun x y H Q => y = .non ∧ Q (.bl (decide (x = .non))) H
def rNotN : R2 := fun x y H Q => y = .non ∧ Q (.bl (!decide (x = .non))) H
end
theorem op_isNn {X : Cx} : OpR X (compareOp .Is) rIsN := op_isN
theorem op_notNn {X : Cx} : OpR X (compareOp .IsNot) rNotN := op_notN
section
variable {K : PySem.W.Frag} {d d' : Wd} {H H' : Hp} {a b : Addr} {vs us : List V} {xs ys : List PV} {μ : Store}
def isNonP : PV → Bool | .non => true | _ => false
theorem isNonP_rv {x : PV} {v : V} (r : RV K d H x v) : decide (v = .non) = isNonP x := by
  cases r <;> simp [isNonP]
def pIsN (neg : Bool) : MO2 := fun x y μ P => match y with | .non => P (.bl (if neg then !isNonP x else isNonP x)) μ | _ => False
instance : F2 K rIsN (pIsN false) := ⟨fun d H μ x y v u P Q w r1 r2 q k => by
  cases y <;> try exact q.elim
  cases r2
  refine ⟨rfl, ?_⟩
  rw [isNonP_rv r1]
  exact k d H μ _ _ .refl w (.bl _) q⟩
instance : F2 K rNotN (pIsN true) := ⟨fun d H μ x y v u P Q w r1 r2 q k => by
  cases y <;> try exact q.elim
  cases r2
  refine ⟨rfl, ?_⟩
  rw [isNonP_rv r1]
  exact k d H μ _ _ .refl w (.bl _) q⟩
/-! ### [x] * n, to be changed -/
def rRepLM : R2 := rRep
end
theorem op_repLM {X : Cx} : OpR X (binaryOp .Mult) rRepLM := op_rep
section
variable {K : PySem.W.Frag} {d d' : Wd} {H H' : Hp} {a b : Addr} {vs us : List V} {xs ys : List PV} {μ : Store}
def pRepLM : MO2 := fun x y μ P => match x, y with
  | .lst xs, .int k => (0 ≤ k ∧ k ≤ 1000 ∧ xs.length ≤ 1000) ∧ P (.mr μ.length) (μ ++ [.lst (List.replicate k.toNat xs).flatten])
  | _, _ => False
instance : F2 K rRepLM pRepLM := ⟨fun d H μ x y v u P Q w r1 r2 q k => by
  match x, y, r1, r2, q with
  | .lst xs, .int n, .lst (a := a) (vs := vs) h1 h2, .int _, ⟨⟨z1, z2, z3⟩, q⟩ =>
    refine ⟨a, n, vs, rfl, rfl, h1.1, by omega, by omega, ?_, fun p hp => ?_⟩
    · rw [← h2.length]
      refine Nat.le_trans (Nat.mul_le_mul z3 (show n.toNat ≤ 1000 by omega)) ?_
      rw [sizeLine_eq]; decide
    · have ee := Ext.push (o := .lst (List.replicate n.toNat vs).flatten) w hp
      exact k (d.push p) _ _ _ _ ee (w.push (m := .lst (List.replicate n.toNat xs).flatten) hp ⟨_, upd_same, (RVs.rep h2 _).mono ee⟩) (lay_mr w) q⟩
end
/-! ### truth of a dict -/
def tTruD (K : PySem.W.Frag) (t : TE) : TT := fun σ H Q => t σ H fun x H' => ∃ k, TruV K x H' k ∧ Q k H'
theorem pt_truD {X : Cx} {a : Expr} {ta : TE} (ha : PE X a ta) (he : ∀ whole, isTrue a X.env whole = (do let v ← whole; standAt a.pos; holding [v] (truthy v))) : PT X a (tTruD X.K ta) := pt_truth ha he
section
variable {K : PySem.W.Frag} {d d' : Wd} {H H' : Hp} {a b : Addr} {vs us : List V} {xs ys : List PV} {μ : Store}
def mTruD (m : ME) : MT := fun ρ μ P => m ρ μ fun x μ1 => match dkOfP x μ1 with | some kvs => P (!kvs.isEmpty) μ1 | none => False
instance {t m} [h : FE K t m] : FT K (tTruD K t) (mTruD m) := ⟨fun d σ H ρ μ P Q w e q k => by
  refine h.run d σ H ρ μ _ _ w e q fun d1 H1 μ1 x v e1 w1 r1 q1 => ?_
  cases e2 : dkOfP x μ1 with
  | none => rw [e2] at q1; exact q1.elim
  | some kvs =>
    rw [e2] at q1
    obtain ⟨n, a, ws, rfl, rfl, _, hq, rk⟩ := dk_of w1 r1 e2
    have e3 : (!kvs.isEmpty) = !ws.isEmpty := by
      have := rk.len
      cases kvs <;> cases ws <;> simp_all
    exact ⟨!ws.isEmpty, .inr (.inr ⟨ws, hq, rfl⟩), k d1 H1 μ1 _ e1 w1 (by rw [← e3]; exact q1)⟩⟩
/-! ### l.pop(i), l.index(x) -/
def pPopAt : PV → List PV → Store → (PV → Store → Prop) → Prop := fun x zs μ P => match x, zs with
  | .mr n, [.int i] => (match μ[n]? with | some (.lst xs) => xs.length ≤ 1000000 ∧ (match ixN xs.length i with | some j => (match xs[j]? with | some y => P y (μ.set n (.lst (xs.eraseIdx j))) | none => False) | none => False) | _ => False)
  | _, _ => False
theorem RVs.eraseIdx : ∀ {xs : List PV} {vs : List V} (j : Nat), RVs K d H xs vs → RVs K d H (xs.eraseIdx j) (vs.eraseIdx j)
  | _, _, _, .nil => .nil
  | _, _, 0, .cons _ t => t
  | _, _, j + 1, .cons r t => .cons r (RVs.eraseIdx j t)
instance : FM K rPopAt pPopAt := ⟨fun d H μ x v zs us P Q w r rs q k => by
  match x, zs, r, rs, q with
  | .mr n, [.int i], .mr (a := a) h1, .cons (.int _) .nil, q =>
    simp only [pPopAt] at q
    cases e : μ[n]? with
    | none => rw [e] at q; exact q.elim
    | some m =>
      cases m with
      | dk _ => rw [e] at q; exact q.elim
      | fd _ _ _ => rw [e] at q; exact q.elim
      | lst xs =>
        rw [e] at q
        simp only at q
        obtain ⟨hl, q⟩ := q
        obtain ⟨vs, hq, rv⟩ := w.obj h1 e
        cases e2 : ixN xs.length i with
        | none => rw [e2] at q; exact q.elim
        | some j =>
          rw [e2] at q
          simp only at q
          obtain ⟨s1, s2, s3, s4⟩ := ixN_seq e2
          obtain ⟨u, hu, ru⟩ := rv.get (List.getElem?_eq_getElem s2)
          rw [List.getElem?_eq_getElem s2] at q
          obtain ⟨e1, w1⟩ := chg_list (vs := vs) w h1 (rv.eraseIdx j)
          exact ⟨a, vs, i, j, u, rfl, rfl, hq, by omega, by omega, by rw [← rv.length]; exact s1, hu, k d _ _ _ _ e1 w1 (ru.mono e1) q⟩⟩
def pIndex : PV → List PV → Store → (PV → Store → Prop) → Prop := fun x zs μ P => match x, zs with
  | .mr n, [.int i] => (match μ[n]? with | some (.lst xs) => (match intsP xs with | some ns => i ∈ ns ∧ P (.int (ns.idxOf i : Nat)) μ | none => False) | _ => False)
  | _, _ => False
instance : FM K (rIndex K) pIndex := ⟨fun d H μ x v zs us P Q w r rs q k => by
  match x, zs, r, rs, q with
  | .mr n, [.int i], .mr (a := a) h1, .cons (.int _) .nil, q =>
    simp only [pIndex] at q
    cases e : μ[n]? with
    | none => rw [e] at q; exact q.elim
    | some m =>
      cases m with
      | dk _ => rw [e] at q; exact q.elim
      | fd _ _ _ => rw [e] at q; exact q.elim
      | lst xs =>
        rw [e] at q
        simp only at q
        cases e2 : intsP xs with
        | none => rw [e2] at q; exact q.elim
        | some ns =>
          rw [e2] at q
          obtain ⟨hm, q⟩ := q
          obtain ⟨vs, hq, rv⟩ := w.obj h1 e
          have ev := RVs.ints_of rv (intsP_of e2)
          subst ev
          have hl := List.idxOf_lt_length_of_mem hm
          refine ⟨a, ns.map V.int, .int i, ns.idxOf i, .int i, rfl, rfl, .of hq, rfl, ?_, ?_, ?_, fun m z' hm' hz => ?_, k d H μ _ _ .refl w (.int _) q⟩
          · rw [List.all_map, List.all_eq_true]
            intro x _
            rfl
          · rw [List.getElem?_map, List.getElem?_eq_getElem hl, List.getElem_idxOf hl]
            rfl
          · show (i == i) = true
            simp
          · have hl2 : m < ns.length := by omega
            rw [List.getElem?_map, List.getElem?_eq_getElem hl2] at hz
            have hz := Option.some.inj hz
            subst hz
            show (ns[m] == i) = false
            have h := List.not_of_lt_findIdx (xs := ns) (p := (· == i)) (i := m) hm'
            simpa using h⟩
/-! ### list(range(..)), to be changed -/
def tLstRgM (te : L2.St → Hp → (Int → Int → Hp → Prop) → Prop) : TE := tLstRg te
def mLstRgM (m : PEnv → Store → (Int → Int → Store → Prop) → Prop) : ME := fun ρ μ P => m ρ μ fun i j μ1 => (-1000000 ≤ i ∧ i ≤ 1000000 ∧ -1000000 ≤ j ∧ j ≤ 1000000) ∧ P (.mr μ1.length) (μ1 ++ [.lst (rangeP i (j - i).toNat)])
instance {t m} [h : FR K t m] : FE K (tLstRgM t) (mLstRgM m) := ⟨fun d σ H ρ μ P Q w e q k => by
  refine h.run d σ H ρ μ _ _ w e q fun d1 H1 μ1 i j e1 w1 ⟨z, q1⟩ => ⟨⟨by omega, by omega, by omega, by omega, by omega⟩, fun p hp => ?_⟩
  have ee := Ext.push (o := .lst (rgV i j)) w1 hp
  exact k (d1.push p) _ _ _ _ (e1.trans ee) (w1.push (m := .lst (rangeP i (j - i).toNat)) hp ⟨_, upd_same, (rvs_rg i j).mono ee⟩) (lay_mr w1) q1⟩
end
theorem peRgM {X : Cx} {e : Expr} {te : L2.St → Hp → (Int → Int → Hp → Prop) → Prop} (h : PE X e (tLstRg te)) : PE X e (tLstRgM te) := h
end Fx

namespace Fx
open PySem PySem.Spec PyProof.Rows L2 RZ MR
def frP (q : Rat) : PV := .tup [.int q.num, .int (q.den : Nat)]
def tabP (qs : List Rat) : PV := .tup (qs.map frP)
def lotP (ns : List Nat) : PV := .tup (ns.map fun (n : Nat) => PV.int n)
def seqP : PV → Option (List PV)
  | .tup xs => some xs
  | .lst xs => some xs
  | _ => none
theorem log_lt {x : Int} {n : Nat} (h : x.natAbs < 2 ^ n) : x.natAbs.log2 < n + 1 := by
  by_cases h0 : x.natAbs = 0
  · rw [h0]; show Nat.log2 0 < n + 1; rw [Nat.log2_zero]; omega
  · have := (Nat.log2_lt h0).mpr h
    omega
theorem mulOk {x y : Int} {m n : Nat} (hx : x.natAbs < 2 ^ m) (hy : y.natAbs < 2 ^ n) (h : m + n ≤ 900000) : MulOk x y := by
  have h1 := log_lt hx
  have h2 := log_lt hy
  exact .inr (show _ + _ < _ by omega)
theorem gcd_div {a b : Int} {n : Nat} (hb : 0 < b) (hz : b.natAbs < 2 ^ n) (hn : n ≤ 8990 := by decide) : DivOk a ((Nat.gcd a.natAbs b.natAbs : Nat) : Int) := by
  have h1 : Nat.gcd a.natAbs b.natAbs ≤ b.natAbs := Nat.le_of_dvd (by omega) (Nat.gcd_dvd_right _ _)
  have h0 : 0 < Nat.gcd a.natAbs b.natAbs := Nat.gcd_pos_of_pos_right _ (by omega)
  have h2 : (((Nat.gcd a.natAbs b.natAbs : Nat) : Int)).natAbs < 2 ^ n := by
    rw [Int.natAbs_natCast]; omega
  have := log_lt h2
  exact .inl ⟨by omega, by omega⟩

theorem ints_lot (ns : List Nat) : intsP (ns.map fun (n : Nat) => PV.int n) = some (ns.map fun (n : Nat) => (n : Int)) := by
  have := intsP_map (ns.map fun (n : Nat) => (n : Int))
  rw [List.map_map] at this
  exact this
theorem maxP_lot {ns : List Nat} (h : ns ≠ []) : maxP (ns.map fun (n : Nat) => (n : Int)) = ((maxN ns : Nat) : Int) := by
  refine (maxP_uniq (List.mem_map.mpr ⟨maxN ns, maxN_mem h, rfl⟩) fun y hy => ?_).symm
  obtain ⟨n, hn, rfl⟩ := List.mem_map.mp hy
  have := le_maxN hn
  show (n : Int) ≤ (maxN ns : Int)
  omega
theorem fr_eq {p q : Rat} : (p.num = q.num ∧ (p.den : Int) = (q.den : Int)) ↔ p = q := by
  constructor
  · intro ⟨h1, h2⟩
    exact Rat.ext h1 (by omega)
  · rintro rfl; exact ⟨rfl, rfl⟩
theorem eqP_tup2 (a b c d : Int) (μ : Store) : eqP (.tup [.int a, .int b]) (.tup [.int c, .int d]) μ = some (decide (a = c ∧ b = d)) := by
  have h : ∀ x y : Int, SeqAt.shaped (.tuple [.int x, .int y]) = true := fun x y => rfl
  unfold eqP
  simp only [scalP, frzP, datP, datPs, Option.map_some, h, and_self, if_true]
  simp only [PyData.eqv, PyData.eqvAll]
  congr 1
  by_cases h1 : a = c <;> by_cases h2 : b = d <;> simp [h1, h2]
theorem eqP_fr (p q : Rat) (μ : Store) : eqP (frP p) (frP q) μ = some (decide (p = q)) := by
  unfold frP
  rw [eqP_tup2]
  congr 1
  exact decide_eq_decide.mpr fr_eq
theorem one_fr : PV.tup [.int 1, .int 1] = frP 1 := rfl
theorem zero_fr : PV.tup [.int 0, .int 1] = frP 0 := rfl
theorem enumP_map {α : Type} (f : α → PV) : ∀ (xs : List α) (j : Nat), enumP j (xs.map f) = (numd j xs).map fun p => .tup [.int (p.1 : Nat), f p.2]
  | [], _ => rfl
  | x :: xs, j => by
    rw [List.map_cons, enumP, enumP_map f xs]
    rfl
theorem lc_pv {g : MG} {e : ME} {ρ0 : PEnv} {P : List PV → Store → Prop} {μ : Store} {out : PV → PV} {l : List PV} {acc : List PV} (h : ∀ a ∈ l, ∀ k : PV → Store → Prop, k (out a) μ → g a ρ0 μ fun ρ1 μ1 => e ρ1 μ1 k) (hP : P (acc ++ l.map out) μ) : mLcL g mYes e ρ0 P l acc μ := by
  have := lc_map (g := g) (e := e) (ρ0 := ρ0) (P := P) (μ := μ) (enc := fun x => x) (out := out) (l := l) (acc := acc) h hP
  rw [List.map_id'] at this
  exact this
theorem all_true {α : Type} (l : List α) : boolsP (([] : List PV) ++ l.map fun _ => PV.bl true) = some (l.map fun _ => true) := by
  have := boolsP_map (l.map fun _ => true)
  rw [List.map_map] at this
  exact this
theorem all_id {α : Type} (l : List α) : (l.map fun _ => true).all id = true := by simp
theorem fr_mul {m n : Nat} {p q : Rat} (hp : Sm m p) (hq : Sm n q) (h : m + n ≤ 900000 := by decide) : MulOk p.num q.num ∧ MulOk p.num (q.den : Int) ∧ MulOk (p.den : Int) q.num ∧ MulOk (p.den : Int) (q.den : Int) :=
  ⟨mulOk hp.1 hq.1 h, mulOk (y := (q.den : Int)) hp.1 hq.2 h, mulOk (x := (p.den : Int)) hp.2 hq.1 h, mulOk (x := (p.den : Int)) (y := (q.den : Int)) hp.2 hq.2 h⟩
theorem gcd_one (q : Rat) : Nat.gcd q.num.natAbs ((q.den : Nat) : Int).natAbs = 1 := by
  rw [Int.natAbs_natCast]
  exact q.reduced
theorem cut1 (xs : List PV) : cutP xs (some 1) none = xs.drop 1 := by
  unfold cutP
  cases xs with
  | nil => rfl
  | cons x xs =>
    have h1 : HT.sIx (x :: xs).length 0 (some 1) = 1 := by
      show HT.sIx (xs.length + 1) 0 (some 1) = 1
      simp [HT.sIx]
    have h2 : HT.sIx (x :: xs).length (x :: xs).length none = (x :: xs).length := by simp [HT.sIx]
    rw [h1, h2]
    simp
theorem zip_lt : ∀ {ns : List Nat}, ns.Pairwise (· < ·) → ∀ p ∈ ns.zip (ns.drop 1), p.1 < p.2
  | [], _, p, h => by simp at h
  | [a], _, p, h => by simp at h
  | a :: b :: ns, hp, p, h => by
    rw [List.pairwise_cons] at hp
    simp only [List.drop_one, List.tail_cons, List.zip_cons_cons] at h
    rcases List.mem_cons.mp h with rfl | h
    · exact hp.1 b List.mem_cons_self
    · exact zip_lt hp.2 p (by simpa using h)
theorem kit_tt : kitB "tuple" "tuple" = some true := rfl
theorem kit_ii : kitB "int" "int" = some true := rfl
theorem kit_ib : kitB "int" "bool" = some false := rfl
theorem eqP_int (a b : Int) (μ : Store) : eqP (.int a) (.int b) μ = some (decide (a = b)) := rfl
theorem eqP_str (a b : Str) (μ : Store) : eqP (.str a) (.str b) μ = some (decide (a = b)) := rfl
theorem in_lot (n : Nat) (ns : List Nat) : inP (.int n) (ns.map fun (m : Nat) => PV.int m) = decide (n ∈ ns) := by
  unfold inP
  rw [List.any_map]
  rw [Bool.eq_iff_iff]
  simp only [List.any_eq_true, Function.comp, eqFlat, decide_eq_true_eq, beq_iff_eq]
  constructor
  · rintro ⟨m, hm, e⟩
    have : m = n := by omega
    exact this ▸ hm
  · intro h
    exact ⟨n, h, rfl⟩
theorem flat_lot (ns : List Nat) : (ns.map fun (m : Nat) => PV.int m).all flatP = true := by
  rw [List.all_map, List.all_eq_true]
  intro x _
  rfl
theorem lcO_map {α : Type} {g g1 : MG} {c1 : MT} {i1 : MI} {e : ME} {vs1 : List Nat} {ρ0 : PEnv} {P : List PV → Store → Prop} {μ : Store} {enc : α → PV} {outs : α → List PV} : ∀ {l : List α} {acc : List PV},
    (∀ a ∈ l, ∀ (acc : List PV) (N : List PV → Store → Prop), acc.length + (outs a).length ≤ lim → N (acc ++ outs a) μ → g (enc a) ρ0 μ fun ρ1 μ1 => i1 ρ1 μ1 fun ys μ3 => acc.length + ys.length ≤ lim ∧ mLcL g1 c1 e (wipeP ρ1 vs1) N ys acc μ3) →
    acc.length + (l.flatMap outs).length ≤ lim → P (acc ++ l.flatMap outs) μ → mLcO g mYes i1 g1 c1 e vs1 ρ0 P (l.map enc) acc μ
  | [], acc, _, _, hP => by simpa [mLcO] using hP
  | a :: l, acc, h, hl, hP => by
    show g (enc a) ρ0 μ fun ρ1 μ1 => i1 ρ1 μ1 fun ys μ3 => acc.length + ys.length ≤ lim ∧ mLcL g1 c1 e (wipeP ρ1 vs1) (fun acc' μ4 => mLcO g mYes i1 g1 c1 e vs1 ρ0 P (l.map enc) acc' μ4) ys acc μ3
    rw [List.flatMap_cons, List.length_append] at hl
    refine h a List.mem_cons_self acc _ (by omega) (lcO_map (fun b hb => h b (List.mem_cons_of_mem _ hb)) (by rw [List.length_append]; omega) ?_)
    rw [List.flatMap_cons] at hP
    rw [List.append_assoc]
    exact hP
/-! ### the deck -/
def DK (l : PV) (m k : Int) : List (Key × PV) := [(.inr (Str.ofString "cells"), l), (.inr (Str.ofString "mixed"), .int m), (.inr (Str.ofString "draws"), .int k)]
theorem val_left (l : PV) (m k : Int) : valP (DK l m k) (.inr (Str.ofString "cells")) = some l := rfl
theorem val_mixed (l : PV) (m k : Int) : valP (DK l m k) (.inr (Str.ofString "mixed")) = some (.int m) := by
  have h : (Str.ofString "cells" = Str.ofString "mixed") = False := by decide
  simp [DK, valP, h]
theorem val_draws (l : PV) (m k : Int) : valP (DK l m k) (.inr (Str.ofString "draws")) = some (.int k) := by
  have h : (Str.ofString "cells" = Str.ofString "draws") = False := by decide
  have h2 : (Str.ofString "mixed" = Str.ofString "draws") = False := by decide
  simp [DK, valP, h, h2]
theorem put_draws (l : PV) (m k j : Int) : putP (DK l m k) (.inr (Str.ofString "draws")) (.int j) = DK l m j := by
  have h : (Str.ofString "cells" = Str.ofString "draws") = False := by decide
  have h2 : (Str.ofString "mixed" = Str.ofString "draws") = False := by decide
  simp [DK, putP, h, h2]
def DS (L : List Int) (m k : Int) (rest : Store) : Store := .lst (L.map PV.int) :: .dk (DK (.mr 0) m k) :: rest
theorem datPs_ints : ∀ L : List Int, datPs (L.map PV.int) = some (L.map PyData.int)
  | [] => rfl
  | x :: xs => by simp [datPs, datP, datPs_ints xs]
theorem canLay_ints : ∀ L : List Int, PyData.canLayAll0 (L.map PyData.int) = true
  | [] => rfl
  | x :: xs => by simp [PyData.canLayAll0, PyData.canLay0, canLay_ints xs]
theorem depth_ints : ∀ L : List Int, PyData.depthAll (L.map PyData.int) ≤ 1
  | [] => by simp [PyData.depthAll]
  | x :: xs => by
    have := depth_ints xs
    simp [PyData.depthAll, PyData.depth]
    omega
theorem shaped_ints (L : List Int) : SeqAt.shaped (.list (L.map PyData.int)) = true := by
  have := depth_ints L
  simp [SeqAt.shaped, PyData.canLay0, canLay_ints, PyData.depth]
  omega
theorem eqP_empty {n : Nat} {μ : Store} {L : List Int} (h : μ[n]? = some (.lst (L.map PV.int))) : eqP (.mr n) (.lst []) μ = some (decide (L = [])) := by
  have h1 := shaped_ints L
  have h2 := shaped_ints []
  simp only [List.map_nil] at h2
  unfold eqP
  simp only [scalP, frzP, h, datP, datPs_ints, datPs, Option.map_some, h1, h2, and_self, if_true]
  congr 1
  cases L <;> simp [PyData.eqv, PyData.eqvAll]
theorem eqP_e0 (L : List Int) (rest : Store) : eqP (.mr 0) (.lst []) (.lst (L.map PV.int) :: rest) = some (decide (L = [])) := eqP_empty rfl
theorem mulR {x c : Int} (h1 : -2 ^ 64 < c) (h2 : c < 2 ^ 64) : MulOk x c := .inl (.inr ⟨h1, h2⟩)
theorem mulL {x c : Int} (h1 : -2 ^ 64 < c) (h2 : c < 2 ^ 64) : MulOk c x := .inl (.inl ⟨h1, h2⟩)
theorem fmod_b {x m : Int} (h : 0 < m) : 0 ≤ x.fmod m ∧ x.fmod m < m := ⟨Int.fmod_nonneg_of_pos x h, Int.fmod_lt_of_pos x h⟩
theorem last_map (I : List Int) (c : Int) : ((I ++ [c]).map PV.int)[((I ++ [c]).map PV.int).length - 1]? = some (.int c) := by simp
theorem drop_map (I : List Int) (c : Int) : ((I ++ [c]).map PV.int).dropLast = I.map PV.int := by simp
theorem app_map (I : List Int) (c : Int) : I.map PV.int ++ [.int c] = (I ++ [c]).map PV.int := by simp
theorem max2_pos (m : Int) : (0 : Int) < (if m > 2 then m else 2) := by split <;> omega
theorem eqP_nn (rest : Store) : eqP (.mr 0) (.lst []) (.lst [] :: rest) = some true := eqP_e0 [] rest
theorem eqP_nc (I : List Int) (c : Int) (rest : Store) : eqP (.mr 0) (.lst []) (.lst (I.map PV.int ++ [.int c]) :: rest) = some false := by
  have := eqP_e0 (I ++ [c]) rest
  simpa using this
theorem last_c (xs : List PV) (y : PV) : (xs ++ [y])[(xs ++ [y]).length - 1]? = some y := by simp
theorem sIx_nat (a d n : Nat) : HT.sIx a d (some (n : Int)) = min n a := by
  unfold HT.sIx
  simp only
  rw [if_neg (by omega), Int.toNat_natCast]
theorem sIx_none (a d : Nat) : HT.sIx a d none = d := rfl
theorem cut_to (xs : List PV) (n : Nat) : cutP xs none (some (n : Int)) = xs.take n := by
  unfold cutP
  rw [sIx_none, sIx_nat, List.drop_zero, Nat.sub_zero]
  by_cases h : n ≤ xs.length
  · rw [Nat.min_eq_left h]
  · rw [Nat.min_eq_right (by omega), List.take_of_length_le (Nat.le_refl _), List.take_of_length_le (by omega)]
theorem cut_from (xs : List PV) (n : Nat) : cutP xs (some (n : Int)) none = xs.drop n := by
  unfold cutP
  rw [sIx_none, sIx_nat]
  by_cases h : n ≤ xs.length
  · rw [Nat.min_eq_left h, List.take_of_length_le (by simp)]
  · rw [Nat.min_eq_right (by omega), Nat.sub_self, List.take_zero, List.drop_of_length_le (by omega)]
/-! ### what repr shows -/
def ShB (d l : Nat) (x : PV) : Prop := ∃ e, datP x = some e ∧ e.showable = true ∧ e.hasDict = false ∧ e.depth ≤ d ∧ e.shown.length ≤ l
def shwP (x : PV) : Str := match datP x with | some e => e.shown | none => ""
theorem ShB.mono {d l d' l' : Nat} {x : PV} (h : ShB d l x) (h1 : d ≤ d') (h2 : l ≤ l') : ShB d' l' x :=
  let ⟨e, a, b, c, f, g⟩ := h; ⟨e, a, b, c, by omega, by omega⟩
theorem shb_int {i : Int} (h : i.natAbs < 2 ^ 1900) : ShB 0 1901 (.int i) := by
  refine ⟨.int i, rfl, ?_, by simp [PyData.hasDict], by simp [PyData.depth], ?_⟩
  · have := log_lt h
    simp only [PyData.showable, decide_eq_true_eq]
    omega
  · have := int_text_length_le10 (a := i) (k := 1900) (by decide) (Nat.lt_of_lt_of_le h (Nat.pow_le_pow_left (by decide) 1900))
    rw [PyData.shown_int, PySem.ofString_length]
    exact this
theorem shb_all {d l : Nat} : ∀ {xs : List PV}, (∀ x ∈ xs, ShB d l x) → ∃ es, datPs xs = some es ∧ PyData.showableAll es = true ∧ PyData.hasDictAll es = false ∧ PyData.depthAll es ≤ d ∧ ((PyData.shownAll es).map (·.length)).sum ≤ xs.length * l ∧ (PyData.shownAll es).length = xs.length
  | [], _ => ⟨[], rfl, by simp [PyData.showableAll], by simp [PyData.hasDictAll], by simp [PyData.depthAll], by simp [PyData.shownAll], by simp [PyData.shownAll]⟩
  | x :: xs, h => by
    obtain ⟨e, a1, a2, a3, a4, a5⟩ := h x List.mem_cons_self
    obtain ⟨es, b1, b2, b3, b4, b5, b6⟩ := shb_all fun y hy => h y (List.mem_cons_of_mem _ hy)
    refine ⟨e :: es, by simp [datPs, a1, b1], by simp [PyData.showableAll, a2, b2], by simp [PyData.hasDictAll, a3, b3], ?_, ?_, ?_⟩
    · simp only [PyData.depthAll]; omega
    · simp only [PyData.shownAll, List.map_cons, List.sum_cons, List.length_cons, Nat.add_mul, Nat.one_mul]; omega
    · simp only [PyData.shownAll, List.length_cons]; omega
theorem shb_tup {d l : Nat} {xs : List PV} (h : ∀ x ∈ xs, ShB d l x) : ShB (d + 1) (xs.length * (l + 2) + 3) (.tup xs) := by
  obtain ⟨es, b1, b2, b3, b4, b5, b6⟩ := shb_all h
  refine ⟨.tuple es, by simp [datP, b1], by simp [PyData.showable, b2], by simp [PyData.hasDict, b3], by simp only [PyData.depth]; omega, ?_⟩
  have := tupleText_len_le (PyData.shownAll es)
  show (tupleText (PyData.shownAll es)).length ≤ _
  rw [Nat.mul_add]
  rw [b6] at this
  omega
theorem shb_lst {d l : Nat} {xs : List PV} (h : ∀ x ∈ xs, ShB d l x) : ShB (d + 1) (xs.length * (l + 2) + 3) (.lst xs) := by
  obtain ⟨es, b1, b2, b3, b4, b5, b6⟩ := shb_all h
  refine ⟨.list es, by simp [datP, b1], by simp [PyData.showable, b2], by simp [PyData.hasDict, b3], by simp only [PyData.depth]; omega, ?_⟩
  have := listText_len_le (PyData.shownAll es)
  show (listText (PyData.shownAll es)).length ≤ _
  rw [Nat.mul_add]
  rw [b6] at this
  omega
theorem shb_fr {q : Rat} (h : Sm 1900 q) : ShB 1 4000 (frP q) := by
  have := shb_tup (xs := [.int q.num, .int (q.den : Nat)]) (d := 0) (l := 1901) fun x hx => by
    rcases List.mem_cons.mp hx with rfl | hx
    · exact shb_int h.1
    · rw [List.mem_singleton.mp hx]
      exact shb_int (by rw [Int.natAbs_natCast]; exact h.2)
  exact this.mono (by decide) (by show 2 * (1901 + 2) + 3 ≤ 4000; decide)
theorem shb_tab {qs : List Rat} (h : ∀ q ∈ qs, Sm 1900 q) (hl : qs.length ≤ 8) : ShB 2 40000 (tabP qs) := by
  have := shb_tup (xs := qs.map frP) (d := 1) (l := 4000) fun x hx => by
    obtain ⟨q, hq, rfl⟩ := List.mem_map.mp hx
    exact shb_fr (h q hq)
  refine this.mono (by decide) ?_
  rw [List.length_map]
  have := Nat.mul_le_mul_right 4002 hl
  omega
theorem tab_shb {n : Nat} {qs : List Rat} (h : Tab n qs) (hn : n ≤ 1899) : ShB 2 40000 (tabP qs) := shb_tab (fun q hq => (h.sm hq).mono (by omega)) h.len
theorem pRepr_tup {xs : List PV} {d l : Nat} {μ : Store} {P : PV → Store → Prop} (h : ShB d l (.tup xs)) (hd : d ≤ 60) (hl : l ≤ lim) (hP : P (.str (shwP (.tup xs))) μ) : pRepr [.tup xs] μ P := by
  obtain ⟨e, a1, a2, a3, a4, a5⟩ := h
  have e1 : datP (frzP (.tup xs) μ) = some e := a1
  have e2 : shwP (.tup xs) = e.shown := by unfold shwP; rw [a1]
  have hs : isSeqD e = true := by
    simp only [datP] at a1
    cases z : datPs xs with
    | none => rw [z] at a1; cases a1
    | some es => rw [z] at a1; cases a1; rfl
  unfold pRepr
  simp only [e1]
  rw [e2] at hP
  exact ⟨⟨hs, a2, a3, by omega, by omega⟩, hP⟩
theorem pRepr_lst {xs : List PV} {d l : Nat} {μ : Store} {P : PV → Store → Prop} (h : ShB d l (.lst xs)) (hd : d ≤ 60) (hl : l ≤ lim) (hP : P (.str (shwP (.lst xs))) μ) : pRepr [.lst xs] μ P := by
  obtain ⟨e, a1, a2, a3, a4, a5⟩ := h
  have e1 : datP (frzP (.lst xs) μ) = some e := a1
  have e2 : shwP (.lst xs) = e.shown := by unfold shwP; rw [a1]
  have hs : isSeqD e = true := by
    simp only [datP] at a1
    cases z : datPs xs with
    | none => rw [z] at a1; cases a1
    | some es => rw [z] at a1; cases a1; rfl
  unfold pRepr
  simp only [e1]
  rw [e2] at hP
  exact ⟨⟨hs, a2, a3, by omega, by omega⟩, hP⟩
theorem noRefs_fr : ∀ qs : List Rat, noRefs (qs.map frP) = true
  | [] => rfl
  | q :: qs => by
    rw [List.map_cons, noRefs, noRefs_fr qs]
    rfl
theorem noRef_tab (qs : List Rat) : noRef (tabP qs) = true := noRefs_fr qs
theorem noRef_lot (ns : List Nat) : noRef (lotP ns) = true := by
  unfold lotP
  show noRefs _ = true
  induction ns with
  | nil => rfl
  | cons n ns ih => rw [List.map_cons, noRefs, ih]; rfl
/-- a store that begins with a deck -/
def Dk (m : Int) (rest : Store) (μ : Store) : Prop := ∃ (L : List Int) (k : Int), L.length ≤ 63 ∧ μ = DS L m k rest
theorem Dk.len {m : Int} {rest μ : Store} (h : Dk m rest μ) : μ.length = rest.length + 2 := by
  obtain ⟨L, k, _, rfl⟩ := h; rfl
theorem Dk.get {m : Int} {rest μ : Store} (h : Dk m rest μ) (j : Nat) : μ[j + 2]? = rest[j]? := by
  obtain ⟨L, k, _, rfl⟩ := h; rfl
theorem Dk.app {m : Int} {rest μ : Store} (h : Dk m rest μ) (g : Store) : Dk m (rest ++ g) (μ ++ g) := by
  obtain ⟨L, k, h1, rfl⟩ := h
  exact ⟨L, k, h1, rfl⟩
theorem Dk.set {m : Int} {rest μ : Store} (h : Dk m rest μ) (j : Nat) (x : MO) : Dk m (rest.set j x) (μ.set (j + 2) x) := by
  obtain ⟨L, k, h1, rfl⟩ := h
  exact ⟨L, k, h1, rfl⟩
theorem getl {α : Type} (μ : List α) (x : α) : (μ ++ [x])[μ.length]? = some x := by simp
theorem setl {α : Type} (μ : List α) (x y : α) : (μ ++ [x]).set μ.length y = μ ++ [y] := by simp
theorem max_parts {ps : List Int} : (0 < maxP ps) → ∃ p ∈ ps, 0 < p := fun h => by
  cases ps with
  | nil => exact absurd h (by decide)
  | cons a l => exact ⟨_, maxP_mem (by simp), h⟩
theorem ixN_zero (n : Nat) : ixN (n + 1) 0 = some 0 := by
  unfold ixN
  rw [if_pos (Int.le_refl 0), if_pos (by omega)]
  rfl
theorem pRepr_tab {n : Nat} {qs : List Rat} {μ : Store} {P : PV → Store → Prop} (h : Tab n qs) (hn : n ≤ 1899) (hP : P (.str (shwP (tabP qs))) μ) : pRepr [tabP qs] μ P := pRepr_tup (tab_shb h hn) (by decide) (by decide) hP
theorem pRepr_fr {q : Rat} {μ : Store} {P : PV → Store → Prop} (h : Sm 1900 q) (hP : P (.str (shwP (frP q))) μ) : pRepr [frP q] μ P := pRepr_tup (shb_fr h) (by decide) (by decide) hP
theorem zeros_lot (n : Nat) : PV.tup (List.replicate n [PV.int 0]).flatten = lotP (List.replicate n 0) := by
  unfold lotP
  congr 1
  induction n with
  | zero => rfl
  | succ n ih => rw [List.replicate_succ, List.flatten_cons, ih]; rfl
theorem zeros_tab (n : Nat) : (List.replicate n [PV.tup [PV.int 0, PV.int 1]]).flatten = (List.replicate n (0 : Rat)).map frP := by
  induction n with
  | zero => rfl
  | succ n ih => rw [List.replicate_succ, List.flatten_cons, ih]; rfl
theorem range_lot (n : Nat) : PV.tup (rangeP 0 n) = lotP (List.range n) := by rw [rangeP_eq]; rfl
theorem items_tup (xs : List PV) (μ : Store) : itemsOf (.tup xs) μ = some xs := rfl
theorem items_lst (xs : List PV) (μ : Store) : itemsOf (.lst xs) μ = some xs := rfl
theorem items_kl (xs : List PV) (μ : Store) : itemsOf (.kl xs) μ = some xs := rfl
theorem items_mr (n : Nat) (μ : Store) : itemsOf (.mr n) μ = match μ[n]? with | some (.lst xs) => some xs | _ => none := rfl
theorem items_tab (qs : List Rat) (μ : Store) : itemsOf (tabP qs) μ = some (qs.map frP) := rfl
theorem items_lot (ns : List Nat) (μ : Store) : itemsOf (lotP ns) μ = some (ns.map fun (n : Nat) => PV.int n) := rfl
theorem items_fr (q : Rat) (μ : Store) : itemsOf (frP q) μ = some [.int q.num, .int (q.den : Nat)] := rfl
theorem merged_lot (n : Nat) : PV.tup ([PV.int 0, PV.int 0] ++ rangeP 1 (n - 2)) = lotP (mergedN n) := by
  unfold lotP mergedN rangeP
  simp only [List.map_cons, List.map_map, List.cons_append, List.nil_append]
  congr 3
  refine List.map_congr_left fun i _ => ?_
  show PV.int (1 + (i : Nat)) = PV.int ((i + 1 : Nat) : Int)
  congr 1
  omega
/-! ### distances -/
def judP (a b : List Rat) (f : Rat) : PV := if f < d2 a b / 2 then .tup [.str (Str.ofString "lot"), lotP (more a b)] else .tup [.str (Str.ofString "within")]
theorem datPs_lot (ns : List Nat) : datPs (ns.map fun (n : Nat) => PV.int n) = some (ns.map fun (n : Nat) => PyData.int n) := by
  have := datPs_ints (ns.map fun (n : Nat) => (n : Int))
  rw [List.map_map, List.map_map] at this
  exact this
theorem shaped_lot (ns : List Nat) : PyData.canLay0 (.tuple (ns.map fun (n : Nat) => PyData.int n)) = true ∧ PyData.depth (.tuple (ns.map fun (n : Nat) => PyData.int n)) ≤ 2 := by
  have h1 := canLay_ints (ns.map fun (n : Nat) => (n : Int))
  have h2 := depth_ints (ns.map fun (n : Nat) => (n : Int))
  rw [List.map_map] at h1 h2
  refine ⟨by simp only [PyData.canLay0]; exact h1, ?_⟩
  simp only [PyData.depth]
  have : PyData.depthAll (ns.map fun (n : Nat) => PyData.int n) ≤ 1 := h2
  omega
theorem eqP_within (μ : Store) : eqP (.tup [.str (Str.ofString "within")]) (.tup [.str (Str.ofString "within")]) μ = some true := by
  have h : SeqAt.shaped (.tuple [.str (Str.ofString "within")]) = true := by decide +kernel
  unfold eqP
  simp only [scalP, frzP, datP, datPs, Option.map_some, h, and_self, if_true]
  simp [PyData.eqv, PyData.eqvAll]
theorem eqP_lot (ns : List Nat) (μ : Store) : eqP (.tup [.str (Str.ofString "lot"), lotP ns]) (.tup [.str (Str.ofString "within")]) μ = some false := by
  have h : SeqAt.shaped (.tuple [.str (Str.ofString "within")]) = true := by decide +kernel
  have h2 : SeqAt.shaped (.tuple [.str (Str.ofString "lot"), .tuple (ns.map fun (n : Nat) => PyData.int n)]) = true := by
    obtain ⟨h3, h4⟩ := shaped_lot ns
    have h5 : PyData.canLay0 (.str (Str.ofString "lot")) = true := by decide +kernel
    simp only [SeqAt.shaped, PyData.canLay0, PyData.canLayAll0, Bool.and_eq_true, decide_eq_true_eq] at *
    refine ⟨⟨h5, h3, trivial⟩, ?_⟩
    simp only [PyData.depth, PyData.depthAll] at *
    omega
  unfold eqP
  simp only [scalP, frzP, datP, datPs, lotP, datPs_lot, Option.map_some, h, h2, and_self, if_true]
  simp [PyData.eqv, PyData.eqvAll]
theorem rabPV (q : Rat) : PV.tup [.int (if q.num < 0 then -q.num else q.num), .int (q.den : Nat)] = frP (rab q) := by
  unfold frP
  rw [(rab_num q).1, (rab_num q).2]
theorem eqv_ints : ∀ L M : List Int, PyData.eqvAll (L.map PyData.int) (M.map PyData.int) = decide (L = M)
  | [], [] => rfl
  | [], _ :: _ => by simp [PyData.eqvAll]
  | _ :: _, [] => by simp [PyData.eqvAll]
  | x :: L, y :: M => by
    simp only [List.map_cons, PyData.eqvAll, eqv_ints L M, PyData.eqv]
    by_cases h1 : x = y <;> by_cases h2 : L = M <;> simp [h1, h2]
theorem eqP_li (L M : List Int) (μ : Store) : eqP (.lst (L.map PV.int)) (.lst (M.map PV.int)) μ = some (decide (L = M)) := by
  rw [eqP_ints, shaped_ints, shaped_ints]
  simp only [PyData.eqv, eqv_ints]
def tabD (qs : List Rat) : List PyData := qs.map fun q => .tuple [.int q.num, .int (q.den : Nat)]
theorem datPs_tab : ∀ qs : List Rat, datPs (qs.map frP) = some (tabD qs)
  | [] => rfl
  | q :: qs => by
    have e : datP (frP q) = some (.tuple [.int q.num, .int (q.den : Nat)]) := rfl
    simp only [List.map_cons, datPs, e, datPs_tab qs, tabD]
theorem lay_tab : ∀ qs : List Rat, PyData.canLayAll0 (tabD qs) = true ∧ PyData.depthAll (tabD qs) ≤ 2
  | [] => ⟨rfl, by simp [tabD, PyData.depthAll]⟩
  | q :: qs => by
    obtain ⟨h1, h2⟩ := lay_tab qs
    refine ⟨?_, ?_⟩
    · show (_ && PyData.canLayAll0 (tabD qs)) = true
      rw [h1]; rfl
    · have h3 : PyData.depth (.tuple [.int q.num, .int (q.den : Nat)]) ≤ 2 := by simp [PyData.depth, PyData.depthAll]
      show PyData.depthAll (_ :: tabD qs) ≤ 2
      rw [PyData.depthAll]
      exact Nat.max_le.mpr ⟨h3, h2⟩
theorem shaped_tab (qs : List Rat) : SeqAt.shaped (.tuple (tabD qs)) = true := by
  obtain ⟨h1, h2⟩ := lay_tab qs
  have h3 : PyData.depth (.tuple (tabD qs)) ≤ 64 := by rw [PyData.depth]; omega
  have h4 : PyData.canLay0 (.tuple (tabD qs)) = true := by rw [PyData.canLay0]; exact h1
  unfold SeqAt.shaped
  rw [h4, decide_eq_true h3]
  rfl
theorem eqv_tab : ∀ a b : List Rat, PyData.eqvAll (tabD a) (tabD b) = decide (a = b)
  | [], [] => rfl
  | [], _ :: _ => by simp [tabD, PyData.eqvAll]
  | _ :: _, [] => by simp [tabD, PyData.eqvAll]
  | x :: a, y :: b => by
    show (PyData.eqv (.tuple [.int x.num, .int (x.den : Nat)]) (.tuple [.int y.num, .int (y.den : Nat)]) && PyData.eqvAll (tabD a) (tabD b)) = _
    rw [eqv_tab a b]
    have e : PyData.eqv (.tuple [.int x.num, .int (x.den : Nat)]) (.tuple [.int y.num, .int (y.den : Nat)]) = decide (x = y) := by
      simp only [PyData.eqv, PyData.eqvAll, Bool.and_true]
      have := fr_eq (p := x) (q := y)
      by_cases h : x = y
      · subst h; simp
      · have h2 : ¬ (x.num = y.num ∧ (x.den : Int) = (y.den : Int)) := fun z => h (this.mp z)
        rw [decide_eq_false h]
        by_cases h3 : x.num = y.num
        · have h4 : ¬ ((x.den : Int) = (y.den : Int)) := fun z => h2 ⟨h3, z⟩
          simp [h3, h4]
        · simp [h3]
    rw [e]
    by_cases h1 : x = y <;> by_cases h2 : a = b <;> simp [h1, h2]
theorem eqP_tab (a b : List Rat) (μ : Store) : eqP (tabP a) (tabP b) μ = some (decide (a = b)) := by
  unfold eqP tabP
  simp only [scalP, frzP, datP, datPs_tab, Option.map_some, shaped_tab, and_self, if_true, PyData.eqv, eqv_tab]
theorem shb_within : ShB 60 1000 (.tup [.str (Str.ofString "within")]) := by
  refine ⟨.tuple [.str (Str.ofString "within")], rfl, by decide +kernel, by decide +kernel, by decide +kernel, by decide +kernel⟩
theorem half_fr : PV.tup [.int 1, .int 2] = frP (1 / 2) := by
  have h : (1 / 2 : Rat).num = 1 ∧ (1 / 2 : Rat).den = 2 := by decide +kernel
  unfold frP
  rw [h.1, h.2]
  rfl
theorem part_fr : PV.tup [.tup [.int 1, .int (10 ^ (6 : Int).toNat)], .tup [.int (10 ^ (6 : Int).toNat - 1), .int (10 ^ (6 : Int).toNat)]] = tabP [1 / 1000000, 999999 / 1000000] := by
  have h : (1 / 1000000 : Rat).num = 1 ∧ (1 / 1000000 : Rat).den = 1000000 := by decide +kernel
  have h2 : (999999 / 1000000 : Rat).num = 999999 ∧ (999999 / 1000000 : Rat).den = 1000000 := by decide +kernel
  unfold tabP frP
  simp only [List.map_cons, List.map_nil]
  rw [h.1, h.2, h2.1, h2.2]
  rfl
theorem eqP_bl (a b : Bool) (μ : Store) : eqP (.bl a) (.bl b) μ = some (decide (a = b)) := rfl
theorem shb_frs {qs : List Rat} (h : ∀ q ∈ qs, Sm 1900 q) (hl : qs.length ≤ 20) : ShB 2 90000 (.lst (qs.map frP)) := by
  have := shb_lst (xs := qs.map frP) (d := 1) (l := 4000) fun x hx => by
    obtain ⟨q, hq, rfl⟩ := List.mem_map.mp hx
    exact shb_fr (h q hq)
  refine this.mono (by decide) ?_
  rw [List.length_map]
  have := Nat.mul_le_mul_right 4002 hl
  omega
theorem third_fr : PV.tup [.int 1, .int 3] = frP (1 / 3) := by
  have h : (1 / 3 : Rat).num = 1 ∧ (1 / 3 : Rat).den = 3 := by decide +kernel
  unfold frP
  rw [h.1, h.2]
  rfl
theorem five_fr : PV.tup [.int 5, .int 2] = frP (5 / 2) := by
  have h : (5 / 2 : Rat).num = 5 ∧ (5 / 2 : Rat).den = 2 := by decide +kernel
  unfold frP
  rw [h.1, h.2]
  rfl
theorem little_fr : PV.tup [.int 1, .int (10 ^ (20 : Int).toNat)] = frP (1 / 100000000000000000000) := by
  have h : (1 / 100000000000000000000 : Rat).num = 1 ∧ (1 / 100000000000000000000 : Rat).den = 100000000000000000000 := by decide +kernel
  unfold frP
  rw [h.1, h.2]
  rfl
theorem lit_sm : Sm 70 (1 / 3) ∧ Sm 70 (5 / 2) ∧ Sm 70 (1 / 2) ∧ Sm 70 (1 / 100000000000000000000) := by
  refine ⟨⟨?_, ?_⟩, ⟨?_, ?_⟩, ⟨?_, ?_⟩, ?_, ?_⟩ <;> decide +kernel
end Fx

namespace Fx
open PySem PySem.Spec PyProof.Rows L2 RZ MR
theorem bools_out {α : Type} (l : List α) (f : α → Bool) : boolsP (([] : List PV) ++ l.map fun a => PV.bl (f a)) = some (l.map f) := by
  have := boolsP_map (l.map f)
  rw [List.map_map] at this
  exact this
theorem all_out {α : Type} (l : List α) (f : α → Bool) : (l.map f).all id = l.all f := by rw [List.all_map]; rfl
theorem any_out {α : Type} (l : List α) (f : α → Bool) : (l.map f).any id = l.any f := by rw [List.any_map]; rfl
def zs (ns : List Nat) : List Int := ns.map fun (n : Nat) => (n : Int)
theorem lot_ints (ns : List Nat) : lotP ns = .tup ((zs ns).map PV.int) := by
  unfold lotP zs
  rw [List.map_map]
  rfl
theorem zs_length (ns : List Nat) : (zs ns).length = ns.length := by simp [zs]
theorem all_zs (ns : List Nat) (lo hi : Nat) : ((zs ns).all fun i => decide ((lo : Int) ≤ i) && decide (i ≤ (hi : Int))) = ns.all fun n => decide (lo ≤ n) && decide (n ≤ hi) := by
  unfold zs
  rw [List.all_map]
  congr 1
  funext n
  simp [Function.comp]
/-! ### figures -/
def figP (W : Nat) (A C : List Nat) : PV := .tup [.int (W : Nat), lotP A, lotP C]
theorem eqP_lots (a b : List Nat) (μ : Store) : eqP (lotP a) (lotP b) μ = some (decide (a = b)) := by
  have h : ∀ L : List Int, SeqAt.shaped (.tuple (L.map PyData.int)) = true := fun L => by
    have := depth_ints L
    simp [SeqAt.shaped, PyData.canLay0, canLay_ints, PyData.depth]
    omega
  have inj : ∀ {a b : List Nat}, zs a = zs b → a = b := fun {a b} e => by
    have := congrArg (List.map Int.toNat) e
    simpa [zs, Function.comp_def] using this
  rw [lot_ints, lot_ints]
  unfold eqP
  simp only [scalP, frzP, datP, datPs_ints, Option.map_some, h, and_self, if_true, PyData.eqv, eqv_ints]
  congr 1
  exact decide_eq_decide.mpr ⟨inj, fun e => by rw [e]⟩
theorem lot_nil : PV.tup [] = lotP [] := rfl
theorem lot_0 : PV.tup [.int 0] = lotP [0] := rfl
theorem lot_1 : PV.tup [.int 1] = lotP [1] := rfl
theorem shb_small {k : Nat} {i : Int} (h : i.natAbs < 2 ^ k) (h1 : 1 ≤ k) (h2 : k ≤ 1900) : ShB 0 (k + 1) (.int i) := by
  refine ⟨.int i, rfl, ?_, by simp [PyData.hasDict], by simp [PyData.depth], ?_⟩
  · have := log_lt h
    simp only [PyData.showable, decide_eq_true_eq]
    omega
  · have := int_text_length_le10 (a := i) (k := k) h1 (Nat.lt_of_lt_of_le h (Nat.pow_le_pow_left (by decide) k))
    rw [PyData.shown_int, PySem.ofString_length]
    exact this
theorem shb_bits {A : List Nat} (h : ∀ x ∈ A, x < 2) (hl : A.length ≤ 3000) : ShB 1 20000 (lotP A) := by
  unfold lotP
  have := shb_tup (xs := A.map fun (n : Nat) => PV.int n) (d := 0) (l := 2) fun x hx => by
    obtain ⟨n, hn, rfl⟩ := List.mem_map.mp hx
    have := h n hn
    exact shb_small (k := 1) (by rw [Int.natAbs_natCast]; omega) (by decide) (by decide)
  refine this.mono (by decide) ?_
  rw [List.length_map]
  omega
theorem shb_fig {W : Nat} {A C : List Nat} (hW : W < 2 ^ 1900) (hA : ∀ x ∈ A, x < 2) (hC : ∀ x ∈ C, x < 2) (h1 : A.length ≤ 3000) (h2 : C.length ≤ 3000) : ShB 2 70000 (figP W A C) := by
  have := shb_tup (xs := [.int (W : Nat), lotP A, lotP C]) (d := 1) (l := 20000) fun x hx => by
    rcases List.mem_cons.mp hx with rfl | hx
    · exact (shb_int (by rw [Int.natAbs_natCast]; exact hW)).mono (by decide) (by decide)
    · rcases List.mem_cons.mp hx with rfl | hx
      · exact shb_bits hA h1
      · rw [List.mem_singleton.mp hx]; exact shb_bits hC h2
  exact this.mono (by decide) (by show 3 * (20000 + 2) + 3 ≤ 70000; decide)
theorem last_lot (A : List Nat) (h : A ≠ []) : L2.atI (A.map fun (n : Nat) => PV.int n) (-1) = some (.int ((A.getLastD 0 : Nat) : Int)) := by
  unfold L2.atI ixN
  have hl := List.length_pos_iff.mpr h
  rw [List.length_map, if_neg (by omega), if_pos (by omega)]
  show (A.map fun (n : Nat) => PV.int n)[((-1 : Int) + (A.length : Nat)).toNat]? = _
  rw [show ((-1 : Int) + (A.length : Nat)).toNat = A.length - 1 by omega, List.getElem?_map, ← List.getLast?_eq_getElem?, List.getLastD_eq_getLast?, List.getLast?_eq_some_getLast h]
  rfl
theorem lot_take (ns : List Nat) (n : Nat) : PV.tup (cutP (ns.map fun (n : Nat) => PV.int n) none (some (n : Int))) = lotP (ns.take n) := by
  rw [cut_to, ← List.map_take]; rfl
theorem lot_drop (ns : List Nat) (n : Nat) : PV.tup (cutP (ns.map fun (n : Nat) => PV.int n) (some (n : Int)) none) = lotP (ns.drop n) := by
  rw [cut_from, ← List.map_drop]; rfl
theorem cut_neg (xs : List PV) (n : Nat) (h : 0 < n) : cutP xs none (some (-(n : Int))) = xs.take (xs.length - n) := by
  unfold cutP
  rw [sIx_none]
  have : HT.sIx xs.length xs.length (some (-(n : Int))) = xs.length - n := by
    unfold HT.sIx
    simp only
    rw [if_pos (by omega)]
    omega
  rw [this, List.drop_zero, Nat.sub_zero]
theorem while_inv {c : MT} {b : MS} {P : MEnds} {ρ : PEnv} {μ : Store} (W : Nat → PEnv → Store → Prop) {n : Nat} (h0 : W n ρ μ) (hs : ∀ n ρ μ, W n ρ μ →
    c ρ μ fun x μ1 => if x = true then b { P with nx := fun ρ' μ' => ∃ n', n' < n ∧ W n' ρ' μ', ct := fun ρ' μ' => ∃ n', n' < n ∧ W n' ρ' μ', bk := P.nx } ρ μ1 else P.nx ρ μ1) : mWhile c b P ρ μ := ⟨W, ⟨n, h0⟩, hs⟩
theorem div2 (x : Int) : DivOk x 2 := .inl ⟨by decide, by decide⟩
theorem pow_half (s k m : Nat) : (if k % 2 = 1 then s else 1) * (s * s % m) ^ (k / 2) % m = s ^ k % m := by
  have e : s ^ k = (if k % 2 = 1 then s else 1) * (s * s) ^ (k / 2) := by
    conv => lhs; rw [← Nat.div_add_mod k 2]
    rw [Nat.pow_add, Nat.pow_mul, Nat.pow_two, Nat.mul_comm]
    congr 1
    have : k % 2 = 0 ∨ k % 2 = 1 := by omega
    rcases this with h | h <;> simp [h]
  rw [e, Nat.mul_mod, Nat.pow_mod, Nat.mod_mod, ← Nat.pow_mod, ← Nat.mul_mod]
theorem rangeP_one (n : Nat) : rangeP 1 n = (List.range' 1 n).map fun (i : Nat) => PV.int i := by
  unfold rangeP
  rw [List.range'_eq_map_range, List.map_map]
  refine List.map_congr_left fun i _ => ?_
  show PV.int (1 + (i : Nat)) = PV.int ((1 + i : Nat) : Int)
  rw [Int.natCast_add]
  rfl
/-! ### rests met, each with its place -/
def dkey (f : Nat → Nat) (j : Nat) : List (Key × PV) := (List.range j).map fun i => ((.inl (f i : Nat) : Key), PV.int (i : Nat))
theorem dkey_length (f : Nat → Nat) (j : Nat) : (dkey f j).length = j := by simp [dkey]
theorem dkey_succ (f : Nat → Nat) (j : Nat) : dkey f (j + 1) = dkey f j ++ [((.inl (f j : Nat) : Key), PV.int (j : Nat))] := by
  unfold dkey
  rw [List.range_succ, List.map_append]
  rfl
theorem valP_none {f : Nat → Nat} {j x : Nat} (h : ∀ i, i < j → f i ≠ x) : valP (dkey f j) (.inl (x : Nat)) = none := by
  unfold valP
  rw [List.find?_eq_none.mpr]
  · rfl
  · intro p hp
    obtain ⟨i, hi, rfl⟩ := List.mem_map.mp hp
    have := h i (List.mem_range.mp hi)
    simp only [decide_eq_true_eq]
    intro z
    have z : ((f i : Nat) : Int) = (x : Nat) := Sum.inl.inj z
    omega
theorem valP_some {f : Nat → Nat} {s x : Nat} (hx : f s = x) : ∀ {j : Nat}, s < j → (∀ i, i < j → f i = x → i = s) → valP (dkey f j) (.inl (x : Nat)) = some (.int (s : Nat))
  | 0, h, _ => by omega
  | j + 1, h, hu => by
    unfold valP
    rw [dkey_succ, List.find?_append]
    by_cases c : s < j
    · have := valP_some hx c fun i hi => hu i (by omega)
      unfold valP at this
      cases e : (dkey f j).find? (fun kv => decide (kv.1 = (.inl (x : Nat) : Key))) with
      | none => rw [e] at this; cases this
      | some p => rw [e] at this; simpa using this
    · have : s = j := by omega
      subst this
      have := valP_none (f := f) (j := s) (x := x) fun i hi z => by have := hu i (by omega) z; omega
      unfold valP at this
      cases e : (dkey f s).find? (fun kv => decide (kv.1 = (.inl (x : Nat) : Key))) with
      | some p => rw [e] at this; cases this
      | none => simp [hx]
theorem putP_new {f : Nat → Nat} {j : Nat} (h : ∀ i, i < j → f i ≠ f j) : putP (dkey f j) (.inl (f j : Nat)) (.int (j : Nat)) = dkey f (j + 1) := by
  unfold putP
  have : ((dkey f j).any fun kv => decide (kv.1 = (.inl (f j : Nat) : Key))) = false := by
    rw [List.any_eq_false]
    intro p hp
    obtain ⟨i, hi, rfl⟩ := List.mem_map.mp hp
    have := h i (List.mem_range.mp hi)
    simp only [decide_eq_true_eq]
    intro z
    have z : ((f i : Nat) : Int) = (f j : Nat) := Sum.inl.inj z
    omega
  rw [this, if_neg (by decide), dkey_succ]
theorem rst_two (a b j : Nat) : ((2 : Int) * ((rst a b j : Nat) : Int)).fmod (b : Nat) = ((rst a b (j + 1) : Nat) : Int) := by
  rw [Int.fmod_eq_emod_of_nonneg _ (by omega)]
  show _ = ((2 * rst a b j % b : Nat) : Int)
  rw [Int.natCast_emod, Int.natCast_mul]
  rfl
theorem dgt_two (a b j : Nat) : ((2 : Int) * ((rst a b j : Nat) : Int)).fdiv (b : Nat) = ((dgt a b j : Nat) : Int) := by
  rw [Int.fdiv_eq_ediv_of_nonneg _ (by omega)]
  show _ = ((2 * rst a b j / b : Nat) : Int)
  rw [Int.natCast_ediv, Int.natCast_mul]
  rfl
theorem mod_nat (a b : Nat) : ((a : Nat) : Int).fmod (b : Nat) = ((a % b : Nat) : Int) := by rw [Int.fmod_eq_emod_of_nonneg _ (by omega), Int.natCast_emod]
theorem div_nat (a b : Nat) : ((a : Nat) : Int).fdiv (b : Nat) = ((a / b : Nat) : Int) := by rw [Int.fdiv_eq_ediv_of_nonneg _ (by omega), Int.natCast_ediv]
theorem dkey_keys (f : Nat → Nat) (j : Nat) : ((dkey f j).map fun kv => keyPV kv.1) = (List.range j).map fun i => PV.int (f i : Nat) := by
  unfold dkey
  rw [List.map_map]
  rfl
theorem noRefs_of {α : Type} (f : α → Int) : ∀ l : List α, noRefs (l.map fun a => PV.int (f a)) = true
  | [] => rfl
  | a :: l => by rw [List.map_cons, noRefs, noRefs_of f l]; rfl
theorem digs_take {a b j m s : Nat} (h : s ≤ m) : (digs a b j m).take s = digs a b j s := by
  rw [show m = s + (m - s) by omega, digs_add]
  exact List.take_left' (digs_length ..)
theorem digs_drop {a b j m s : Nat} (h : s ≤ m) : (digs a b j m).drop s = digs a b (j + s) (m - s) := by
  conv => lhs; rw [show m = s + (m - s) by omega, digs_add]
  exact List.drop_left' (digs_length ..)
theorem digs_lot (a b m : Nat) : ((List.range m).map fun i => PV.int (dgt a b i : Nat)) = (digs a b 0 m).map fun (n : Nat) => PV.int n := by
  unfold digs
  rw [List.map_map]
  refine List.map_congr_left fun i _ => ?_
  show _ = PV.int (dgt a b (0 + i) : Nat)
  rw [Nat.zero_add]
theorem divN (a : Int) {b n : Nat} (h0 : 0 < b) (h : b < 2 ^ n) (hn : n ≤ 8900 := by decide) : DivOk a (b : Nat) := by
  have := log_lt (x := (b : Nat)) (n := n) (by rw [Int.natAbs_natCast]; exact h)
  exact .inl ⟨by omega, by omega⟩
theorem bits_all (A : List Nat) : (zs A).all (fun i => decide ((0 : Int) ≤ i) && decide (i ≤ (1 : Int))) = A.all (· < 2) := by
  unfold zs
  rw [List.all_map]
  congr 1
  funext n
  simp [Function.comp]
  omega
theorem last_some {A : List Nat} (h : A ≠ []) : A.getLast? = some (A.getLastD 0) := by
  rw [List.getLastD_eq_getLast?, List.getLast?_eq_some_getLast h]
  rfl
theorem last_int (x y : Nat) : decide (((x : Nat) : Int) = (y : Nat)) = (some x == some y) := by
  rw [Bool.eq_iff_iff, decide_eq_true_eq, beq_iff_eq, Option.some.injEq]
  omega
theorem p2_abs (h : Nat) : ((2 : Int) ^ h).natAbs < 2 ^ (h + 1) := by
  rw [Int.natAbs_pow]
  show 2 ^ h < 2 ^ (h + 1)
  exact Nat.pow_lt_pow_right (by decide) (by omega)
theorem p2_abs1 (h : Nat) : ((2 : Int) ^ h - 1).natAbs < 2 ^ (h + 1) := by
  have h1 := p2_abs h
  have h2 := p2pos h
  omega
theorem val2_abs {A : List Nat} (hA : ∀ x ∈ A, x < 2) : ((val2 A : Nat) : Int).natAbs < 2 ^ (A.length + 1) := by
  have := val2_lt A hA
  rw [Int.natAbs_natCast]
  exact Nat.lt_of_lt_of_le this (Nat.pow_le_pow_right (by decide) (by omega))
theorem top_abs {W k : Nat} {A : List Nat} (hA : ∀ x ∈ A, x < 2) (hW : W < 2 ^ k) : ((W : Int) * 2 ^ A.length + (val2 A : Nat)).natAbs < 2 ^ (k + A.length + 2) := by
  have h1 := natAbs_mul_lt (x := (W : Int)) (m := k) (by rw [Int.natAbs_natCast]; exact hW) (p2_abs A.length)
  have h2 := Nat.lt_of_lt_of_le (val2_abs hA) (Nat.pow_le_pow_right (show 0 < 2 by decide) (show A.length + 1 ≤ k + (A.length + 1) by omega))
  have h3 := natAbs_add_lt h1 h2
  exact Nat.lt_of_lt_of_le h3 (Nat.pow_le_pow_right (by decide) (by omega))
theorem figB_bits {A C : List Nat} (h : figB A C = true) : (∀ x ∈ A, x < 2) ∧ ∀ x ∈ C, x < 2 := by
  unfold figB at h
  simp only [Bool.and_eq_true, List.all_eq_true, decide_eq_true_eq] at h
  exact ⟨h.1.1, h.1.2⟩
theorem lt100 {A : List Nat} (h : ∀ x ∈ A, x < 2) : ∀ x ∈ A, x < 2 ^ 100 := fun x hx => Nat.lt_of_lt_of_le (h x hx) (by decide)
theorem pow_le2 {n a b : Nat} (h : n < 2 ^ a) (l : a ≤ b) : n < 2 ^ b := Nat.lt_of_lt_of_le h (Nat.pow_le_pow_right (by decide) l)
theorem in01 (n : Nat) : inP (.int n) [.int 0, .int 1] = decide (n < 2) := by
  have := in_lot n [0, 1]
  refine Eq.trans this ?_
  refine decide_eq_decide.mpr ⟨fun h => ?_, fun h => ?_⟩
  · rcases List.mem_cons.mp h with rfl | h
    · decide
    · rw [List.mem_singleton.mp h]; decide
  · have : n = 0 ∨ n = 1 := by omega
    rcases this with rfl | rfl <;> simp
theorem eqP_lnil {α : Type} [BEq α] (l : List α) (f : α → Int) (μ : Store) : eqP (.lst (l.map fun a => PV.int (f a))) (.lst []) μ = some (l == []) := by
  have e : (l.map fun a => PV.int (f a)) = (l.map f).map PV.int := by rw [List.map_map]; rfl
  have := eqP_li (l.map f) [] μ
  rw [← e] at this
  refine Eq.trans this ?_
  congr 1
  cases l <;> rfl
theorem rep_lot (n : Nat) (C : List Nat) : PV.tup (List.replicate n (C.map fun (n : Nat) => PV.int n)).flatten = lotP (List.replicate n C).flatten := by
  unfold lotP
  rw [List.map_flatten, List.map_replicate]
theorem divInt_small {t b : Int} (ht : 0 ≤ t) (hb : 0 < b) : 0 ≤ Rat.divInt t b ∧ ((Rat.divInt t b).num.toNat : Int) ≤ t ∧ ((Rat.divInt t b).den : Int) ≤ b := by
  obtain ⟨e1, e2⟩ := divInt_parts t b hb
  have h0 : 0 ≤ (Rat.divInt t b).num := by rw [e1]; exact Int.ediv_nonneg ht (by omega)
  refine ⟨Rat.num_nonneg.mp h0, ?_, ?_⟩
  · rw [Int.toNat_of_nonneg h0, e1]
    exact Int.ediv_le_self _ ht
  · rw [e2]
    exact Int.ediv_le_self _ (by omega)
theorem getl2a {α : Type} (μ : List α) (x y : α) : (μ ++ [x] ++ [y])[μ.length]? = some x := by simp
theorem getl2b {α : Type} (μ : List α) (x y : α) : (μ ++ [x] ++ [y])[μ.length + 1]? = some y := by
  rw [List.getElem?_append_right (by simp)]
  simp
theorem setl2a {α : Type} (μ : List α) (x y z : α) : (μ ++ [x] ++ [y]).set μ.length z = μ ++ [z] ++ [y] := by simp
theorem setl2b {α : Type} (μ : List α) (x y z : α) : (μ ++ [x] ++ [y]).set (μ.length + 1) z = μ ++ [x] ++ [z] := by
  rw [List.set_append_right _ _ (by simp)]
  simp
theorem pow_abs {b : Int} {s : Nat} (h : b.natAbs < 2 ^ s) (e : Nat) : (b ^ e).natAbs < 2 ^ (s * e + 1) := by
  rw [Int.natAbs_pow, Nat.pow_succ, Nat.pow_mul]
  have h1 := Nat.pow_le_pow_left (Nat.le_of_lt h) e
  have h2 : 0 < (2 ^ s) ^ e := Nat.pow_pos (Nat.pow_pos (by decide))
  omega
theorem half_lt (n : Nat) : decide (((n / 2 : Nat) : Int) * 2 < (n : Nat)) = decide (n % 2 = 1) := decide_eq_decide.mpr ⟨fun h => by omega, fun h => by omega⟩
theorem raise_step (b : Int) (r l j : Nat) : (if l % 2 = 1 then b ^ r * b ^ (2 ^ j) else b ^ r) = b ^ (r + (l % 2) * 2 ^ j) := by
  have : l % 2 = 0 ∨ l % 2 = 1 := by omega
  rcases this with h | h <;> simp [h, Int.pow_add]
theorem raise_sum {r l j n : Nat} (h : r + l * 2 ^ j = n) : r + (l % 2) * 2 ^ j + (l / 2) * 2 ^ (j + 1) = n := by
  have e : l * 2 ^ j = (l % 2) * 2 ^ j + (l / 2) * 2 ^ (j + 1) := by
    conv => lhs; rw [← Nat.div_add_mod l 2]
    rw [Nat.add_mul, Nat.pow_succ, Nat.mul_comm 2 (l / 2), Nat.mul_assoc, Nat.mul_comm 2 (2 ^ j)]
    omega
  omega
theorem div_two (l : Nat) : ((l : Nat) : Int).fdiv 2 = ((l / 2 : Nat) : Int) := div_nat l 2
theorem pow_one' (b : Int) : b = b ^ 1 := by rw [show (1 : Nat) = 0 + 1 from rfl, Int.pow_succ, Int.pow_zero, Int.one_mul]
/-! ### one statement at a time -/
theorem stm_of {a b : MS} {P : MEnds} {ρ : PEnv} {μ : Store} (h : ∀ R : PEnv → Store → Prop, R = b P → a { P with nx := R } ρ μ) : mSeq a b P ρ μ := h _ rfl
theorem mLenA {a : Option PV} {W : Nat} {A C : List Nat} {ρ : PEnv} {μ : Store} {P : PV → Store → Prop} : mCB pLen (mCons (mOp pIx (mVar 1) (mC (PV.int 1))) mNil) (a :: some (figP W A C) :: ρ) μ P = P (.int (A.length : Nat)) μ := by
  simp only [mCB, mCons, mNil, mOp, mVar, mC, pIx, pLen, figP, items_tup, atI_one, items_lot, List.getElem?_cons_succ, List.getElem?_cons_zero, List.length_map]
theorem mLenC {a : Option PV} {W : Nat} {A C : List Nat} {ρ : PEnv} {μ : Store} {P : PV → Store → Prop} : mCB pLen (mCons (mOp pIx (mVar 1) (mC (PV.int 2))) mNil) (a :: some (figP W A C) :: ρ) μ P = P (.int (C.length : Nat)) μ := by
  simp only [mCB, mCons, mNil, mOp, mVar, mC, pIx, pLen, figP, items_tup, atI_two, items_lot, List.getElem?_cons_succ, List.getElem?_cons_zero, List.length_map]
theorem shb_three {d : Nat} {p q : Rat} (hd : d < 2 ^ 100) (hp : Sm 1900 p) (hq : Sm 1900 q) : ShB 2 90000 (.lst [.int (d : Nat), frP p, frP q]) := by
  have := shb_lst (xs := [.int (d : Nat), frP p, frP q]) (d := 1) (l := 4000) fun x hx => by
    rcases List.mem_cons.mp hx with rfl | hx
    · exact (shb_small (k := 100) (by rw [Int.natAbs_natCast]; exact hd) (by decide) (by decide)).mono (by decide) (by decide)
    · rcases List.mem_cons.mp hx with rfl | hx
      · exact shb_fr hp
      · rw [List.mem_singleton.mp hx]; exact shb_fr hq
  exact this.mono (by decide) (by show 3 * (4000 + 2) + 3 ≤ 90000; decide)
theorem int_fr (n : Int) : PV.tup [.int n, .int 1] = frP ((n : Int) : Rat) := rfl
theorem sm_int {n : Int} {k : Nat} (h : n.natAbs < 2 ^ k) (h1 : 1 ≤ k) : Sm k ((n : Int) : Rat) := ⟨h, by
  show 1 < 2 ^ k
  have := Nat.pow_le_pow_right (show 0 < 2 by decide) h1
  omega⟩
theorem log_small {n k : Nat} (h : n < 2 ^ k) (hk : k + 1 ≤ 1920) : ((n : Nat) : Int).natAbs.log2 < 1920 := by
  have := log_lt (x := (n : Nat)) (n := k) (by rw [Int.natAbs_natCast]; exact h)
  omega
theorem pRepr_fig {W : Nat} {A C : List Nat} {μ : Store} {P : PV → Store → Prop} (hW : W < 2 ^ 1900) (hA : ∀ x ∈ A, x < 2) (hC : ∀ x ∈ C, x < 2) (h1 : A.length ≤ 3000) (h2 : C.length ≤ 3000) (hP : P (.str (shwP (figP W A C))) μ) : pRepr [figP W A C] μ P :=
  pRepr_tup (shb_fig hW hA hC h1 h2) (by decide) (by decide) hP
theorem eqP_lot0 (A : List Nat) (μ : Store) : eqP (.tup (A.map fun (n : Nat) => PV.int n)) (.tup []) μ = some (decide (A = [])) := eqP_lots A [] μ
theorem cut_one (xs : List PV) : cutP xs none (some 1) = xs.take 1 := cut_to xs 1
theorem turned_fig (A C : List Nat) : PV.tup [.int 0, .tup ([] ++ A.map fun n => PV.int ((1 - n : Nat) : Int)), .tup ([] ++ C.map fun n => PV.int ((1 - n : Nat) : Int))] = figP 0 (A.map fun d => 1 - d) (C.map fun d => 1 - d) := by
  unfold figP lotP
  rw [List.map_map, List.map_map]
  rfl
theorem cut_mid (ns : List Nat) (b c : Nat) : ∃ C : List Nat, PV.tup (cutP (ns.map fun (i : Nat) => PV.int i) (some (b : Int)) (some ((b : Int) + (c : Int)))) = lotP C ∧ C.length ≤ c ∧ ∀ x ∈ C, x ∈ ns := by
  refine ⟨(ns.drop (min b ns.length)).take (min (b + c) ns.length - min b ns.length), ?_, ?_, fun x hx => List.mem_of_mem_drop (List.mem_of_mem_take hx)⟩
  · unfold lotP cutP
    rw [show ((b : Int) + (c : Int)) = ((b + c : Nat) : Int) by omega, sIx_nat, sIx_nat, List.length_map, List.map_take, List.map_drop]
  · rw [List.length_take]; omega
theorem shb_told {q : Rat} {W : Nat} {A C : List Nat} (hq : Sm 1900 q) (hW : W < 2 ^ 1900) (hA : ∀ x ∈ A, x < 2) (hC : ∀ x ∈ C, x < 2) (h1 : A.length ≤ 3000) (h2 : C.length ≤ 3000) : ShB 3 500000 (.lst [frP q, figP W A C]) := by
  have := shb_lst (xs := [frP q, figP W A C]) (d := 2) (l := 70000) fun x hx => by
    rcases List.mem_cons.mp hx with rfl | hx
    · exact (shb_fr hq).mono (by decide) (by decide)
    · rw [List.mem_singleton.mp hx]
      exact shb_fig hW hA hC h1 h2
  exact this.mono (by decide) (by show 2 * (70000 + 2) + 3 ≤ 500000; decide)
theorem frL_sm {W : Nat} {A C : List Nat} (hA : ∀ x ∈ A, x < 2) (hC : ∀ x ∈ C, x < 2) (hW : W < 4) (h1 : A.length ≤ 4) (h2 : C.length ≤ 4) : Sm 20 (frL W A C) ∧ 0 ≤ frL W A C ∧ (frL W A C).den ≤ 1000 := by
  have pA := p2pos A.length
  have vA := val2_lt A hA
  have vC := val2_lt C hC
  have a1 : 2 ^ A.length ≤ 2 ^ 4 := Nat.pow_le_pow_right (by decide) h1
  have c1 : 2 ^ C.length ≤ 2 ^ 4 := Nat.pow_le_pow_right (by decide) h2
  have cA := cast2 A.length
  have cC := cast2 C.length
  unfold frL
  split
  · have t0 : (0 : Int) ≤ (W : Int) * 2 ^ A.length := Int.mul_nonneg (by omega) (by omega)
    have t1 : (W : Int) * 2 ^ A.length ≤ 4 * 16 := Int.mul_le_mul (by omega) (by omega) (by omega) (by omega)
    have hb : (2 : Int) ^ A.length = ((2 ^ A.length : Nat) : Int) := cA.symm
    have d := divInt_small (t := (W : Int) * 2 ^ A.length + (val2 A : Nat)) (b := 2 ^ A.length) (by omega) pA
    refine ⟨sm_divInt (by omega) pA (by omega), d.1, ?_⟩
    have := d.2.2
    omega
  · rename_i c
    have pC := p2one c
    have pP := Int.mul_pos pA pC
    have b1 : (2 : Int) ^ A.length * (2 ^ C.length - 1) ≤ 16 * 16 := Int.mul_le_mul (by omega) (by omega) (by omega) (by omega)
    have t0 : (0 : Int) ≤ (W : Int) * 2 ^ A.length := Int.mul_nonneg (by omega) (by omega)
    have t1 : (W : Int) * 2 ^ A.length ≤ 4 * 16 := Int.mul_le_mul (by omega) (by omega) (by omega) (by omega)
    have t2 : (0 : Int) ≤ ((W : Int) * 2 ^ A.length + (val2 A : Nat)) * (2 ^ C.length - 1) := Int.mul_nonneg (by omega) (by omega)
    have t3 : ((W : Int) * 2 ^ A.length + (val2 A : Nat)) * (2 ^ C.length - 1) ≤ 100 * 16 := Int.mul_le_mul (by omega) (by omega) (by omega) (by omega)
    have d := divInt_small (t := ((W : Int) * 2 ^ A.length + (val2 A : Nat)) * (2 ^ C.length - 1) + (val2 C : Nat)) (b := 2 ^ A.length * (2 ^ C.length - 1)) (by omega) pP
    refine ⟨sm_divInt (by omega) pP (by omega), d.1, ?_⟩
    have := d.2.2
    omega
end Fx

namespace Fx
open PySem PySem.Spec PyProof.Rows L2 RZ MR
def sdP : Sd → PV
  | .toss a b => .tup [.str (Str.ofString "toss"), .int (a : Nat), .int (b : Nat)]
  | .out i => .tup [.str (Str.ofString "out"), .int (i : Nat)]
def stsP (S : Mch) : PV := .tup (S.map sdP)
def macP (n : Nat) (S : Mch) : PV := .tup [.int (n : Nat), stsP S]
def rowsD (r : Rows) : List (Key × PV) := r.map fun p => ((.inl (p.1 : Nat) : Key), PV.int (p.2 : Nat))
def runP : Option (Nat × Nat) → PV
  | none => .non
  | some p => .tup [.int (p.1 : Nat), .int (p.2 : Nat)]
def getR (r : Rows) (a : Nat) : Nat := match r.find? fun p => p.1 == a with | some p => p.2 | none => 0
theorem rowsD_find (r : Rows) (a : Nat) : (rowsD r).find? (fun kv => decide (kv.1 = (.inl (a : Nat) : Key))) = (r.find? fun p => p.1 == a).map fun p => ((.inl (p.1 : Nat) : Key), PV.int (p.2 : Nat)) := by
  unfold rowsD
  rw [List.find?_map]
  congr 1
  refine congrArg (fun f => r.find? f) (funext fun p => ?_)
  show decide ((.inl (p.1 : Nat) : Key) = .inl (a : Nat)) = (p.1 == a)
  rw [Bool.eq_iff_iff, decide_eq_true_eq, beq_iff_eq]
  exact ⟨fun h => by have : ((p.1 : Nat) : Int) = (a : Nat) := Sum.inl.inj h; omega, fun h => by rw [h]⟩
theorem rowsD_get (r : Rows) (a : Nat) : (valP (rowsD r) (.inl (a : Nat))).getD (.int 0) = .int (getR r a : Nat) := by
  unfold valP getR
  rw [rowsD_find]
  cases r.find? fun p => p.1 == a <;> rfl
theorem getR_mem : ∀ {r : Rows}, r.keys.Nodup → ∀ {p : Nat × Nat}, p ∈ r → getR r p.1 = p.2
  | [], _, p, h => by simp at h
  | q :: r, hn, p, h => by
    unfold Rows.keys at hn
    rw [List.map_cons, List.nodup_cons] at hn
    unfold getR
    rw [List.find?_cons]
    rcases List.mem_cons.mp h with rfl | h
    · simp
    · have : (q.1 == p.1) = false := by
        rw [beq_eq_false_iff_ne]
        exact fun z => hn.1 (List.mem_map.mpr ⟨p, h, z.symm⟩)
      rw [this]
      exact getR_mem hn.2 h
theorem rowsD_any (r : Rows) (a : Nat) : ((rowsD r).any fun kv => decide (kv.1 = (.inl (a : Nat) : Key))) = r.any fun p => p.1 == a := by
  unfold rowsD
  rw [List.any_map]
  refine congrArg (fun f => r.any f) (funext fun p => ?_)
  show decide ((.inl (p.1 : Nat) : Key) = .inl (a : Nat)) = (p.1 == a)
  rw [Bool.eq_iff_iff, decide_eq_true_eq, beq_iff_eq]
  exact ⟨fun h => by have : ((p.1 : Nat) : Int) = (a : Nat) := Sum.inl.inj h; omega, fun h => by rw [h]⟩
theorem rowsD_put {r : Rows} (hn : r.keys.Nodup) (a m : Nat) : putP (rowsD r) (.inl (a : Nat)) (.int ((getR r a : Nat) + (m : Nat))) = rowsD (bmp r a m) := by
  unfold putP bmp
  rw [rowsD_any]
  cases c : r.any fun p => p.1 == a with
  | true =>
    rw [if_pos rfl, if_pos rfl]
    unfold rowsD
    rw [List.map_map, List.map_map]
    refine List.map_congr_left fun p hp => ?_
    show (if (.inl (p.1 : Nat) : Key) = .inl (a : Nat) then ((.inl (p.1 : Nat) : Key), PV.int ((getR r a : Nat) + (m : Nat))) else ((.inl (p.1 : Nat) : Key), PV.int (p.2 : Nat))) = _
    by_cases e : p.1 = a
    · have := getR_mem hn hp
      rw [← e, if_pos rfl, this]
      show _ = ((.inl ((if p.1 = p.1 then (p.1, p.2 + m) else p).1 : Nat) : Key), PV.int ((if p.1 = p.1 then (p.1, p.2 + m) else p).2 : Nat))
      rw [if_pos rfl, Int.natCast_add]
    · rw [if_neg (fun z => e (by have : ((p.1 : Nat) : Int) = (a : Nat) := Sum.inl.inj z; omega))]
      show _ = ((.inl ((if p.1 = a then (p.1, p.2 + m) else p).1 : Nat) : Key), PV.int ((if p.1 = a then (p.1, p.2 + m) else p).2 : Nat))
      rw [if_neg e]
  | false =>
    rw [if_neg (by decide), if_neg (by decide)]
    have hg : getR r a = 0 := by
      unfold getR
      rw [List.find?_eq_none.mpr]
      intro p hp
      rw [List.any_eq_false] at c
      exact c p hp
    rw [hg]
    unfold rowsD
    rw [List.map_append]
    congr 2
    simp
theorem rowsD_length (r : Rows) : (rowsD r).length = r.length := by simp [rowsD]
theorem sts_at {S : Mch} {s : Nat} (h : s < S.length) : L2.atI (S.map sdP) ((s : Nat) : Int) = some (sdP (at' S s)) := atI_map (at_get h)
theorem eqP_sd0 (s : Sd) (μ : Store) : eqP (sdP s) (.tup []) μ = some false := by
  have h0 : SeqAt.shaped (.tuple []) = true := by decide +kernel
  have ht : PyData.strOk (Str.ofString "toss") = true := by decide +kernel
  have ho : PyData.strOk (Str.ofString "out") = true := by decide +kernel
  cases s with
  | toss a b =>
    have h : SeqAt.shaped (.tuple [.str (Str.ofString "toss"), .int (a : Nat), .int (b : Nat)]) = true := by
      simp [SeqAt.shaped, PyData.canLay0, PyData.canLayAll0, PyData.depth, PyData.depthAll, ht]
    unfold eqP sdP
    simp only [scalP, frzP, datP, datPs, Option.map_some, h, h0, and_self, if_true]
    simp [PyData.eqv, PyData.eqvAll]
  | out i =>
    have h : SeqAt.shaped (.tuple [.str (Str.ofString "out"), .int (i : Nat)]) = true := by
      simp [SeqAt.shaped, PyData.canLay0, PyData.canLayAll0, PyData.depth, PyData.depthAll, ho]
    unfold eqP sdP
    simp only [scalP, frzP, datP, datPs, Option.map_some, h, h0, and_self, if_true]
    simp [PyData.eqv, PyData.eqvAll]
/-! ### walks that must stand still -/
section
variable {α : Type} {C : Store → Prop} {g : MG} {b : MS} {P : MEnds}
theorem forC_inv {enc : α → PV} (I : List α → PEnv → Store → Prop) (hC : ∀ pre ρ μ, I pre ρ μ → C μ) : ∀ {l done : List α} {ρ : PEnv} {μ : Store}, I done ρ μ → (∀ pre a post ρ μ, done ++ l = pre ++ a :: post → I pre ρ μ → ∀ N : PEnv → Store → Prop, (∀ ρ μ, I (pre ++ [a]) ρ μ → N ρ μ) →
      g (enc a) ρ μ fun ρ1 μ1 => b { P with nx := N, ct := N, bk := P.nx } ρ1 μ1) → (∀ ρ μ, I (done ++ l) ρ μ → P.nx ρ μ) → mForLC C g b P (l.map enc) ρ μ
  | [], done, ρ, μ, h0, _, hP => ⟨hC _ _ _ h0, hP ρ μ (by simpa using h0)⟩
  | a :: l, done, ρ, μ, h0, hs, hP => by
    have e1 : done ++ a :: l = (done ++ [a]) ++ l := by simp
    exact ⟨hC _ _ _ h0, hs done a l ρ μ rfl h0 (mForLC C g b P (l.map enc)) fun ρ μ h => forC_inv I hC (done := done ++ [a]) h (fun pre x post ρ μ e2 => hs pre x post ρ μ (by rw [e1]; exact e2)) fun ρ μ h => hP ρ μ (by rw [e1]; exact h)⟩
end
theorem set_app {μ : Store} {r : Nat} (h : r < μ.length) (x z : MO) : (μ ++ [x]).set r z = μ.set r z ++ [x] := by
  rw [List.set_append_left _ _ h]
theorem set_back {μ : Store} {r : Nat} {y : MO} (h : μ[r]? = some y) (z : MO) : (μ.set r z).set r y = μ := by
  obtain ⟨hl, e⟩ := List.getElem?_eq_some_iff.mp h
  rw [List.set_set]
  subst e
  exact List.set_getElem_self hl
theorem set_get {μ : Store} {r : Nat} (h : r < μ.length) (z : MO) : (μ.set r z)[r]? = some z := by
  rw [List.getElem?_set_self h]
theorem app_get {μ : Store} {r : Nat} {y : MO} (h : μ[r]? = some y) (g : Store) : (μ ++ g)[r]? = some y := by
  rw [List.getElem?_append_left (List.getElem?_eq_some_iff.mp h).1]
  exact h
theorem rowsD_items (r : Rows) : ((rowsD r).map fun kv => PV.tup [keyPV kv.1, kv.2]) = r.map fun p => PV.tup [.int (p.1 : Nat), .int (p.2 : Nat)] := by
  unfold rowsD
  rw [List.map_map]
  rfl
theorem rowsD_keys (r : Rows) : ((rowsD r).map fun kv => keyPV kv.1) = r.map fun p => PV.int (p.1 : Nat) := by
  unfold rowsD
  rw [List.map_map]
  rfl
theorem rows_len {S : Mch} {r : Rows} (h : RowsOk S r) : r.length ≤ S.length := by
  have := nodup_len S.length r.keys h.nd h.lt
  simpa [Rows.keys] using this
def partR (S : Mch) (f : Rows) (r : Rows) : Rows := r.foldl (fun f p => (fols (at' S p.1)).foldl (fun f a => bmp f a p.2) f) f
theorem partR_ok {n : Nat} {S : Mch} (hM : MacOk n S) {r f : Rows} (h : ∀ p ∈ r, p.1 < S.length) (hf : RowsOk S f) : RowsOk S (partR S f r) := by
  obtain ⟨h1, h2, h3⟩ := ledOn_go S r f hf.nd
  refine ⟨h1, fun x hx => ?_⟩
  rcases h3 x hx with z | ⟨s, hs, z⟩
  · exact hf.lt x z
  · obtain ⟨p, hp, rfl⟩ := List.mem_map.mp hs
    exact fol_lt hM (h p hp) x z
theorem bmps_rows {S : Mch} {f : Rows} (hf : RowsOk S f) (m : Nat) {l : List Nat} (hl : ∀ a ∈ l, a < S.length) : RowsOk S (l.foldl (fun f a => bmp f a m) f) := by
  obtain ⟨h1, h2, h3⟩ := bmps_ok m l f hf.nd
  exact ⟨h1, fun x hx => (h3 x hx).elim (hf.lt x) (hl x)⟩
theorem numd_split {α : Type} : ∀ {bs : List α} {j : Nat} {pre : List (Nat × α)} {a : Nat × α} {post : List (Nat × α)}, numd j bs = pre ++ a :: post → a.1 = j + pre.length ∧ bs.drop pre.length = a.2 :: bs.drop (pre.length + 1)
  | [], j, pre, a, post, h => by
    cases pre <;> simp [numd] at h
  | b :: bs, j, [], a, post, h => by
    simp only [numd, List.nil_append, List.cons.injEq] at h
    obtain ⟨rfl, _⟩ := h
    exact ⟨rfl, rfl⟩
  | b :: bs, j, p :: pre, a, post, h => by
    simp only [numd, List.cons_append, List.cons.injEq] at h
    obtain ⟨h1, h2⟩ := numd_split h.2
    refine ⟨by rw [h1, List.length_cons]; omega, ?_⟩
    rw [List.length_cons, List.drop_succ_cons, List.drop_succ_cons]
    exact h2
theorem fin_newd {μ0 g : Store} {kvs : List (Key × PV)} {Q : PV → Store → Prop} (n : noRefs (kvs.map (·.2)) = true) (h : Q (.mr μ0.length) (μ0 ++ [.dk kvs])) :
    ∃ y μ', Gc μ0 (.mr (μ0.length + g.length)) (μ0 ++ g ++ [.dk kvs]) y μ' ∧ Q y μ' := by
  refine ⟨_, _, .newd (μ0.length + g.length) (g ++ [.dk kvs]) kvs rfl (List.append_assoc ..) ?_ (by omega) n, h⟩
  rw [← List.length_append]
  exact getl _ _
theorem rowsD_noRefs (r : Rows) : noRefs ((rowsD r).map (·.2)) = true := by
  unfold rowsD
  rw [List.map_map]
  exact noRefs_of (fun p : Nat × Nat => ((p.2 : Nat) : Int)) r
theorem rowsAt_nil {S : Mch} {j : Nat} (h : rowsAt S j = []) : ∀ d, rowsAt S (j + d) = []
  | 0 => h
  | d + 1 => by
    show ledOn S (rowsAt S (j + d)) = []
    rw [rowsAt_nil h d]
    rfl
theorem set_range {α : Type} (f : Nat → α) (j : Nat) (x : α) (n : Nat) : ((List.range n).map f).set j x = (List.range n).map fun i => if i = j then x else f i := by
  apply List.ext_getElem?
  intro i
  rw [List.getElem?_set, List.getElem?_map, List.getElem?_map]
  by_cases hij : j = i
  · subst hij
    rw [if_pos rfl]
    by_cases hl : j < n
    · rw [if_pos (by simpa using hl), List.getElem?_range hl]
      simp
    · rw [if_neg (by simpa using hl), List.getElem?_eq_none (by simpa using hl)]
      rfl
  · rw [if_neg hij]
    cases e : (List.range n)[i]? with
    | none => rfl
    | some k =>
      have : k = i := by
        obtain ⟨h1, h2⟩ := List.getElem?_eq_some_iff.mp e
        rw [List.getElem_range] at h2
        exact h2.symm
      subst this
      simp only [Option.map_some]
      rw [if_neg (fun z => hij z.symm)]
theorem lcC_filter {α : Type} {C : Store → Prop} {g : MG} {c : MT} {e : ME} {ρ0 : PEnv} {P : List PV → Store → Prop} {enc out : α → PV} {p : α → Bool} {μ : Store} (hC : C μ) : ∀ {l : List α} {acc : List PV}, (∀ a ∈ l, ∀ (k : PV → Store → Prop) (n : Store → Prop), (p a = true → k (out a) μ) → (p a = false → n μ) → g (enc a) ρ0 μ fun ρ1 μ1 => c ρ1 μ1 fun b μ2 => if b = true then e ρ1 μ2 k else n μ2) →
    P (acc ++ (l.filter p).map out) μ → mLcLC C g c e ρ0 P (l.map enc) acc μ
  | [], acc, _, hP => ⟨hC, by simpa using hP⟩
  | a :: l, acc, h, hP => by
    refine ⟨hC, ?_⟩
    refine h a List.mem_cons_self _ _ (fun hp => ?_) fun hp => ?_
    · refine lcC_filter hC (fun b hb => h b (List.mem_cons_of_mem _ hb)) ?_
      simpa [List.filter_cons, hp] using hP
    · refine lcC_filter hC (fun b hb => h b (List.mem_cons_of_mem _ hb)) ?_
      simpa [List.filter_cons, hp] using hP
theorem zeros_range (n : Nat) : (List.replicate n [PV.int 0]).flatten = (List.range n).map fun i => PV.int ((fun _ => 0 : Nat → Nat) i : Nat) := by
  induction n with
  | zero => rfl
  | succ n ih =>
    rw [List.replicate_succ', List.flatten_append, ih, List.range_succ, List.map_append]
    rfl
theorem zipP_same {α : Type} (f g : α → PV) : ∀ l : List α, zipP (l.map f) (l.map g) = l.map fun i => .tup [f i, g i]
  | [] => rfl
  | a :: l => by simp [zipP, zipP_same f g l]
theorem at_range {n j : Nat} (f : Nat → PV) (h : j < n) : L2.atI ((List.range n).map f) ((j : Nat) : Int) = some (f j) := atI_map (List.getElem?_range h)
theorem ixN_nat {n j : Nat} (h : j < n) : ixN n ((j : Nat) : Int) = some j := by
  unfold ixN
  rw [if_pos (by omega), if_pos (by omega)]
  rfl
theorem go_sum (S : Mch) : ∀ r : Rows, ((r.filter fun p => !isOut (at' S p.1)).map fun p => ((p.2 : Nat) : Int)).sum = ((wgt (goN S 0) r : Nat) : Int)
  | [] => rfl
  | p :: r => by
    rw [List.filter_cons, wgt_cons]
    have ih := go_sum S r
    have hg : goN S 0 p.1 = if isOut (at' S p.1) = true then 0 else 1 := by
      unfold goN
      cases at' S p.1 <;> rfl
    rw [hg]
    cases isOut (at' S p.1) with
    | true => simp [ih]
    | false => simp [ih]
theorem end_zero (S : Mch) (i s : Nat) : endN S i 0 s = match at' S s with | .out j => if j = i then 1 else 0 | _ => 0 := rfl
theorem wgt_snoc (g : Nat → Nat) (r : Rows) (p : Nat × Nat) : wgt g (r ++ [p]) = wgt g r + p.2 * g p.1 := by
  simp only [wgt_append, wgt_cons, wgt_nil]
  omega
theorem led_lt {n : Nat} {S : Mch} (hM : MacOk n S) : ∀ (bs : List Nat) {s : Nat}, s < S.length → (led S s bs).1 < S.length
  | [], s, h => h
  | b :: bs, s, h => by
    have hf := fol_lt hM h
    unfold led
    cases c : at' S s with
    | out i => exact h
    | toss x y =>
      rw [c] at hf
      simp only
      split
      · exact led_lt hM bs (hf x (by simp [fols]))
      · exact led_lt hM bs (hf y (by simp [fols]))
theorem datPs_sts : ∀ S : Mch, ∃ ds, datPs (S.map sdP) = some ds ∧ PyData.canLayAll0 ds = true ∧ PyData.depthAll ds ≤ 2 ∧ ds.length = S.length
  | [] => ⟨[], rfl, rfl, by simp [PyData.depthAll], rfl⟩
  | s :: S => by
    obtain ⟨ds, h1, h2, h3, h4⟩ := datPs_sts S
    have ht : PyData.strOk (Str.ofString "toss") = true := by decide +kernel
    have ho : PyData.strOk (Str.ofString "out") = true := by decide +kernel
    cases s with
    | toss a b =>
      refine ⟨.tuple [.str (Str.ofString "toss"), .int (a : Nat), .int (b : Nat)] :: ds, by simp [datPs, datP, sdP, h1], by simp [PyData.canLay0, PyData.canLayAll0, ht, h2], ?_, by simp [h4]⟩
      have hd : PyData.depth (.tuple [.str (Str.ofString "toss"), .int (a : Nat), .int (b : Nat)]) ≤ 2 := by simp [PyData.depth, PyData.depthAll]
      rw [PyData.depthAll]
      exact Nat.max_le.mpr ⟨hd, h3⟩
    | out i =>
      refine ⟨.tuple [.str (Str.ofString "out"), .int (i : Nat)] :: ds, by simp [datPs, datP, sdP, h1], by simp [PyData.canLay0, PyData.canLayAll0, ho, h2], ?_, by simp [h4]⟩
      have hd : PyData.depth (.tuple [.str (Str.ofString "out"), .int (i : Nat)]) ≤ 2 := by simp [PyData.depth, PyData.depthAll]
      rw [PyData.depthAll]
      exact Nat.max_le.mpr ⟨hd, h3⟩
theorem eqP_sts {S : Mch} (h : S ≠ []) (μ : Store) : eqP (stsP S) (.tup []) μ = some false := by
  obtain ⟨ds, h1, h2, h3, h4⟩ := datPs_sts S
  have h0 : SeqAt.shaped (.tuple []) = true := by decide +kernel
  have hs : SeqAt.shaped (.tuple ds) = true := by
    have q3 : PyData.depth (.tuple ds) ≤ 64 := by rw [PyData.depth]; omega
    have q4 : PyData.canLay0 (.tuple ds) = true := by rw [PyData.canLay0]; exact h2
    unfold SeqAt.shaped
    rw [q4, decide_eq_true q3]
    rfl
  unfold eqP stsP
  simp only [scalP, frzP, datP, h1, datPs, Option.map_some, hs, h0, and_self, if_true]
  cases ds with
  | nil =>
    have := List.length_pos_iff.mpr h
    simp at h4
    omega
  | cons d ds => simp [PyData.eqv, PyData.eqvAll]
theorem str_to : (Str.ofString "toss" = Str.ofString "out") = False := by simp only [eq_iff_iff, iff_false]; decide +kernel
theorem str_ot : (Str.ofString "out" = Str.ofString "toss") = False := by simp only [eq_iff_iff, iff_false]; decide +kernel
theorem range_split {n a : Nat} {pre post : List Nat} (h : List.range n = pre ++ a :: post) : a = pre.length ∧ pre.length < n := by
  have h1 : (List.range n)[pre.length]? = some a := by rw [h]; simp
  have h2 : pre.length < n := by
    have := congrArg List.length h
    simp at this
    omega
  rw [List.getElem?_range h2] at h1
  exact ⟨(Option.some.inj h1).symm, h2⟩
theorem numd_range {n : Nat} {pre post : List (Nat × Nat)} {a : Nat × Nat} (h : numd 0 (List.range n) = pre ++ a :: post) : a = (pre.length, pre.length) ∧ pre.length < n := by
  obtain ⟨h1, h2⟩ := numd_split h
  rw [Nat.zero_add] at h1
  have hl : pre.length < n := by
    have := congrArg List.length h
    rw [numd_length] at this
    simp at this
    omega
  rw [List.drop_eq_getElem_cons (by simpa using hl), List.getElem_range] at h2
  have := (List.cons.inj h2).1
  exact ⟨by rw [Prod.ext_iff]; exact ⟨h1, this.symm⟩, hl⟩
theorem tops_le {n : Nat} {S : Mch} (hM : MacOk n S) (t : Nat) {i : Nat} (hi : i < n) : topsN S i t ≤ 2 ^ t := by
  have h := tops_all hM t
  have h2 : topsN S i t ≤ ((List.range n).map fun i => topsN S i t).sum := by
    have hm : topsN S i t ∈ (List.range n).map fun i => topsN S i t := List.mem_map.mpr ⟨i, List.mem_range.mpr hi, rfl⟩
    generalize (List.range n).map (fun i => topsN S i t) = l at hm
    induction l with
    | nil => simp at hm
    | cons x l ih =>
      rw [List.sum_cons]
      rcases List.mem_cons.mp hm with h | h
      · omega
      · have := ih h; omega
  omega
def tpN (S : Mch) (j i : Nat) : Nat := if j = 0 then 0 else topsN S i (j - 1)
def pwN (j : Nat) : Nat := if j = 0 then 1 else 2 ^ (j - 1)
theorem fin_frozg {μ0 g : Store} {xs : List PV} {Q : PV → Store → Prop} (n : noRefs xs = true) (h : Q (.lst xs) μ0) : ∃ y μ', Gc μ0 (.mr (μ0.length + g.length)) (μ0 ++ g ++ [.lst xs]) y μ' ∧ Q y μ' := by
  refine ⟨_, _, .froz (μ0.length + g.length) (g ++ [.lst xs]) xs rfl (List.append_assoc ..) ?_ (by omega) n, h⟩
  rw [← List.length_append]
  exact getl _ _
theorem bitRows_len : ∀ k, (bitRows k).length = 2 ^ k
  | 0 => rfl
  | k + 1 => by
    have h : ∀ L : List (List Nat), (L.flatMap fun l => [l ++ [0], l ++ [1]]).length = 2 * L.length := fun L => by
      induction L with
      | nil => rfl
      | cons a L ih => rw [List.flatMap_cons, List.length_append, ih]; simp; omega
    show ((bitRows k).flatMap fun l => [l ++ [0], l ++ [1]]).length = _
    rw [h, bitRows_len k, Nat.pow_succ, Nat.mul_comm]
theorem noRefs_lots : ∀ L : List (List Nat), noRefs (L.map lotP) = true
  | [] => rfl
  | a :: L => by rw [List.map_cons, noRefs, noRefs_lots L, noRef_lot]; rfl
theorem lot_snoc (l : List Nat) (d : Nat) : PV.tup ((l.map fun (n : Nat) => PV.int n) ++ [.int (d : Nat)]) = lotP (l ++ [d]) := by
  unfold lotP
  rw [List.map_append]
  rfl
theorem sdP_map_toss (f : Nat) (x y : Nat) : PV.tup [.str (Str.ofString "toss"), .int ((x : Nat) + (f : Nat)), .int ((y : Nat) + (f : Nat))] = sdP (Sd.map (· + f) (.toss x y)) := by
  unfold sdP Sd.map
  simp only [Int.natCast_add]
theorem noRefs_sts : ∀ S : Mch, noRefs (S.map sdP) = true
  | [] => rfl
  | s :: S => by
    rw [List.map_cons, noRefs, noRefs_sts S]
    cases s <;> rfl
theorem noRef_mac (n : Nat) (S : Mch) : noRef (macP n S) = true := by
  unfold macP stsP
  simp only [noRef, noRefs, noRefs_sts, Bool.and_self]
theorem bitRows_mem : ∀ (k : Nat) {l : List Nat}, l ∈ bitRows k → l.length = k ∧ ∀ b ∈ l, b < 2
  | 0, l, h => by
    have : l = [] := by simpa [bitRows] using h
    subst this
    simp
  | k + 1, l, h => by
    obtain ⟨x, hx, hl⟩ := List.mem_flatMap.mp (show l ∈ (bitRows k).flatMap fun l => [l ++ [0], l ++ [1]] from h)
    obtain ⟨h1, h2⟩ := bitRows_mem k hx
    simp only [List.mem_cons, List.not_mem_nil, or_false] at hl
    rcases hl with rfl | rfl
    · refine ⟨by simp [h1], fun b hb => ?_⟩
      rcases List.mem_append.mp hb with hb | hb
      · exact h2 b hb
      · rw [List.mem_singleton.mp hb]; decide
    · refine ⟨by simp [h1], fun b hb => ?_⟩
      rcases List.mem_append.mp hb with hb | hb
      · exact h2 b hb
      · rw [List.mem_singleton.mp hb]; decide
theorem min_nat {many : Nat} (h : 1 ≤ many) {u : Int} (hu : 0 ≤ u) : ∃ x : Nat, (if u < (many : Nat) - 1 then u else ((many : Nat) : Int) - 1) = (x : Nat) ∧ x < many := by
  by_cases c : u < (many : Nat) - 1
  · exact ⟨u.toNat, by rw [if_pos c]; omega, by omega⟩
  · exact ⟨many - 1, by rw [if_neg c]; omega, by omega⟩
theorem int_nat {many : Nat} {u : Int} (h0 : 0 ≤ u) (h1 : u < many) : ∃ x : Nat, u = (x : Nat) ∧ x < many := ⟨u.toNat, by omega, by omega⟩
/-- what stands in the store while rows are counted: the lists of ends so far, the rows now -/
structure CountI (S : Mch) (n b j : Nat) (ks : List Nat) (p : Nat) (μ : Store) : Prop where
  fnd : μ[b + 1]? = some (.lst (ks.map .mr))
  len : ks.length = j
  end_ : ∀ (i k : Nat), ks[i]? = some k → μ[k]? = some (.lst ((List.range n).map fun x => .int (endN S x i 0 : Nat))) ∧ b + 2 ≤ k
  now : μ[p]? = some (.dk (rowsD (rowsAt S j)))
  np : b ≤ p ∧ p ≠ b + 1
theorem fin_counts {S : Mch} {n j p : Nat} {μ0 h : Store} {ks : List Nat} {Q : PV → Store → Prop} (hC : CountI S n μ0.length j ks p (μ0 ++ h)) (hQ : Q (.lst ((List.range j).map fun k => .lst ((List.range n).map fun x => .int (endN S x k 0 : Nat)))) μ0) :
    ∃ y μ', Gc μ0 (.mr (μ0.length + 1)) (μ0 ++ h) y μ' ∧ Q y μ' := by
  have e : ((List.range j).map fun k => PV.lst ((List.range n).map fun x => .int (endN S x k 0 : Nat))) = ((List.range j).map fun k => (List.range n).map fun x => PV.int (endN S x k 0 : Nat)).map PV.lst := by
    rw [List.map_map]
    rfl
  rw [e] at hQ
  refine ⟨_, _, .froz2 (μ0.length + 1) h ks ((List.range j).map fun k => (List.range n).map fun x => PV.int (endN S x k 0 : Nat)) rfl rfl hC.fnd (by omega) (by simp [hC.len]) (fun i k ys h1 h2 => ?_), hQ⟩
  obtain ⟨h3, h4⟩ := hC.end_ i k h1
  have hi : i < j := by
    have := (List.getElem?_eq_some_iff.mp h1).1
    rw [hC.len] at this
    exact this
  rw [List.getElem?_map, List.getElem?_range hi] at h2
  have h2 := Option.some.inj h2
  subst h2
  exact ⟨h3, by omega, noRefs_of (fun x => ((endN S x i 0 : Nat) : Int)) _⟩
theorem set_off (μ h : Store) (z : MO) : (μ ++ h).set (μ.length + 1) z = μ ++ h.set 1 z := by
  rw [List.set_append_right _ _ (by omega)]
  congr 2
  omega
theorem rowsD_val {r : Rows} (hn : r.keys.Nodup) {p : Nat × Nat} (hp : p ∈ r) : valP (rowsD r) (.inl (p.1 : Nat)) = some (.int (p.2 : Nat)) := by
  have h1 := rowsD_get r p.1
  rw [getR_mem hn hp] at h1
  unfold valP at h1 ⊢
  rw [rowsD_find] at h1 ⊢
  cases e : r.find? fun q => q.1 == p.1 with
  | none =>
    rw [List.find?_eq_none] at e
    exact absurd (by simp) (e p hp)
  | some q =>
    rw [e] at h1
    simpa using h1
theorem CountI.start (S : Mch) (n : Nat) (μ : Store) : CountI S n μ.length 0 [] μ.length (μ ++ [.dk (rowsD (rowsAt S 0)), .lst []]) := by
  refine ⟨?_, rfl, fun i k h => by simp at h, ?_, Nat.le_refl _, by omega⟩
  · rw [List.getElem?_append_right (by omega)]
    simp
  · rw [List.getElem?_append_right (by omega)]
    simp
theorem CountI.next {S : Mch} {n j p : Nat} {μ h : Store} {ks : List Nat} (hC : CountI S n μ.length j ks p (μ ++ h)) :
    CountI S n μ.length (j + 1) (ks ++ [(μ ++ h).length]) ((μ ++ h).length + 1) (μ ++ (h.set 1 (.lst (ks.map .mr ++ [.mr (μ ++ h).length])) ++ [.lst ((List.range n).map fun x => .int (endN S x j 0 : Nat)), .dk (rowsD (rowsAt S (j + 1)))])) := by
  have hl := (List.getElem?_eq_some_iff.mp hC.fnd).1
  have hl2 : 1 < h.length := by rw [List.length_append] at hl; omega
  have e : μ ++ (h.set 1 (.lst (ks.map .mr ++ [.mr (μ ++ h).length])) ++ [MO.lst ((List.range n).map fun x => .int (endN S x j 0 : Nat)), .dk (rowsD (rowsAt S (j + 1)))]) = (μ ++ h).set (μ.length + 1) (.lst (ks.map .mr ++ [.mr (μ ++ h).length])) ++ [MO.lst ((List.range n).map fun x => .int (endN S x j 0 : Nat)), .dk (rowsD (rowsAt S (j + 1)))] := by
    rw [set_off, List.append_assoc]
  rw [e]
  have hsl : ((μ ++ h).set (μ.length + 1) (.lst (ks.map .mr ++ [.mr (μ ++ h).length]))).length = (μ ++ h).length := List.length_set
  refine ⟨?_, by rw [List.length_append, hC.len]; rfl, fun i k hk => ?_, ?_, ?_⟩
  · rw [app_get (set_get hl _)]
    rw [List.map_append]
    rfl
  · by_cases hi : i < ks.length
    · rw [List.getElem?_append_left hi] at hk
      obtain ⟨h1, h2⟩ := hC.end_ i k hk
      refine ⟨?_, h2⟩
      refine app_get ?_ _
      rw [List.getElem?_set_ne (by omega)]
      exact h1
    · rw [List.getElem?_append_right (by omega)] at hk
      have hij : i = ks.length := by
        have := (List.getElem?_eq_some_iff.mp hk).1
        simp at this
        omega
      subst hij
      rw [Nat.sub_self] at hk
      have hk : (μ ++ h).length = k := by simpa using hk
      subst hk
      refine ⟨?_, by rw [List.length_append]; omega⟩
      rw [List.getElem?_append_right (by omega), hsl, Nat.sub_self, hC.len]
      rfl
  · rw [List.getElem?_append_right (by omega), hsl]
    simp
  · rw [List.length_append]
    omega

/-! ### repr of runs -/
def shwR : Option (Nat × Nat) → Str
  | none => ("None" : String)
  | some p => shwP (runP (some p))
def RunB (r : Option (Nat × Nat)) : Prop := ∀ p, r = some p → p.1 < 2 ^ 100 ∧ p.2 < 2 ^ 100
theorem pRepr_run2 {i k : Nat} {μ : Store} {P : PV → Store → Prop} (h : RunB (some (i, k))) (hP : P (.str (shwR (some (i, k)))) μ) : pRepr [.tup [.int (i : Nat), .int (k : Nat)]] μ P := by
  obtain ⟨h1, h2⟩ := h _ rfl
  have hb : ShB 1 3000 (.tup [.int (i : Nat), .int (k : Nat)]) := by
    refine (shb_tup (d := 0) (l := 101) fun x hx => ?_).mono (by decide) (by simp)
    rcases List.mem_cons.mp hx with rfl | hx
    · exact shb_small (k := 100) (by rw [Int.natAbs_natCast]; exact h1) (by decide) (by decide)
    · rw [List.mem_singleton.mp hx]
      exact shb_small (k := 100) (by rw [Int.natAbs_natCast]; exact h2) (by decide) (by decide)
  exact pRepr_tup hb (by decide) (by decide) hP
theorem pRepr_run {r : Option (Nat × Nat)} {μ : Store} {P : PV → Store → Prop} (h : RunB r) (hP : P (.str (shwR r)) μ) : pReprA [runP r] μ P := by
  cases r with
  | none => exact hP
  | some p => exact pRepr_run2 (i := p.1) (k := p.2) h hP
theorem runB_of {n : Nat} {S : Mch} {bs : List Nat} (hM : MacOk n S) {s : Nat} (hs : s < S.length) (hl : bs.length ≤ 1000) : RunB (runR S s bs) := fun p hp => by
  obtain ⟨h1, h2⟩ := run_bnd hM hs hp
  have := hM.n8
  have e : 1001 ≤ 2 ^ 100 := by decide
  exact ⟨by omega, by omega⟩
theorem isNon_run (r : Option (Nat × Nat)) : isNonP (runP r) = r.isNone := by cases r <;> rfl
theorem lot_neg (bs : List Nat) : PV.tup (cutP (bs.map fun (n : Nat) => PV.int n) none (some (-1))) = lotP (bs.take (bs.length - 1)) := by
  rw [show (-1 : Int) = -((1 : Nat) : Int) from rfl, cut_neg _ 1 (by decide), List.length_map, ← List.map_take]
  rfl
theorem eqP_run (r : Option (Nat × Nat)) (i k : Nat) (μ : Store) : eqP (runP r) (.tup [.int i, .int k]) μ = some (decide (r = some (i, k))) := by
  cases r with
  | none => rfl
  | some p =>
    show eqP (.tup [.int (p.1 : Nat), .int (p.2 : Nat)]) (.tup [.int i, .int k]) μ = _
    rw [eqP_tup2]
    congr 1
    rw [decide_eq_decide, Option.some.injEq, Prod.ext_iff]
    simp only
    omega
theorem intsP_nat (O : List Nat) : intsP (O.map fun (n : Nat) => PV.int n) = some (O.map fun (n : Nat) => (n : Int)) := by
  induction O with
  | nil => rfl
  | cons a O ih => rw [List.map_cons, intsP, ih]; rfl
theorem idxOf_cast (O : List Nat) (x : Nat) : (O.map fun (n : Nat) => (n : Int)).idxOf (x : Int) = O.idxOf x := by
  induction O with
  | nil => rfl
  | cons a O ih =>
    rw [List.map_cons, List.idxOf_cons, List.idxOf_cons, ih]
    by_cases h : a = x
    · subst h; simp
    · have e1 : ((a : Int) == (x : Int)) = false := by rw [beq_eq_false_iff_ne]; omega
      have e2 : (a == x) = false := by rw [beq_eq_false_iff_ne]; exact h
      rw [e1, e2]
theorem mem_cast {O : List Nat} {x : Nat} (h : x ∈ O) : (x : Int) ∈ O.map fun (n : Nat) => (n : Int) := List.mem_map.mpr ⟨x, h, rfl⟩
theorem erase_map {α β : Type} (f : α → β) : ∀ (l : List α) (j : Nat), (l.map f).eraseIdx j = (l.eraseIdx j).map f
  | [], _ => rfl
  | _ :: _, 0 => rfl
  | a :: l, j + 1 => by
    show f a :: (l.map f).eraseIdx j = f a :: (l.eraseIdx j).map f
    rw [erase_map f l j]
theorem erase_perm : ∀ {l : List Nat} {j : Nat} (h : j < l.length), List.Perm (l[j] :: l.eraseIdx j) l
  | a :: l, 0, _ => .refl _
  | a :: l, j + 1, h => by
    have h' : j < l.length := Nat.lt_of_succ_lt_succ h
    show List.Perm (l[j] :: a :: l.eraseIdx j) (a :: l)
    exact (List.Perm.swap a l[j] _).trans ((erase_perm h').cons a)
end Fx

namespace Fx
open PySem PySem.Spec PyProof.Rows L2 RZ
section
variable {P : Program} {w : World} {A : Around} {E : Value → Shared → Prop} {s : Shared}
/-- a set with nothing in it -/
abbrev bare (w : World) : Obj := { cls := .type "set", dict := none, data := .set #[] 0 (.fresh 0 0 (!w.params.followText "set-order")) }
theorem set_filled {S l : Addr} {items : Array Value} (ns : List Int) {Q : PySem.Fin → Shared → Prop} (hh : A.handled = none) (hS : s.heap.get? S = some (bare w)) (hl : s.heap.IsList l items) (hne : S ≠ l) (hit : IntsAre items.toList ns) (hb : ns.length + 1 < scanBound)
    (h : ∀ (h' : Heap) (tk c : Nat), SetR w h' S (fun j => decide (j ∈ ns)) c → c ≤ ns.length → (∀ b o, b ≠ S → s.heap.get? b = some o → h'.get? b = some o) → Q (.done (.ret .none)) { s with heap := h', toks := tk }) :
    wpAny (model P w) A (Builtin.«set.__init__» ⟨[.ref S, .ref l], []⟩) Q E s := by
  have o1 := F.sub_list_set
  have o2 := F.sub_list_frozenset
  have o3 : (Value.type "list" == Value.type "dict") = false := by decide
  obtain ⟨⟨lc, ld, lt, lsl⟩, hg, hcl, nl, hdl⟩ := id hl
  simp only at hcl hdl
  subst hcl hdl
  unfold Builtin.«set.__init__» noKeywords Builtin.Frozenset.updateFrom
  generalize hPI : pyIter = PI
  wp_walk
  subst hPI
  refine wpAny_pyIter_list hl ?_
  refine wpAny_bind (wpAny_runValue ?_)
  have a1 := Heap.lt_size hS
  have a2 := Heap.lt_size hg
  have hz : ns.length = items.size := by
    have := IntsAre.length hit
    rw [Array.length_toList] at this
    exact this.symm
  refine set_update_ints ((Walks.list (by simp [hh]) s.heap.objs.size l (Nat.ne_of_lt a2) items).toS) S ?_ ns hz.symm hb (fun i v hv => ?_) (items.size - 0) 0 _ (by omega) (Nat.zero_le _) ⟨⟨_, Heap.get?_push_size _ rfl, rfl, rfl⟩, hl.push _⟩ ⟨0, Nat.le_refl 0, setR_new_at (Heap.get?_push_of_some _ hS)⟩ fun s' c hm hc hR => ?_
  · intro hm
    rcases List.mem_cons.mp hm with e | e
    · exact absurd a1 (by rw [e]; exact Nat.lt_irrefl _)
    · exact hne (List.mem_singleton.mp e)
  · have hv' : items[i]? = some v := hv
    have hi : i < ns.length := by rw [hz]; exact (Array.getElem?_eq_some_iff.mp hv').1
    obtain ⟨t, e⟩ := IntsAre.int_at hit i v (by rw [Array.getElem?_toList]; exact hv')
    rw [List.getD_eq_getElem?_getD, List.getElem?_eq_getElem hi] at e
    exact ⟨_, t, List.getElem?_eq_getElem hi, e⟩
  · obtain ⟨h', g', d', tk, os'⟩ := s'
    have q1 : g' = s.gens := hm.gens
    have q2 : d' = s.drawn := hm.drawn
    have q3 : os' = s.os := hm.os
    subst q1 q2 q3
    show wpAny _ _ _ _ _ _
    refine wpAny_pure ?_
    show wpAny _ _ (ret Value.none) _ _ _
    refine wpAny_pure (h h' tk c hR (by omega) fun b o hbS e => ?_)
    refine hm.heap b o ?_ (Heap.get?_push_of_some _ e)
    have a3 := Heap.lt_size e
    intro hx
    rcases List.mem_cons.mp hx with e | hx
    · exact hbS e
    · have := List.mem_singleton.mp hx
      subst this
      exact absurd a3 (Nat.lt_irrefl _)
theorem set_from_list {l : Addr} {items : Array Value} (ns : List Int) {Q : Value → Shared → Prop} (hh : A.handled = none) (hl : s.heap.IsList l items) (hit : IntsAre items.toList ns) (hb : ns.length + 1 < scanBound)
    (h : ∀ (h' : Heap) (tk c : Nat), SetR w h' s.heap.objs.size (fun j => decide (j ∈ ns)) c → c ≤ ns.length → (∀ b o, s.heap.get? b = some o → h'.get? b = some o) → Q (.ref s.heap.objs.size) { s with heap := h', toks := tk }) :
    wpAny (model P w) A (call (.type "set") [.ref l]) Q E s := by
  have hlt : l < s.heap.objs.size := by
    obtain ⟨o, ho, _⟩ := id hl
    exact Heap.lt_size ho
  have f1 := F.called_set.notType
  have f2 := F.called_set.canCreate
  have f3 := F.typeCall_set_1 (.ref l)
  have f4 := F.called_set.made
  have f5 := sub_set_self
  have f6 := F.called_set.init.lookup
  obtain ⟨c0, tl, f7⟩ := F.called_set.mro
  refine wpAny_call (codeAny_of_tree ?_)
  show wpAny _ _ (callAny (.type "set") _) _ _ _
  refine wpAny_pure ⟨Code.quiet_builtin _ (by decide +kernel), codeAny_builtin F.entry_type_call ?_⟩
  rw [Around.under_plain (weight_type_call_type "set" [.ref l] []) rfl]
  repeat (any_goals (first | assumption | wp_step))
  refine codeAny_mono (code_set_led1 (.ref l) (E := E) (Q₁ := fun y s1 => y = .ref s.heap.objs.size ∧ s1 = { s with heap := s.heap.push (bare w) }) ⟨rfl, rfl⟩) fun r s1 hr => ?_
  match r, hr with
  | .error _, hr => exact hr
  | .ok (.ret y), ⟨e1, e2⟩ =>
    subst e1 e2
    have hS : (s.heap.push (bare w)).get? s.heap.objs.size = some (bare w) := Heap.get?_push_size _ rfl
    have hT : Shared.TypeIs { s with heap := s.heap.push (bare w) } (.ref s.heap.objs.size) "set" := ⟨_, hS, rfl⟩
    have f8 := F.called_set.init.bind (.ref s.heap.objs.size)
    repeat (any_goals (first | assumption | wp_step))
    refine codeAny_mono (codeAny_call_builtin (R := wants (fun y s2 => y = .none ∧ ∃ h' tk c, s2 = { s with heap := h', toks := tk } ∧ SetR w h' s.heap.objs.size (fun j => decide (j ∈ ns)) c ∧ c ≤ ns.length ∧ ∀ b o, s.heap.get? b = some o → h'.get? b = some o) E) F.called_set.init.plain F.entry_set_init (check_set_init_1 hT ?_)) fun r2 s2 hr2 => ?_
    · refine set_filled (s := { s with heap := s.heap.push (bare w) }) ns (by simp [hh]) hS (hl.push _) (Nat.ne_of_gt hlt) hit hb fun h' tk c hR hc hk => ?_
      exact ⟨rfl, h', tk, c, rfl, hR, hc, fun b o e => hk b o (Nat.ne_of_lt (Heap.lt_size e)) (Heap.get?_push_of_some _ e)⟩
    · match r2, hr2 with
      | .error _, hr2 => exact hr2
      | .ok (.ret y), ⟨e1, h', tk, c, e2, hR, hc, hk⟩ =>
        subst e1 e2
        repeat (any_goals (first | assumption | wp_step))
        exact h h' tk c hR hc hk
end
end Fx

/-! Fx20: sorted(set([..])), a list of numbers. -/
namespace Fx
open PySem PySem.Spec PyProof.Rows L2 RZ
def tSortSetL (K : PySem.W.Frag) (te : TE) : TE := fun σ H Q => te σ H fun v H1 => ∃ (p : Addr) (ns : List Int), v = .ref p ∧ SqL K H1 p (ns.map V.int) ∧ ns.length < 63 ∧
  ∀ (ms : List Int) (q : Addr), ms.Pairwise (· < ·) → (∀ k : Int, k ∈ ms ↔ k ∈ ns) → H1 q = none → Q (.ref q) (upd H1 q (.lst (ms.map V.int)))
theorem pe_sortSetL {X : Cx} {a : Expr} {te : TE} {p p2 q pos : Pos} (hc : X.calm = true) (hg : Gl X "sorted") (hm : X.mg "sorted" = none) (hg2 : Gl X "set") (hm2 : X.mg "set" = none) (ha : PE X a te)
    (na : starEach [a] X.env = (false, eval a X.env) :: starEach [] X.env := by rfl) : PE X (.Call (.Name "sorted" p) [.Call (.Name "set" p2) [a] [] q] [] pos) (tSortSetL X.K te) := by
  refine ⟨fun pins s σ H Q I h => ?_⟩
  refine wpAny_Call_Name_kw (ld_blt I hg hm boot_sorted ?_)
  refine PyProof.Rows.callWith_builtin1 (PyProof.Rows.args_cons ?_ rfl) rfl rfl
  refine wpAny_Call_Name_kw (ld_blt I hg2 hm2 boot_set ?_)
  refine PyProof.Rows.callWith_type1 (PyProof.Rows.args_cons (thn (ha.run pins s σ H _ I h) fun v s1 ⟨x, H1, I1, r1, q1⟩ => PyProof.Rows.args_nil ?_) na) na rfl
  obtain ⟨t, ns, rfl, hq, hl, q1⟩ := q1
  cases r1
  obtain ⟨its, rv, pl, hz⟩ := I1.list hq
  have hi : IntsAre its.toArray.toList ns := ints_of_vals rv
  have hd := I1.ok.hd hc
  refine set_from_list ns hd pl.isList hi (by unfold scanBound; omega) fun h' tk c R1 hcn k => ?_
  refine PyProof.Rows.args_nil ?_
  have hlt : s1.heap.objs.size < h'.objs.size := by
    have ⟨o, _, _, _, ho, _⟩ := R1
    exact Heap.lt_size ho
  refine sorted_set (s := { s1 with heap := h', toks := tk }) R1 hd (by omega) fun s' p out c2 ms k2 g o hp hg hi2 hs hm hln => ?_
  have hlen : (ms.map V.int).length ≤ sizeLine := by rw [List.length_map, hln, sizeLine_eq]; omega
  have hp' : s1.heap.objs.size ≤ p := Nat.le_trans (Nat.le_of_lt hlt) hp
  have hn : H1 p = none := I1.hok.fresh hp'
  have kall : ∀ b u, s1.heap.get? b = some u → s'.heap.get? b = some u := fun b u e => k2 b u (k b u e)
  have J : Inv X pins σ (upd H1 p (.lst (ms.map V.int))) { s1 with heap := s'.heap, gens := s'.gens, drawn := s'.drawn, toks := s'.toks } :=
    I1.call (ch := []) (Un.laid kall hp' hn) (I1.hok.laid kall hp' ⟨hlen, out.toList, c2, vals_of_ints hi2, hg⟩) (by rw [g]; exact I1.bare) (fun _ z => nomatch z)
  have e : s' = { s1 with heap := s'.heap, gens := s'.gens, drawn := s'.drawn, toks := s'.toks } := by
    cases s'
    cases s1
    cases o
    rfl
  rw [e]
  exact ⟨.ref p, _, J, rfl, q1 ms p hs (fun k => by rw [hm k, decide_eq_true_eq]) hn⟩
section
variable {K : PySem.W.Frag}
def mSortSetL (m : ME) : ME := fun ρ μ P => m ρ μ fun x μ1 => match x with | .lst ys => (match intsP ys with | some ns => ns.length < 63 ∧ ∀ ms : List Int, ms.Pairwise (· < ·) → (∀ k : Int, k ∈ ms ↔ k ∈ ns) → P (.lst (ms.map PV.int)) μ1 | none => False) | _ => False
instance {t m} [h : FE K t m] : FE K (tSortSetL K t) (mSortSetL m) := ⟨fun d σ H ρ μ P Q w e q k => by
  refine h.run d σ H ρ μ _ _ w e q fun d1 H1 μ1 x v e1 w1 r1 q1 => ?_
  match x, r1, q1 with
  | .lst ys, .lst (a := a) (vs := vs) h1 h2, q1 =>
    simp only at q1
    cases e2 : intsP ys with
    | none => rw [e2] at q1; exact q1.elim
    | some ns =>
      rw [e2] at q1
      have ev := RVs.ints_of h2 (intsP_of e2)
      subst ev
      exact ⟨a, ns, rfl, h1.sq, q1.1, fun ms q hs hm hq => k d1 _ μ1 _ _ (e1.trans (Ext.lay w1 hq)) (w1.lay hq) (lay_lst w1 (RVs.of_ints ms) hq) (q1.2 ms hs hm)⟩⟩
end
/-! ### chances of a machine -/
open MR
theorem end_le {n : Nat} {S : Mch} (hM : MacOk n S) {i : Nat} (hi : i < n) (k : Nat) : endN S i k 0 ≤ 2 ^ k := by
  have h := tops_le hM k hi
  cases k with
  | zero => exact h
  | succ k =>
    have : topsN S i (k + 1) = 2 * topsN S i k + endN S i (k + 1) 0 := rfl
    omega
theorem end_lt {n : Nat} {S : Mch} (hM : MacOk n S) {i : Nat} (hi : i < n) {k : Nat} (hk : k ≤ 201) : endN S i k 0 < 2 ^ 300 :=
  Nat.lt_of_le_of_lt (end_le hM hi k) (Nat.pow_lt_pow_right (by decide) (by omega))
def tq (S : Mch) (t i : Nat) : Rat := Rat.divInt (topsN S i t : Nat) (2 ^ t)
def chs (n : Nat) (S : Mch) (t : Nat) : List Rat := (List.range n).map fun i => tq S t i
theorem sm_tq {n : Nat} {S : Mch} (hM : MacOk n S) {i t : Nat} (hi : i < n) (ht : t ≤ 201) : Sm 202 (tq S t i) :=
  sm_divInt (by rw [Int.natAbs_natCast]; exact Nat.lt_of_le_of_lt (tops_le hM t hi) (Nat.pow_lt_pow_right (by decide) (by omega))) (p2pos t) (pow_le2 (p2_abs t) (by omega))
theorem sm_chs {n : Nat} {S : Mch} (hM : MacOk n S) {t : Nat} (ht : t ≤ 201) : ∀ q ∈ chs n S t, Sm 202 q := fun q hq => by
  obtain ⟨i, hi, rfl⟩ := List.mem_map.mp hq
  exact sm_tq hM (List.mem_range.mp hi) ht
theorem go_le {n : Nat} {S : Mch} (hM : MacOk n S) (t : Nat) : goN S t 0 ≤ 2 ^ t := by
  have := tops_all hM t
  omega
theorem sm_go {n : Nat} {S : Mch} (hM : MacOk n S) {t : Nat} (ht : t ≤ 201) : Sm 202 (Rat.divInt (goN S t 0 : Nat) (2 ^ t)) :=
  sm_divInt (by rw [Int.natAbs_natCast]; exact Nat.lt_of_le_of_lt (go_le hM t) (Nat.pow_lt_pow_right (by decide) (by omega))) (p2pos t) (pow_le2 (p2_abs t) (by omega))
theorem add_parts {D : Int} (hD : 0 < D) (a b : Int) : Rat.divInt a D + Rat.divInt b D = Rat.divInt (a + b) D := by
  rw [Rat.divInt_eq_div, Rat.divInt_eq_div, Rat.divInt_eq_div, Rat.intCast_add, Rat.div_def, Rat.div_def, Rat.div_def, Rat.add_mul]
theorem sum_parts {D : Int} (hD : 0 < D) : ∀ l : List Nat, (l.map fun (a : Nat) => Rat.divInt (a : Nat) D).sum = Rat.divInt (l.sum : Nat) D
  | [] => by simp
  | a :: l => by
    rw [List.map_cons, List.sum_cons, sum_parts hD l, add_parts hD, List.sum_cons]
    rfl
theorem chs_rest {n : Nat} {S : Mch} (hM : MacOk n S) (t : Nat) : 1 - (chs n S t).sum = Rat.divInt (goN S t 0 : Nat) (2 ^ t) := by
  have h := tops_all hM t
  have e : (chs n S t).sum = Rat.divInt (((List.range n).map fun i => topsN S i t).sum : Nat) (2 ^ t) := by
    rw [← sum_parts (p2pos t), List.map_map]
    rfl
  have e2 : Rat.divInt (((List.range n).map fun i => topsN S i t).sum : Nat) (2 ^ t) + Rat.divInt (goN S t 0 : Nat) (2 ^ t) = 1 := by
    rw [add_parts (p2pos t), ← Int.natCast_add, h, cast2, Rat.divInt_self']
    have := p2pos t
    omega
  rw [e, ← e2]
  grind
theorem tq_up (S : Mch) (t i : Nat) : ¬ tq S (t + 1) i < tq S t i := by
  have h : topsN S i (t + 1) = 2 * topsN S i t + endN S i (t + 1) 0 := rfl
  rw [Rat.not_lt]
  have e1 : tq S t i = Rat.divInt (2 * (topsN S i t : Nat)) (2 ^ (t + 1)) := by
    unfold tq
    rw [Int.pow_succ, Int.mul_comm _ 2, Rat.divInt_mul_left (by decide)]
  have e2 : tq S (t + 1) i = Rat.divInt (2 * (topsN S i t : Nat)) (2 ^ (t + 1)) + Rat.divInt (endN S i (t + 1) 0 : Nat) (2 ^ (t + 1)) := by
    unfold tq
    rw [add_parts (p2pos _), h]
    rfl
  have e3 : (0 : Rat) ≤ Rat.divInt (endN S i (t + 1) 0 : Nat) (2 ^ (t + 1)) := Rat.divInt_nonneg (Int.natCast_nonneg _) (Int.le_of_lt (p2pos _))
  rw [e1, e2]
  grind
theorem pReprA_tab {qs : List Rat} {d l : Nat} {μ : Store} {P : PV → Store → Prop} (h : ShB d l (tabP qs)) (hd : d ≤ 60) (hl : l ≤ lim) (hP : P (.str (shwP (tabP qs))) μ) : pReprA [tabP qs] μ P := by
  unfold tabP at *
  exact pRepr_tup h hd hl hP
theorem items_mac (n : Nat) (S : Mch) (μ : Store) : itemsOf (macP n S) μ = some [.int (n : Nat), stsP S] := rfl
end Fx

namespace MR
/-! wants: W is 2 ^ w -/
def wadd (t : Nat) (x : Nat × Nat × Nat × Nat) : Nat × Nat × Nat × Nat := (x.1, x.2.1, x.2.2.1, t + x.2.2.2)
def wlm (W n m : Nat) : Nat := if W ≤ m then m - m / n * n else m
def wlr (W n m r : Nat) : Nat := if W ≤ m then r - m / n * n else r
def wnt (W n : Nat) : List Nat → Nat → Nat → Option (Nat × Nat × Nat × Nat)
  | [], m, r => if W ≤ m ∧ r < m / n * n then some (r % n, m / n, r / n, 0) else none
  | b :: bs, m, r => if W ≤ m ∧ r < m / n * n then some (r % n, m / n, r / n, 0) else (wnt W n bs (2 * wlm W n m) (2 * wlr W n m r + b)).map (wadd 1)
section
variable {W n m r : Nat}
theorem wnt_acc (bs : List Nat) (h1 : W ≤ m) (h2 : r < m / n * n) : wnt W n bs m r = some (r % n, m / n, r / n, 0) := by
  cases bs <;> simp [wnt, h1, h2]
theorem wnt_bit (b : Nat) (bs : List Nat) (h1 : m < W) : wnt W n (b :: bs) m r = (wnt W n bs (2 * m) (2 * r + b)).map (wadd 1) := by
  have h : ¬ W ≤ m := by omega
  simp [wnt, h, wlm, wlr]
theorem wnt_nil (h1 : m < W) : wnt W n [] m r = none := by
  have h : ¬ W ≤ m := by omega
  simp [wnt, h]
theorem mod_lt' (h0 : 0 < n) : m - m / n * n < n := by
  have h1 := Nat.mod_lt m h0
  have h2 := Nat.div_add_mod m n
  rw [Nat.mul_comm] at h2
  omega
theorem wnt_rej (bs : List Nat) (h0 : 0 < n) (hn : n ≤ W) (h1 : W ≤ m) (h2 : ¬ r < m / n * n) : wnt W n bs m r = wnt W n bs (m - m / n * n) (r - m / n * n) := by
  have h3 : m - m / n * n < n := mod_lt' h0
  have h4 : ¬ W ≤ m - m / n * n := by omega
  cases bs <;> simp [wnt, h1, h2, h4, wlm, wlr]
/-- a want whose bits are taken from the place t on -/
def wntT (W n : Nat) (bs : List Nat) (t m r : Nat) : Option (Nat × Nat × Nat × Nat) := (wnt W n (bs.drop t) m r).map (wadd t)
theorem wntT_zero (bs : List Nat) (m r : Nat) : wntT W n bs 0 m r = wnt W n bs m r := by
  unfold wntT
  rw [List.drop_zero]
  cases wnt W n bs m r with
  | none => rfl
  | some x => obtain ⟨a, b, c, d⟩ := x; simp [wadd]
theorem wntT_acc (bs : List Nat) (t : Nat) (h1 : W ≤ m) (h2 : r < m / n * n) : wntT W n bs t m r = some (r % n, m / n, r / n, t) := by
  unfold wntT; rw [wnt_acc _ h1 h2]; rfl
theorem wntT_end (bs : List Nat) (h1 : m < W) : wntT W n bs bs.length m r = none := by
  unfold wntT; rw [List.drop_length, wnt_nil h1]; rfl
theorem wntT_bit {bs : List Nat} {t : Nat} (ht : t < bs.length) (h1 : m < W) : wntT W n bs t m r = wntT W n bs (t + 1) (2 * m) (2 * r + bs.getD t 0) := by
  unfold wntT
  rw [List.drop_eq_getElem_cons ht, wnt_bit _ _ h1, List.getD_eq_getElem?_getD, List.getElem?_eq_getElem ht, Option.getD_some, Option.map_map]
  congr 1
  funext x
  obtain ⟨a, b, c, d⟩ := x
  simp [wadd]; omega
theorem wntT_rej (bs : List Nat) (t : Nat) (h0 : 0 < n) (hn : n ≤ W) (h1 : W ≤ m) (h2 : ¬ r < m / n * n) : wntT W n bs t m r = wntT W n bs t (m - m / n * n) (r - m / n * n) := by
  unfold wntT; rw [wnt_rej _ h0 hn h1 h2]
theorem wl_ok (h0 : 0 < n) (hn : n ≤ W) (hr : r < m) (hm : m < 2 * W) (h : ¬ (W ≤ m ∧ r < m / n * n)) {b : Nat} (hb : b < 2) :
    2 * wlr W n m r + b < 2 * wlm W n m ∧ 2 * wlm W n m < 2 * W := by
  have h3 : m - m / n * n < n := mod_lt' h0
  unfold wlr wlm
  by_cases h1 : W ≤ m
  · have h2 : ¬ r < m / n * n := fun z => h ⟨h1, z⟩
    rw [if_pos h1, if_pos h1]
    have h4 : m / n * n ≤ m := Nat.div_mul_le_self m n
    omega
  · rw [if_neg h1, if_neg h1]
    omega
theorem wnt_ok (h0 : 0 < n) (hn : n ≤ W) : ∀ {bs : List Nat} {m r o q l t : Nat}, (∀ b ∈ bs, b < 2) → r < m → m < 2 * W → wnt W n bs m r = some (o, q, l, t) → o < n ∧ l < q ∧ q * n < 2 * W ∧ t ≤ bs.length := by
  have key : ∀ {m r o q l t : Nat}, r < m / n * n → m < 2 * W → some (r % n, m / n, r / n, 0) = some (o, q, l, t) → o < n ∧ l < q ∧ q * n < 2 * W ∧ t = 0 := by
    intro m r o q l t h2 hm e
    simp only [Option.some.injEq, Prod.mk.injEq] at e
    obtain ⟨rfl, rfl, rfl, rfl⟩ := e
    refine ⟨Nat.mod_lt _ h0, ?_, ?_, rfl⟩
    · rw [Nat.div_lt_iff_lt_mul h0]; exact h2
    · have := Nat.div_mul_le_self m n
      omega
  intro bs
  induction bs with
  | nil =>
    intro m r o q l t hb hr hm e
    unfold wnt at e
    split at e
    · rename_i h
      obtain ⟨a, b, c, d⟩ := key h.2 hm e
      exact ⟨a, b, c, by omega⟩
    · cases e
  | cons b bs ih =>
    intro m r o q l t hb hr hm e
    unfold wnt at e
    split at e
    · rename_i h
      obtain ⟨a, b, c, d⟩ := key h.2 hm e
      exact ⟨a, b, c, by omega⟩
    · rename_i h
      obtain ⟨z1, z2⟩ := wl_ok h0 hn hr hm h (hb b List.mem_cons_self)
      cases c : wnt W n bs (2 * wlm W n m) (2 * wlr W n m r + b) with
      | none => rw [c] at e; cases e
      | some x =>
        obtain ⟨o', q', l', t'⟩ := x
        rw [c] at e
        simp only [Option.map_some, wadd, Option.some.injEq, Prod.mk.injEq] at e
        obtain ⟨rfl, rfl, rfl, rfl⟩ := e
        obtain ⟨a1, a2, a3, a4⟩ := ih (fun b' h' => hb b' (List.mem_cons_of_mem _ h')) z1 z2 c
        exact ⟨a1, a2, a3, by rw [List.length_cons]; omega⟩
theorem wnt_take (more : List Nat) : ∀ {bs : List Nat} {m r o q l t : Nat}, wnt W n bs m r = some (o, q, l, t) → wnt W n (bs.take t ++ more) m r = some (o, q, l, t) := by
  intro bs
  induction bs with
  | nil =>
    intro m r o q l t e
    unfold wnt at e
    split at e
    · rename_i h
      rw [wnt_acc _ h.1 h.2]; exact e
    · cases e
  | cons b bs ih =>
    intro m r o q l t e
    unfold wnt at e
    split at e
    · rename_i h
      rw [wnt_acc _ h.1 h.2]; exact e
    · rename_i h
      cases c : wnt W n bs (2 * wlm W n m) (2 * wlr W n m r + b) with
      | none => rw [c] at e; cases e
      | some x =>
        obtain ⟨o', q', l', t'⟩ := x
        rw [c] at e
        simp only [Option.map_some, wadd, Option.some.injEq, Prod.mk.injEq] at e
        obtain ⟨rfl, rfl, rfl, rfl⟩ := e
        rw [Nat.add_comm 1 t', List.take_succ_cons, List.cons_append]
        unfold wnt
        rw [if_neg h, ih c]
        simp [wadd]; omega
theorem wnt_less : ∀ {bs : List Nat} {m r o q l t k : Nat}, wnt W n bs m r = some (o, q, l, t) → k < t → wnt W n (bs.take k) m r = none := by
  intro bs
  induction bs with
  | nil =>
    intro m r o q l t k e hk
    unfold wnt at e
    split at e
    · simp only [Option.some.injEq, Prod.mk.injEq] at e
      omega
    · cases e
  | cons b bs ih =>
    intro m r o q l t k e hk
    unfold wnt at e
    split at e
    · simp only [Option.some.injEq, Prod.mk.injEq] at e
      omega
    · rename_i h
      cases c : wnt W n bs (2 * wlm W n m) (2 * wlr W n m r + b) with
      | none => rw [c] at e; cases e
      | some x =>
        obtain ⟨o', q', l', t'⟩ := x
        rw [c] at e
        simp only [Option.map_some, wadd, Option.some.injEq, Prod.mk.injEq] at e
        obtain ⟨rfl, rfl, rfl, rfl⟩ := e
        cases k with
        | zero =>
          rw [List.take_zero]
          unfold wnt
          rw [if_neg h]
        | succ k =>
          rw [List.take_succ_cons]
          unfold wnt
          rw [if_neg h, ih c (by omega)]
          rfl
end
end MR

namespace Fx
open PySem PySem.Spec PyProof.Rows L2 RZ MR
theorem fdivN (a b : Nat) : ((a : Nat) : Int).fdiv ((b : Nat) : Int) = ((a / b : Nat) : Int) := by
  rw [Int.fdiv_eq_ediv_of_nonneg _ (by omega), Int.natCast_ediv]
theorem fmodN (a b : Nat) : ((a : Nat) : Int).fmod ((b : Nat) : Int) = ((a % b : Nat) : Int) := by
  rw [Int.fmod_eq_emod_of_nonneg _ (by omega), Int.natCast_emod]
theorem atL {bs : List Nat} {t : Nat} (h : t < bs.length) : L2.atI (bs.map fun (n : Nat) => PV.int n) ((t : Nat) : Int) = some (.int (bs.getD t 0 : Nat)) := by
  have e : (bs.map fun (n : Nat) => PV.int n)[t]? = some (.int (bs.getD t 0 : Nat)) := by
    rw [List.getElem?_map, List.getD_eq_getElem?_getD, List.getElem?_eq_getElem h]
    rfl
  exact atI_some e
def restP (m r : Nat) : PV := .tup [.int (m : Nat), .int (r : Nat)]
def wntP : Option (Nat × Nat × Nat × Nat) → PV
  | none => .non
  | some x => .tup [.int (x.1 : Nat), restP x.2.1 x.2.2.1, .int (x.2.2.2 : Nat)]
def WB (x : Option (Nat × Nat × Nat × Nat)) : Prop := ∀ p, x = some p → p.1 < 2 ^ 100 ∧ p.2.1 < 2 ^ 100 ∧ p.2.2.1 < 2 ^ 100 ∧ p.2.2.2 < 2 ^ 100
theorem isNon_wnt (x : Option (Nat × Nat × Nat × Nat)) : isNonP (wntP x) = x.isNone := by cases x <;> rfl
theorem shb_nat {n : Nat} (h : n < 2 ^ 100) : ShB 0 101 (.int (n : Nat)) := shb_small (k := 100) (by rw [Int.natAbs_natCast]; exact h) (by decide) (by decide)
theorem shb_rest {m r : Nat} (h1 : m < 2 ^ 100) (h2 : r < 2 ^ 100) : ShB 1 300 (restP m r) := by
  refine (shb_tup (d := 0) (l := 101) fun x hx => ?_).mono (by decide) (by simp)
  rcases List.mem_cons.mp hx with rfl | hx
  · exact shb_nat h1
  · rw [List.mem_singleton.mp hx]; exact shb_nat h2
theorem shb_non : ShB 0 10 .non := ⟨.none, rfl, by simp [PyData.showable], by simp [PyData.hasDict], by simp [PyData.depth], by decide⟩
theorem shb_wnt {x : Option (Nat × Nat × Nat × Nat)} (h : WB x) : ShB 2 1000 (wntP x) := by
  cases x with
  | none => exact shb_non.mono (by decide) (by decide)
  | some p =>
    obtain ⟨a, b, c, e⟩ := h p rfl
    refine (shb_tup (d := 1) (l := 300) fun x hx => ?_).mono (by decide) (by simp)
    rcases List.mem_cons.mp hx with rfl | hx
    · exact (shb_nat a).mono (by decide) (by decide)
    rcases List.mem_cons.mp hx with rfl | hx
    · exact shb_rest b c
    · rw [List.mem_singleton.mp hx]; exact (shb_nat e).mono (by decide) (by decide)
theorem pReprA_wnt2 {x : Option (Nat × Nat × Nat × Nat)} {μ : Store} {P : PV → Store → Prop} (h : WB x) (hP : P (.str (shwP (.tup [wntP x, wntP x]))) μ) : pRepr [.tup [wntP x, wntP x]] μ P := by
  refine pRepr_tup (d := 3) (l := 3000) ?_ (by decide) (by decide) hP
  refine (shb_tup (d := 2) (l := 1000) fun y hy => ?_).mono (by decide) (by simp)
  simp only [List.mem_cons, List.not_mem_nil, or_false, or_self] at hy
  rw [hy]; exact shb_wnt h
theorem pReprA_wnt {x : Option (Nat × Nat × Nat × Nat)} {μ : Store} {P : PV → Store → Prop} (h : WB x) (hP : P (.str (shwP (wntP x))) μ) : pReprA [wntP x] μ P := by
  cases x with
  | none => exact hP
  | some p => exact pRepr_tup (shb_wnt h) (by decide) (by decide) hP
theorem wB_of {W n m r : Nat} {bs : List Nat} (h0 : 0 < n) (hn : n ≤ W) (hW : W ≤ 2 ^ 20) (hb : ∀ b ∈ bs, b < 2) (hl : bs.length ≤ 1000) (hr : r < m) (hm : m < 2 * W) : WB (wnt W n bs m r) := fun p hp => by
  obtain ⟨o, q, l, t⟩ := p
  obtain ⟨a1, a2, a3, a4⟩ := wnt_ok h0 hn hb hr hm hp
  have e2 : (2 : Nat) ^ 20 < 2 ^ 99 := by decide
  have e3 : (2 : Nat) ^ 99 * 2 = 2 ^ 100 := by decide
  have e4 : 1000 < 2 ^ 99 := by decide
  have : q ≤ q * n := Nat.le_mul_of_pos_right q h0
  refine ⟨?_, ?_, ?_, ?_⟩ <;> simp only <;> omega
theorem shl1w (w : Nat) : (1 : Int) * 2 ^ ((w : Nat) : Int).toNat = ((2 ^ w : Nat) : Int) := by
  rw [Int.toNat_natCast, Int.one_mul]; simp
theorem shl2w (w : Nat) : (2 : Int) * 2 ^ ((w : Nat) : Int).toNat = ((2 * 2 ^ w : Nat) : Int) := by
  rw [Int.toNat_natCast]; simp
theorem pw_bnd {w : Nat} (h2 : w ≤ 12) : 2 ^ w ≤ 4096 := Nat.le_trans (Nat.pow_le_pow_right (by decide) h2) (by decide)
theorem minM_nat {a M : Int} (ha : 2 ≤ a) (hM : 2 ≤ M) : ∃ n : Nat, (if a < M then a else M) = (n : Int) ∧ 2 ≤ n ∧ (n : Int) ≤ M := by
  split
  · exact ⟨a.toNat, by omega, by omega, by omega⟩
  · exact ⟨M.toNat, by omega, by omega, by omega⟩
theorem flat_rep (k x : Nat) : (List.replicate k [PV.int (x : Nat)]).flatten = (List.replicate k x).map fun (n : Nat) => PV.int n := by
  induction k with
  | zero => rfl
  | succ k ih => rw [List.replicate_succ, List.flatten_cons, ih, List.replicate_succ]; rfl
theorem len_lot (bs : List Nat) (μ : Store) : itemsOf (lotP bs) μ = some (bs.map fun (n : Nat) => PV.int n) := rfl
end Fx
namespace Fx
open PySem PySem.Spec PyProof.Rows L2 RZ MR
theorem eqP_tup3 (a b c d e f : Int) (μ : Store) : eqP (.tup [.int a, .int b, .int c]) (.tup [.int d, .int e, .int f]) μ = some (decide (a = d ∧ b = e ∧ c = f)) := by
  have h : ∀ x y z : Int, SeqAt.shaped (.tuple [.int x, .int y, .int z]) = true := fun x y z => rfl
  unfold eqP
  simp only [scalP, frzP, datP, datPs, Option.map_some, h, and_self, if_true]
  simp only [PyData.eqv, PyData.eqvAll]
  congr 1
  by_cases h1 : a = d <;> by_cases h2 : b = e <;> by_cases h3 : c = f <;> simp [h1, h2, h3]
theorem cl_get {m : Int} {rest G μ : Store} (h : Dk m (rest ++ G) μ) (p : Nat) : μ[rest.length + p + 2]? = G[p]? := by
  rw [h.get, List.getElem?_append_right (by omega), show rest.length + p - rest.length = p by omega]
theorem cl_set {m : Int} {rest G μ : Store} (h : Dk m (rest ++ G) μ) (p : Nat) (x : MO) : Dk m (rest ++ G.set p x) (μ.set (rest.length + p + 2) x) := by
  have := h.set (rest.length + p) x
  rw [List.set_append_right _ _ (by omega), show rest.length + p - rest.length = p by omega] at this
  exact this
theorem cl_app {m : Int} {rest G μ : Store} (h : Dk m (rest ++ G) μ) (x : MO) : Dk m (rest ++ (G ++ [x])) (μ ++ [x]) := by
  rw [← List.append_assoc]; exact h.app [x]
theorem cl_len {m : Int} {rest G μ : Store} (h : Dk m (rest ++ G) μ) : μ.length = rest.length + G.length + 2 := by
  have := h.len
  rw [List.length_append] at this
  omega
theorem for_of {mi : MI} {g : MG} {b : MS} {P : MEnds} {ρ : PEnv} {μ : Store} (h : ∀ F : List PV → Store → Prop, F = (fun xs μ1 => mForL g b P xs ρ μ1) → mi ρ μ F) : mFor mi g b P ρ μ := h _ rfl
/-- a row of drawn bits -/
theorem bits_any {m : Int} {rest μ : Store} {g : MG} {e : ME} {ρ0 : PEnv} {P : List PV → Store → Prop} {k : Nat} (hD : Dk m rest μ)
    (hs : ∀ (a : Nat) (μ' : Store), Dk m rest μ' → ∀ N : PV → Store → Prop, (∀ (n : Int) (μ2 : Store), 0 ≤ n → n < 2 → Dk m rest μ2 → N (.int n) μ2) → g (.int (a : Nat)) ρ0 μ' fun ρ1 μ1 => e ρ1 μ1 N)
    (hP : ∀ (bs : List Nat) (μ' : Store), (∀ b ∈ bs, b < 2) → bs.length = k → Dk m rest μ' → P (bs.map fun (n : Nat) => PV.int n) μ') : mLcL g mYes e ρ0 P ((List.range k).map fun (i : Nat) => PV.int i) [] μ := by
  refine lc_any (fun pre acc μ' => Dk m rest μ' ∧ ∃ ns : List Nat, acc = (ns.map fun (i : Nat) => PV.int i) ∧ ns.length = pre.length ∧ ∀ i ∈ ns, i < 2) (done := []) ⟨hD, [], rfl, rfl, by simp⟩ (fun pre a post acc μ' he hI N hN => ?_) fun acc μ' hI => ?_
  · obtain ⟨hD', ns, rfl, hp, hlt⟩ := hI
    refine hs a μ' hD' _ fun n μ2 h0 h1 hD2 => ?_
    obtain ⟨j, rfl⟩ : ∃ j : Nat, n = (j : Int) := ⟨n.toNat, by omega⟩
    refine hN _ _ ⟨hD2, ns ++ [j], by rw [List.map_append]; rfl, by rw [List.length_append, List.length_append, hp]; rfl, fun i hi => ?_⟩
    rcases List.mem_append.mp hi with hi | hi
    · exact hlt i hi
    · rw [List.mem_singleton.mp hi]; omega
  · obtain ⟨hD', ns, rfl, hp, hlt⟩ := hI
    exact hP ns μ' hlt (by simpa using hp) hD'
/-- a row of drawn numbers -/
theorem nats_any {m c : Int} {rest μ : Store} {g : MG} {e : ME} {ρ0 : PEnv} {P : List PV → Store → Prop} {k : Nat} (hD : Dk m rest μ)
    (hs : ∀ (a : Nat) (μ' : Store), Dk m rest μ' → ∀ N : PV → Store → Prop, (∀ (n : Int) (μ2 : Store), 0 ≤ n → n < c → Dk m rest μ2 → N (.int n) μ2) → g (.int (a : Nat)) ρ0 μ' fun ρ1 μ1 => e ρ1 μ1 N)
    (hP : ∀ (bs : List Nat) (μ' : Store), (∀ b ∈ bs, (b : Int) < c) → bs.length = k → Dk m rest μ' → P (bs.map fun (n : Nat) => PV.int n) μ') : mLcL g mYes e ρ0 P ((List.range k).map fun (i : Nat) => PV.int i) [] μ := by
  refine lc_any (fun pre acc μ' => Dk m rest μ' ∧ ∃ ns : List Nat, acc = (ns.map fun (i : Nat) => PV.int i) ∧ ns.length = pre.length ∧ ∀ i ∈ ns, (i : Int) < c) (done := []) ⟨hD, [], rfl, rfl, by simp⟩ (fun pre a post acc μ' he hI N hN => ?_) fun acc μ' hI => ?_
  · obtain ⟨hD', ns, rfl, hp, hlt⟩ := hI
    refine hs a μ' hD' _ fun n μ2 h0 h1 hD2 => ?_
    obtain ⟨j, rfl⟩ : ∃ j : Nat, n = (j : Int) := ⟨n.toNat, by omega⟩
    refine hN _ _ ⟨hD2, ns ++ [j], by rw [List.map_append]; rfl, by rw [List.length_append, List.length_append, hp]; rfl, fun i hi => ?_⟩
    rcases List.mem_append.mp hi with hi | hi
    · exact hlt i hi
    · rw [List.mem_singleton.mp hi]; exact h1
  · obtain ⟨hD', ns, rfl, hp, hlt⟩ := hI
    exact hP ns μ' hlt (by simpa using hp) hD'
theorem st_get (μ g h : Store) {p : Nat} (hp : p < g.length) : (μ ++ g ++ h)[μ.length + p]? = g[p]? := by
  rw [List.append_assoc, List.getElem?_append_right (by omega), show μ.length + p - μ.length = p by omega, List.getElem?_append_left hp]
theorem lot_appN (w v : List Nat) : PV.tup ((w.map fun (n : Nat) => PV.int n) ++ v.map fun (n : Nat) => PV.int n) = lotP (w ++ v) := by rw [lotP, List.map_append]
theorem eqP_luN (a b : List Nat) (μ : Store) : eqP (.tup (a.map fun (n : Nat) => PV.int n)) (.tup (b.map fun (n : Nat) => PV.int n)) μ = some (decide (a = b)) := eqP_lots a b μ
end Fx

namespace MR
/-! models and ways -/
abbrev Mdl := List (List Rat × List Nat)
def mtab (M : Mdl) (a : Nat) : List Rat := (M.getD a ([], [])).1
def mfol (M : Mdl) (a : Nat) : List Nat := (M.getD a ([], [])).2
structure MdlOk (n : Nat) (M : Mdl) : Prop where
  ne : M ≠ []
  len : M.length ≤ 60
  n1 : 1 ≤ n
  n8 : n ≤ 8
  tab : ∀ s ∈ M, Tab 7 s.1
  ln : ∀ s ∈ M, s.1.length = n
  fl : ∀ s ∈ M, s.2.length = n
  fo : ∀ s ∈ M, ∀ f ∈ s.2, f < M.length
section
variable {n : Nat} {M : Mdl}
theorem MdlOk.mem (h : MdlOk n M) {a : Nat} (ha : a < M.length) : M.getD a ([], []) ∈ M := by
  rw [List.getD_eq_getElem?_getD, List.getElem?_eq_getElem ha]; exact List.getElem_mem ha
theorem MdlOk.t (h : MdlOk n M) {a : Nat} (ha : a < M.length) : Tab 7 (mtab M a) := h.tab _ (h.mem ha)
theorem MdlOk.tl (h : MdlOk n M) {a : Nat} (ha : a < M.length) : (mtab M a).length = n := h.ln _ (h.mem ha)
theorem MdlOk.fll (h : MdlOk n M) {a : Nat} (ha : a < M.length) : (mfol M a).length = n := h.fl _ (h.mem ha)
theorem MdlOk.f (h : MdlOk n M) {a i : Nat} (ha : a < M.length) (hi : i < n) : (mfol M a).getD i 0 < M.length := by
  refine h.fo _ (h.mem ha) _ ?_
  show (mfol M a).getD i 0 ∈ mfol M a
  have e : i < (mfol M a).length := by rw [h.fll ha]; exact hi
  rw [List.getD_eq_getElem?_getD, List.getElem?_eq_getElem e]; exact List.getElem_mem e
end
def wayB (M : Mdl) : Nat → List Nat → Bool
  | _, [] => true
  | a, i :: w => decide (i < (mtab M a).length) && (decide ((mtab M a).getD i 0 ≠ 0) && wayB M ((mfol M a).getD i 0) w)
def endW (M : Mdl) : Nat → List Nat → Nat
  | a, [] => a
  | a, i :: w => endW M ((mfol M a).getD i 0) w
def stb (f : Rat × Rat) (t : List Rat) (i : Nat) : Rat × Rat := (f.1 + f.2 * (t.take i).sum, f.2 * t.getD i 0)
def strF (M : Mdl) : Nat → Rat × Rat → List Nat → Rat × Rat
  | _, f, [] => f
  | a, f, i :: w => strF M ((mfol M a).getD i 0) (stb f (mtab M a) i) w
theorem wayB_cons {M : Mdl} {a i : Nat} {w : List Nat} : wayB M a (i :: w) = true ↔ i < (mtab M a).length ∧ (mtab M a).getD i 0 ≠ 0 ∧ wayB M ((mfol M a).getD i 0) w = true := by
  simp only [wayB, Bool.and_eq_true, decide_eq_true_eq]
theorem wayB_app {M : Mdl} : ∀ {w : List Nat} {a : Nat} (v : List Nat), wayB M a (w ++ v) = (wayB M a w && wayB M (endW M a w) v)
  | [], _, _ => by simp [wayB, endW]
  | i :: w, a, v => by
    simp only [List.cons_append, wayB, endW, wayB_app v, Bool.and_assoc]
theorem endW_app {M : Mdl} : ∀ {w : List Nat} {a : Nat} (v : List Nat), endW M a (w ++ v) = endW M (endW M a w) v
  | [], _, _ => rfl
  | i :: w, a, v => by simp only [List.cons_append, endW]; exact endW_app v
theorem strF_app {M : Mdl} : ∀ {w : List Nat} {a : Nat} {f : Rat × Rat} (v : List Nat), strF M a f (w ++ v) = strF M (endW M a w) (strF M a f w) v
  | [], _, _, _ => rfl
  | i :: w, a, f, v => by simp only [List.cons_append, strF, endW]; exact strF_app v
theorem endW_lt {n : Nat} {M : Mdl} (h : MdlOk n M) : ∀ {w : List Nat} {a : Nat}, a < M.length → wayB M a w = true → endW M a w < M.length
  | [], _, ha, _ => ha
  | i :: w, a, ha, hw => by
    obtain ⟨h1, h2, h3⟩ := wayB_cons.mp hw
    rw [h.tl ha] at h1
    exact endW_lt h (w := w) (a := (mfol M a).getD i 0) (h.f ha h1) h3
theorem way_lt {n : Nat} {M : Mdl} (h : MdlOk n M) : ∀ {w : List Nat} {a : Nat}, a < M.length → wayB M a w = true → ∀ i ∈ w, i < n
  | [], _, _, _ => by simp
  | i :: w, a, ha, hw => by
    obtain ⟨h1, h2, h3⟩ := wayB_cons.mp hw
    rw [h.tl ha] at h1
    intro j hj
    rcases List.mem_cons.mp hj with rfl | hj
    · exact h1
    · exact way_lt h (h.f ha h1) h3 j hj
/-! sizes -/
structure Iv (k : Nat) (f : Rat × Rat) : Prop where
  lo : 0 ≤ f.1
  sz : 0 ≤ f.2
  hi : f.1 + f.2 ≤ 1
  com : ∃ D : Nat, 0 < D ∧ D < 2 ^ (7 * k + 1) ∧ Cm D f.1 ∧ Cm D f.2
theorem zero_one : (0 : Rat) + 1 = 1 := by rw [Rat.zero_add]
theorem iv_start : Iv 0 (0, 1) := ⟨by decide, by decide, by show (0 : Rat) + 1 ≤ 1; rw [zero_one]; exact Rat.le_refl, 1, by decide, by decide, cm_int 1 0, cm_int 1 1⟩
theorem take_sum (t : List Rat) (i : Nat) (hi : i < t.length) : (t.take i).sum + t.getD i 0 = (t.take (i + 1)).sum := by
  rw [List.take_succ_eq_append_getElem hi, sum_append, List.getD_eq_getElem?_getD, List.getElem?_eq_getElem hi]
  simp only [Option.getD_some, List.sum_cons, List.sum_nil]
  grind
theorem getD_pos {t : List Rat} (h : ∀ q ∈ t, 0 ≤ q) (i : Nat) : 0 ≤ t.getD i 0 := by
  rcases getD_cases t i with c | c
  · exact h _ c
  · rw [c]; decide
theorem take_pos {t : List Rat} (h : ∀ q ∈ t, 0 ≤ q) (i : Nat) : 0 ≤ (t.take i).sum := sum_nonneg fun q hq => h q (List.mem_of_mem_take hq)
theorem take_le {m : Nat} {t : List Rat} (h : Tab m t) (i : Nat) : (t.take i).sum ≤ 1 := by
  have := sub_sum (List.take_sublist i t) h.pos
  rw [h.one] at this
  exact this
theorem mul_le_of {a b : Rat} (ha : 0 ≤ a) (hb : b ≤ 1) : a * b ≤ a := by
  have := Rat.mul_le_mul_of_nonneg_left hb ha
  rw [Rat.mul_one] at this
  exact this
theorem iv_step {k : Nat} {f : Rat × Rat} {t : List Rat} {i : Nat} (h : Iv k f) (ht : Tab 7 t) (hi : i < t.length) : Iv (k + 1) (stb f t i) := by
  obtain ⟨D, d0, d1, d2, d3⟩ := h.com
  obtain ⟨E, e0, e1, e2⟩ := ht.com
  have hp := getD_pos ht.pos i
  have hP := take_pos ht.pos i
  have h1 : (t.take i).sum + t.getD i 0 ≤ 1 := by rw [take_sum t i hi]; exact take_le ht _
  have cP : Cm E (t.take i).sum := Cm.sum fun q hq => e2 q (List.mem_of_mem_take hq)
  have cp : Cm E (t.getD i 0) := by
    rcases getD_cases t i with c | c
    · exact e2 _ c
    · rw [c]; exact cm_int E 0
  refine ⟨?_, Rat.mul_nonneg h.sz hp, ?_, D * E, Nat.mul_pos d0 e0, ?_, ?_, d3.mul cp⟩
  · have := Rat.mul_nonneg h.sz hP
    have := h.lo
    show 0 ≤ f.1 + f.2 * (t.take i).sum
    grind
  · have h2 := mul_le_of h.sz h1
    have h3 := h.hi
    show f.1 + f.2 * (t.take i).sum + f.2 * t.getD i 0 ≤ 1
    grind
  · have : D * E < 2 ^ (7 * k + 1) * 2 ^ 7 := Nat.mul_lt_mul'' d1 e1
    rw [← Nat.pow_add] at this
    rw [show 7 * (k + 1) + 1 = 7 * k + 1 + 7 by omega]
    exact this
  · exact (d2.dvd ⟨E, rfl⟩).add (d3.mul cP)
theorem one_lt2 : (1 : Rat) < ((2 ^ 1 : Nat) : Rat) := Rat.lt_iff_le_and_ne.mpr ⟨by decide, by decide⟩
theorem Iv.sm1 {k : Nat} {f : Rat × Rat} (h : Iv k f) : Sm (7 * k + 2) f.1 := by
  obtain ⟨D, d0, d1, d2, d3⟩ := h.com
  have h1 := h.hi
  have h2 := h.sz
  have := one_lt2
  exact d2.sm (m := 1) d0 d1 h.lo (by grind)
theorem Iv.sm2 {k : Nat} {f : Rat × Rat} (h : Iv k f) : Sm (7 * k + 2) f.2 := by
  obtain ⟨D, d0, d1, d2, d3⟩ := h.com
  have h1 := h.hi
  have h2 := h.lo
  have := one_lt2
  exact d3.sm (m := 1) d0 d1 h.sz (by grind)
theorem Iv.smS {k : Nat} {f : Rat × Rat} (h : Iv k f) : Sm (7 * k + 2) (f.1 + f.2) := by
  obtain ⟨D, d0, d1, d2, d3⟩ := h.com
  have h1 := h.hi
  have h2 := h.lo
  have h3 := h.sz
  have := one_lt2
  exact (d2.add d3).sm (m := 1) d0 d1 (by grind) (by grind)
theorem iv_way {n : Nat} {M : Mdl} (h : MdlOk n M) : ∀ {w : List Nat} {a k : Nat} {f : Rat × Rat}, a < M.length → wayB M a w = true → Iv k f → Iv (k + w.length) (strF M a f w)
  | [], _, _, _, _, _, hf => hf
  | i :: w, a, k, f, ha, hw, hf => by
    obtain ⟨h1, h2, h3⟩ := wayB_cons.mp hw
    have := iv_way h (w := w) (h.f ha (by rw [h.tl ha] at h1; exact h1)) h3 (iv_step hf (h.t ha) h1)
    rw [List.length_cons, show k + (w.length + 1) = k + 1 + w.length by omega]
    exact this
theorem size_pos {n : Nat} {M : Mdl} (h : MdlOk n M) : ∀ {w : List Nat} {a : Nat} {f : Rat × Rat}, a < M.length → wayB M a w = true → 0 < f.2 → 0 < (strF M a f w).2
  | [], _, _, _, _, hf => hf
  | i :: w, a, f, ha, hw, hf => by
    obtain ⟨h1, h2, h3⟩ := wayB_cons.mp hw
    refine size_pos h (w := w) (h.f ha (by rw [h.tl ha] at h1; exact h1)) h3 ?_
    have := getD_pos (h.t ha).pos i
    exact Rat.mul_pos hf (by grind)
/-! what lies beside one another -/
def Cont : Rat → List (Rat × Rat) → Rat → Prop
  | a, [], b => a = b
  | a, f :: L, b => f.1 = a ∧ 0 < f.2 ∧ Cont (a + f.2) L b
theorem Cont.app : ∀ {L K : List (Rat × Rat)} {a b c : Rat}, Cont a L b → Cont b K c → Cont a (L ++ K) c
  | [], _, _, _, _, h, k => by cases h; exact k
  | f :: L, K, a, b, c, h, k => ⟨h.1, h.2.1, Cont.app h.2.2 k⟩
def kids (t : List Rat) : List Nat := (List.range t.length).filter fun i => decide (t.getD i 0 ≠ 0)
theorem kids_from {f : Rat × Rat} {t : List Rat} (hf : 0 < f.2) (ht : ∀ q ∈ t, 0 ≤ q) (h1 : t.sum = 1) : ∀ (m j : Nat), j + m = t.length → Cont (f.1 + f.2 * (t.take j).sum) (((List.range' j m).filter fun i => decide (t.getD i 0 ≠ 0)).map (stb f t)) (f.1 + f.2)
  | 0, j, e => by
    show f.1 + f.2 * (t.take j).sum = f.1 + f.2
    rw [show j = t.length by omega, List.take_length, h1, Rat.mul_one]
  | m + 1, j, e => by
    have ih := kids_from hf ht h1 m (j + 1) (by omega)
    have hj : j < t.length := by omega
    have hs := take_sum t j hj
    rw [List.range'_succ, List.filter_cons]
    by_cases c : t.getD j 0 = 0
    · rw [if_neg (by simp only [c]; decide)]
      rw [c] at hs
      rw [← hs] at ih
      have e : (t.take j).sum + 0 = (t.take j).sum := by grind
      rw [e] at ih
      exact ih
    · rw [if_pos (by simpa using c), List.map_cons]
      have := getD_pos ht j
      refine ⟨rfl, Rat.mul_pos hf (by grind), ?_⟩
      rw [← hs] at ih
      have e : f.1 + f.2 * (t.take j).sum + (stb f t j).2 = f.1 + f.2 * ((t.take j).sum + t.getD j 0) := by
        show f.1 + f.2 * (t.take j).sum + f.2 * t.getD j 0 = _
        grind
      rw [e]
      exact ih
theorem kids_cont {m : Nat} {f : Rat × Rat} {t : List Rat} (hf : 0 < f.2) (ht : Tab m t) : Cont f.1 ((kids t).map (stb f t)) (f.1 + f.2) := by
  have := kids_from (f := f) hf ht.pos ht.one t.length 0 (by omega)
  rw [List.take_zero, List.sum_nil, ← List.range_eq_range'] at this
  have e : f.1 + f.2 * 0 = f.1 := by grind
  rw [e] at this
  exact this
/-- the sizes of what goes on from a stretch -/
theorem kids_sum {m : Nat} {s : Rat} {t : List Rat} (ht : Tab m t) : ((kids t).map fun i => s * t.getD i 0).sum = s := by
  have key : ∀ l : List Nat, ((l.filter fun i => decide (t.getD i 0 ≠ 0)).map fun i => s * t.getD i 0).sum = (l.map fun i => s * t.getD i 0).sum := by
    intro l
    induction l with
    | nil => rfl
    | cons a l ih =>
      rw [List.filter_cons]
      by_cases c : t.getD a 0 = 0
      · rw [if_neg (by simp only [c]; decide), ih, List.map_cons, List.sum_cons, c]; grind
      · rw [if_pos (by simpa using c), List.map_cons, List.map_cons, List.sum_cons, List.sum_cons, ih]
  unfold kids
  rw [key, sum_mulL, range_getD, ht.one, Rat.mul_one]
/-- the ways of k outcomes with the states behind them -/
def waysF (M : Mdl) : Nat → List (List Nat × Nat)
  | 0 => [([], 0)]
  | k + 1 => (waysF M k).flatMap fun p => (kids (mtab M p.2)).map fun i => (p.1 ++ [i], (mfol M p.2).getD i 0)
theorem mem_kids {t : List Rat} {i : Nat} : i ∈ kids t ↔ i < t.length ∧ t.getD i 0 ≠ 0 := by
  unfold kids
  rw [List.mem_filter, List.mem_range]
  simp
theorem waysF_ok {n : Nat} {M : Mdl} (h : MdlOk n M) : ∀ (k : Nat), ∀ p ∈ waysF M k, p.2 = endW M 0 p.1 ∧ wayB M 0 p.1 = true ∧ p.1.length = k ∧ p.2 < M.length
  | 0, p, hp => by
    rw [List.mem_singleton.mp hp]
    exact ⟨rfl, rfl, rfl, List.length_pos_iff.mpr h.ne⟩
  | k + 1, p, hp => by
    obtain ⟨q, hq, hp⟩ := List.mem_flatMap.mp hp
    obtain ⟨i, hi, rfl⟩ := List.mem_map.mp hp
    obtain ⟨h1, h2, h3, h4⟩ := waysF_ok h k q hq
    obtain ⟨i1, i2⟩ := mem_kids.mp hi
    refine ⟨?_, ?_, ?_, ?_⟩
    · rw [endW_app, ← h1]; rfl
    · rw [wayB_app, h2, ← h1]; simp only [wayB, decide_eq_true i1, decide_eq_true i2, Bool.and_self, Bool.true_and]
    · rw [List.length_append, h3]; rfl
    · exact h.f h4 (by rw [h.tl h4] at i1; exact i1)
theorem ways_cont {n : Nat} {M : Mdl} (h : MdlOk n M) : ∀ (k : Nat), Cont 0 ((waysF M k).map fun p => strF M 0 (0, 1) p.1) 1
  | 0 => ⟨rfl, (by show (0 : Rat) < 1; decide), zero_one⟩
  | k + 1 => by
    have ih := ways_cont h k
    have hok := waysF_ok h k
    have key : ∀ (L : List (List Nat × Nat)) (a b : Rat), (∀ p ∈ L, p.2 = endW M 0 p.1 ∧ wayB M 0 p.1 = true ∧ p.1.length = k ∧ p.2 < M.length) → Cont a (L.map fun p => strF M 0 (0, 1) p.1) b →
        Cont a ((L.flatMap fun p => (kids (mtab M p.2)).map fun i => (p.1 ++ [i], (mfol M p.2).getD i 0)).map fun p => strF M 0 (0, 1) p.1) b := by
      intro L
      induction L with
      | nil => intro a b _ hc; exact hc
      | cons p L ihL =>
        intro a b hp hc
        obtain ⟨c1, c2, c3⟩ := hc
        obtain ⟨h1, h2, h3, h4⟩ := hp p List.mem_cons_self
        rw [List.flatMap_cons, List.map_append]
        refine Cont.app (b := a + (strF M 0 (0, 1) p.1).2) ?_ (ihL _ _ (fun q hq => hp q (List.mem_cons_of_mem _ hq)) c3)
        have e : (((kids (mtab M p.2)).map fun i => (p.1 ++ [i], (mfol M p.2).getD i 0)).map fun p => strF M 0 (0, 1) p.1) = (kids (mtab M p.2)).map (stb (strF M 0 (0, 1) p.1) (mtab M p.2)) := by
          rw [List.map_map]
          refine List.map_congr_left fun i _ => ?_
          show strF M 0 (0, 1) (p.1 ++ [i]) = _
          rw [strF_app, ← h1]
          rfl
        rw [e, ← c1]
        exact kids_cont c2 (h.t h4)
    exact key _ _ _ hok ih
/-! stretches of bits -/
def bst (bs : List Nat) : Rat × Rat := (Rat.divInt (val2 bs : Nat) (2 ^ bs.length : Nat), Rat.divInt 1 (2 ^ bs.length : Nat))
theorem pow2_ne (k : Nat) : (((2 ^ k : Nat) : Int) : Rat) ≠ 0 := by
  intro e
  have := Rat.intCast_inj.mp (show (((2 ^ k : Nat) : Int) : Rat) = ((0 : Int) : Rat) from e)
  have := Nat.two_pow_pos k
  omega
theorem le_divInt {a b c d : Int} (hb : 0 < b) (hd : 0 < d) : Rat.divInt a b ≤ Rat.divInt c d ↔ a * d ≤ c * b := by
  have hb' : (0 : Rat) < (b : Rat) := Rat.intCast_pos.mpr hb
  have hd' : (0 : Rat) < (d : Rat) := Rat.intCast_pos.mpr hd
  rw [Rat.divInt_eq_div, Rat.divInt_eq_div, ← Rat.intCast_le_intCast (a := a * d), Rat.intCast_mul, Rat.intCast_mul]
  have e1 : (a : Rat) = (a : Rat) / (b : Rat) * (b : Rat) := by grind
  have e2 : (c : Rat) = (c : Rat) / (d : Rat) * (d : Rat) := by grind
  have hbd := Rat.mul_pos hb' hd'
  generalize (a : Rat) / (b : Rat) = x at *
  generalize (c : Rat) / (d : Rat) = y at *
  rw [e1, e2]
  generalize (b : Rat) = u at *
  generalize (d : Rat) = v at *
  constructor
  · intro h
    have := Rat.mul_le_mul_of_nonneg_right h (Rat.le_of_lt hbd)
    grind
  · intro h
    refine Classical.byContradiction fun hc => ?_
    have hc : y < x := by grind
    have := Rat.mul_lt_mul_of_pos_right hc hbd
    grind
theorem bst_hi (bs : List Nat) : (bst bs).1 + (bst bs).2 = Rat.divInt ((val2 bs : Nat) + 1) (2 ^ bs.length : Nat) := by
  unfold bst
  simp only [Rat.divInt_eq_div]
  rw [Rat.intCast_add]
  have := pow2_ne bs.length
  generalize (((2 ^ bs.length : Nat) : Int) : Rat) = x at *
  grind
theorem val2_inj : ∀ (n : Nat) {a b : List Nat}, a.length = n → (∀ x ∈ a, x < 2) → (∀ x ∈ b, x < 2) → a.length = b.length → val2 a = val2 b → a = b
  | 0, a, b, hn, _, _, hl, _ => by
    rw [List.length_eq_zero_iff.mp hn, List.length_eq_zero_iff.mp (hl.symm.trans hn)]
  | n + 1, a, b, hn, ha, hb, hl, hv => by
    rcases List.eq_nil_or_concat a with rfl | ⟨a', x, rfl⟩
    · simp at hn
    rcases List.eq_nil_or_concat b with rfl | ⟨b', y, rfl⟩
    · simp at hl
    rw [List.concat_eq_append] at *
    rw [List.concat_eq_append] at *
    rw [val2_append, val2_append, val2_one, val2_one] at hv
    have hx := ha x (by simp)
    have hy := hb y (by simp)
    simp at hv hl hn
    have e1 : x = y := by omega
    have e2 : val2 a' = val2 b' := by omega
    rw [val2_inj n hn (fun z hz => ha z (by simp [hz])) (fun z hz => hb z (by simp [hz])) hl e2, e1]
theorem bst_snoc (bs : List Nat) {b : Nat} (hb : b < 2) : stb (bst bs) [1 / 2, 1 / 2] b = bst (bs ++ [b]) := by
  have h0 := pow2_ne bs.length
  have e : ((2 ^ (bs ++ [b]).length : Nat) : Int) = 2 * ((2 ^ bs.length : Nat) : Int) := by rw [List.length_append, List.length_singleton, Nat.pow_succ, Nat.mul_comm]; simp
  unfold bst stb
  rw [e, val2_append, val2_one]
  simp only [Rat.divInt_eq_div, List.length_singleton, Nat.pow_one]
  rw [Rat.intCast_mul]
  have e2 : (((val2 bs * 2 + b : Nat) : Int) : Rat) = 2 * ((val2 bs : Nat) : Int) + ((b : Nat) : Int) := by
    rw [show ((val2 bs * 2 + b : Nat) : Int) = 2 * (val2 bs : Int) + (b : Int) by omega, Rat.intCast_add, Rat.intCast_mul]; rfl
  rw [e2]
  generalize (((2 ^ bs.length : Nat) : Int) : Rat) = x at *
  generalize (((val2 bs : Nat) : Int) : Rat) = v at *
  have hb2 : b = 0 ∨ b = 1 := by omega
  have e3 : (((2 : Int)) : Rat) = 2 := rfl
  rw [e3]
  rcases hb2 with rfl | rfl
  · simp only [List.take_zero, List.sum_nil, List.getD_cons_zero]
    refine Prod.ext ?_ ?_
    · show v / x + ((1 : Int) : Rat) / x * 0 = (2 * v + ((0 : Nat) : Int)) / (2 * x)
      have : (((0 : Nat) : Int) : Rat) = 0 := rfl
      rw [this]; grind
    · show ((1 : Int) : Rat) / x * (1 / 2) = ((1 : Int) : Rat) / (2 * x)
      have : ((1 : Int) : Rat) = 1 := rfl
      rw [this]; grind
  · refine Prod.ext ?_ ?_
    · show v / x + ((1 : Int) : Rat) / x * (1 / 2 + 0) = (2 * v + ((1 : Nat) : Int)) / (2 * x)
      have : (((1 : Nat) : Int) : Rat) = 1 := rfl
      have h1 : ((1 : Int) : Rat) = 1 := rfl
      rw [this, h1]; grind
    · show ((1 : Int) : Rat) / x * (1 / 2) = ((1 : Int) : Rat) / (2 * x)
      have : ((1 : Int) : Rat) = 1 := rfl
      rw [this]; grind
/-- whether the stretch of one row of bits lies within that of another one -/
theorem bst_lies {o b : List Nat} (ho : ∀ x ∈ o, x < 2) (hb : ∀ x ∈ b, x < 2) : ((bst b).1 ≤ (bst o).1 ∧ (bst o).1 + (bst o).2 ≤ (bst b).1 + (bst b).2) ↔ o.take b.length = b := by
  have p1 : (0 : Int) < (2 ^ o.length : Nat) := by have := Nat.two_pow_pos o.length; omega
  have p2 : (0 : Int) < (2 ^ b.length : Nat) := by have := Nat.two_pow_pos b.length; omega
  rw [bst_hi, bst_hi, le_divInt p1 p2]
  unfold bst
  simp only
  rw [le_divInt p2 p1]
  have c1 : ((val2 b : Nat) : Int) * (2 ^ o.length : Nat) ≤ (val2 o : Nat) * (2 ^ b.length : Nat) ↔ val2 b * 2 ^ o.length ≤ val2 o * 2 ^ b.length := by
    rw [← Int.natCast_mul, ← Int.natCast_mul]; exact Int.ofNat_le
  have c2 : (((val2 o : Nat) : Int) + 1) * (2 ^ b.length : Nat) ≤ ((val2 b : Nat) + 1) * (2 ^ o.length : Nat) ↔ (val2 o + 1) * 2 ^ b.length ≤ (val2 b + 1) * 2 ^ o.length := by
    rw [show ((val2 o : Nat) : Int) + 1 = ((val2 o + 1 : Nat) : Int) by omega, show ((val2 b : Nat) : Int) + 1 = ((val2 b + 1 : Nat) : Int) by omega, ← Int.natCast_mul, ← Int.natCast_mul]; exact Int.ofNat_le
  rw [c1, c2]
  by_cases hl : b.length ≤ o.length
  · have e : o = o.take b.length ++ o.drop b.length := (List.take_append_drop _ _).symm
    have hul : (o.take b.length).length = b.length := by rw [List.length_take]; omega
    have hv : val2 o = val2 (o.take b.length) * 2 ^ (o.length - b.length) + val2 (o.drop b.length) := by
      conv => lhs; rw [e, val2_append]
      rw [List.length_drop]
    have hd : val2 (o.drop b.length) < 2 ^ (o.length - b.length) := by
      have := val2_lt (o.drop b.length) fun x hx => ho x (List.mem_of_mem_drop hx)
      rw [List.length_drop] at this
      exact this
    have hp : 2 ^ o.length = 2 ^ b.length * 2 ^ (o.length - b.length) := by rw [← Nat.pow_add]; congr 1; omega
    have q1 := Nat.two_pow_pos b.length
    have q2 := Nat.two_pow_pos (o.length - b.length)
    generalize o.drop b.length = v at *
    generalize hu : o.take b.length = u at *
    generalize 2 ^ (o.length - b.length) = d at *
    generalize 2 ^ b.length = c at *
    rw [hp, hv]
    constructor
    · intro ⟨h1, h2⟩
      have h1' : val2 b * d ≤ val2 u * d + val2 v := by
        have : (val2 b * d) * c ≤ (val2 u * d + val2 v) * c := by rw [Nat.mul_assoc, Nat.mul_comm d c]; exact h1
        exact Nat.le_of_mul_le_mul_right this q1
      have h2' : val2 u * d + val2 v + 1 ≤ (val2 b + 1) * d := by
        have : (val2 u * d + val2 v + 1) * c ≤ ((val2 b + 1) * d) * c := by rw [Nat.mul_assoc (val2 b + 1), Nat.mul_comm d c]; exact h2
        exact Nat.le_of_mul_le_mul_right this q1
      have a1 : val2 b ≤ val2 u := by
        refine Nat.le_of_lt_succ ?_
        have : val2 b * d < (val2 u + 1) * d := by rw [Nat.add_mul]; omega
        exact Nat.lt_of_mul_lt_mul_right this
      have a2 : val2 u ≤ val2 b := by
        refine Nat.le_of_lt_succ ?_
        have : val2 u * d < (val2 b + 1) * d := by omega
        exact Nat.lt_of_mul_lt_mul_right this
      exact val2_inj b.length hul (fun x hx => ho x (by rw [← hu] at hx; exact List.mem_of_mem_take hx)) hb hul (by omega)
    · intro h
      rw [h]
      refine ⟨?_, ?_⟩
      · rw [Nat.mul_comm c d, ← Nat.mul_assoc]; exact Nat.mul_le_mul_right _ (by omega)
      · rw [Nat.mul_comm c d, ← Nat.mul_assoc]; exact Nat.mul_le_mul_right _ (by rw [Nat.add_mul]; omega)
  · constructor
    · intro ⟨h1, h2⟩
      exfalso
      have h3 : 2 ^ b.length ≤ 2 ^ o.length := by
        rw [Nat.add_mul, Nat.add_mul] at h2
        omega
      have := Nat.pow_lt_pow_right (a := 2) (by decide) (show o.length < b.length by omega)
      omega
    · intro h
      have := congrArg List.length h
      rw [List.length_take] at this
      omega
def plainM : Mdl := [([1 / 2, 1 / 2], [0, 0])]
theorem plain_str : ∀ {bs : List Nat} {ps : List Nat}, (∀ b ∈ bs, b < 2) → strF plainM 0 (bst ps) bs = bst (ps ++ bs)
  | [], ps, _ => by rw [List.append_nil]; rfl
  | b :: bs, ps, h => by
    have hb := h b List.mem_cons_self
    have e : strF plainM 0 (bst ps) (b :: bs) = strF plainM ((mfol plainM 0).getD b 0) (stb (bst ps) (mtab plainM 0) b) bs := rfl
    have e1 : (mfol plainM 0).getD b 0 = 0 := by
      have : b = 0 ∨ b = 1 := by omega
      rcases this with rfl | rfl <;> rfl
    have e2 : mtab plainM 0 = [1 / 2, 1 / 2] := rfl
    rw [e, e1, e2, bst_snoc ps hb, plain_str fun x hx => h x (List.mem_cons_of_mem _ hx), List.append_assoc]
    rfl
theorem plain_way : ∀ {bs : List Nat}, (∀ b ∈ bs, b < 2) → wayB plainM 0 bs = true
  | [], _ => rfl
  | b :: bs, h => by
    have hb := h b List.mem_cons_self
    have e1 : (mfol plainM 0).getD b 0 = 0 := by
      have : b = 0 ∨ b = 1 := by omega
      rcases this with rfl | rfl <;> rfl
    rw [wayB_cons, e1]
    refine ⟨hb, ?_, plain_way fun x hx => h x (List.mem_cons_of_mem _ hx)⟩
    have : b = 0 ∨ b = 1 := by omega
    rcases this with rfl | rfl <;> (show (1 / 2 : Rat) ≠ 0; grind)
theorem kids_ne {m : Nat} {t : List Rat} (ht : Tab m t) : kids t ≠ [] := by
  intro z
  have := kids_sum (s := 1) ht
  rw [z] at this
  have h : (0 : Rat) = 1 := this
  exact absurd h (by decide)
theorem num_gt {q : Rat} (h : 0 ≤ q) : 0 < q.num ↔ q ≠ 0 := by
  have h1 : 0 ≤ q.num := Rat.num_nonneg.mpr h
  constructor
  · intro h2 z
    rw [z] at h2
    exact absurd h2 (by decide)
  · intro h2
    have : q.num ≠ 0 := fun z => h2 (Rat.num_eq_zero.mp z)
    omega
theorem kids_len (t : List Rat) : (kids t).length ≤ t.length := by
  have := List.length_filter_le (fun i => decide (t.getD i 0 ≠ 0)) (List.range t.length)
  rw [List.length_range] at this
  exact this
theorem flat_len {α β : Type} (f : α → List β) (n : Nat) : ∀ (l : List α), (∀ a ∈ l, (f a).length ≤ n) → (l.flatMap f).length ≤ n * l.length
  | [], _ => by simp
  | a :: l, h => by
    have h1 := h a List.mem_cons_self
    have h2 := flat_len f n l fun x hx => h x (List.mem_cons_of_mem _ hx)
    rw [List.flatMap_cons, List.length_append, List.length_cons, Nat.mul_add]
    omega
theorem waysF_len {n : Nat} {M : Mdl} (h : MdlOk n M) : ∀ k, (waysF M k).length ≤ n ^ k
  | 0 => by simp [waysF]
  | k + 1 => by
    have ih := waysF_len h k
    have hok := waysF_ok h k
    have := flat_len (fun p => (kids (mtab M p.2)).map fun i => (p.1 ++ [i], (mfol M p.2).getD i 0)) n (waysF M k) fun p hp => by
      obtain ⟨h1, h2, h3, h4⟩ := hok p hp
      rw [List.length_map, ← h.tl h4]
      exact kids_len _
    rw [Nat.pow_succ, Nat.mul_comm]
    exact Nat.le_trans this (Nat.mul_le_mul_left _ ih)
theorem way_kid {n : Nat} {M : Mdl} (h : MdlOk n M) {w : List Nat} (hw : wayB M 0 w = true) (ha : endW M 0 w < M.length) : (List.range n).filter (fun i => wayB M 0 (w ++ [i])) = kids (mtab M (endW M 0 w)) := by
  unfold kids
  rw [h.tl ha]
  refine List.filter_congr fun i hi => ?_
  have hi := List.mem_range.mp hi
  rw [wayB_app, hw]
  simp only [wayB, Bool.true_and, Bool.and_true]
  rw [decide_eq_true (by rw [h.tl ha]; exact hi), Bool.true_and]
theorem lies_kid {k : Nat} {f : Rat × Rat} {t : List Rat} {i : Nat} (h : Iv k f) (ht : Tab 7 t) (hi : i < t.length) : f.1 ≤ (stb f t i).1 ∧ (stb f t i).1 + (stb f t i).2 ≤ f.1 + f.2 := by
  have hp := getD_pos ht.pos i
  have hP := take_pos ht.pos i
  have h1 : (t.take i).sum + t.getD i 0 ≤ 1 := by rw [take_sum t i hi]; exact take_le ht _
  have h2 := Rat.mul_nonneg h.sz hP
  have h3 := mul_le_of h.sz h1
  constructor
  · show f.1 ≤ f.1 + f.2 * (t.take i).sum
    grind
  · show f.1 + f.2 * (t.take i).sum + f.2 * t.getD i 0 ≤ f.1 + f.2
    grind
theorem sb_kids {k : Nat} {f : Rat × Rat} {t : List Rat} (h : Iv k f) (ht : Tab 7 t) : Sb (7 * k + 8) ((kids t).map fun i => f.2 * t.getD i 0) := by
  obtain ⟨D, d0, d1, d2, d3⟩ := h.com
  obtain ⟨E, e0, e1, e2⟩ := ht.com
  refine ⟨?_, ?_, D * E, Nat.mul_pos d0 e0, ?_, ?_⟩
  · intro q hq
    obtain ⟨i, _, rfl⟩ := List.mem_map.mp hq
    exact Rat.mul_nonneg h.sz (getD_pos ht.pos i)
  · rw [kids_sum ht]
    have h1 := h.hi
    have h2 := h.lo
    have : (1 : Rat) < ((2 ^ 40 : Nat) : Rat) := Rat.lt_iff_le_and_ne.mpr ⟨by decide, by decide⟩
    grind
  · have : D * E < 2 ^ (7 * k + 1) * 2 ^ 7 := Nat.mul_lt_mul'' d1 e1
    rw [← Nat.pow_add] at this
    exact this
  · intro q hq
    obtain ⟨i, _, rfl⟩ := List.mem_map.mp hq
    rcases getD_cases t i with c | c
    · exact d3.mul (e2 _ c)
    · rw [c, Rat.mul_zero]; exact cm_int _ 0
theorem bst_sm {bs : List Nat} (hb : ∀ b ∈ bs, b < 2) {z : Nat} (hz : bs.length + 1 ≤ z) : Sm z (bst bs).1 ∧ Sm z (bst bs).2 := by
  have hp : (0 : Int) < (2 ^ bs.length : Nat) := by have := Nat.two_pow_pos bs.length; omega
  have h1 := val2_lt bs hb
  have h2 : 2 ^ (bs.length + 1) ≤ 2 ^ z := Nat.pow_le_pow_right (by decide) hz
  have h3 := Nat.two_pow_pos bs.length
  rw [Nat.pow_succ] at h2
  constructor
  · exact sm_divInt (by rw [Int.natAbs_natCast]; omega) hp (by rw [Int.natAbs_natCast]; omega)
  · exact sm_divInt (by show 1 < 2 ^ z; omega) hp (by rw [Int.natAbs_natCast]; omega)
theorem plain_ok : MdlOk 2 plainM := by
  refine ⟨by simp [plainM], by decide, by decide, by decide, ?_, ?_, ?_, ?_⟩ <;> (intro s hs; rw [List.mem_singleton.mp hs])
  · exact half_tab.mono (by decide)
  · rfl
  · rfl
  · intro f hf
    simp only [List.mem_cons, List.not_mem_nil, or_false, or_self] at hf
    rw [hf]; decide
theorem bst_nil : bst [] = (0, 1) := by
  unfold bst
  refine Prod.ext ?_ ?_
  · show Rat.divInt ((val2 [] : Nat) : Int) ((2 ^ 0 : Nat) : Int) = 0
    rfl
  · show Rat.divInt 1 ((2 ^ 0 : Nat) : Int) = 1
    rfl
theorem plain_all {bs : List Nat} (h : ∀ b ∈ bs, b < 2) : strF plainM 0 (0, 1) bs = bst bs := by
  have := plain_str (ps := []) h
  rw [bst_nil] at this
  exact this
end MR

namespace Fx
open PySem PySem.Spec PyProof.Rows L2 RZ MR
/-! what can be compared -/
def LyB (d : Nat) (x : PV) : Prop := ∃ e, datP x = some e ∧ PyData.canLay0 e = true ∧ e.depth ≤ d
theorem LyB.mono {d d' : Nat} {x : PV} (h : LyB d x) (l : d ≤ d') : LyB d' x := let ⟨e, a, b, c⟩ := h; ⟨e, a, b, by omega⟩
theorem ly_int (i : Int) : LyB 1 (.int i) := ⟨.int i, rfl, by simp [PyData.canLay0], by simp [PyData.depth]⟩
theorem ly_all {d : Nat} : ∀ {xs : List PV}, (∀ x ∈ xs, LyB d x) → ∃ es, datPs xs = some es ∧ PyData.canLayAll0 es = true ∧ PyData.depthAll es ≤ d ∧ es.length = xs.length
  | [], _ => ⟨[], rfl, rfl, by simp [PyData.depthAll], rfl⟩
  | x :: xs, h => by
    obtain ⟨e, a1, a2, a3⟩ := h x List.mem_cons_self
    obtain ⟨es, b1, b2, b3, b4⟩ := ly_all fun y hy => h y (List.mem_cons_of_mem _ hy)
    refine ⟨e :: es, by simp [datPs, a1, b1], ?_, ?_, by simp [b4]⟩
    · show (PyData.canLay0 e && PyData.canLayAll0 es) = true
      rw [a2, b2]; rfl
    · rw [PyData.depthAll]; exact Nat.max_le.mpr ⟨a3, b3⟩
theorem ly_tup {d : Nat} {xs : List PV} (h : ∀ x ∈ xs, LyB d x) : LyB (d + 1) (.tup xs) := by
  obtain ⟨es, b1, b2, b3, b4⟩ := ly_all h
  refine ⟨.tuple es, by simp [datP, b1], ?_, by rw [PyData.depth]; omega⟩
  rw [PyData.canLay0]; exact b2
theorem datPs_len : ∀ {xs : List PV} {es : List PyData}, datPs xs = some es → es.length = xs.length
  | [], es, h => by
    simp only [datPs, Option.some.injEq] at h
    rw [← h]; rfl
  | x :: xs, es, h => by
    simp only [datPs] at h
    cases c1 : datP x with
    | none => rw [c1] at h; cases c2 : datPs xs <;> rw [c2] at h <;> cases h
    | some y =>
      cases c2 : datPs xs with
      | none => rw [c1, c2] at h; cases h
      | some ys =>
        rw [c1, c2] at h
        injection h with h
        rw [← h, List.length_cons, List.length_cons, datPs_len c2]
theorem eqP_tnil {d : Nat} {xs : List PV} {μ : Store} (hne : xs ≠ []) (h : LyB d (.tup xs)) (hd : d ≤ 64) : eqP (.tup xs) (.tup []) μ = some false := by
  obtain ⟨e, a1, a2, a3⟩ := h
  have h0 : SeqAt.shaped (.tuple []) = true := by decide +kernel
  simp only [datP] at a1
  cases c : datPs xs with
  | none => rw [c] at a1; cases a1
  | some es =>
    rw [c] at a1
    simp only [Option.map_some, Option.some.injEq] at a1
    subst a1
    have hs : SeqAt.shaped (.tuple es) = true := by
      unfold SeqAt.shaped
      rw [a2, decide_eq_true (by omega)]
      rfl
    have hl := datPs_len c
    unfold eqP
    simp only [scalP, frzP, datP, c, datPs, Option.map_some, h0, hs, and_self, if_true, PyData.eqv]
    congr 1
    cases es with
    | nil => exact absurd (List.length_eq_zero_iff.mp hl.symm) hne
    | cons y ys => rfl
/-! models -/
def stP (s : List Rat × List Nat) : PV := .tup [tabP s.1, lotP s.2]
def mdlP (M : Mdl) : PV := .tup (M.map stP)
def strP (f : Rat × Rat) : PV := .tup [frP f.1, frP f.2]
theorem ly_lot (ns : List Nat) : LyB 2 (lotP ns) := by
  unfold lotP
  refine ly_tup fun x hx => ?_
  obtain ⟨n, _, rfl⟩ := List.mem_map.mp hx
  exact ly_int _
theorem ly_fr (q : Rat) : LyB 2 (frP q) := by
  refine ly_tup fun x hx => ?_
  simp only [List.mem_cons, List.not_mem_nil, or_false] at hx
  rcases hx with rfl | rfl <;> exact ly_int _
theorem ly_tab (qs : List Rat) : LyB 3 (tabP qs) := by
  unfold tabP
  refine ly_tup fun x hx => ?_
  obtain ⟨n, _, rfl⟩ := List.mem_map.mp hx
  exact ly_fr _
theorem ly_st (s : List Rat × List Nat) : LyB 4 (stP s) := by
  refine ly_tup fun x hx => ?_
  simp only [List.mem_cons, List.not_mem_nil, or_false] at hx
  rcases hx with rfl | rfl
  · exact ly_tab _
  · exact (ly_lot _).mono (by decide)
theorem ly_mdl (M : Mdl) : LyB 5 (mdlP M) := by
  unfold mdlP
  refine ly_tup fun x hx => ?_
  obtain ⟨n, _, rfl⟩ := List.mem_map.mp hx
  exact ly_st _
theorem eqP_mdl {M : Mdl} (h : M ≠ []) (μ : Store) : eqP (.tup (M.map stP)) (.tup []) μ = some false := by
  cases M with
  | nil => exact absurd rfl h
  | cons s M => exact eqP_tnil (by simp) (ly_mdl (s :: M)) (by decide)
theorem items_mdl (M : Mdl) (μ : Store) : itemsOf (mdlP M) μ = some (M.map stP) := rfl
theorem atM {M : Mdl} {a : Nat} (h : a < M.length) : L2.atI (M.map stP) ((a : Nat) : Int) = some (.tup [tabP (mtab M a), lotP (mfol M a)]) := by
  have e : (M.map stP)[a]? = some (.tup [tabP (mtab M a), lotP (mfol M a)]) := by
    unfold mtab mfol
    rw [List.getElem?_map, List.getD_eq_getElem?_getD, List.getElem?_eq_getElem h]
    rfl
  exact atI_some e
theorem atT {t : List Rat} {i : Nat} (h : i < t.length) : L2.atI (t.map frP) ((i : Nat) : Int) = some (frP (t.getD i 0)) := by
  have e : (t.map frP)[i]? = some (frP (t.getD i 0)) := by
    rw [List.getElem?_map, List.getD_eq_getElem?_getD, List.getElem?_eq_getElem h]
    rfl
  exact atI_some e
theorem num_zero {q : Rat} : q.num = 0 ↔ q = 0 := Rat.num_eq_zero
theorem frP_pow (k : Nat) : PV.tup [.int 1, .int ((2 ^ k : Nat) : Int)] = frP (Rat.divInt 1 (2 ^ k : Nat)) := by
  have hp : (0 : Int) < (2 ^ k : Nat) := by have := Nat.two_pow_pos k; omega
  obtain ⟨h1, h2⟩ := divInt_parts 1 (2 ^ k : Nat) hp
  have e : Nat.gcd (1 : Int).natAbs ((2 ^ k : Nat) : Int).natAbs = 1 := Nat.gcd_one_left _
  rw [e] at h1 h2
  unfold frP
  rw [h1, h2]
  simp
theorem shb_str {f : Rat × Rat} (h1 : Sm 1900 f.1) (h2 : Sm 1900 f.2) : ShB 2 9000 (strP f) := by
  refine (shb_tup (d := 1) (l := 4000) fun x hx => ?_).mono (by decide) (by simp)
  simp only [List.mem_cons, List.not_mem_nil, or_false] at hx
  rcases hx with rfl | rfl
  · exact shb_fr h1
  · exact shb_fr h2
theorem pRepr_str {f : Rat × Rat} {μ : Store} {P : PV → Store → Prop} (h1 : Sm 1900 f.1) (h2 : Sm 1900 f.2) (hP : P (.str (shwP (strP f))) μ) : pRepr [strP f] μ P := pRepr_tup (shb_str h1 h2) (by decide) (by decide) hP
theorem pRepr_str2 {f : Rat × Rat} {μ : Store} {P : PV → Store → Prop} (h1 : Sm 1900 f.1) (h2 : Sm 1900 f.2) (hP : P (.str (shwP (.tup [strP f, strP f]))) μ) : pRepr [.tup [strP f, strP f]] μ P := by
  refine pRepr_tup (d := 3) (l := 30000) ((shb_tup (d := 2) (l := 9000) fun y hy => ?_).mono (by decide) (by simp)) (by decide) (by decide) hP
  simp only [List.mem_cons, List.not_mem_nil, or_false, or_self] at hy
  rw [hy]; exact shb_str h1 h2
theorem atM0 {M : Mdl} (h : 0 < M.length) : L2.atI (M.map stP) (0 : Int) = some (.tup [tabP (mtab M 0), lotP (mfol M 0)]) := atM (a := 0) h
theorem ixN_last {n : Nat} (h : 0 < n) : ixN n (-1) = some (n - 1) := by
  unfold L2.ixN
  rw [if_neg (by decide), if_pos (by omega)]
  congr 1
  omega
theorem set_map {α : Type} (f : α → PV) : ∀ (l : List α) (j : Nat) (x : α), (l.map f).set j (f x) = (l.set j x).map f
  | [], _, _ => rfl
  | a :: l, 0, x => rfl
  | a :: l, j + 1, x => by simp only [List.map_cons, List.set_cons_succ, set_map f l j x]
theorem parts_tab {n z b : Nat} {L : List Nat} (hl : L.length = n) (h1 : 1 ≤ n) (h8 : n ≤ 8) (hs : L.sum = b) (b1 : 1 ≤ b) (hb : b < 2 ^ z) : Tab z (L.map fun (p : Nat) => Rat.divInt (p : Nat) (b : Nat)) := by
  have hW : (((b : Nat) : Int) : Rat) ≠ 0 := by
    intro e
    have := Rat.intCast_inj.mp (show (((b : Nat) : Int) : Rat) = ((0 : Int) : Rat) from e)
    omega
  have hWp : (0 : Rat) < (((b : Nat) : Int) : Rat) := Rat.intCast_pos.mpr (by omega)
  have esum : ∀ l : List Nat, ((l.map fun (p : Nat) => (p : Int)).sum) = ((l.sum : Nat) : Int) := fun l => by
    induction l with
    | nil => rfl
    | cons a l ih => rw [List.map_cons, List.sum_cons, List.sum_cons, ih]; omega
  refine ⟨?_, by rw [List.length_map, hl]; exact h8, ?_, ?_, b, by omega, hb, ?_⟩
  · intro e
    have := congrArg List.length e
    rw [List.length_map, hl] at this
    simp at this
    omega
  · intro x hx
    obtain ⟨p, hp, rfl⟩ := List.mem_map.mp hx
    rw [Rat.divInt_eq_div, Rat.div_def]
    exact Rat.mul_nonneg (Rat.intCast_nonneg.mpr (by omega)) (Rat.le_of_lt (Rat.inv_pos.mpr hWp))
  · have := rsum_map (b : Nat) (L.map fun (p : Nat) => (p : Int))
    rw [List.map_map, esum, hs] at this
    exact this.trans (div_self' hW)
  · intro x hx
    obtain ⟨p, hp, rfl⟩ := List.mem_map.mp hx
    refine ⟨p, ?_⟩
    rw [Rat.divInt_eq_div, Rat.div_def, ← Rat.intCast_natCast b, Rat.mul_assoc, Rat.inv_mul_cancel _ hW, Rat.mul_one]
theorem eqP_l00 (μ : Store) : eqP (.lst []) (.lst []) μ = some true := eqP_li [] [] μ
def pairP (q : List Nat × Nat) : PV := .tup [lotP q.1, .int (q.2 : Nat)]
def kidsW (M : Mdl) (p : List Nat × Nat) : List (List Nat × Nat) := (kids (mtab M p.2)).map fun i => (p.1 ++ [i], (mfol M p.2).getD i 0)
end Fx

namespace Fx
open PySem PySem.Spec PyProof.Rows L2 RZ MR
abbrev S_is_integer : PSp := fun xs μ Q => xs.length = 1 ∧ ∃ i, xs = [.int i] ∧ Q (.bl true) μ
abbrev S_is_within : PSp := fun xs μ Q => xs.length = 3 ∧ ∃ (i lo hi : Int), xs = [.int i, .int lo, .int hi] ∧ Q (.bl (decide (lo ≤ i) && decide (i ≤ hi))) μ
abbrev S_are_integers : PSp := fun xs μ Q => xs.length = 3 ∧ ∃ (vs : List Int) (lo hi : Int), xs = [.tup (vs.map PV.int), .int lo, .int hi] ∧ vs.length ≤ lim ∧ Q (.bl (vs.all fun i => decide (lo ≤ i) && decide (i ≤ hi))) μ
abbrev S_lowest : PSp := fun xs μ Q => xs.length = 2 ∧ ∃ a b, xs = [.int a, .int b] ∧ 0 < b ∧ b.natAbs < 2 ^ 8900 ∧ Q (frP (Rat.divInt a b)) μ
abbrev S_added : PSp := fun xs μ Q => xs.length = 2 ∧ ∃ p q, xs = [frP p, frP q] ∧ Sm 4000 p ∧ Sm 4000 q ∧ Q (frP (p + q)) μ
abbrev S_times : PSp := fun xs μ Q => xs.length = 2 ∧ ∃ p q, xs = [frP p, frP q] ∧ Sm 4000 p ∧ Sm 4000 q ∧ Q (frP (p * q)) μ
abbrev S_total : PSp := fun xs μ Q => xs.length = 1 ∧ ∃ x qs, xs = [x] ∧ seqP x = some (qs.map frP) ∧ Sb 3900 qs ∧ Q (frP qs.sum) μ
abbrev S_is_fraction : PSp := fun xs μ Q => xs.length = 1 ∧ ∃ q, xs = [frP q] ∧ Q (.bl true) μ
abbrev S_is_amount : PSp := fun xs μ Q => xs.length = 1 ∧ ∃ q, xs = [frP q] ∧ 0 ≤ q ∧ Q (.bl true) μ
abbrev S_are_amounts : PSp := fun xs μ Q => xs.length = 2 ∧ ∃ (qs : List Rat) (n : Nat), xs = [tabP qs, .int (n : Nat)] ∧ qs.length = n ∧ qs.length ≤ lim ∧ (∀ q ∈ qs, 0 ≤ q) ∧ Q (.bl true) μ
abbrev S_is_table : PSp := fun xs μ Q => xs.length = 1 ∧ ∃ qs, xs = [tabP qs] ∧ Tab 3800 qs ∧ Q (.bl true) μ
abbrev S__law_draw : PSp := fun xs μ Q => xs.length = 2 ∧ ∃ (many m : Int) (rest : Store), xs = [.mr 1, .int many] ∧ Dk m rest μ ∧ 0 < many ∧ many < 2 ^ 60 ∧
  ∀ (n : Int) (μ' : Store), 0 ≤ n → n < many → Dk m rest μ' → Q (.int n) μ' 
abbrev S__law_pick : PSp := fun xs μ Q => xs.length = 2 ∧ ∃ (x : PV) (items : List PV) (m : Int) (rest : Store), xs = [.mr 1, x] ∧ (seqP x = some items ∨ ∃ j, x = .mr (j + 2) ∧ rest[j]? = some (.lst items)) ∧ Dk m rest μ ∧ 0 < items.length ∧ items.length ≤ 1000 ∧
  ∀ v ∈ items, ∀ μ', Dk m rest μ' → Q v μ' 
abbrev S__law_deck : PSp := fun xs μ Q => xs.length = 1 ∧ ∃ (ns : List Int), xs = [.kl (ns.map PV.int)] ∧ μ = [] ∧
  ∀ (m : Int) (μ' : Store), Dk m [] μ' → Q (.mr 1) μ' 
abbrev S__law_common : PSp := fun xs μ Q => xs.length = 2 ∧ ∃ (a b : Int), xs = [.int a, .int b] ∧ Q (.int (Nat.gcd a.natAbs b.natAbs : Nat)) μ
abbrev S__law_fraction : PSp := fun xs μ Q => xs.length = 2 ∧ ∃ (a b : Int), xs = [.int a, .int b] ∧ 0 < b ∧ b.natAbs < 2 ^ 8900 ∧ Q (frP (Rat.divInt a b)) μ
abbrev S__law_times : PSp := fun xs μ Q => xs.length = 2 ∧ ∃ (p q : Rat), xs = [frP p, frP q] ∧ Sm 4000 p ∧ Sm 4000 q ∧ Q (frP (p * q)) μ
abbrev S__law_table : PSp := fun xs μ Q => xs.length = 3 ∧ ∃ (n z : Nat) (m : Int) (rest : Store) (x : PV) (Bs : List Nat), xs = [.mr 1, .int (n : Nat), x] ∧ seqP x = some (Bs.map fun (b : Nat) => PV.int b) ∧ Dk m rest μ ∧ 1 ≤ n ∧ n ≤ 8 ∧ z ≤ 44 ∧ Bs ≠ [] ∧ Bs.length ≤ 1000 ∧ (∀ b ∈ Bs, 1 ≤ b ∧ b < 2 ^ z) ∧
  ∀ (qs : List Rat) (g : Store) (μ' : Store), Tab z qs → qs.length = n → Dk m (rest ++ g) μ' → Q (tabP qs) μ' 
abbrev S_law : PSp := fun xs μ Q => xs.length = 1 ∧ ∃ ns : List Int, xs = [.kl (ns.map PV.int)] ∧ μ = [] ∧ ∀ μ', Q (.bl true) μ' 
abbrev S__law_is_integer : PSp := fun xs μ Q => xs.length = 1 ∧ ∃ i, xs = [.int i] ∧ Q (.bl true) μ
abbrev S_in_base_two : PSp := fun xs μ Q => xs.length = 1 ∧ ∃ (x : PV) (ns : List Nat), xs = [x] ∧ seqP x = some (ns.map fun (n : Nat) => PV.int n) ∧ ns.length ≤ 200000 ∧ (∀ n ∈ ns, n < 2 ^ 100) ∧ Q (.int (val2 ns : Nat)) μ
abbrev S_are_bits : PSp := fun xs μ Q => xs.length = 1 ∧ ∃ (bs : List Nat), xs = [lotP bs] ∧ bs.length ≤ 200000 ∧ Q (.bl (bs.all (· < 2))) μ
abbrev S__law_bits : PSp := fun xs μ Q => xs.length = 2 ∧ ∃ (n : Nat) (m : Int) (rest : Store), xs = [.mr 1, .int (n : Nat)] ∧ Dk m rest μ ∧ n ≤ 1000 ∧ ∀ (bs : List Nat) (μ' : Store), (∀ b ∈ bs, b < 2) → bs.length = n → Dk m rest μ' → Q (lotP bs) μ' 
abbrev S_check_bits : PSp := fun xs μ Q => xs.length = 1 ∧ ∃ (bs : List Nat), xs = [lotP bs] ∧ (∀ b ∈ bs, b < 2) ∧ bs.length ≤ 1000 ∧ Q .non μ
abbrev S__law_is_right : PSp := fun xs μ Q => xs.length = 3 ∧ ∃ (n : Nat) (M : Mdl) (w : List Nat), xs = [.mr 1, mdlP M, lotP w] ∧ MdlOk n M ∧ wayB M 0 w = true ∧ w.length ≤ 60 ∧ Q (.bl true) μ
abbrev S_is_state : PSp := fun xs μ Q => xs.length = 2 ∧ ∃ (s : List Rat × List Nat) (many : Nat), xs = [stP s, .int (many : Nat)] ∧ Tab 3800 s.1 ∧ s.2.length = s.1.length ∧ (∀ f ∈ s.2, f < many) ∧ Q (.bl true) μ
abbrev S_are_states : PSp := fun xs μ Q => xs.length = 1 ∧ ∃ (n : Nat) (M : Mdl), xs = [mdlP M] ∧ MdlOk n M ∧ Q (.bl true) μ
abbrev S_check_model : PSp := fun xs μ Q => xs.length = 1 ∧ ∃ (n : Nat) (M : Mdl), xs = [mdlP M] ∧ MdlOk n M ∧ Q .non μ
abbrev S_is_way_of : PSp := fun xs μ Q => xs.length = 2 ∧ ∃ (n : Nat) (M : Mdl) (w : List Nat), xs = [mdlP M, lotP w] ∧ MdlOk n M ∧ wayB M 0 w = true ∧ w.length ≤ 1000 ∧ Q (.bl true) μ
abbrev S_check_way : PSp := fun xs μ Q => xs.length = 2 ∧ ∃ (n : Nat) (M : Mdl) (w : List Nat), xs = [mdlP M, lotP w] ∧ MdlOk n M ∧ wayB M 0 w = true ∧ w.length ≤ 1000 ∧ Q .non μ
abbrev S_stretch_behind : PSp := fun xs μ Q => xs.length = 3 ∧ ∃ (k : Nat) (f : Rat × Rat) (t : List Rat) (i : Nat), xs = [strP f, tabP t, .int (i : Nat)] ∧ Iv k f ∧ k ≤ 420 ∧ Tab 7 t ∧ i < t.length ∧ Q (strP (stb f t i)) μ
abbrev S_stretch : PSp := fun xs μ Q => xs.length = 2 ∧ ∃ (n : Nat) (M : Mdl) (w : List Nat), xs = [mdlP M, lotP w] ∧ MdlOk n M ∧ wayB M 0 w = true ∧ w.length ≤ 400 ∧ Q (strP (strF M 0 (0, 1) w)) μ
abbrev S_bits_stretch : PSp := fun xs μ Q => xs.length = 1 ∧ ∃ (bs : List Nat), xs = [lotP bs] ∧ (∀ b ∈ bs, b < 2) ∧ bs.length ≤ 1000 ∧ Q (strP (bst bs)) μ
abbrev S__law_plus : PSp := fun xs μ Q => xs.length = 2 ∧ ∃ (p q : Rat), xs = [frP p, frP q] ∧ Sm 4000 p ∧ Sm 4000 q ∧ Q (frP (p + q)) μ
abbrev S__law_total : PSp := fun xs μ Q => xs.length = 1 ∧ ∃ x qs, xs = [x] ∧ seqP x = some (qs.map frP) ∧ Sb 3900 qs ∧ Q (frP qs.sum) μ
abbrev S__law_is_less : PSp := fun xs μ Q => xs.length = 2 ∧ ∃ (p q : Rat), xs = [frP p, frP q] ∧ Sm 4000 p ∧ Sm 4000 q ∧ Q (.bl (decide (p < q))) μ
abbrev S__law_lies : PSp := fun xs μ Q => xs.length = 2 ∧ ∃ (f g : Rat × Rat), xs = [strP f, strP g] ∧ Sm 1990 f.1 ∧ Sm 1990 f.2 ∧ Sm 1990 g.1 ∧ Sm 1990 g.2 ∧ Q (.bl (decide (g.1 ≤ f.1 ∧ f.1 + f.2 ≤ g.1 + g.2))) μ
abbrev S__law_chances : PSp := fun xs μ Q => xs.length = 0 ∧ xs = [] ∧ ∀ Bs : List Nat, Bs ≠ [] → Bs.length ≤ 100 → (∀ b ∈ Bs, 1 ≤ b ∧ b < 128) → Q (.lst (Bs.map fun (b : Nat) => PV.int b)) μ
abbrev S__law_are_few : PSp := fun xs μ Q => xs.length = 2 ∧ ∃ (n : Nat) (M : Mdl) (k : Nat), xs = [mdlP M, .int (k : Nat)] ∧ MdlOk n M ∧ k ≤ 8 ∧ Q (.bl (decide (n ^ k ≤ 60))) μ
abbrev S__law_bits_stretch : PSp := fun xs μ Q => xs.length = 1 ∧ ∃ (bs : List Nat), xs = [lotP bs] ∧ (∀ b ∈ bs, b < 2) ∧ bs.length ≤ 1000 ∧ Q (strP (bst bs)) μ
abbrev S__law_is_way : PSp := fun xs μ Q => xs.length = 2 ∧ ∃ (n : Nat) (M : Mdl) (w : List Nat), xs = [mdlP M, lotP w] ∧ MdlOk n M ∧ (∀ i ∈ w, i < n) ∧ w.length ≤ 1000 ∧ Q (.bl (wayB M 0 w)) μ
abbrev S__law_way : PSp := fun xs μ Q => xs.length = 3 ∧ ∃ (n k : Nat) (M : Mdl) (m : Int) (rest : Store), xs = [.mr 1, mdlP M, .int (k : Nat)] ∧ MdlOk n M ∧ k ≤ 400 ∧ Dk m rest μ ∧ ∀ (w : List Nat) (μ' : Store), wayB M 0 w = true → w.length = k → Dk m rest μ' → Q (lotP w) μ' 
abbrev S__law_stretch : PSp := fun xs μ Q => xs.length = 2 ∧ ∃ (n : Nat) (M : Mdl) (w : List Nat), xs = [mdlP M, lotP w] ∧ MdlOk n M ∧ wayB M 0 w = true ∧ w.length ≤ 400 ∧ Q (strP (strF M 0 (0, 1) w)) μ
abbrev S__law_model : PSp := fun xs μ Q => xs.length = 3 ∧ ∃ (many : Nat) (m : Int) (rest : Store) (Bs : List Nat), xs = [.mr 1, .int (many : Nat), .lst (Bs.map fun (b : Nat) => PV.int b)] ∧ Dk m rest μ ∧ 1 ≤ many ∧ many ≤ 50 ∧ Bs ≠ [] ∧ Bs.length ≤ 1000 ∧ (∀ b ∈ Bs, 1 ≤ b ∧ b < 128) ∧
  ∀ (n : Nat) (M : Mdl) (g : Store) (μ' : Store), MdlOk n M → n ≤ 5 → Dk m (rest ++ g) μ' → Q (mdlP M) μ' 
abbrev S__law_ways : PSp := fun xs μ Q => xs.length = 2 ∧ ∃ (n k : Nat) (M : Mdl), xs = [mdlP M, .int (k : Nat)] ∧ MdlOk n M ∧ k ≤ 8 ∧ n ^ k ≤ 60 ∧ Q (.lst ((waysF M k).map fun p => lotP p.1)) μ
abbrev S__law_lie_beside : PSp := fun xs μ Q => xs.length = 2 ∧ ∃ (n k : Nat) (M : Mdl), xs = [mdlP M, .int (k : Nat)] ∧ MdlOk n M ∧ k ≤ 8 ∧ n ^ k ≤ 60 ∧ Q (.bl true) μ
abbrev S__law_are_bits_right : PSp := fun xs μ Q => xs.length = 2 ∧ ∃ (k : Nat) (m : Int) (rest : Store), xs = [.mr 1, .int (k : Nat)] ∧ Dk m rest μ ∧ k ≤ 400 ∧ ∀ μ', Dk m rest μ' → Q (.bl true) μ' 
end Fx
namespace K51
open PySem PySem.Spec PyProof.Rows L2 RZ Fx MR

def topS (i : Nat) : Stmt := PySem.Challenge.pw_drawnbits_k51_whole_stretches.main.body.getD i (.Pass ⟨0, 0, 0, 0⟩)
abbrev s_is_integer : Stmt := topS 7
abbrev s_is_within : Stmt := topS 8
abbrev s_are_integers : Stmt := topS 9
abbrev s_lowest : Stmt := topS 10
abbrev s_added : Stmt := topS 11
abbrev s_total : Stmt := topS 12
abbrev s_times : Stmt := topS 13
abbrev s_is_fraction : Stmt := topS 16
abbrev s_is_amount : Stmt := topS 17
abbrev s_are_amounts : Stmt := topS 18
abbrev s_is_table : Stmt := topS 19
abbrev s_in_base_two : Stmt := topS 21
abbrev s_are_bits : Stmt := topS 23
abbrev s_check_bits : Stmt := topS 24
abbrev s_is_state : Stmt := topS 26
abbrev s_are_states : Stmt := topS 27
abbrev s_check_model : Stmt := topS 28
abbrev s_is_way_of : Stmt := topS 29
abbrev s_check_way : Stmt := topS 30
abbrev s_stretch : Stmt := topS 32
abbrev s_stretch_behind : Stmt := topS 33
abbrev s_bits_stretch : Stmt := topS 34
abbrev s__law_deck : Stmt := topS 36
abbrev s__law_draw : Stmt := topS 37
abbrev s__law_pick : Stmt := topS 38
abbrev s__law_is_integer : Stmt := topS 39
abbrev s__law_common : Stmt := topS 40
abbrev s__law_fraction : Stmt := topS 41
abbrev s__law_plus : Stmt := topS 42
abbrev s__law_times : Stmt := topS 43
abbrev s__law_total : Stmt := topS 44
abbrev s__law_is_less : Stmt := topS 45
abbrev s__law_table : Stmt := topS 46
abbrev s__law_bits : Stmt := topS 47
abbrev s__law_is_way : Stmt := topS 48
abbrev s__law_model : Stmt := topS 49
abbrev s__law_way : Stmt := topS 50
abbrev s__law_stretch : Stmt := topS 51
abbrev s__law_ways : Stmt := topS 52
abbrev s__law_bits_stretch : Stmt := topS 53
abbrev s__law_lies : Stmt := topS 54
abbrev s__law_chances : Stmt := topS 55
abbrev s__law_lie_beside : Stmt := topS 56
abbrev s__law_are_few : Stmt := topS 57
abbrev s__law_is_right : Stmt := topS 58
abbrev s__law_are_bits_right : Stmt := topS 59
abbrev s_law : Stmt := topS 60
section
variable {P : Program} {w : World} {K : PySem.W.Frag} {mg : Str → Option Value} {base : Heap}
abbrev N__law_deck : List Str := ["_law_script", "_law_mixed", "_law_cell"]
theorem sc__law_deck : FnScope N__law_deck ["_law_script"] (defScope s__law_deck) := ⟨rfl, rfl, rfl, by decide +kernel, rfl, by decide +kernel, by decide +kernel⟩
theorem ok__law_deck (B : Blt mg) (h__law_deck : Own K mg "_law_deck" s__law_deck) : Ok P w K mg base 1 "_law_deck" s__law_deck ["_law_script"] S__law_deck := by
  obtain ⟨f_s, fd_s, F_s, g_s⟩ := h__law_deck
  refine ⟨f_s, fd_s, F_s, g_s, F_s.binds (fun _ _ _ _ _ _ us hl => match us, hl with | [_], _ => rfl), FnG.of F_s sc__law_deck (fun xs μ Q h => by first | exact h.1 | (obtain ⟨⟩ := h)) fun cdv A outer s H hr hgd => ⟨_, _, (pss_cons (ps_set (i := 1) sc__law_deck.nd rfl (Or.inl rfl) pe_int)
 (pss_cons (ps_for PassesOwn.never rfl (pi_seq (pe_slice sl_any (pv 0) po_none (po_some pe_int))) (pg_name (i := 2) sc__law_deck.nd rfl (Or.inl rfl))
 (pss_one (ps_set (i := 1) sc__law_deck.nd rfl (Or.inl rfl) (pe_op op_modX (pe_callTy cb_int1 (by rfl) (B "int" (by decide)) (by decide +kernel) (pa_cons (pe_op op_plus (pe_op op_plus (pe_op op_times (pv 1) pe_int) (pe_op op_modX (pe_callTy cb_int1 (by rfl) (B "int" (by decide)) (by decide +kernel) (pa_cons (pv 2) pa_nil)) pe_int)) pe_int) pa_nil)) pe_int))))
 (pss_one (ps_ret (pe_disp (pps_cons pe_str (peRM (pe_revL (pe_callTy cb_lst (by rfl) (B "list" (by decide)) (by decide +kernel) (pa_cons (pe_slice sl_any (pv 0) po_none (po_some pe_int)) pa_nil)))) (pps_cons pe_str (pv 1) (pps_cons pe_str pe_int pps_nil))) (by rfl) (by rfl) (fun z => by cases z) (by decide)))))), (by (try dsimp only [cxOf]); exact inferInstance), ?_⟩⟩
  intro xs μ Q hS
  obtain ⟨_, ns, rfl, rfl, hQ⟩ := hS
  rw [show startP N__law_deck [.kl (ns.map PV.int)] = [some (.kl (ns.map PV.int)), none, none] from rfl]
  have hc : cutP (ns.map PV.int) none (some 63) = (ns.take 63).map PV.int := by rw [List.map_take]; exact cut_to _ 63
  simp only [str_to, str_ot, mPar3, mLockV, mLockE, mItemsC, mKeysC, mDGet2, pIsN, isNonP, pRepLM, mTruD, dkOfP, pPopAt, pIndex, mLstRgM, mTruth, pReprA, pLenD, pLstD, mDNew, pRepL, mLenSetN, mDIn, mSortSet, mSortSetL, mRevT, mForC, mSeqC, mLcC, pAbs, pMax2, pMin2, pInt1, mDGet, mDPut, mBM, mBM0, pPop, pAppend, pExtend, pSetL, mSub, mDisp, mPs, mPs0, mRevL, mRevLM, pLstOfM, mTupRg, mRg1, mRg2, pPlusM, lstItems, dictOfP, keyP, keysP, val_left, val_mixed, val_draws, put_draws, mLc, mLcM, mLc2, mFor, mSeqI, mRng1, mRng2, mZip, mEnum, mSl, mNoPart, mPart, mSeq, mAsg, mAsg2, mCB, mCons, mNil, mVar, mC, mOp, mUn, pU, mTup, mLst, mRet, mRetN, mLstM, getl, setl, mName, mCall, mCallK, mIf, mIfS, mTest, mAnd, mOr, mNot, mYes, mAndV, mOrV, mNotV, mNext, mNever, mBreak, mCont, mDrop, mChain, mPar, mGTup, mGCons, mGNil, pGcd, pI, pI0, pIx, pTimes, pPlus, pEq, pNe, pLen, pSum, pMaxS, pAll, pAny, pTupOf, pLstOf, pIn, pIsB, pIsi, items_tup, items_lst, items_kl, items_mr, items_tab, items_lot, items_fr, decide_true, decide_false, eqP_int, eqP_bl, eqP_str, eqP_tup2, kit_tt, kit_ii, kit_ib, tyP, mEnd, wipeP, List.map_cons, List.map_nil, List.getElem?_cons_zero, List.getElem?_cons_succ, List.set_cons_zero, List.set_cons_succ, atI_zero, atI_one, if_true, if_false, ite_true, ite_false, Bool.false_eq_true, List.length_cons, List.length_nil, Bool.not_true, Bool.not_false, hc]
  refine for_inv (enc := PV.int) (fun pre ρ μ' => (∃ m y, ρ = [some (.kl (ns.map PV.int)), some (.int m), y]) ∧ μ' = []) (done := []) ⟨⟨_, _, rfl⟩, rfl⟩ (fun pre a post ρ μ' e hI N hN => ?_) fun ρ μ' hI => ?_
  · obtain ⟨⟨m, y, rfl⟩, rfl⟩ := hI
    simp only [str_to, str_ot, mPar3, mLockV, mLockE, mItemsC, mKeysC, mDGet2, pIsN, isNonP, pRepLM, mTruD, dkOfP, pPopAt, pIndex, mLstRgM, mTruth, pReprA, pLenD, pLstD, mDNew, pRepL, mLenSetN, mDIn, mSortSet, mSortSetL, mRevT, mForC, mSeqC, mLcC, pAbs, pMax2, pMin2, pInt1, mDGet, mDPut, mBM, mBM0, pPop, pAppend, pExtend, pSetL, mSub, mDisp, mPs, mPs0, mRevL, mRevLM, pLstOfM, mTupRg, mRg1, mRg2, pPlusM, lstItems, dictOfP, keyP, keysP, val_left, val_mixed, val_draws, put_draws, mLc, mLcM, mLc2, mFor, mSeqI, mRng1, mRng2, mZip, mEnum, mSl, mNoPart, mPart, mSeq, mAsg, mAsg2, mCB, mCons, mNil, mVar, mC, mOp, mUn, pU, mTup, mLst, mRet, mRetN, mLstM, getl, setl, mName, mCall, mCallK, mIf, mIfS, mTest, mAnd, mOr, mNot, mYes, mAndV, mOrV, mNotV, mNext, mNever, mBreak, mCont, mDrop, mChain, mPar, mGTup, mGCons, mGNil, pGcd, pI, pI0, pIx, pTimes, pPlus, pEq, pNe, pLen, pSum, pMaxS, pAll, pAny, pTupOf, pLstOf, pIn, pIsB, pIsi, items_tup, items_lst, items_kl, items_mr, items_tab, items_lot, items_fr, decide_true, decide_false, eqP_int, eqP_bl, eqP_str, eqP_tup2, kit_tt, kit_ii, kit_ib, tyP, mEnd, wipeP, List.map_cons, List.map_nil, List.getElem?_cons_zero, List.getElem?_cons_succ, List.set_cons_zero, List.set_cons_succ, atI_zero, atI_one, if_true, if_false, ite_true, ite_false, Bool.false_eq_true, List.length_cons, List.length_nil, Bool.not_true, Bool.not_false]
    exact ⟨mulR (by decide) (by decide), by decide, by decide, hN _ _ ⟨⟨_, _, rfl⟩, rfl⟩⟩
  · obtain ⟨⟨m, y, rfl⟩, rfl⟩ := hI
    simp only [str_to, str_ot, mPar3, mLockV, mLockE, mItemsC, mKeysC, mDGet2, pIsN, isNonP, pRepLM, mTruD, dkOfP, pPopAt, pIndex, mLstRgM, mTruth, pReprA, pLenD, pLstD, mDNew, pRepL, mLenSetN, mDIn, mSortSet, mSortSetL, mRevT, mForC, mSeqC, mLcC, pAbs, pMax2, pMin2, pInt1, mDGet, mDPut, mBM, mBM0, pPop, pAppend, pExtend, pSetL, mSub, mDisp, mPs, mPs0, mRevL, mRevLM, pLstOfM, mTupRg, mRg1, mRg2, pPlusM, lstItems, dictOfP, keyP, keysP, val_left, val_mixed, val_draws, put_draws, mLc, mLcM, mLc2, mFor, mSeqI, mRng1, mRng2, mZip, mEnum, mSl, mNoPart, mPart, mSeq, mAsg, mAsg2, mCB, mCons, mNil, mVar, mC, mOp, mUn, pU, mTup, mLst, mRet, mRetN, mLstM, getl, setl, mName, mCall, mCallK, mIf, mIfS, mTest, mAnd, mOr, mNot, mYes, mAndV, mOrV, mNotV, mNext, mNever, mBreak, mCont, mDrop, mChain, mPar, mGTup, mGCons, mGNil, pGcd, pI, pI0, pIx, pTimes, pPlus, pEq, pNe, pLen, pSum, pMaxS, pAll, pAny, pTupOf, pLstOf, pIn, pIsB, pIsi, items_tup, items_lst, items_kl, items_mr, items_tab, items_lot, items_fr, decide_true, decide_false, eqP_int, eqP_bl, eqP_str, eqP_tup2, kit_tt, kit_ii, kit_ib, tyP, mEnd, wipeP, List.map_cons, List.map_nil, List.getElem?_cons_zero, List.getElem?_cons_succ, List.set_cons_zero, List.set_cons_succ, atI_zero, atI_one, if_true, if_false, ite_true, ite_false, Bool.false_eq_true, List.length_cons, List.length_nil, Bool.not_true, Bool.not_false, hc]
    refine ⟨by decide, fin_keep ?_⟩
    have h := hQ m (DS (ns.take 63).reverse m 0 []) ⟨_, _, by simp; omega, rfl⟩
    have e : DS (ns.take 63).reverse m 0 [] = [MO.lst ((ns.take 63).map PV.int).reverse] ++ [MO.dk (List.foldl (fun acc kv => putP acc kv.1 kv.2) [] [(.inr (Str.ofString "cells"), PV.mr 0), (.inr (Str.ofString "mixed"), PV.int m), (.inr (Str.ofString "draws"), PV.int 0)])] := by
      unfold DS
      rw [List.map_reverse]
      rfl
    rw [e] at h
    exact h
abbrev N__law_draw : List Str := ["_law_deck_here", "_law_many", "_law_number", "_law_cell"]
theorem sc__law_draw : FnScope N__law_draw ["_law_deck_here", "_law_many"] (defScope s__law_draw) := ⟨rfl, rfl, rfl, by decide +kernel, rfl, by decide +kernel, by decide +kernel⟩
theorem ok__law_draw (B : Blt mg) (h__law_draw : Own K mg "_law_draw" s__law_draw) : Ok P w K mg base 1 "_law_draw" s__law_draw ["_law_deck_here", "_law_many"] S__law_draw := by
  obtain ⟨f_s, fd_s, F_s, g_s⟩ := h__law_draw
  refine ⟨f_s, fd_s, F_s, g_s, F_s.binds (fun _ _ _ _ _ _ us hl => match us, hl with | [_, _], _ => rfl), FnG.of F_s sc__law_draw (fun xs μ Q h => by first | exact h.1 | (obtain ⟨⟩ := h)) fun cdv A outer s H hr hgd => ⟨_, _, (pss_cons (ps_dput (hu_of hr) (pv 0) pe_str (pe_op op_plus (pe_dget (hu_of hr) (pv 0) pe_str (fun _ _ => rfl)) pe_int) (by rfl))
 (pss_cons (ps_set (i := 2) sc__law_draw.nd rfl (Or.inl rfl) (pe_op op_plus (pe_dget (hu_of hr) (pv 0) pe_str (fun _ _ => rfl)) (pe_op op_times pe_int (pe_dget (hu_of hr) (pv 0) pe_str (fun _ _ => rfl)))))
 (pss_cons (ps_if (pt_cmpR (op_neX hr.units) (pe_dget (hu_of hr) (pv 0) pe_str (fun _ _ => rfl)) (pe_lst pa_nil) (nomark _))
 (pss_cons (ps_set (i := 3) sc__law_draw.nd rfl (Or.inl rfl) (pe_bm0 PySem.F.plainAttrs_list PySem.F.slot_list_pop PySem.F.type_list_pop mt_pop (pe_dget (hu_of hr) (pv 0) pe_str (fun _ _ => rfl))))
 (pss_cons (ps_if (pt_cmpR op_ge (pv 3) (pe_op op_pow pe_int pe_int) (nomark _))
 (pss_cons (ps_expr (pe_bm PySem.F.plainAttrs_list PySem.F.slot_list_append PySem.F.type_list_append mt_append (pe_dget (hu_of hr) (pv 0) pe_str (fun _ _ => rfl)) (pa_cons (pe_op op_divX (pv 3) (pe_callB (cb_max2 rfl) (by rfl) (B "max" (by decide)) (by decide +kernel) (pa_cons pe_int (pa_cons (pv 1) pa_nil)))) pa_nil)))
 (pss_one (ps_ret (pe_op op_modX (pe_callTy cb_int1 (by rfl) (B "int" (by decide)) (by decide +kernel) (pa_cons (pv 3) pa_nil)) (pv 1)))))
 pss_nil)
 (pss_one (ps_set (i := 2) sc__law_draw.nd rfl (Or.inl rfl) (pe_op op_plus (pv 2) (pe_op op_modX (pe_callTy cb_int1 (by rfl) (B "int" (by decide)) (by decide +kernel) (pa_cons (pv 3) pa_nil)) pe_int))))))
 pss_nil)
 (pss_cons (ps_set (i := 2) sc__law_draw.nd rfl (Or.inl rfl) (pe_op op_modX (pe_callTy cb_int1 (by rfl) (B "int" (by decide)) (by decide +kernel) (pa_cons (pe_op op_plus (pe_op op_times (pv 2) pe_int) pe_int) pa_nil)) pe_int))
 (pss_cons (ps_set (i := 2) sc__law_draw.nd rfl (Or.inl rfl) (pe_op op_modX (pe_callTy cb_int1 (by rfl) (B "int" (by decide)) (by decide +kernel) (pa_cons (pe_op op_plus (pe_op op_plus (pe_op op_times (pv 2) (pv 2)) (pe_op op_times pe_int (pe_dget (hu_of hr) (pv 0) pe_str (fun _ _ => rfl)))) pe_int) pa_nil)) pe_int))
 (pss_cons (ps_set (i := 2) sc__law_draw.nd rfl (Or.inl rfl) (pe_op op_modX (pe_callTy cb_int1 (by rfl) (B "int" (by decide)) (by decide +kernel) (pa_cons (pe_op op_times (pv 2) pe_int) pa_nil)) pe_int))
 (pss_one (ps_ret (pe_op op_modX (pe_callTy cb_int1 (by rfl) (B "int" (by decide)) (by decide +kernel) (pa_cons (pe_op op_divX (pv 2) pe_int) pa_nil)) (pv 1)))))))))), (by (try dsimp only [cxOf]); exact inferInstance), ?_⟩⟩
  intro xs μ Q hS
  obtain ⟨_, many, m, rest, rfl, ⟨L, k, hL, rfl⟩, hm, hm2, hQ⟩ := hS
  rw [show startP N__law_draw [.mr 1, .int many] = [some (.mr 1), some (.int many), none, none] from rfl]
  have fin : ∀ (x : Int) (L' : List Int) (k' : Int), L'.length ≤ 63 → ∃ y μ', Gc (DS L m k rest) (.int (x.fmod many)) (DS L' m k' rest) y μ' ∧ Q y μ' := fun x L' k' hl => fin_keep (hQ _ _ (fmod_b hm).1 (fmod_b hm).2 ⟨L', k', hl, rfl⟩)
  have m0 : many ≠ 0 := by omega
  have hq : ∀ (x : Int) {m : Int}, 0 < m → m ≤ 2147483647 → MulOk (x.fmod m) (x.fmod m) := fun x m hm0 hm1 => by
    have := fmod_b (x := x) (m := m) hm0
    exact mulR (by omega) (by omega)
  have d64 : ∀ x : Int, DivOk x 64 := fun x => .inl ⟨by decide, by decide⟩
  have DKl : ∀ a b c, (DK a b c).length ≤ lim := fun _ _ _ => by unfold lim DK; simp
  rcases List.eq_nil_or_concat L with rfl | ⟨I, c, rfl⟩
  · simp only [str_to, str_ot, mPar3, mLockV, mLockE, mItemsC, mKeysC, mDGet2, pIsN, isNonP, pRepLM, mTruD, dkOfP, pPopAt, pIndex, mLstRgM, mTruth, pReprA, pLenD, pLstD, mDNew, pRepL, mLenSetN, mDIn, mSortSet, mSortSetL, mRevT, mForC, mSeqC, mLcC, pAbs, pMax2, pMin2, pInt1, mDGet, mDPut, mBM, mBM0, pPop, pAppend, pExtend, pSetL, mSub, mDisp, mPs, mPs0, mRevL, mRevLM, pLstOfM, mTupRg, mRg1, mRg2, pPlusM, lstItems, dictOfP, keyP, keysP, val_left, val_mixed, val_draws, put_draws, mLc, mLcM, mLc2, mFor, mSeqI, mRng1, mRng2, mZip, mEnum, mSl, mNoPart, mPart, mSeq, mAsg, mAsg2, mCB, mCons, mNil, mVar, mC, mOp, mUn, pU, mTup, mLst, mRet, mRetN, mLstM, getl, setl, mName, mCall, mCallK, mIf, mIfS, mTest, mAnd, mOr, mNot, mYes, mAndV, mOrV, mNotV, mNext, mNever, mBreak, mCont, mDrop, mChain, mPar, mGTup, mGCons, mGNil, pGcd, pI, pI0, pIx, pTimes, pPlus, pEq, pNe, pLen, pSum, pMaxS, pAll, pAny, pTupOf, pLstOf, pIn, pIsB, pIsi, items_tup, items_lst, items_kl, items_mr, items_tab, items_lot, items_fr, decide_true, decide_false, eqP_int, eqP_bl, eqP_str, eqP_tup2, kit_tt, kit_ii, kit_ib, tyP, mEnd, wipeP, List.map_cons, List.map_nil, List.getElem?_cons_zero, List.getElem?_cons_succ, List.set_cons_zero, List.set_cons_succ, atI_zero, atI_one, if_true, if_false, ite_true, ite_false, Bool.false_eq_true, List.length_cons, List.length_nil, Bool.not_true, Bool.not_false, DS, List.map_nil, eqP_nn]
    exact ⟨DKl _ _ _, mulL (by decide) (by decide), by decide, mulR (by decide) (by decide), by decide, hq _ (by decide) (by decide), mulL (by decide) (by decide), by decide, mulR (by decide) (by decide), by decide, d64 _, m0, fin _ [] _ hL⟩
  · have lI : I.length ≤ 62 := by simp at hL; omega
    by_cases hc : decide ((10 : Int) ^ (18 : Int).toNat ≤ c) = true
    · simp only [str_to, str_ot, mPar3, mLockV, mLockE, mItemsC, mKeysC, mDGet2, pIsN, isNonP, pRepLM, mTruD, dkOfP, pPopAt, pIndex, mLstRgM, mTruth, pReprA, pLenD, pLstD, mDNew, pRepL, mLenSetN, mDIn, mSortSet, mSortSetL, mRevT, mForC, mSeqC, mLcC, pAbs, pMax2, pMin2, pInt1, mDGet, mDPut, mBM, mBM0, pPop, pAppend, pExtend, pSetL, mSub, mDisp, mPs, mPs0, mRevL, mRevLM, pLstOfM, mTupRg, mRg1, mRg2, pPlusM, lstItems, dictOfP, keyP, keysP, val_left, val_mixed, val_draws, put_draws, mLc, mLcM, mLc2, mFor, mSeqI, mRng1, mRng2, mZip, mEnum, mSl, mNoPart, mPart, mSeq, mAsg, mAsg2, mCB, mCons, mNil, mVar, mC, mOp, mUn, pU, mTup, mLst, mRet, mRetN, mLstM, getl, setl, mName, mCall, mCallK, mIf, mIfS, mTest, mAnd, mOr, mNot, mYes, mAndV, mOrV, mNotV, mNext, mNever, mBreak, mCont, mDrop, mChain, mPar, mGTup, mGCons, mGNil, pGcd, pI, pI0, pIx, pTimes, pPlus, pEq, pNe, pLen, pSum, pMaxS, pAll, pAny, pTupOf, pLstOf, pIn, pIsB, pIsi, items_tup, items_lst, items_kl, items_mr, items_tab, items_lot, items_fr, decide_true, decide_false, eqP_int, eqP_bl, eqP_str, eqP_tup2, kit_tt, kit_ii, kit_ib, tyP, mEnd, wipeP, List.map_cons, List.map_nil, List.getElem?_cons_zero, List.getElem?_cons_succ, List.set_cons_zero, List.set_cons_succ, atI_zero, atI_one, if_true, if_false, ite_true, ite_false, Bool.false_eq_true, List.length_cons, List.length_nil, Bool.not_true, Bool.not_false, DS, List.concat_eq_append, List.map_append, eqP_nc, last_c, List.dropLast_concat, hc]
      have h := fin c (I ++ [c.fdiv (if many > 2 then many else 2)]) (k + 1) (by simp; omega)
      simp only [DS, List.concat_eq_append, List.map_append, List.map_cons, List.map_nil] at h
      refine ⟨DKl _ _ _, mulL (by decide) (by decide), by decide, ⟨by decide, by decide, by decide⟩, .inl ⟨max2_pos many, ?_⟩, by rw [List.length_map]; unfold lim; omega, m0, h⟩
      have : (if many > 2 then many else 2).natAbs < 2 ^ 60 := by split <;> omega
      have := log_lt this
      omega
    · simp only [str_to, str_ot, mPar3, mLockV, mLockE, mItemsC, mKeysC, mDGet2, pIsN, isNonP, pRepLM, mTruD, dkOfP, pPopAt, pIndex, mLstRgM, mTruth, pReprA, pLenD, pLstD, mDNew, pRepL, mLenSetN, mDIn, mSortSet, mSortSetL, mRevT, mForC, mSeqC, mLcC, pAbs, pMax2, pMin2, pInt1, mDGet, mDPut, mBM, mBM0, pPop, pAppend, pExtend, pSetL, mSub, mDisp, mPs, mPs0, mRevL, mRevLM, pLstOfM, mTupRg, mRg1, mRg2, pPlusM, lstItems, dictOfP, keyP, keysP, val_left, val_mixed, val_draws, put_draws, mLc, mLcM, mLc2, mFor, mSeqI, mRng1, mRng2, mZip, mEnum, mSl, mNoPart, mPart, mSeq, mAsg, mAsg2, mCB, mCons, mNil, mVar, mC, mOp, mUn, pU, mTup, mLst, mRet, mRetN, mLstM, getl, setl, mName, mCall, mCallK, mIf, mIfS, mTest, mAnd, mOr, mNot, mYes, mAndV, mOrV, mNotV, mNext, mNever, mBreak, mCont, mDrop, mChain, mPar, mGTup, mGCons, mGNil, pGcd, pI, pI0, pIx, pTimes, pPlus, pEq, pNe, pLen, pSum, pMaxS, pAll, pAny, pTupOf, pLstOf, pIn, pIsB, pIsi, items_tup, items_lst, items_kl, items_mr, items_tab, items_lot, items_fr, decide_true, decide_false, eqP_int, eqP_bl, eqP_str, eqP_tup2, kit_tt, kit_ii, kit_ib, tyP, mEnd, wipeP, List.map_cons, List.map_nil, List.getElem?_cons_zero, List.getElem?_cons_succ, List.set_cons_zero, List.set_cons_succ, atI_zero, atI_one, if_true, if_false, ite_true, ite_false, Bool.false_eq_true, List.length_cons, List.length_nil, Bool.not_true, Bool.not_false, DS, List.concat_eq_append, List.map_append, eqP_nc, last_c, List.dropLast_concat, eq_false_of_ne_true hc]
      have h := fun x => fin x I (k + 1) (by omega)
      simp only [DS, List.concat_eq_append, List.map_append, List.map_cons, List.map_nil] at h
      exact ⟨DKl _ _ _, mulL (by decide) (by decide), by decide, ⟨by decide, by decide, by decide⟩, by decide, mulR (by decide) (by decide), by decide, hq _ (by decide) (by decide), mulL (by decide) (by decide), by decide, mulR (by decide) (by decide), by decide, d64 _, m0, h _⟩
abbrev N__law_common : List Str := ["_law_one", "_law_other"]
theorem sc__law_common : FnScope N__law_common ["_law_one", "_law_other"] (defScope s__law_common) := ⟨rfl, rfl, rfl, by decide +kernel, rfl, by decide +kernel, by decide +kernel⟩
theorem ok__law_common (B : Blt mg) (h__law_common : Own K mg "_law_common" s__law_common) : Ok P w K mg base 1 "_law_common" s__law_common ["_law_one", "_law_other"] S__law_common := by
  obtain ⟨f_s, fd_s, F_s, g_s⟩ := h__law_common
  refine ⟨f_s, fd_s, F_s, g_s, F_s.binds (fun _ _ _ _ _ _ us hl => match us, hl with | [_, _], _ => rfl), FnG.of F_s sc__law_common (fun xs μ Q h => by first | exact h.1 | (obtain ⟨⟩ := h)) fun cdv A outer s H hr hgd => ⟨_, _, (pss_cons (ps_par (i := 0) (j := 1) (by rfl) sc__law_common.nd rfl rfl (by decide) rfl rfl (pa_cons (pe_callB cb_abs (by rfl) (B "abs" (by decide)) (by decide +kernel) (pa_cons (pv 0) pa_nil)) (pa_cons (pe_callB cb_abs (by rfl) (B "abs" (by decide)) (by decide +kernel) (pa_cons (pv 1) pa_nil)) pa_nil)) (by rfl))
 (pss_cons (ps_while PassesOwn.never (pt_cmpR op_gt (pv 1) pe_int (nomark _))
 (pss_one (ps_par (i := 0) (j := 1) (by rfl) sc__law_common.nd rfl rfl (by decide) rfl rfl (pa_cons (pv 1) (pa_cons (pe_op op_modX (pe_callTy cb_int1 (by rfl) (B "int" (by decide)) (by decide +kernel) (pa_cons (pv 0) pa_nil)) (pv 1)) pa_nil)) (by rfl))))
 (pss_one (ps_ret (pv 0))))), (by (try dsimp only [cxOf]); exact inferInstance), ?_⟩⟩
  intro xs μ Q hS
  obtain ⟨_, a, b, rfl, hQ⟩ := hS
  rw [show startP N__law_common [.int a, .int b] = [some (.int a), some (.int b)] from rfl]
  have e1 : ∀ z : Int, (if z < 0 then -z else z) = ((z.natAbs : Nat) : Int) := fun z => by split <;> omega
  simp only [str_to, str_ot, mPar3, mLockV, mLockE, mItemsC, mKeysC, mDGet2, pIsN, isNonP, pRepLM, mTruD, dkOfP, pPopAt, pIndex, mLstRgM, mTruth, pReprA, pLenD, pLstD, mDNew, pRepL, mLenSetN, mDIn, mSortSet, mSortSetL, mRevT, mForC, mSeqC, mLcC, pAbs, pMax2, pMin2, pInt1, mDGet, mDPut, mBM, mBM0, pPop, pAppend, pExtend, pSetL, mSub, mDisp, mPs, mPs0, mRevL, mRevLM, pLstOfM, mTupRg, mRg1, mRg2, pPlusM, lstItems, dictOfP, keyP, keysP, val_left, val_mixed, val_draws, put_draws, mLc, mLcM, mLc2, mFor, mSeqI, mRng1, mRng2, mZip, mEnum, mSl, mNoPart, mPart, mSeq, mAsg, mAsg2, mCB, mCons, mNil, mVar, mC, mOp, mUn, pU, mTup, mLst, mRet, mRetN, mLstM, getl, setl, mName, mCall, mCallK, mIf, mIfS, mTest, mAnd, mOr, mNot, mYes, mAndV, mOrV, mNotV, mNext, mNever, mBreak, mCont, mDrop, mChain, mPar, mGTup, mGCons, mGNil, pGcd, pI, pI0, pIx, pTimes, pPlus, pEq, pNe, pLen, pSum, pMaxS, pAll, pAny, pTupOf, pLstOf, pIn, pIsB, pIsi, items_tup, items_lst, items_kl, items_mr, items_tab, items_lot, items_fr, decide_true, decide_false, eqP_int, eqP_bl, eqP_str, eqP_tup2, kit_tt, kit_ii, kit_ib, tyP, mEnd, wipeP, List.map_cons, List.map_nil, List.getElem?_cons_zero, List.getElem?_cons_succ, List.set_cons_zero, List.set_cons_succ, atI_zero, atI_one, if_true, if_false, ite_true, ite_false, Bool.false_eq_true, List.length_cons, List.length_nil, Bool.not_true, Bool.not_false]
  simp only [e1]
  refine while_inv (fun k ρ μ' => (∃ (x y : Nat), ρ = [some (.int (x : Nat)), some (.int (y : Nat))] ∧ Nat.gcd x y = Nat.gcd a.natAbs b.natAbs ∧ k = y) ∧ μ' = μ) (n := b.natAbs) ⟨⟨_, _, rfl, rfl, rfl⟩, rfl⟩ fun k ρ μ1 hI => ?_
  obtain ⟨⟨x, y, rfl, hg, rfl⟩, rfl⟩ := hI
  simp only [str_to, str_ot, mPar3, mLockV, mLockE, mItemsC, mKeysC, mDGet2, pIsN, isNonP, pRepLM, mTruD, dkOfP, pPopAt, pIndex, mLstRgM, mTruth, pReprA, pLenD, pLstD, mDNew, pRepL, mLenSetN, mDIn, mSortSet, mSortSetL, mRevT, mForC, mSeqC, mLcC, pAbs, pMax2, pMin2, pInt1, mDGet, mDPut, mBM, mBM0, pPop, pAppend, pExtend, pSetL, mSub, mDisp, mPs, mPs0, mRevL, mRevLM, pLstOfM, mTupRg, mRg1, mRg2, pPlusM, lstItems, dictOfP, keyP, keysP, val_left, val_mixed, val_draws, put_draws, mLc, mLcM, mLc2, mFor, mSeqI, mRng1, mRng2, mZip, mEnum, mSl, mNoPart, mPart, mSeq, mAsg, mAsg2, mCB, mCons, mNil, mVar, mC, mOp, mUn, pU, mTup, mLst, mRet, mRetN, mLstM, getl, setl, mName, mCall, mCallK, mIf, mIfS, mTest, mAnd, mOr, mNot, mYes, mAndV, mOrV, mNotV, mNext, mNever, mBreak, mCont, mDrop, mChain, mPar, mGTup, mGCons, mGNil, pGcd, pI, pI0, pIx, pTimes, pPlus, pEq, pNe, pLen, pSum, pMaxS, pAll, pAny, pTupOf, pLstOf, pIn, pIsB, pIsi, items_tup, items_lst, items_kl, items_mr, items_tab, items_lot, items_fr, decide_true, decide_false, eqP_int, eqP_bl, eqP_str, eqP_tup2, kit_tt, kit_ii, kit_ib, tyP, mEnd, wipeP, List.map_cons, List.map_nil, List.getElem?_cons_zero, List.getElem?_cons_succ, List.set_cons_zero, List.set_cons_succ, atI_zero, atI_one, if_true, if_false, ite_true, ite_false, Bool.false_eq_true, List.length_cons, List.length_nil, Bool.not_true, Bool.not_false, fmodN]
  by_cases h0 : 0 < k
  · rw [decide_eq_true (by omega), if_pos rfl]
    exact ⟨by omega, x % k, Nat.mod_lt _ h0, ⟨k, x % k, rfl, by rw [← hg, Nat.gcd_comm k, ← Nat.gcd_rec, Nat.gcd_comm], rfl⟩, trivial⟩
  · rw [decide_eq_false (by omega), if_neg (by decide)]
    have : k = 0 := by omega
    subst this
    rw [Nat.gcd_zero_right] at hg
    rw [hg]
    exact fin_keep hQ
abbrev N__law_chances : List Str := []
theorem sc__law_chances : FnScope N__law_chances [] (defScope s__law_chances) := ⟨rfl, rfl, rfl, by decide +kernel, rfl, by decide +kernel, by decide +kernel⟩
theorem ok__law_chances (B : Blt mg) (h__law_chances : Own K mg "_law_chances" s__law_chances) : Ok P w K mg base 1 "_law_chances" s__law_chances [] S__law_chances := by
  obtain ⟨f_s, fd_s, F_s, g_s⟩ := h__law_chances
  refine ⟨f_s, fd_s, F_s, g_s, F_s.binds (fun _ _ _ _ _ _ us hl => match us, hl with | [], _ => rfl), FnG.of F_s sc__law_chances (fun xs μ Q h => by first | exact h.1 | (obtain ⟨⟩ := h)) fun cdv A outer s H hr hgd => ⟨_, _, (pss_one (ps_ret (pe_lst (pa_cons pe_int (pa_cons pe_int (pa_cons pe_int (pa_cons pe_int (pa_cons pe_int (pa_cons pe_int (pa_cons pe_int (pa_cons pe_int (pa_cons pe_int (pa_cons pe_int (pa_cons pe_int (pa_cons pe_int pa_nil))))))))))))))), (by (try dsimp only [cxOf]); exact inferInstance), ?_⟩⟩
  intro xs μ Q hS
  obtain ⟨_, rfl, hQ⟩ := hS
  rw [show startP N__law_chances [] = [] from rfl]
  simp only [str_to, str_ot, mPar3, mLockV, mLockE, mItemsC, mKeysC, mDGet2, pIsN, isNonP, pRepLM, mTruD, dkOfP, pPopAt, pIndex, mLstRgM, mTruth, pReprA, pLenD, pLstD, mDNew, pRepL, mLenSetN, mDIn, mSortSet, mSortSetL, mRevT, mForC, mSeqC, mLcC, pAbs, pMax2, pMin2, pInt1, mDGet, mDPut, mBM, mBM0, pPop, pAppend, pExtend, pSetL, mSub, mDisp, mPs, mPs0, mRevL, mRevLM, pLstOfM, mTupRg, mRg1, mRg2, pPlusM, lstItems, dictOfP, keyP, keysP, val_left, val_mixed, val_draws, put_draws, mLc, mLcM, mLc2, mFor, mSeqI, mRng1, mRng2, mZip, mEnum, mSl, mNoPart, mPart, mSeq, mAsg, mAsg2, mCB, mCons, mNil, mVar, mC, mOp, mUn, pU, mTup, mLst, mRet, mRetN, mLstM, getl, setl, mName, mCall, mCallK, mIf, mIfS, mTest, mAnd, mOr, mNot, mYes, mAndV, mOrV, mNotV, mNext, mNever, mBreak, mCont, mDrop, mChain, mPar, mGTup, mGCons, mGNil, pGcd, pI, pI0, pIx, pTimes, pPlus, pEq, pNe, pLen, pSum, pMaxS, pAll, pAny, pTupOf, pLstOf, pIn, pIsB, pIsi, items_tup, items_lst, items_kl, items_mr, items_tab, items_lot, items_fr, decide_true, decide_false, eqP_int, eqP_bl, eqP_str, eqP_tup2, kit_tt, kit_ii, kit_ib, tyP, mEnd, wipeP, List.map_cons, List.map_nil, List.getElem?_cons_zero, List.getElem?_cons_succ, List.set_cons_zero, List.set_cons_succ, atI_zero, atI_one, if_true, if_false, ite_true, ite_false, Bool.false_eq_true, List.length_cons, List.length_nil, Bool.not_true, Bool.not_false]
  refine ⟨by decide, fin_keep (hQ [2, 3, 4, 5, 6, 7, 8, 10, 16, 60, 100, 97] (by simp) (by decide) (by decide))⟩
abbrev N_is_integer : List Str := ["thing"]
theorem sc_is_integer : FnScope N_is_integer ["thing"] (defScope s_is_integer) := ⟨rfl, rfl, rfl, by decide +kernel, rfl, by decide +kernel, by decide +kernel⟩
theorem ok_is_integer (B : Blt mg) (h_is_integer : Own K mg "is_integer" s_is_integer) : Ok P w K mg base 1 "is_integer" s_is_integer ["thing"] S_is_integer := by
  obtain ⟨f_s, fd_s, F_s, g_s⟩ := h_is_integer
  refine ⟨f_s, fd_s, F_s, g_s, F_s.binds (fun _ _ _ _ _ _ us hl => match us, hl with | [_], _ => rfl), FnG.of F_s sc_is_integer (fun xs μ Q h => by first | exact h.1 | (obtain ⟨⟩ := h)) fun cdv A outer s H hr hgd => ⟨_, _, (pss_one (ps_ret (pe_and (pe_callB call_isi (by rfl) (B "isinstance" (by decide)) (by decide +kernel) (pa_cons (pv 0) (pa_cons (pe_bltn (v := .ty "int") (u := .type "int") (by rfl) (B "int" (by decide)) (by decide +kernel) rfl) pa_nil))) (pe_one (pe_not (pe_callB call_isi (by rfl) (B "isinstance" (by decide)) (by decide +kernel) (pa_cons (pv 0) (pa_cons (pe_bltn (v := .ty "bool") (u := .type "bool") (by rfl) (B "bool" (by decide)) (by decide +kernel) rfl) pa_nil)))))))), (by (try dsimp only [cxOf]); exact inferInstance), ?_⟩⟩
  intro xs μ Q hS
  obtain ⟨_, i, rfl, hQ⟩ := hS
  rw [show startP N_is_integer [.int i] = [some (.int i)] from rfl]
  simp only [str_to, str_ot, mPar3, mLockV, mLockE, mItemsC, mKeysC, mDGet2, pIsN, isNonP, pRepLM, mTruD, dkOfP, pPopAt, pIndex, mLstRgM, mTruth, pReprA, pLenD, pLstD, mDNew, pRepL, mLenSetN, mDIn, mSortSet, mSortSetL, mRevT, mForC, mSeqC, mLcC, pAbs, pMax2, pMin2, pInt1, mDGet, mDPut, mBM, mBM0, pPop, pAppend, pExtend, pSetL, mSub, mDisp, mPs, mPs0, mRevL, mRevLM, pLstOfM, mTupRg, mRg1, mRg2, pPlusM, lstItems, dictOfP, keyP, keysP, val_left, val_mixed, val_draws, put_draws, mLc, mLcM, mLc2, mFor, mSeqI, mRng1, mRng2, mZip, mEnum, mSl, mNoPart, mPart, mSeq, mAsg, mAsg2, mCB, mCons, mNil, mVar, mC, mOp, mUn, pU, mTup, mLst, mRet, mRetN, mLstM, getl, setl, mName, mCall, mCallK, mIf, mIfS, mTest, mAnd, mOr, mNot, mYes, mAndV, mOrV, mNotV, mNext, mNever, mBreak, mCont, mDrop, mChain, mPar, mGTup, mGCons, mGNil, pGcd, pI, pI0, pIx, pTimes, pPlus, pEq, pNe, pLen, pSum, pMaxS, pAll, pAny, pTupOf, pLstOf, pIn, pIsB, pIsi, items_tup, items_lst, items_kl, items_mr, items_tab, items_lot, items_fr, decide_true, decide_false, eqP_int, eqP_bl, eqP_str, eqP_tup2, kit_tt, kit_ii, kit_ib, tyP, mEnd, wipeP, List.map_cons, List.map_nil, List.getElem?_cons_zero, List.getElem?_cons_succ, List.set_cons_zero, List.set_cons_succ, atI_zero, atI_one, if_true, if_false, ite_true, ite_false, Bool.false_eq_true, List.length_cons, List.length_nil, Bool.not_true, Bool.not_false]
  exact fin_keep hQ
abbrev N_lowest : List Str := ["top", "bottom", "shared"]
theorem sc_lowest : FnScope N_lowest ["top", "bottom"] (defScope s_lowest) := ⟨rfl, rfl, rfl, by decide +kernel, rfl, by decide +kernel, by decide +kernel⟩
theorem ok_lowest (B : Blt mg) (h_lowest : Own K mg "lowest" s_lowest) (i_gcd : mg "gcd" = some (.builtin "math.gcd")) : Ok P w K mg base 1 "lowest" s_lowest ["top", "bottom"] S_lowest := by
  obtain ⟨f_s, fd_s, F_s, g_s⟩ := h_lowest
  refine ⟨f_s, fd_s, F_s, g_s, F_s.binds (fun _ _ _ _ _ _ us hl => match us, hl with | [_, _], _ => rfl), FnG.of F_s sc_lowest (fun xs μ Q h => by first | exact h.1 | (obtain ⟨⟩ := h)) fun cdv A outer s H hr hgd => ⟨_, _, (pss_cons (ps_set (i := 2) sc_lowest.nd rfl (Or.inl rfl) (pe_callBfun cr_gcd (by rfl) i_gcd (pa_cons (pv 0) (pa_cons (pv 1) pa_nil))))
 (pss_one (ps_ret (pe_tup (pa_cons (pe_op op_divX (pv 0) (pv 2)) (pa_cons (pe_op op_divX (pv 1) (pv 2)) pa_nil)))))), (by (try dsimp only [cxOf]); exact inferInstance), ?_⟩⟩
  intro xs μ Q hS
  obtain ⟨_, a, b, rfl, hb, hz, hQ⟩ := hS
  rw [show startP N_lowest [.int a, .int b] = [some (.int a), some (.int b), none] from rfl]
  simp only [str_to, str_ot, mPar3, mLockV, mLockE, mItemsC, mKeysC, mDGet2, pIsN, isNonP, pRepLM, mTruD, dkOfP, pPopAt, pIndex, mLstRgM, mTruth, pReprA, pLenD, pLstD, mDNew, pRepL, mLenSetN, mDIn, mSortSet, mSortSetL, mRevT, mForC, mSeqC, mLcC, pAbs, pMax2, pMin2, pInt1, mDGet, mDPut, mBM, mBM0, pPop, pAppend, pExtend, pSetL, mSub, mDisp, mPs, mPs0, mRevL, mRevLM, pLstOfM, mTupRg, mRg1, mRg2, pPlusM, lstItems, dictOfP, keyP, keysP, val_left, val_mixed, val_draws, put_draws, mLc, mLcM, mLc2, mFor, mSeqI, mRng1, mRng2, mZip, mEnum, mSl, mNoPart, mPart, mSeq, mAsg, mAsg2, mCB, mCons, mNil, mVar, mC, mOp, mUn, pU, mTup, mLst, mRet, mRetN, mLstM, getl, setl, mName, mCall, mCallK, mIf, mIfS, mTest, mAnd, mOr, mNot, mYes, mAndV, mOrV, mNotV, mNext, mNever, mBreak, mCont, mDrop, mChain, mPar, mGTup, mGCons, mGNil, pGcd, pI, pI0, pIx, pTimes, pPlus, pEq, pNe, pLen, pSum, pMaxS, pAll, pAny, pTupOf, pLstOf, pIn, pIsB, pIsi, items_tup, items_lst, items_kl, items_mr, items_tab, items_lot, items_fr, decide_true, decide_false, eqP_int, eqP_bl, eqP_str, eqP_tup2, kit_tt, kit_ii, kit_ib, tyP, mEnd, wipeP, List.map_cons, List.map_nil, List.getElem?_cons_zero, List.getElem?_cons_succ, List.set_cons_zero, List.set_cons_succ, atI_zero, atI_one, if_true, if_false, ite_true, ite_false, Bool.false_eq_true, List.length_cons, List.length_nil, Bool.not_true, Bool.not_false]
  have hd : DivOk a ((Nat.gcd a.natAbs b.natAbs : Nat) : Int) := gcd_div hb hz
  have hd2 : DivOk b ((Nat.gcd a.natAbs b.natAbs : Nat) : Int) := hd
  obtain ⟨e1, e2⟩ := lowest_eq a b hb
  refine ⟨hd, hd2, by decide, ?_⟩
  rw [e1, e2]
  exact fin_keep hQ
abbrev N__law_is_integer : List Str := ["_law_thing"]
theorem sc__law_is_integer : FnScope N__law_is_integer ["_law_thing"] (defScope s__law_is_integer) := ⟨rfl, rfl, rfl, by decide +kernel, rfl, by decide +kernel, by decide +kernel⟩
theorem ok__law_is_integer (B : Blt mg) (h__law_is_integer : Own K mg "_law_is_integer" s__law_is_integer) : Ok P w K mg base 1 "_law_is_integer" s__law_is_integer ["_law_thing"] S__law_is_integer := by
  obtain ⟨f_s, fd_s, F_s, g_s⟩ := h__law_is_integer
  refine ⟨f_s, fd_s, F_s, g_s, F_s.binds (fun _ _ _ _ _ _ us hl => match us, hl with | [_], _ => rfl), FnG.of F_s sc__law_is_integer (fun xs μ Q h => by first | exact h.1 | (obtain ⟨⟩ := h)) fun cdv A outer s H hr hgd => ⟨_, _, (pss_one (ps_ret (pe_and (pe_callB call_isi (by rfl) (B "isinstance" (by decide)) (by decide +kernel) (pa_cons (pv 0) (pa_cons (pe_bltn (v := .ty "int") (u := .type "int") (by rfl) (B "int" (by decide)) (by decide +kernel) rfl) pa_nil))) (pe_one (pe_not (pe_callB call_isi (by rfl) (B "isinstance" (by decide)) (by decide +kernel) (pa_cons (pv 0) (pa_cons (pe_bltn (v := .ty "bool") (u := .type "bool") (by rfl) (B "bool" (by decide)) (by decide +kernel) rfl) pa_nil)))))))), (by (try dsimp only [cxOf]); exact inferInstance), ?_⟩⟩
  intro xs μ Q hS
  obtain ⟨_, i, rfl, hQ⟩ := hS
  rw [show startP N__law_is_integer [.int i] = [some (.int i)] from rfl]
  simp only [str_to, str_ot, mPar3, mLockV, mLockE, mItemsC, mKeysC, mDGet2, pIsN, isNonP, pRepLM, mTruD, dkOfP, pPopAt, pIndex, mLstRgM, mTruth, pReprA, pLenD, pLstD, mDNew, pRepL, mLenSetN, mDIn, mSortSet, mSortSetL, mRevT, mForC, mSeqC, mLcC, pAbs, pMax2, pMin2, pInt1, mDGet, mDPut, mBM, mBM0, pPop, pAppend, pExtend, pSetL, mSub, mDisp, mPs, mPs0, mRevL, mRevLM, pLstOfM, mTupRg, mRg1, mRg2, pPlusM, lstItems, dictOfP, keyP, keysP, val_left, val_mixed, val_draws, put_draws, mLc, mLcM, mLc2, mFor, mSeqI, mRng1, mRng2, mZip, mEnum, mSl, mNoPart, mPart, mSeq, mAsg, mAsg2, mCB, mCons, mNil, mVar, mC, mOp, mUn, pU, mTup, mLst, mRet, mRetN, mLstM, getl, setl, mName, mCall, mCallK, mIf, mIfS, mTest, mAnd, mOr, mNot, mYes, mAndV, mOrV, mNotV, mNext, mNever, mBreak, mCont, mDrop, mChain, mPar, mGTup, mGCons, mGNil, pGcd, pI, pI0, pIx, pTimes, pPlus, pEq, pNe, pLen, pSum, pMaxS, pAll, pAny, pTupOf, pLstOf, pIn, pIsB, pIsi, items_tup, items_lst, items_kl, items_mr, items_tab, items_lot, items_fr, decide_true, decide_false, eqP_int, eqP_bl, eqP_str, eqP_tup2, kit_tt, kit_ii, kit_ib, tyP, mEnd, wipeP, List.map_cons, List.map_nil, List.getElem?_cons_zero, List.getElem?_cons_succ, List.set_cons_zero, List.set_cons_succ, atI_zero, atI_one, if_true, if_false, ite_true, ite_false, Bool.false_eq_true, List.length_cons, List.length_nil, Bool.not_true, Bool.not_false]
  exact fin_keep hQ
abbrev N__law_is_less : List Str := ["_law_one", "_law_other"]
theorem sc__law_is_less : FnScope N__law_is_less ["_law_one", "_law_other"] (defScope s__law_is_less) := ⟨rfl, rfl, rfl, by decide +kernel, rfl, by decide +kernel, by decide +kernel⟩
theorem ok__law_is_less (B : Blt mg) (h__law_is_less : Own K mg "_law_is_less" s__law_is_less) : Ok P w K mg base 1 "_law_is_less" s__law_is_less ["_law_one", "_law_other"] S__law_is_less := by
  obtain ⟨f_s, fd_s, F_s, g_s⟩ := h__law_is_less
  refine ⟨f_s, fd_s, F_s, g_s, F_s.binds (fun _ _ _ _ _ _ us hl => match us, hl with | [_, _], _ => rfl), FnG.of F_s sc__law_is_less (fun xs μ Q h => by first | exact h.1 | (obtain ⟨⟩ := h)) fun cdv A outer s H hr hgd => ⟨_, _, (pss_one (ps_ret (pe_cmpR op_lt (pe_op op_times (pe_ix ix_seq (pv 0) pe_int (fun _ _ => rfl)) (pe_ix ix_seq (pv 1) pe_int (fun _ _ => rfl))) (pe_op op_times (pe_ix ix_seq (pv 1) pe_int (fun _ _ => rfl)) (pe_ix ix_seq (pv 0) pe_int (fun _ _ => rfl))) (nomark _)))), (by (try dsimp only [cxOf]); exact inferInstance), ?_⟩⟩
  intro xs μ Q hS
  obtain ⟨_, p, q, rfl, hp, hq, hQ⟩ := hS
  rw [show startP N__law_is_less [frP p, frP q] = [some (frP p), some (frP q)] from rfl]
  obtain ⟨m1, m2, m3, m4⟩ := fr_mul hp hq
  obtain ⟨n1, n2, n3, n4⟩ := fr_mul hq hp
  simp only [str_to, str_ot, mPar3, mLockV, mLockE, mItemsC, mKeysC, mDGet2, pIsN, isNonP, pRepLM, mTruD, dkOfP, pPopAt, pIndex, mLstRgM, mTruth, pReprA, pLenD, pLstD, mDNew, pRepL, mLenSetN, mDIn, mSortSet, mSortSetL, mRevT, mForC, mSeqC, mLcC, pAbs, pMax2, pMin2, pInt1, mDGet, mDPut, mBM, mBM0, pPop, pAppend, pExtend, pSetL, mSub, mDisp, mPs, mPs0, mRevL, mRevLM, pLstOfM, mTupRg, mRg1, mRg2, pPlusM, lstItems, dictOfP, keyP, keysP, val_left, val_mixed, val_draws, put_draws, mLc, mLcM, mLc2, mFor, mSeqI, mRng1, mRng2, mZip, mEnum, mSl, mNoPart, mPart, mSeq, mAsg, mAsg2, mCB, mCons, mNil, mVar, mC, mOp, mUn, pU, mTup, mLst, mRet, mRetN, mLstM, getl, setl, mName, mCall, mCallK, mIf, mIfS, mTest, mAnd, mOr, mNot, mYes, mAndV, mOrV, mNotV, mNext, mNever, mBreak, mCont, mDrop, mChain, mPar, mGTup, mGCons, mGNil, pGcd, pI, pI0, pIx, pTimes, pPlus, pEq, pNe, pLen, pSum, pMaxS, pAll, pAny, pTupOf, pLstOf, pIn, pIsB, pIsi, items_tup, items_lst, items_kl, items_mr, items_tab, items_lot, items_fr, decide_true, decide_false, eqP_int, eqP_bl, eqP_str, eqP_tup2, kit_tt, kit_ii, kit_ib, tyP, mEnd, wipeP, List.map_cons, List.map_nil, List.getElem?_cons_zero, List.getElem?_cons_succ, List.set_cons_zero, List.set_cons_succ, atI_zero, atI_one, if_true, if_false, ite_true, ite_false, Bool.false_eq_true, List.length_cons, List.length_nil, Bool.not_true, Bool.not_false, frP]
  refine ⟨m2, n2, ?_⟩
  rw [decide_eq_decide.mpr (Rat.lt_iff p q).symm]
  exact fin_keep hQ
abbrev N__law_are_few : List Str := ["_law_model_here", "_law_many", "_law_total_here", "_law_turn"]
theorem sc__law_are_few : FnScope N__law_are_few ["_law_model_here", "_law_many"] (defScope s__law_are_few) := ⟨rfl, rfl, rfl, by decide +kernel, rfl, by decide +kernel, by decide +kernel⟩
theorem ok__law_are_few (B : Blt mg) (h__law_are_few : Own K mg "_law_are_few" s__law_are_few) : Ok P w K mg base 1 "_law_are_few" s__law_are_few ["_law_model_here", "_law_many"] S__law_are_few := by
  obtain ⟨f_s, fd_s, F_s, g_s⟩ := h__law_are_few
  refine ⟨f_s, fd_s, F_s, g_s, F_s.binds (fun _ _ _ _ _ _ us hl => match us, hl with | [_, _], _ => rfl), FnG.of F_s sc__law_are_few (fun xs μ Q h => by first | exact h.1 | (obtain ⟨⟩ := h)) fun cdv A outer s H hr hgd => ⟨_, _, (pss_cons (ps_set (i := 2) sc__law_are_few.nd rfl (Or.inl rfl) pe_int)
 (pss_cons (ps_for PassesOwn.never rfl (pi_range1 (by rfl) (B "range" (by decide)) (pa_cons (pv 1) pa_nil)) (pg_name (i := 3) sc__law_are_few.nd rfl (Or.inl rfl))
 (pss_one (ps_set (i := 2) sc__law_are_few.nd rfl (Or.inl rfl) (pe_op op_times (pv 2) (pe_callB cb_len (by rfl) (B "len" (by decide)) (by decide +kernel) (pa_cons (pe_ix ix_seq (pe_ix ix_seq (pv 0) pe_int (fun _ _ => rfl)) pe_int (fun _ _ => rfl)) pa_nil))))))
 (pss_one (ps_ret (pe_cmpR op_le (pv 2) pe_int (nomark _)))))), (by (try dsimp only [cxOf]); exact inferInstance), ?_⟩⟩
  intro xs μ Q hS
  obtain ⟨_, n, M, k, rfl, hM, hk, hQ⟩ := hS
  rw [show startP N__law_are_few [mdlP M, .int k] = [some (mdlP M), some (.int k), none, none] from rfl]
  have h0 := List.length_pos_iff.mpr hM.ne
  refine stm_of fun R hR => ?_
  simp only [str_to, str_ot, mPar3, mLockV, mLockE, mItemsC, mKeysC, mDGet2, pIsN, isNonP, pRepLM, mTruD, dkOfP, pPopAt, pIndex, mLstRgM, mTruth, pReprA, pLenD, pLstD, mDNew, pRepL, mLenSetN, mDIn, mSortSet, mSortSetL, mRevT, mForC, mSeqC, mLcC, pAbs, pMax2, pMin2, pInt1, mDGet, mDPut, mBM, mBM0, pPop, pAppend, pExtend, pSetL, mSub, mDisp, mPs, mPs0, mRevL, mRevLM, pLstOfM, mTupRg, mRg1, mRg2, pPlusM, lstItems, dictOfP, keyP, keysP, val_left, val_mixed, val_draws, put_draws, mLc, mLcM, mLc2, mFor, mSeqI, mRng1, mRng2, mZip, mEnum, mSl, mNoPart, mPart, mSeq, mAsg, mAsg2, mCB, mCons, mNil, mVar, mC, mOp, mUn, pU, mTup, mLst, mRet, mRetN, mLstM, getl, setl, mName, mCall, mCallK, mIf, mIfS, mTest, mAnd, mOr, mNot, mYes, mAndV, mOrV, mNotV, mNext, mNever, mBreak, mCont, mDrop, mChain, mPar, mGTup, mGCons, mGNil, pGcd, pI, pI0, pIx, pTimes, pPlus, pEq, pNe, pLen, pSum, pMaxS, pAll, pAny, pTupOf, pLstOf, pIn, pIsB, pIsi, items_tup, items_lst, items_kl, items_mr, items_tab, items_lot, items_fr, decide_true, decide_false, eqP_int, eqP_bl, eqP_str, eqP_tup2, kit_tt, kit_ii, kit_ib, tyP, mEnd, wipeP, List.map_cons, List.map_nil, List.getElem?_cons_zero, List.getElem?_cons_succ, List.set_cons_zero, List.set_cons_succ, atI_zero, atI_one, if_true, if_false, ite_true, ite_false, Bool.false_eq_true, List.length_cons, List.length_nil, Bool.not_true, Bool.not_false]
  subst hR
  refine stm_of fun R1 hR1 => ?_
  simp only [str_to, str_ot, mPar3, mLockV, mLockE, mItemsC, mKeysC, mDGet2, pIsN, isNonP, pRepLM, mTruD, dkOfP, pPopAt, pIndex, mLstRgM, mTruth, pReprA, pLenD, pLstD, mDNew, pRepL, mLenSetN, mDIn, mSortSet, mSortSetL, mRevT, mForC, mSeqC, mLcC, pAbs, pMax2, pMin2, pInt1, mDGet, mDPut, mBM, mBM0, pPop, pAppend, pExtend, pSetL, mSub, mDisp, mPs, mPs0, mRevL, mRevLM, pLstOfM, mTupRg, mRg1, mRg2, pPlusM, lstItems, dictOfP, keyP, keysP, val_left, val_mixed, val_draws, put_draws, mLc, mLcM, mLc2, mFor, mSeqI, mRng1, mRng2, mZip, mEnum, mSl, mNoPart, mPart, mSeq, mAsg, mAsg2, mCB, mCons, mNil, mVar, mC, mOp, mUn, pU, mTup, mLst, mRet, mRetN, mLstM, getl, setl, mName, mCall, mCallK, mIf, mIfS, mTest, mAnd, mOr, mNot, mYes, mAndV, mOrV, mNotV, mNext, mNever, mBreak, mCont, mDrop, mChain, mPar, mGTup, mGCons, mGNil, pGcd, pI, pI0, pIx, pTimes, pPlus, pEq, pNe, pLen, pSum, pMaxS, pAll, pAny, pTupOf, pLstOf, pIn, pIsB, pIsi, items_tup, items_lst, items_kl, items_mr, items_tab, items_lot, items_fr, decide_true, decide_false, eqP_int, eqP_bl, eqP_str, eqP_tup2, kit_tt, kit_ii, kit_ib, tyP, mEnd, wipeP, List.map_cons, List.map_nil, List.getElem?_cons_zero, List.getElem?_cons_succ, List.set_cons_zero, List.set_cons_succ, atI_zero, atI_one, if_true, if_false, ite_true, ite_false, Bool.false_eq_true, List.length_cons, List.length_nil, Bool.not_true, Bool.not_false]
  rw [Int.toNat_natCast, rangeP_eq]
  have n8 := hM.n8
  have hp : ∀ j : Nat, j ≤ 8 → n ^ j ≤ 8 ^ 8 := fun j hj => Nat.le_trans (Nat.pow_le_pow_left n8 j) (Nat.pow_le_pow_right (by decide) hj)
  refine ⟨by omega, for_inv (enc := fun (i : Nat) => PV.int i) (fun pre ρ μ' => (∃ (y : Option PV), ρ = [some (mdlP M), some (.int (k : Nat)), some (.int (n ^ pre.length : Nat)), y]) ∧ μ' = μ) (done := []) ⟨⟨_, rfl⟩, rfl⟩ (fun pre i post ρ μ1 e hI N hN => ?_) fun ρ μ1 hI => ?_⟩
  · obtain ⟨⟨y, rfl⟩, rfl⟩ := hI
    simp only [str_to, str_ot, mPar3, mLockV, mLockE, mItemsC, mKeysC, mDGet2, pIsN, isNonP, pRepLM, mTruD, dkOfP, pPopAt, pIndex, mLstRgM, mTruth, pReprA, pLenD, pLstD, mDNew, pRepL, mLenSetN, mDIn, mSortSet, mSortSetL, mRevT, mForC, mSeqC, mLcC, pAbs, pMax2, pMin2, pInt1, mDGet, mDPut, mBM, mBM0, pPop, pAppend, pExtend, pSetL, mSub, mDisp, mPs, mPs0, mRevL, mRevLM, pLstOfM, mTupRg, mRg1, mRg2, pPlusM, lstItems, dictOfP, keyP, keysP, val_left, val_mixed, val_draws, put_draws, mLc, mLcM, mLc2, mFor, mSeqI, mRng1, mRng2, mZip, mEnum, mSl, mNoPart, mPart, mSeq, mAsg, mAsg2, mCB, mCons, mNil, mVar, mC, mOp, mUn, pU, mTup, mLst, mRet, mRetN, mLstM, getl, setl, mName, mCall, mCallK, mIf, mIfS, mTest, mAnd, mOr, mNot, mYes, mAndV, mOrV, mNotV, mNext, mNever, mBreak, mCont, mDrop, mChain, mPar, mGTup, mGCons, mGNil, pGcd, pI, pI0, pIx, pTimes, pPlus, pEq, pNe, pLen, pSum, pMaxS, pAll, pAny, pTupOf, pLstOf, pIn, pIsB, pIsi, items_tup, items_lst, items_kl, items_mr, items_tab, items_lot, items_fr, decide_true, decide_false, eqP_int, eqP_bl, eqP_str, eqP_tup2, kit_tt, kit_ii, kit_ib, tyP, mEnd, wipeP, List.map_cons, List.map_nil, List.getElem?_cons_zero, List.getElem?_cons_succ, List.set_cons_zero, List.set_cons_succ, atI_zero, atI_one, if_true, if_false, ite_true, ite_false, Bool.false_eq_true, List.length_cons, List.length_nil, Bool.not_true, Bool.not_false, items_mdl, atM0 h0, tabP, List.length_map]
    rw [hM.tl h0]
    refine ⟨mulR (by omega) (by omega), hN _ _ ⟨⟨some (.int (i : Nat)), ?_⟩, rfl⟩⟩
    rw [List.length_append, List.length_singleton, Nat.pow_succ, Int.natCast_mul]
  · obtain ⟨⟨y, rfl⟩, rfl⟩ := hI
    rw [List.nil_append, List.length_range]
    show R1 _ _
    subst hR1
    simp only [str_to, str_ot, mPar3, mLockV, mLockE, mItemsC, mKeysC, mDGet2, pIsN, isNonP, pRepLM, mTruD, dkOfP, pPopAt, pIndex, mLstRgM, mTruth, pReprA, pLenD, pLstD, mDNew, pRepL, mLenSetN, mDIn, mSortSet, mSortSetL, mRevT, mForC, mSeqC, mLcC, pAbs, pMax2, pMin2, pInt1, mDGet, mDPut, mBM, mBM0, pPop, pAppend, pExtend, pSetL, mSub, mDisp, mPs, mPs0, mRevL, mRevLM, pLstOfM, mTupRg, mRg1, mRg2, pPlusM, lstItems, dictOfP, keyP, keysP, val_left, val_mixed, val_draws, put_draws, mLc, mLcM, mLc2, mFor, mSeqI, mRng1, mRng2, mZip, mEnum, mSl, mNoPart, mPart, mSeq, mAsg, mAsg2, mCB, mCons, mNil, mVar, mC, mOp, mUn, pU, mTup, mLst, mRet, mRetN, mLstM, getl, setl, mName, mCall, mCallK, mIf, mIfS, mTest, mAnd, mOr, mNot, mYes, mAndV, mOrV, mNotV, mNext, mNever, mBreak, mCont, mDrop, mChain, mPar, mGTup, mGCons, mGNil, pGcd, pI, pI0, pIx, pTimes, pPlus, pEq, pNe, pLen, pSum, pMaxS, pAll, pAny, pTupOf, pLstOf, pIn, pIsB, pIsi, items_tup, items_lst, items_kl, items_mr, items_tab, items_lot, items_fr, decide_true, decide_false, eqP_int, eqP_bl, eqP_str, eqP_tup2, kit_tt, kit_ii, kit_ib, tyP, mEnd, wipeP, List.map_cons, List.map_nil, List.getElem?_cons_zero, List.getElem?_cons_succ, List.set_cons_zero, List.set_cons_succ, atI_zero, atI_one, if_true, if_false, ite_true, ite_false, Bool.false_eq_true, List.length_cons, List.length_nil, Bool.not_true, Bool.not_false]
    have e : decide (((n ^ k : Nat) : Int) ≤ 60) = decide (n ^ k ≤ 60) := decide_eq_decide.mpr ⟨fun h => by omega, fun h => by omega⟩
    rw [e]
    exact fin_keep hQ
abbrev N_in_base_two : List Str := ["numbers", "found", "number"]
theorem sc_in_base_two : FnScope N_in_base_two ["numbers"] (defScope s_in_base_two) := ⟨rfl, rfl, rfl, by decide +kernel, rfl, by decide +kernel, by decide +kernel⟩
theorem ok_in_base_two (B : Blt mg) (h_in_base_two : Own K mg "in_base_two" s_in_base_two) : Ok P w K mg base 1 "in_base_two" s_in_base_two ["numbers"] S_in_base_two := by
  obtain ⟨f_s, fd_s, F_s, g_s⟩ := h_in_base_two
  refine ⟨f_s, fd_s, F_s, g_s, F_s.binds (fun _ _ _ _ _ _ us hl => match us, hl with | [_], _ => rfl), FnG.of F_s sc_in_base_two (fun xs μ Q h => by first | exact h.1 | (obtain ⟨⟩ := h)) fun cdv A outer s H hr hgd => ⟨_, _, (pss_cons (ps_set (i := 1) sc_in_base_two.nd rfl (Or.inl rfl) pe_int)
 (pss_cons (ps_for PassesOwn.never rfl (pi_seq (pv 0)) (pg_name (i := 2) sc_in_base_two.nd rfl (Or.inl rfl))
 (pss_one (ps_set (i := 1) sc_in_base_two.nd rfl (Or.inl rfl) (pe_op op_plus (pe_op op_times pe_int (pv 1)) (pv 2)))))
 (pss_one (ps_ret (pv 1))))), (by (try dsimp only [cxOf]); exact inferInstance), ?_⟩⟩
  intro xs μ Q hS
  obtain ⟨_, x, ns, rfl, hx, hl, hn, hQ⟩ := hS
  rw [show startP N_in_base_two [x] = [some x, none, none] from rfl]
  have key : mForL (mName 2) (mAsg (mOp pPlus (mOp pTimes (mC (PV.int 2)) (mVar 1)) (mVar 2)) (mName 1)) { nx := mRet (mVar 1) (mEnd μ Q), rt := fun x μ_1 => ∃ y μ', Gc μ x μ_1 y μ' ∧ Q y μ' } (ns.map fun (n : Nat) => PV.int n) [some x, some (PV.int 0), none] μ := by
    refine for_inv (enc := fun (n : Nat) => PV.int n) (fun pre ρ μ' => (∃ y, ρ = [some x, some (.int (val2 pre : Nat)), y]) ∧ μ' = μ) (done := []) ⟨⟨_, rfl⟩, rfl⟩ (fun pre a post ρ μ' e hI N hN => ?_) fun ρ μ' hI => ?_
    · obtain ⟨⟨y, rfl⟩, rfl⟩ := hI
      simp only [str_to, str_ot, mPar3, mLockV, mLockE, mItemsC, mKeysC, mDGet2, pIsN, isNonP, pRepLM, mTruD, dkOfP, pPopAt, pIndex, mLstRgM, mTruth, pReprA, pLenD, pLstD, mDNew, pRepL, mLenSetN, mDIn, mSortSet, mSortSetL, mRevT, mForC, mSeqC, mLcC, pAbs, pMax2, pMin2, pInt1, mDGet, mDPut, mBM, mBM0, pPop, pAppend, pExtend, pSetL, mSub, mDisp, mPs, mPs0, mRevL, mRevLM, pLstOfM, mTupRg, mRg1, mRg2, pPlusM, lstItems, dictOfP, keyP, keysP, val_left, val_mixed, val_draws, put_draws, mLc, mLcM, mLc2, mFor, mSeqI, mRng1, mRng2, mZip, mEnum, mSl, mNoPart, mPart, mSeq, mAsg, mAsg2, mCB, mCons, mNil, mVar, mC, mOp, mUn, pU, mTup, mLst, mRet, mRetN, mLstM, getl, setl, mName, mCall, mCallK, mIf, mIfS, mTest, mAnd, mOr, mNot, mYes, mAndV, mOrV, mNotV, mNext, mNever, mBreak, mCont, mDrop, mChain, mPar, mGTup, mGCons, mGNil, pGcd, pI, pI0, pIx, pTimes, pPlus, pEq, pNe, pLen, pSum, pMaxS, pAll, pAny, pTupOf, pLstOf, pIn, pIsB, pIsi, items_tup, items_lst, items_kl, items_mr, items_tab, items_lot, items_fr, decide_true, decide_false, eqP_int, eqP_bl, eqP_str, eqP_tup2, kit_tt, kit_ii, kit_ib, tyP, mEnd, wipeP, List.map_cons, List.map_nil, List.getElem?_cons_zero, List.getElem?_cons_succ, List.set_cons_zero, List.set_cons_succ, atI_zero, atI_one, if_true, if_false, ite_true, ite_false, Bool.false_eq_true, List.length_cons, List.length_nil, Bool.not_true, Bool.not_false]
      refine ⟨mulL (by decide) (by decide), hN _ _ ⟨⟨some (.int (a : Nat)), ?_⟩, rfl⟩⟩
      rw [val2_append, val2_one, List.length_singleton, Nat.pow_one, Nat.mul_comm, Int.natCast_add, Int.natCast_mul]
      rfl
    · obtain ⟨⟨y, rfl⟩, rfl⟩ := hI
      simp only [str_to, str_ot, mPar3, mLockV, mLockE, mItemsC, mKeysC, mDGet2, pIsN, isNonP, pRepLM, mTruD, dkOfP, pPopAt, pIndex, mLstRgM, mTruth, pReprA, pLenD, pLstD, mDNew, pRepL, mLenSetN, mDIn, mSortSet, mSortSetL, mRevT, mForC, mSeqC, mLcC, pAbs, pMax2, pMin2, pInt1, mDGet, mDPut, mBM, mBM0, pPop, pAppend, pExtend, pSetL, mSub, mDisp, mPs, mPs0, mRevL, mRevLM, pLstOfM, mTupRg, mRg1, mRg2, pPlusM, lstItems, dictOfP, keyP, keysP, val_left, val_mixed, val_draws, put_draws, mLc, mLcM, mLc2, mFor, mSeqI, mRng1, mRng2, mZip, mEnum, mSl, mNoPart, mPart, mSeq, mAsg, mAsg2, mCB, mCons, mNil, mVar, mC, mOp, mUn, pU, mTup, mLst, mRet, mRetN, mLstM, getl, setl, mName, mCall, mCallK, mIf, mIfS, mTest, mAnd, mOr, mNot, mYes, mAndV, mOrV, mNotV, mNext, mNever, mBreak, mCont, mDrop, mChain, mPar, mGTup, mGCons, mGNil, pGcd, pI, pI0, pIx, pTimes, pPlus, pEq, pNe, pLen, pSum, pMaxS, pAll, pAny, pTupOf, pLstOf, pIn, pIsB, pIsi, items_tup, items_lst, items_kl, items_mr, items_tab, items_lot, items_fr, decide_true, decide_false, eqP_int, eqP_bl, eqP_str, eqP_tup2, kit_tt, kit_ii, kit_ib, tyP, mEnd, wipeP, List.map_cons, List.map_nil, List.getElem?_cons_zero, List.getElem?_cons_succ, List.set_cons_zero, List.set_cons_succ, atI_zero, atI_one, if_true, if_false, ite_true, ite_false, Bool.false_eq_true, List.length_cons, List.length_nil, Bool.not_true, Bool.not_false]
      exact fin_keep hQ
  cases x <;> simp only [seqP, reduceCtorEq, Option.some.injEq] at hx
  · subst hx
    simp only [str_to, str_ot, mPar3, mLockV, mLockE, mItemsC, mKeysC, mDGet2, pIsN, isNonP, pRepLM, mTruD, dkOfP, pPopAt, pIndex, mLstRgM, mTruth, pReprA, pLenD, pLstD, mDNew, pRepL, mLenSetN, mDIn, mSortSet, mSortSetL, mRevT, mForC, mSeqC, mLcC, pAbs, pMax2, pMin2, pInt1, mDGet, mDPut, mBM, mBM0, pPop, pAppend, pExtend, pSetL, mSub, mDisp, mPs, mPs0, mRevL, mRevLM, pLstOfM, mTupRg, mRg1, mRg2, pPlusM, lstItems, dictOfP, keyP, keysP, val_left, val_mixed, val_draws, put_draws, mLc, mLcM, mLc2, mFor, mSeqI, mRng1, mRng2, mZip, mEnum, mSl, mNoPart, mPart, mSeq, mAsg, mAsg2, mCB, mCons, mNil, mVar, mC, mOp, mUn, pU, mTup, mLst, mRet, mRetN, mLstM, getl, setl, mName, mCall, mCallK, mIf, mIfS, mTest, mAnd, mOr, mNot, mYes, mAndV, mOrV, mNotV, mNext, mNever, mBreak, mCont, mDrop, mChain, mPar, mGTup, mGCons, mGNil, pGcd, pI, pI0, pIx, pTimes, pPlus, pEq, pNe, pLen, pSum, pMaxS, pAll, pAny, pTupOf, pLstOf, pIn, pIsB, pIsi, items_tup, items_lst, items_kl, items_mr, items_tab, items_lot, items_fr, decide_true, decide_false, eqP_int, eqP_bl, eqP_str, eqP_tup2, kit_tt, kit_ii, kit_ib, tyP, mEnd, wipeP, List.map_cons, List.map_nil, List.getElem?_cons_zero, List.getElem?_cons_succ, List.set_cons_zero, List.set_cons_succ, atI_zero, atI_one, if_true, if_false, ite_true, ite_false, Bool.false_eq_true, List.length_cons, List.length_nil, Bool.not_true, Bool.not_false]
    exact key
  · subst hx
    simp only [str_to, str_ot, mPar3, mLockV, mLockE, mItemsC, mKeysC, mDGet2, pIsN, isNonP, pRepLM, mTruD, dkOfP, pPopAt, pIndex, mLstRgM, mTruth, pReprA, pLenD, pLstD, mDNew, pRepL, mLenSetN, mDIn, mSortSet, mSortSetL, mRevT, mForC, mSeqC, mLcC, pAbs, pMax2, pMin2, pInt1, mDGet, mDPut, mBM, mBM0, pPop, pAppend, pExtend, pSetL, mSub, mDisp, mPs, mPs0, mRevL, mRevLM, pLstOfM, mTupRg, mRg1, mRg2, pPlusM, lstItems, dictOfP, keyP, keysP, val_left, val_mixed, val_draws, put_draws, mLc, mLcM, mLc2, mFor, mSeqI, mRng1, mRng2, mZip, mEnum, mSl, mNoPart, mPart, mSeq, mAsg, mAsg2, mCB, mCons, mNil, mVar, mC, mOp, mUn, pU, mTup, mLst, mRet, mRetN, mLstM, getl, setl, mName, mCall, mCallK, mIf, mIfS, mTest, mAnd, mOr, mNot, mYes, mAndV, mOrV, mNotV, mNext, mNever, mBreak, mCont, mDrop, mChain, mPar, mGTup, mGCons, mGNil, pGcd, pI, pI0, pIx, pTimes, pPlus, pEq, pNe, pLen, pSum, pMaxS, pAll, pAny, pTupOf, pLstOf, pIn, pIsB, pIsi, items_tup, items_lst, items_kl, items_mr, items_tab, items_lot, items_fr, decide_true, decide_false, eqP_int, eqP_bl, eqP_str, eqP_tup2, kit_tt, kit_ii, kit_ib, tyP, mEnd, wipeP, List.map_cons, List.map_nil, List.getElem?_cons_zero, List.getElem?_cons_succ, List.set_cons_zero, List.set_cons_succ, atI_zero, atI_one, if_true, if_false, ite_true, ite_false, Bool.false_eq_true, List.length_cons, List.length_nil, Bool.not_true, Bool.not_false]
    exact key
abbrev N__law_ways : List Str := ["_law_model_here", "_law_many", "_law_found", "_law_turn", "_law_later", "_law_way_here", "_law_state", "_law_table_here", "_law_followers", "_law_i"]
theorem sc__law_ways : FnScope N__law_ways ["_law_model_here", "_law_many"] (defScope s__law_ways) := ⟨rfl, rfl, rfl, by decide +kernel, rfl, by decide +kernel, by decide +kernel⟩
theorem ok__law_ways (B : Blt mg) (h__law_ways : Own K mg "_law_ways" s__law_ways) : Ok P w K mg base 1 "_law_ways" s__law_ways ["_law_model_here", "_law_many"] S__law_ways := by
  obtain ⟨f_s, fd_s, F_s, g_s⟩ := h__law_ways
  refine ⟨f_s, fd_s, F_s, g_s, F_s.binds (fun _ _ _ _ _ _ us hl => match us, hl with | [_, _], _ => rfl), FnG.of F_s sc__law_ways (fun xs μ Q h => by first | exact h.1 | (obtain ⟨⟩ := h)) fun cdv A outer s H hr hgd => ⟨_, _, (pss_cons (ps_set (i := 2) sc__law_ways.nd rfl (Or.inl rfl) (peLM (pe_lst (pa_cons (pe_tup (pa_cons (pe_tup pa_nil) (pa_cons pe_int pa_nil))) pa_nil))))
 (pss_cons (ps_for PassesOwn.never rfl (pi_range1 (by rfl) (B "range" (by decide)) (pa_cons (pv 1) pa_nil)) (pg_name (i := 3) sc__law_ways.nd rfl (Or.inl rfl))
 (pss_cons (ps_set (i := 4) sc__law_ways.nd rfl (Or.inl rfl) (peLM (pe_lst pa_nil)))
 (pss_cons (ps_for PassesOwn.never rfl (pi_seqM (pv 2)) (pg_tup (n := 2) rfl (pgs_cons (pg_name (i := 5) sc__law_ways.nd rfl (Or.inr rfl)) (pgs_cons (pg_name (i := 6) sc__law_ways.nd rfl (Or.inl rfl)) pgs_nil)))
 (pss_cons (ps_asg (pe_ix ix_seq (pv 0) (pv 6) (fun _ _ => rfl)) (pg_tup (n := 2) rfl (pgs_cons (pg_name (i := 7) sc__law_ways.nd rfl (Or.inr rfl)) (pgs_cons (pg_name (i := 8) sc__law_ways.nd rfl (Or.inr rfl)) pgs_nil))))
 (pss_one (ps_expr (pe_bm PySem.F.plainAttrs_list PySem.F.slot_list_extend PySem.F.type_list_extend mt_extend (pv 4) (pa_cons (pe_lc (own := [("_law_i", 9)]) (by rfl) sc__law_ways.nd (pi_range1 (by rfl) (B "range" (by decide)) (pa_cons (pe_callB cb_len (by rfl) (B "len" (by decide)) (by decide +kernel) (pa_cons (pv 7) pa_nil)) pa_nil)) (blkOk_by (own := [("_law_i", 9)]) (N := N__law_ways) (sc := defScope s__law_ways) (by decide +kernel)) (fun _ _ _ _ _ => (pg_name (i := 9) sc__law_ways.nd rfl (Or.inl rfl))) (fun _ _ _ _ _ => pts_one (pt_cmpR op_gt (pe_ix (ixk_seq K rfl) (pe_ix (ixk_seq K rfl) (pv 7) (pv 9) (fun _ _ => rfl)) pe_int (fun _ _ => rfl)) pe_int (nomark _))) (fun _ _ _ _ _ => (pe_tup (pa_cons (pe_op (opk_plus K rfl) (pv 5) (pe_tup (pa_cons (pv 9) pa_nil))) (pa_cons (pe_ix (ixk_seq K rfl) (pv 8) (pv 9) (fun _ _ => rfl)) pa_nil))))) pa_nil))))))
 (pss_one (ps_set (i := 2) sc__law_ways.nd rfl (Or.inl rfl) (pv 4))))))
 (pss_one (ps_ret (pe_lc (own := [("_law_way_here", 5), ("_law_state", 6)]) (by rfl) sc__law_ways.nd (pi_seqM (pv 2)) (blkOk_by (own := [("_law_way_here", 5), ("_law_state", 6)]) (N := N__law_ways) (sc := defScope s__law_ways) (by decide +kernel)) (fun _ _ _ _ _ => (pgk_tup K 2 rfl rfl (pgs_cons (pg_name (i := 5) sc__law_ways.nd rfl (Or.inl rfl)) (pgs_cons (pg_name (i := 6) sc__law_ways.nd rfl (Or.inl rfl)) pgs_nil)) rfl rfl)) (fun _ _ _ _ _ => pts_nil) (fun _ _ _ _ _ => (pv 5))))))), (by (try dsimp only [cxOf]); exact inferInstance), ?_⟩⟩
  intro xs μ Q hS
  obtain ⟨_, n, k, M, rfl, hM, hk, hl, hQ⟩ := hS
  rw [show startP N__law_ways [mdlP M, .int k] = [some (mdlP M), some (.int k), none, none, none, none, none, none, none, none] from rfl]
  refine stm_of fun R hR => ?_
  simp only [str_to, str_ot, mPar3, mLockV, mLockE, mItemsC, mKeysC, mDGet2, pIsN, isNonP, pRepLM, mTruD, dkOfP, pPopAt, pIndex, mLstRgM, mTruth, pReprA, pLenD, pLstD, mDNew, pRepL, mLenSetN, mDIn, mSortSet, mSortSetL, mRevT, mForC, mSeqC, mLcC, pAbs, pMax2, pMin2, pInt1, mDGet, mDPut, mBM, mBM0, pPop, pAppend, pExtend, pSetL, mSub, mDisp, mPs, mPs0, mRevL, mRevLM, pLstOfM, mTupRg, mRg1, mRg2, pPlusM, lstItems, dictOfP, keyP, keysP, val_left, val_mixed, val_draws, put_draws, mLc, mLcM, mLc2, mFor, mSeqI, mRng1, mRng2, mZip, mEnum, mSl, mNoPart, mPart, mSeq, mAsg, mAsg2, mCB, mCons, mNil, mVar, mC, mOp, mUn, pU, mTup, mLst, mRet, mRetN, mLstM, getl, setl, mName, mCall, mCallK, mIf, mIfS, mTest, mAnd, mOr, mNot, mYes, mAndV, mOrV, mNotV, mNext, mNever, mBreak, mCont, mDrop, mChain, mPar, mGTup, mGCons, mGNil, pGcd, pI, pI0, pIx, pTimes, pPlus, pEq, pNe, pLen, pSum, pMaxS, pAll, pAny, pTupOf, pLstOf, pIn, pIsB, pIsi, items_tup, items_lst, items_kl, items_mr, items_tab, items_lot, items_fr, decide_true, decide_false, eqP_int, eqP_bl, eqP_str, eqP_tup2, kit_tt, kit_ii, kit_ib, tyP, mEnd, wipeP, List.map_cons, List.map_nil, List.getElem?_cons_zero, List.getElem?_cons_succ, List.set_cons_zero, List.set_cons_succ, atI_zero, atI_one, if_true, if_false, ite_true, ite_false, Bool.false_eq_true, List.length_cons, List.length_nil, Bool.not_true, Bool.not_false]
  refine ⟨by decide, by decide, by decide, ?_⟩
  subst hR
  refine stm_of fun R1 hR1 => ?_
  simp only [str_to, str_ot, mPar3, mLockV, mLockE, mItemsC, mKeysC, mDGet2, pIsN, isNonP, pRepLM, mTruD, dkOfP, pPopAt, pIndex, mLstRgM, mTruth, pReprA, pLenD, pLstD, mDNew, pRepL, mLenSetN, mDIn, mSortSet, mSortSetL, mRevT, mForC, mSeqC, mLcC, pAbs, pMax2, pMin2, pInt1, mDGet, mDPut, mBM, mBM0, pPop, pAppend, pExtend, pSetL, mSub, mDisp, mPs, mPs0, mRevL, mRevLM, pLstOfM, mTupRg, mRg1, mRg2, pPlusM, lstItems, dictOfP, keyP, keysP, val_left, val_mixed, val_draws, put_draws, mLc, mLcM, mLc2, mFor, mSeqI, mRng1, mRng2, mZip, mEnum, mSl, mNoPart, mPart, mSeq, mAsg, mAsg2, mCB, mCons, mNil, mVar, mC, mOp, mUn, pU, mTup, mLst, mRet, mRetN, mLstM, getl, setl, mName, mCall, mCallK, mIf, mIfS, mTest, mAnd, mOr, mNot, mYes, mAndV, mOrV, mNotV, mNext, mNever, mBreak, mCont, mDrop, mChain, mPar, mGTup, mGCons, mGNil, pGcd, pI, pI0, pIx, pTimes, pPlus, pEq, pNe, pLen, pSum, pMaxS, pAll, pAny, pTupOf, pLstOf, pIn, pIsB, pIsi, items_tup, items_lst, items_kl, items_mr, items_tab, items_lot, items_fr, decide_true, decide_false, eqP_int, eqP_bl, eqP_str, eqP_tup2, kit_tt, kit_ii, kit_ib, tyP, mEnd, wipeP, List.map_cons, List.map_nil, List.getElem?_cons_zero, List.getElem?_cons_succ, List.set_cons_zero, List.set_cons_succ, atI_zero, atI_one, if_true, if_false, ite_true, ite_false, Bool.false_eq_true, List.length_cons, List.length_nil, Bool.not_true, Bool.not_false]
  rw [Int.toNat_natCast, rangeP_eq]
  have hn1 := hM.n1
  have hpow : ∀ j, j ≤ k → n ^ j ≤ 60 := fun j hj => Nat.le_trans (Nat.pow_le_pow_right hn1 hj) hl
  have n8 := hM.n8
  have hok := waysF_ok hM
  refine ⟨by omega, for_inv (enc := fun (i : Nat) => PV.int i) (fun pre ρ μ' => ∃ (g : Store) (p : Nat) (y3 y4 y5 y6 y7 y8 y9 : Option PV), ρ = [some (mdlP M), some (.int (k : Nat)), some (.mr (μ.length + p)), y3, y4, y5, y6, y7, y8, y9] ∧ μ' = μ ++ g ∧ g[p]? = some (.lst ((waysF M pre.length).map pairP))) (done := []) ⟨[.lst [.tup [.tup [], .int 0]]], 0, _, _, _, _, _, _, _, rfl, rfl, rfl⟩ (fun pre i post ρ μ1 e hI N hN => ?_) fun ρ μ1 hI => ?_⟩
  · obtain ⟨g, p, y3, y4, y5, y6, y7, y8, y9, rfl, rfl, hg⟩ := hI
    have hpk : pre.length < k := by
      have := congrArg List.length e
      simp at this
      omega
    have hpg := (List.getElem?_eq_some_iff.mp hg).1
    have hlen := Nat.le_trans (waysF_len hM pre.length) (hpow _ (by omega))
    show mSeq _ _ _ _ _
    refine stm_of fun R2 hR2 => ?_
    simp only [str_to, str_ot, mPar3, mLockV, mLockE, mItemsC, mKeysC, mDGet2, pIsN, isNonP, pRepLM, mTruD, dkOfP, pPopAt, pIndex, mLstRgM, mTruth, pReprA, pLenD, pLstD, mDNew, pRepL, mLenSetN, mDIn, mSortSet, mSortSetL, mRevT, mForC, mSeqC, mLcC, pAbs, pMax2, pMin2, pInt1, mDGet, mDPut, mBM, mBM0, pPop, pAppend, pExtend, pSetL, mSub, mDisp, mPs, mPs0, mRevL, mRevLM, pLstOfM, mTupRg, mRg1, mRg2, pPlusM, lstItems, dictOfP, keyP, keysP, val_left, val_mixed, val_draws, put_draws, mLc, mLcM, mLc2, mFor, mSeqI, mRng1, mRng2, mZip, mEnum, mSl, mNoPart, mPart, mSeq, mAsg, mAsg2, mCB, mCons, mNil, mVar, mC, mOp, mUn, pU, mTup, mLst, mRet, mRetN, mLstM, getl, setl, mName, mCall, mCallK, mIf, mIfS, mTest, mAnd, mOr, mNot, mYes, mAndV, mOrV, mNotV, mNext, mNever, mBreak, mCont, mDrop, mChain, mPar, mGTup, mGCons, mGNil, pGcd, pI, pI0, pIx, pTimes, pPlus, pEq, pNe, pLen, pSum, pMaxS, pAll, pAny, pTupOf, pLstOf, pIn, pIsB, pIsi, items_tup, items_lst, items_kl, items_mr, items_tab, items_lot, items_fr, decide_true, decide_false, eqP_int, eqP_bl, eqP_str, eqP_tup2, kit_tt, kit_ii, kit_ib, tyP, mEnd, wipeP, List.map_cons, List.map_nil, List.getElem?_cons_zero, List.getElem?_cons_succ, List.set_cons_zero, List.set_cons_succ, atI_zero, atI_one, if_true, if_false, ite_true, ite_false, Bool.false_eq_true, List.length_cons, List.length_nil, Bool.not_true, Bool.not_false]
    refine ⟨by decide, ?_⟩
    subst hR2
    refine stm_of fun R3 hR3 => ?_
    have hget : ∀ x : MO, (μ ++ g ++ [x])[μ.length + p]? = some (.lst ((waysF M pre.length).map pairP)) := fun x => (st_get μ g [x] hpg).trans hg
    simp only [str_to, str_ot, mPar3, mLockV, mLockE, mItemsC, mKeysC, mDGet2, pIsN, isNonP, pRepLM, mTruD, dkOfP, pPopAt, pIndex, mLstRgM, mTruth, pReprA, pLenD, pLstD, mDNew, pRepL, mLenSetN, mDIn, mSortSet, mSortSetL, mRevT, mForC, mSeqC, mLcC, pAbs, pMax2, pMin2, pInt1, mDGet, mDPut, mBM, mBM0, pPop, pAppend, pExtend, pSetL, mSub, mDisp, mPs, mPs0, mRevL, mRevLM, pLstOfM, mTupRg, mRg1, mRg2, pPlusM, lstItems, dictOfP, keyP, keysP, val_left, val_mixed, val_draws, put_draws, mLc, mLcM, mLc2, mFor, mSeqI, mRng1, mRng2, mZip, mEnum, mSl, mNoPart, mPart, mSeq, mAsg, mAsg2, mCB, mCons, mNil, mVar, mC, mOp, mUn, pU, mTup, mLst, mRet, mRetN, mLstM, getl, setl, mName, mCall, mCallK, mIf, mIfS, mTest, mAnd, mOr, mNot, mYes, mAndV, mOrV, mNotV, mNext, mNever, mBreak, mCont, mDrop, mChain, mPar, mGTup, mGCons, mGNil, pGcd, pI, pI0, pIx, pTimes, pPlus, pEq, pNe, pLen, pSum, pMaxS, pAll, pAny, pTupOf, pLstOf, pIn, pIsB, pIsi, items_tup, items_lst, items_kl, items_mr, items_tab, items_lot, items_fr, decide_true, decide_false, eqP_int, eqP_bl, eqP_str, eqP_tup2, kit_tt, kit_ii, kit_ib, tyP, mEnd, wipeP, List.map_cons, List.map_nil, List.getElem?_cons_zero, List.getElem?_cons_succ, List.set_cons_zero, List.set_cons_succ, atI_zero, atI_one, if_true, if_false, ite_true, ite_false, Bool.false_eq_true, List.length_cons, List.length_nil, Bool.not_true, Bool.not_false, hget]
    refine forC_inv (enc := pairP) (fun pre2 ρ μ' => (∃ (y5 y6 y7 y8 y9 : Option PV), ρ = [some (mdlP M), some (.int (k : Nat)), some (.mr (μ.length + p)), some (.int (i : Nat)), some (.mr (μ ++ g).length), y5, y6, y7, y8, y9]) ∧ μ' = μ ++ g ++ [.lst ((pre2.flatMap (kidsW M)).map pairP)]) (fun pre2 ρ μ' hI2 => by rw [hI2.2]; exact hget _) (done := []) ⟨⟨_, _, _, _, _, rfl⟩, rfl⟩ (fun pre2 q post2 ρ μ2 e2 hI2 N2 hN2 => ?_) fun ρ μ2 hI2 => ?_
    · obtain ⟨⟨y5, y6, y7, y8, y9, rfl⟩, rfl⟩ := hI2
      have e2' : waysF M pre.length = pre2 ++ q :: post2 := e2
      obtain ⟨q1, q2, q3, q4⟩ := hok pre.length q (by rw [e2']; simp)
      simp only [str_to, str_ot, mPar3, mLockV, mLockE, mItemsC, mKeysC, mDGet2, pIsN, isNonP, pRepLM, mTruD, dkOfP, pPopAt, pIndex, mLstRgM, mTruth, pReprA, pLenD, pLstD, mDNew, pRepL, mLenSetN, mDIn, mSortSet, mSortSetL, mRevT, mForC, mSeqC, mLcC, pAbs, pMax2, pMin2, pInt1, mDGet, mDPut, mBM, mBM0, pPop, pAppend, pExtend, pSetL, mSub, mDisp, mPs, mPs0, mRevL, mRevLM, pLstOfM, mTupRg, mRg1, mRg2, pPlusM, lstItems, dictOfP, keyP, keysP, val_left, val_mixed, val_draws, put_draws, mLc, mLcM, mLc2, mFor, mSeqI, mRng1, mRng2, mZip, mEnum, mSl, mNoPart, mPart, mSeq, mAsg, mAsg2, mCB, mCons, mNil, mVar, mC, mOp, mUn, pU, mTup, mLst, mRet, mRetN, mLstM, getl, setl, mName, mCall, mCallK, mIf, mIfS, mTest, mAnd, mOr, mNot, mYes, mAndV, mOrV, mNotV, mNext, mNever, mBreak, mCont, mDrop, mChain, mPar, mGTup, mGCons, mGNil, pGcd, pI, pI0, pIx, pTimes, pPlus, pEq, pNe, pLen, pSum, pMaxS, pAll, pAny, pTupOf, pLstOf, pIn, pIsB, pIsi, items_tup, items_lst, items_kl, items_mr, items_tab, items_lot, items_fr, decide_true, decide_false, eqP_int, eqP_bl, eqP_str, eqP_tup2, kit_tt, kit_ii, kit_ib, tyP, mEnd, wipeP, List.map_cons, List.map_nil, List.getElem?_cons_zero, List.getElem?_cons_succ, List.set_cons_zero, List.set_cons_succ, atI_zero, atI_one, if_true, if_false, ite_true, ite_false, Bool.false_eq_true, List.length_cons, List.length_nil, Bool.not_true, Bool.not_false, pairP, items_mdl, atM q4]
      have hqt : (mtab M q.2).length = n := hM.tl q4
      have hT := hM.t q4
      have hlW : q.1.length = pre.length := q3
      have hfl : (pre2.flatMap (kidsW M)).length ≤ n * pre2.length := flat_len _ n _ fun x hx => by
        obtain ⟨x1, x2, x3, x4⟩ := hok pre.length x (by rw [e2']; simp [hx])
        unfold kidsW
        rw [List.length_map, ← hM.tl x4]
        exact kids_len _
      have hp2 : pre2.length ≤ 60 := by
        rw [e2', List.length_append] at hlen
        omega
      have hfl2 : n * pre2.length ≤ 8 * 60 := Nat.mul_le_mul n8 hp2
      have hkl := kids_len (mtab M q.2)
      rw [List.length_map, hqt, Int.toNat_natCast, rangeP_eq]
      refine ⟨trivial, trivial, by decide, ⟨by omega, by omega⟩, by rw [List.length_map, List.length_range]; unfold lim; omega, lc_filter (enc := fun (i : Nat) => PV.int i) (out := fun (i : Nat) => pairP (q.1 ++ [i], (mfol M q.2).getD i 0)) (p := fun i => decide ((mtab M q.2).getD i 0 ≠ 0)) (fun j hj k2 nn h1 h2 => ?_) ?_⟩
      · have hj : j < n := List.mem_range.mp hj
        have hj2 : j < (mtab M q.2).length := by omega
        have hj3 : j < (mfol M q.2).length := by rw [hM.fll q4]; exact hj
        simp only [str_to, str_ot, mPar3, mLockV, mLockE, mItemsC, mKeysC, mDGet2, pIsN, isNonP, pRepLM, mTruD, dkOfP, pPopAt, pIndex, mLstRgM, mTruth, pReprA, pLenD, pLstD, mDNew, pRepL, mLenSetN, mDIn, mSortSet, mSortSetL, mRevT, mForC, mSeqC, mLcC, pAbs, pMax2, pMin2, pInt1, mDGet, mDPut, mBM, mBM0, pPop, pAppend, pExtend, pSetL, mSub, mDisp, mPs, mPs0, mRevL, mRevLM, pLstOfM, mTupRg, mRg1, mRg2, pPlusM, lstItems, dictOfP, keyP, keysP, val_left, val_mixed, val_draws, put_draws, mLc, mLcM, mLc2, mFor, mSeqI, mRng1, mRng2, mZip, mEnum, mSl, mNoPart, mPart, mSeq, mAsg, mAsg2, mCB, mCons, mNil, mVar, mC, mOp, mUn, pU, mTup, mLst, mRet, mRetN, mLstM, getl, setl, mName, mCall, mCallK, mIf, mIfS, mTest, mAnd, mOr, mNot, mYes, mAndV, mOrV, mNotV, mNext, mNever, mBreak, mCont, mDrop, mChain, mPar, mGTup, mGCons, mGNil, pGcd, pI, pI0, pIx, pTimes, pPlus, pEq, pNe, pLen, pSum, pMaxS, pAll, pAny, pTupOf, pLstOf, pIn, pIsB, pIsi, items_tup, items_lst, items_kl, items_mr, items_tab, items_lot, items_fr, decide_true, decide_false, eqP_int, eqP_bl, eqP_str, eqP_tup2, kit_tt, kit_ii, kit_ib, tyP, mEnd, wipeP, List.map_cons, List.map_nil, List.getElem?_cons_zero, List.getElem?_cons_succ, List.set_cons_zero, List.set_cons_succ, atI_zero, atI_one, if_true, if_false, ite_true, ite_false, Bool.false_eq_true, List.length_cons, List.length_nil, Bool.not_true, Bool.not_false, tabP, atT hj2, frP, lotP, atL hj3]
        by_cases c : (mtab M q.2).getD j 0 = 0
        · rw [decide_eq_false (fun z => (num_gt (getD_pos hT.pos j)).mp z c), if_neg (by decide)]
          exact h2 (by simpa using c)
        · rw [decide_eq_true ((num_gt (getD_pos hT.pos j)).mpr c), if_pos rfl]
          have h1 := h1 (by simpa using c)
          have e9 : PV.tup [PV.tup ((q.1.map fun (n : Nat) => PV.int n) ++ [PV.int (j : Nat)]), PV.int ((mfol M q.2).getD j 0 : Nat)] = pairP (q.1 ++ [j], (mfol M q.2).getD j 0) := by simp only [pairP, lotP, List.map_append, List.map_cons, List.map_nil]
          rw [e9]
          exact ⟨by decide, by rw [List.length_map]; unfold lim; omega, by decide, h1⟩
      · have e8 : ((List.range n).filter fun i => decide ((mtab M q.2).getD i 0 ≠ 0)) = kids (mtab M q.2) := by unfold kids; rw [hqt]
        rw [List.nil_append, e8, getl]
        simp only
        rw [setl]
        refine ⟨by rw [List.length_map, List.length_map]; unfold lim; omega, hN2 _ _ ⟨⟨_, _, _, _, _, rfl⟩, ?_⟩⟩
        rw [List.flatMap_append, List.map_append]
        congr 3
        simp only [List.flatMap_cons, List.flatMap_nil, List.append_nil, kidsW, List.map_map]
        rfl
    · obtain ⟨⟨y5, y6, y7, y8, y9, rfl⟩, rfl⟩ := hI2
      rw [List.nil_append]
      show R3 _ _
      subst hR3
      simp only [str_to, str_ot, mPar3, mLockV, mLockE, mItemsC, mKeysC, mDGet2, pIsN, isNonP, pRepLM, mTruD, dkOfP, pPopAt, pIndex, mLstRgM, mTruth, pReprA, pLenD, pLstD, mDNew, pRepL, mLenSetN, mDIn, mSortSet, mSortSetL, mRevT, mForC, mSeqC, mLcC, pAbs, pMax2, pMin2, pInt1, mDGet, mDPut, mBM, mBM0, pPop, pAppend, pExtend, pSetL, mSub, mDisp, mPs, mPs0, mRevL, mRevLM, pLstOfM, mTupRg, mRg1, mRg2, pPlusM, lstItems, dictOfP, keyP, keysP, val_left, val_mixed, val_draws, put_draws, mLc, mLcM, mLc2, mFor, mSeqI, mRng1, mRng2, mZip, mEnum, mSl, mNoPart, mPart, mSeq, mAsg, mAsg2, mCB, mCons, mNil, mVar, mC, mOp, mUn, pU, mTup, mLst, mRet, mRetN, mLstM, getl, setl, mName, mCall, mCallK, mIf, mIfS, mTest, mAnd, mOr, mNot, mYes, mAndV, mOrV, mNotV, mNext, mNever, mBreak, mCont, mDrop, mChain, mPar, mGTup, mGCons, mGNil, pGcd, pI, pI0, pIx, pTimes, pPlus, pEq, pNe, pLen, pSum, pMaxS, pAll, pAny, pTupOf, pLstOf, pIn, pIsB, pIsi, items_tup, items_lst, items_kl, items_mr, items_tab, items_lot, items_fr, decide_true, decide_false, eqP_int, eqP_bl, eqP_str, eqP_tup2, kit_tt, kit_ii, kit_ib, tyP, mEnd, wipeP, List.map_cons, List.map_nil, List.getElem?_cons_zero, List.getElem?_cons_succ, List.set_cons_zero, List.set_cons_succ, atI_zero, atI_one, if_true, if_false, ite_true, ite_false, Bool.false_eq_true, List.length_cons, List.length_nil, Bool.not_true, Bool.not_false]
      refine hN _ _ ⟨g ++ [.lst ((waysF M (pre ++ [i]).length).map pairP)], g.length, _, _, _, _, _, _, _, by rw [List.length_append], ?_, getl _ _⟩
      rw [List.append_assoc, List.length_append]
      rfl
  · obtain ⟨g, p, y3, y4, y5, y6, y7, y8, y9, rfl, rfl, hg⟩ := hI
    rw [List.nil_append, List.length_range] at hg
    show R1 _ _
    subst hR1
    have hpg := (List.getElem?_eq_some_iff.mp hg).1
    have hget : (μ ++ g)[μ.length + p]? = some (.lst ((waysF M k).map pairP)) := by
      have := st_get μ g [] hpg
      rw [List.append_nil] at this
      exact this.trans hg
    have hlen := Nat.le_trans (waysF_len hM k) hl
    simp only [str_to, str_ot, mPar3, mLockV, mLockE, mItemsC, mKeysC, mDGet2, pIsN, isNonP, pRepLM, mTruD, dkOfP, pPopAt, pIndex, mLstRgM, mTruth, pReprA, pLenD, pLstD, mDNew, pRepL, mLenSetN, mDIn, mSortSet, mSortSetL, mRevT, mForC, mSeqC, mLcC, pAbs, pMax2, pMin2, pInt1, mDGet, mDPut, mBM, mBM0, pPop, pAppend, pExtend, pSetL, mSub, mDisp, mPs, mPs0, mRevL, mRevLM, pLstOfM, mTupRg, mRg1, mRg2, pPlusM, lstItems, dictOfP, keyP, keysP, val_left, val_mixed, val_draws, put_draws, mLc, mLcM, mLc2, mFor, mSeqI, mRng1, mRng2, mZip, mEnum, mSl, mNoPart, mPart, mSeq, mAsg, mAsg2, mCB, mCons, mNil, mVar, mC, mOp, mUn, pU, mTup, mLst, mRet, mRetN, mLstM, getl, setl, mName, mCall, mCallK, mIf, mIfS, mTest, mAnd, mOr, mNot, mYes, mAndV, mOrV, mNotV, mNext, mNever, mBreak, mCont, mDrop, mChain, mPar, mGTup, mGCons, mGNil, pGcd, pI, pI0, pIx, pTimes, pPlus, pEq, pNe, pLen, pSum, pMaxS, pAll, pAny, pTupOf, pLstOf, pIn, pIsB, pIsi, items_tup, items_lst, items_kl, items_mr, items_tab, items_lot, items_fr, decide_true, decide_false, eqP_int, eqP_bl, eqP_str, eqP_tup2, kit_tt, kit_ii, kit_ib, tyP, mEnd, wipeP, List.map_cons, List.map_nil, List.getElem?_cons_zero, List.getElem?_cons_succ, List.set_cons_zero, List.set_cons_succ, atI_zero, atI_one, if_true, if_false, ite_true, ite_false, Bool.false_eq_true, List.length_cons, List.length_nil, Bool.not_true, Bool.not_false, hget]
    refine ⟨by decide, by rw [List.length_map]; unfold lim; omega, lcC_map (enc := pairP) (out := fun q => lotP q.1) hget (fun q hq k2 hk2 => ?_) ?_⟩
    · simp only [str_to, str_ot, mPar3, mLockV, mLockE, mItemsC, mKeysC, mDGet2, pIsN, isNonP, pRepLM, mTruD, dkOfP, pPopAt, pIndex, mLstRgM, mTruth, pReprA, pLenD, pLstD, mDNew, pRepL, mLenSetN, mDIn, mSortSet, mSortSetL, mRevT, mForC, mSeqC, mLcC, pAbs, pMax2, pMin2, pInt1, mDGet, mDPut, mBM, mBM0, pPop, pAppend, pExtend, pSetL, mSub, mDisp, mPs, mPs0, mRevL, mRevLM, pLstOfM, mTupRg, mRg1, mRg2, pPlusM, lstItems, dictOfP, keyP, keysP, val_left, val_mixed, val_draws, put_draws, mLc, mLcM, mLc2, mFor, mSeqI, mRng1, mRng2, mZip, mEnum, mSl, mNoPart, mPart, mSeq, mAsg, mAsg2, mCB, mCons, mNil, mVar, mC, mOp, mUn, pU, mTup, mLst, mRet, mRetN, mLstM, getl, setl, mName, mCall, mCallK, mIf, mIfS, mTest, mAnd, mOr, mNot, mYes, mAndV, mOrV, mNotV, mNext, mNever, mBreak, mCont, mDrop, mChain, mPar, mGTup, mGCons, mGNil, pGcd, pI, pI0, pIx, pTimes, pPlus, pEq, pNe, pLen, pSum, pMaxS, pAll, pAny, pTupOf, pLstOf, pIn, pIsB, pIsi, items_tup, items_lst, items_kl, items_mr, items_tab, items_lot, items_fr, decide_true, decide_false, eqP_int, eqP_bl, eqP_str, eqP_tup2, kit_tt, kit_ii, kit_ib, tyP, mEnd, wipeP, List.map_cons, List.map_nil, List.getElem?_cons_zero, List.getElem?_cons_succ, List.set_cons_zero, List.set_cons_succ, atI_zero, atI_one, if_true, if_false, ite_true, ite_false, Bool.false_eq_true, List.length_cons, List.length_nil, Bool.not_true, Bool.not_false, pairP]
      exact ⟨trivial, hk2⟩
    · rw [List.nil_append]
      refine fin_drop (g := g) ?_ hQ
      have := noRefs_lots ((waysF M k).map fun q => q.1)
      rw [List.map_map] at this
      exact this
abbrev N__law_pick : List Str := ["_law_deck_here", "_law_some"]
theorem sc__law_pick : FnScope N__law_pick ["_law_deck_here", "_law_some"] (defScope s__law_pick) := ⟨rfl, rfl, rfl, by decide +kernel, rfl, by decide +kernel, by decide +kernel⟩
theorem ok__law_pick (B : Blt mg) (h__law_pick : Own K mg "_law_pick" s__law_pick) (k__law_draw : Ok P w K mg base 1 "_law_draw" s__law_draw ["_law_deck_here", "_law_many"] S__law_draw) : Ok P w K mg base 2 "_law_pick" s__law_pick ["_law_deck_here", "_law_some"] S__law_pick := by
  obtain ⟨f_s, fd_s, F_s, g_s⟩ := h__law_pick
  obtain ⟨f__law_draw, fd__law_draw, F__law_draw, g__law_draw, b__law_draw, G__law_draw⟩ := k__law_draw
  refine ⟨f_s, fd_s, F_s, g_s, F_s.binds (fun _ _ _ _ _ _ us hl => match us, hl with | [_, _], _ => rfl), FnG.of F_s sc__law_pick (fun xs μ Q h => by first | exact h.1 | (obtain ⟨⟩ := h)) fun cdv A outer s H hr hgd => ⟨_, _, (pss_one (ps_ret (pe_ix ix_seq (pv 1) (pe_callG (G__law_draw.mono (by decide)) hr hgd (by rfl) g__law_draw F__law_draw.kp b__law_draw (pa_cons (pv 0) (pa_cons (pe_callB cb_len (by rfl) (B "len" (by decide)) (by decide +kernel) (pa_cons (pv 1) pa_nil)) pa_nil))) (fun _ _ => rfl)))), (by (try dsimp only [cxOf]); exact inferInstance), ?_⟩⟩
  intro xs μ Q hS
  obtain ⟨_, x, items, m, rest, rfl, hx, hD, hi, hi2, hQ⟩ := hS
  rw [show startP N__law_pick [.mr 1, x] = [some (.mr 1), some x] from rfl]
  rcases hx with hx | ⟨j, rfl, hj⟩
  · have key : S__law_draw [.mr 1, .int (items.length : Nat)] μ fun y μ2 => match y with | .int i => (match atI items i with | some v => ∃ y μ', Gc μ v μ2 y μ' ∧ Q y μ' | none => False) | _ => False := by
      refine ⟨rfl, _, _, _, rfl, hD, by omega, by omega, fun n μ' h0 h1 hD' => ?_⟩
      obtain ⟨j, rfl⟩ : ∃ j : Nat, n = (j : Int) := ⟨n.toNat, by omega⟩
      have hj : j < items.length := by omega
      simp only [atI_some (List.getElem?_eq_getElem hj)]
      exact fin_keep (hQ _ (List.getElem_mem hj) _ hD')
    cases x <;> simp only [seqP, reduceCtorEq, Option.some.injEq] at hx
    · subst hx
      simp only [str_to, str_ot, mPar3, mLockV, mLockE, mItemsC, mKeysC, mDGet2, pIsN, isNonP, pRepLM, mTruD, dkOfP, pPopAt, pIndex, mLstRgM, mTruth, pReprA, pLenD, pLstD, mDNew, pRepL, mLenSetN, mDIn, mSortSet, mSortSetL, mRevT, mForC, mSeqC, mLcC, pAbs, pMax2, pMin2, pInt1, mDGet, mDPut, mBM, mBM0, pPop, pAppend, pExtend, pSetL, mSub, mDisp, mPs, mPs0, mRevL, mRevLM, pLstOfM, mTupRg, mRg1, mRg2, pPlusM, lstItems, dictOfP, keyP, keysP, val_left, val_mixed, val_draws, put_draws, mLc, mLcM, mLc2, mFor, mSeqI, mRng1, mRng2, mZip, mEnum, mSl, mNoPart, mPart, mSeq, mAsg, mAsg2, mCB, mCons, mNil, mVar, mC, mOp, mUn, pU, mTup, mLst, mRet, mRetN, mLstM, getl, setl, mName, mCall, mCallK, mIf, mIfS, mTest, mAnd, mOr, mNot, mYes, mAndV, mOrV, mNotV, mNext, mNever, mBreak, mCont, mDrop, mChain, mPar, mGTup, mGCons, mGNil, pGcd, pI, pI0, pIx, pTimes, pPlus, pEq, pNe, pLen, pSum, pMaxS, pAll, pAny, pTupOf, pLstOf, pIn, pIsB, pIsi, items_tup, items_lst, items_kl, items_mr, items_tab, items_lot, items_fr, decide_true, decide_false, eqP_int, eqP_bl, eqP_str, eqP_tup2, kit_tt, kit_ii, kit_ib, tyP, mEnd, wipeP, List.map_cons, List.map_nil, List.getElem?_cons_zero, List.getElem?_cons_succ, List.set_cons_zero, List.set_cons_succ, atI_zero, atI_one, if_true, if_false, ite_true, ite_false, Bool.false_eq_true, List.length_cons, List.length_nil, Bool.not_true, Bool.not_false]
      exact key
    · subst hx
      simp only [str_to, str_ot, mPar3, mLockV, mLockE, mItemsC, mKeysC, mDGet2, pIsN, isNonP, pRepLM, mTruD, dkOfP, pPopAt, pIndex, mLstRgM, mTruth, pReprA, pLenD, pLstD, mDNew, pRepL, mLenSetN, mDIn, mSortSet, mSortSetL, mRevT, mForC, mSeqC, mLcC, pAbs, pMax2, pMin2, pInt1, mDGet, mDPut, mBM, mBM0, pPop, pAppend, pExtend, pSetL, mSub, mDisp, mPs, mPs0, mRevL, mRevLM, pLstOfM, mTupRg, mRg1, mRg2, pPlusM, lstItems, dictOfP, keyP, keysP, val_left, val_mixed, val_draws, put_draws, mLc, mLcM, mLc2, mFor, mSeqI, mRng1, mRng2, mZip, mEnum, mSl, mNoPart, mPart, mSeq, mAsg, mAsg2, mCB, mCons, mNil, mVar, mC, mOp, mUn, pU, mTup, mLst, mRet, mRetN, mLstM, getl, setl, mName, mCall, mCallK, mIf, mIfS, mTest, mAnd, mOr, mNot, mYes, mAndV, mOrV, mNotV, mNext, mNever, mBreak, mCont, mDrop, mChain, mPar, mGTup, mGCons, mGNil, pGcd, pI, pI0, pIx, pTimes, pPlus, pEq, pNe, pLen, pSum, pMaxS, pAll, pAny, pTupOf, pLstOf, pIn, pIsB, pIsi, items_tup, items_lst, items_kl, items_mr, items_tab, items_lot, items_fr, decide_true, decide_false, eqP_int, eqP_bl, eqP_str, eqP_tup2, kit_tt, kit_ii, kit_ib, tyP, mEnd, wipeP, List.map_cons, List.map_nil, List.getElem?_cons_zero, List.getElem?_cons_succ, List.set_cons_zero, List.set_cons_succ, atI_zero, atI_one, if_true, if_false, ite_true, ite_false, Bool.false_eq_true, List.length_cons, List.length_nil, Bool.not_true, Bool.not_false]
      exact key
  · have e1 : ∀ μ', Dk m rest μ' → μ'[j + 2]? = some (.lst items) := fun μ' h => (h.get j).trans hj
    simp only [str_to, str_ot, mPar3, mLockV, mLockE, mItemsC, mKeysC, mDGet2, pIsN, isNonP, pRepLM, mTruD, dkOfP, pPopAt, pIndex, mLstRgM, mTruth, pReprA, pLenD, pLstD, mDNew, pRepL, mLenSetN, mDIn, mSortSet, mSortSetL, mRevT, mForC, mSeqC, mLcC, pAbs, pMax2, pMin2, pInt1, mDGet, mDPut, mBM, mBM0, pPop, pAppend, pExtend, pSetL, mSub, mDisp, mPs, mPs0, mRevL, mRevLM, pLstOfM, mTupRg, mRg1, mRg2, pPlusM, lstItems, dictOfP, keyP, keysP, val_left, val_mixed, val_draws, put_draws, mLc, mLcM, mLc2, mFor, mSeqI, mRng1, mRng2, mZip, mEnum, mSl, mNoPart, mPart, mSeq, mAsg, mAsg2, mCB, mCons, mNil, mVar, mC, mOp, mUn, pU, mTup, mLst, mRet, mRetN, mLstM, getl, setl, mName, mCall, mCallK, mIf, mIfS, mTest, mAnd, mOr, mNot, mYes, mAndV, mOrV, mNotV, mNext, mNever, mBreak, mCont, mDrop, mChain, mPar, mGTup, mGCons, mGNil, pGcd, pI, pI0, pIx, pTimes, pPlus, pEq, pNe, pLen, pSum, pMaxS, pAll, pAny, pTupOf, pLstOf, pIn, pIsB, pIsi, items_tup, items_lst, items_kl, items_mr, items_tab, items_lot, items_fr, decide_true, decide_false, eqP_int, eqP_bl, eqP_str, eqP_tup2, kit_tt, kit_ii, kit_ib, tyP, mEnd, wipeP, List.map_cons, List.map_nil, List.getElem?_cons_zero, List.getElem?_cons_succ, List.set_cons_zero, List.set_cons_succ, atI_zero, atI_one, if_true, if_false, ite_true, ite_false, Bool.false_eq_true, List.length_cons, List.length_nil, Bool.not_true, Bool.not_false, e1 μ hD, S__law_draw]
    refine ⟨trivial, _, _, _, rfl, hD, by omega, by omega, fun n μ' h0 h1 hD' => ?_⟩
    obtain ⟨i, rfl⟩ : ∃ i : Nat, n = (i : Int) := ⟨n.toNat, by omega⟩
    have hi : i < items.length := by omega
    simp only [e1 μ' hD', atI_some (List.getElem?_eq_getElem hi)]
    exact fin_keep (hQ _ (List.getElem_mem hi) _ hD')
abbrev N__law_fraction : List Str := ["_law_top", "_law_bottom", "_law_part"]
theorem sc__law_fraction : FnScope N__law_fraction ["_law_top", "_law_bottom"] (defScope s__law_fraction) := ⟨rfl, rfl, rfl, by decide +kernel, rfl, by decide +kernel, by decide +kernel⟩
theorem ok__law_fraction (B : Blt mg) (h__law_fraction : Own K mg "_law_fraction" s__law_fraction) (k__law_common : Ok P w K mg base 1 "_law_common" s__law_common ["_law_one", "_law_other"] S__law_common) : Ok P w K mg base 2 "_law_fraction" s__law_fraction ["_law_top", "_law_bottom"] S__law_fraction := by
  obtain ⟨f_s, fd_s, F_s, g_s⟩ := h__law_fraction
  obtain ⟨f__law_common, fd__law_common, F__law_common, g__law_common, b__law_common, G__law_common⟩ := k__law_common
  refine ⟨f_s, fd_s, F_s, g_s, F_s.binds (fun _ _ _ _ _ _ us hl => match us, hl with | [_, _], _ => rfl), FnG.of F_s sc__law_fraction (fun xs μ Q h => by first | exact h.1 | (obtain ⟨⟩ := h)) fun cdv A outer s H hr hgd => ⟨_, _, (pss_cons (ps_if (pt_cmpR op_lt (pv 1) pe_int (nomark _))
 (pss_one (ps_par (i := 0) (j := 1) (by rfl) sc__law_fraction.nd rfl rfl (by decide) rfl rfl (pa_cons (pe_un un_neg (pv 0)) (pa_cons (pe_un un_neg (pv 1)) pa_nil)) (by rfl)))
 pss_nil)
 (pss_cons (ps_set (i := 2) sc__law_fraction.nd rfl (Or.inl rfl) (pe_callG (G__law_common.mono (by decide)) hr hgd (by rfl) g__law_common F__law_common.kp b__law_common (pa_cons (pv 0) (pa_cons (pv 1) pa_nil))))
 (pss_one (ps_ret (pe_tup (pa_cons (pe_op op_divX (pv 0) (pv 2)) (pa_cons (pe_op op_divX (pv 1) (pv 2)) pa_nil))))))), (by (try dsimp only [cxOf]); exact inferInstance), ?_⟩⟩
  intro xs μ Q hS
  obtain ⟨_, a, b, rfl, h0, hb, hQ⟩ := hS
  rw [show startP N__law_fraction [.int a, .int b] = [some (.int a), some (.int b), none] from rfl]
  simp only [str_to, str_ot, mPar3, mLockV, mLockE, mItemsC, mKeysC, mDGet2, pIsN, isNonP, pRepLM, mTruD, dkOfP, pPopAt, pIndex, mLstRgM, mTruth, pReprA, pLenD, pLstD, mDNew, pRepL, mLenSetN, mDIn, mSortSet, mSortSetL, mRevT, mForC, mSeqC, mLcC, pAbs, pMax2, pMin2, pInt1, mDGet, mDPut, mBM, mBM0, pPop, pAppend, pExtend, pSetL, mSub, mDisp, mPs, mPs0, mRevL, mRevLM, pLstOfM, mTupRg, mRg1, mRg2, pPlusM, lstItems, dictOfP, keyP, keysP, val_left, val_mixed, val_draws, put_draws, mLc, mLcM, mLc2, mFor, mSeqI, mRng1, mRng2, mZip, mEnum, mSl, mNoPart, mPart, mSeq, mAsg, mAsg2, mCB, mCons, mNil, mVar, mC, mOp, mUn, pU, mTup, mLst, mRet, mRetN, mLstM, getl, setl, mName, mCall, mCallK, mIf, mIfS, mTest, mAnd, mOr, mNot, mYes, mAndV, mOrV, mNotV, mNext, mNever, mBreak, mCont, mDrop, mChain, mPar, mGTup, mGCons, mGNil, pGcd, pI, pI0, pIx, pTimes, pPlus, pEq, pNe, pLen, pSum, pMaxS, pAll, pAny, pTupOf, pLstOf, pIn, pIsB, pIsi, items_tup, items_lst, items_kl, items_mr, items_tab, items_lot, items_fr, decide_true, decide_false, eqP_int, eqP_bl, eqP_str, eqP_tup2, kit_tt, kit_ii, kit_ib, tyP, mEnd, wipeP, List.map_cons, List.map_nil, List.getElem?_cons_zero, List.getElem?_cons_succ, List.set_cons_zero, List.set_cons_succ, atI_zero, atI_one, if_true, if_false, ite_true, ite_false, Bool.false_eq_true, List.length_cons, List.length_nil, Bool.not_true, Bool.not_false, S__law_common]
  rw [decide_eq_false (by omega), if_neg (by decide)]
  have hd : ∀ c : Int, DivOk c ((Nat.gcd a.natAbs b.natAbs : Nat) : Int) := fun c => gcd_div (a := a) h0 hb
  refine ⟨trivial, _, _, rfl, hd a, hd b, by decide, ?_⟩
  obtain ⟨e2, e3⟩ := lowest_eq a b h0
  rw [e2, e3]
  exact fin_keep hQ
abbrev N_is_within : List Str := ["thing", "low", "high"]
theorem sc_is_within : FnScope N_is_within ["thing", "low", "high"] (defScope s_is_within) := ⟨rfl, rfl, rfl, by decide +kernel, rfl, by decide +kernel, by decide +kernel⟩
theorem ok_is_within (B : Blt mg) (h_is_within : Own K mg "is_within" s_is_within) (k_is_integer : Ok P w K mg base 1 "is_integer" s_is_integer ["thing"] S_is_integer) : Ok P w K mg base 2 "is_within" s_is_within ["thing", "low", "high"] S_is_within := by
  obtain ⟨f_s, fd_s, F_s, g_s⟩ := h_is_within
  obtain ⟨f_is_integer, fd_is_integer, F_is_integer, g_is_integer, b_is_integer, G_is_integer⟩ := k_is_integer
  refine ⟨f_s, fd_s, F_s, g_s, F_s.binds (fun _ _ _ _ _ _ us hl => match us, hl with | [_, _, _], _ => rfl), FnG.of F_s sc_is_within (fun xs μ Q h => by first | exact h.1 | (obtain ⟨⟩ := h)) fun cdv A outer s H hr hgd => ⟨_, _, (pss_one (ps_ret (pe_and (pe_callG (G_is_integer.mono (by decide)) hr hgd (by rfl) g_is_integer F_is_integer.kp b_is_integer (pa_cons (pv 0) pa_nil)) (pe_one (pe_chain op_le op_le (pv 1) (pv 0) (pv 2)))))), (by (try dsimp only [cxOf]); exact inferInstance), ?_⟩⟩
  intro xs μ Q hS
  obtain ⟨_, i, lo, hi, rfl, hQ⟩ := hS
  rw [show startP N_is_within [.int i, .int lo, .int hi] = [some (.int i), some (.int lo), some (.int hi)] from rfl]
  simp only [str_to, str_ot, mPar3, mLockV, mLockE, mItemsC, mKeysC, mDGet2, pIsN, isNonP, pRepLM, mTruD, dkOfP, pPopAt, pIndex, mLstRgM, mTruth, pReprA, pLenD, pLstD, mDNew, pRepL, mLenSetN, mDIn, mSortSet, mSortSetL, mRevT, mForC, mSeqC, mLcC, pAbs, pMax2, pMin2, pInt1, mDGet, mDPut, mBM, mBM0, pPop, pAppend, pExtend, pSetL, mSub, mDisp, mPs, mPs0, mRevL, mRevLM, pLstOfM, mTupRg, mRg1, mRg2, pPlusM, lstItems, dictOfP, keyP, keysP, val_left, val_mixed, val_draws, put_draws, mLc, mLcM, mLc2, mFor, mSeqI, mRng1, mRng2, mZip, mEnum, mSl, mNoPart, mPart, mSeq, mAsg, mAsg2, mCB, mCons, mNil, mVar, mC, mOp, mUn, pU, mTup, mLst, mRet, mRetN, mLstM, getl, setl, mName, mCall, mCallK, mIf, mIfS, mTest, mAnd, mOr, mNot, mYes, mAndV, mOrV, mNotV, mNext, mNever, mBreak, mCont, mDrop, mChain, mPar, mGTup, mGCons, mGNil, pGcd, pI, pI0, pIx, pTimes, pPlus, pEq, pNe, pLen, pSum, pMaxS, pAll, pAny, pTupOf, pLstOf, pIn, pIsB, pIsi, items_tup, items_lst, items_kl, items_mr, items_tab, items_lot, items_fr, decide_true, decide_false, eqP_int, eqP_bl, eqP_str, eqP_tup2, kit_tt, kit_ii, kit_ib, tyP, mEnd, wipeP, List.map_cons, List.map_nil, List.getElem?_cons_zero, List.getElem?_cons_succ, List.set_cons_zero, List.set_cons_succ, atI_zero, atI_one, if_true, if_false, ite_true, ite_false, Bool.false_eq_true, List.length_cons, List.length_nil, Bool.not_true, Bool.not_false, S_is_integer]
  refine ⟨trivial, i, rfl, ?_⟩
  by_cases h : lo ≤ i
  · simp only [h, decide_true, if_true, Bool.true_and] at hQ ⊢
    exact fin_keep hQ
  · simp only [h, decide_false, Bool.false_eq_true, if_false, Bool.false_and] at hQ ⊢
    exact fin_keep hQ
abbrev N_is_fraction : List Str := ["thing", "top", "bottom"]
theorem sc_is_fraction : FnScope N_is_fraction ["thing"] (defScope s_is_fraction) := ⟨rfl, rfl, rfl, by decide +kernel, rfl, by decide +kernel, by decide +kernel⟩
theorem ok_is_fraction (B : Blt mg) (h_is_fraction : Own K mg "is_fraction" s_is_fraction) (k_is_integer : Ok P w K mg base 1 "is_integer" s_is_integer ["thing"] S_is_integer) (i_gcd : mg "gcd" = some (.builtin "math.gcd")) : Ok P w K mg base 2 "is_fraction" s_is_fraction ["thing"] S_is_fraction := by
  obtain ⟨f_s, fd_s, F_s, g_s⟩ := h_is_fraction
  obtain ⟨f_is_integer, fd_is_integer, F_is_integer, g_is_integer, b_is_integer, G_is_integer⟩ := k_is_integer
  refine ⟨f_s, fd_s, F_s, g_s, F_s.binds (fun _ _ _ _ _ _ us hl => match us, hl with | [_], _ => rfl), FnG.of F_s sc_is_fraction (fun xs μ Q h => by first | exact h.1 | (obtain ⟨⟩ := h)) fun cdv A outer s H hr hgd => ⟨_, _, (pss_cons (ps_if (PW.pt (pw_or (pt_not (pt_val (pe_callB call_isi (by rfl) (B "isinstance" (by decide)) (by decide +kernel) (pa_cons (pv 0) (pa_cons (pe_bltn (v := .ty "tuple") (u := .type "tuple") (by rfl) (B "tuple" (by decide)) (by decide +kernel) rfl) pa_nil))))) (pw_or1 (pt_cmpR (op_neX hr.units) (pe_callB cb_len (by rfl) (B "len" (by decide)) (by decide +kernel) (pa_cons (pv 0) pa_nil)) pe_int (nomark _)))))
 (pss_one (ps_ret pe_bl))
 pss_nil)
 (pss_cons (ps_asg (pv 0) (pg_tup (n := 2) rfl (pgs_cons (pg_name (i := 1) sc_is_fraction.nd rfl (Or.inl rfl)) (pgs_cons (pg_name (i := 2) sc_is_fraction.nd rfl (Or.inl rfl)) pgs_nil))))
 (pss_one (ps_ret (pe_and (pe_callG (G_is_integer.mono (by decide)) hr hgd (by rfl) g_is_integer F_is_integer.kp b_is_integer (pa_cons (pv 1) pa_nil)) (pe_and (pe_callG (G_is_integer.mono (by decide)) hr hgd (by rfl) g_is_integer F_is_integer.kp b_is_integer (pa_cons (pv 2) pa_nil)) (pe_and (pe_cmpR op_gt (pv 2) pe_int (nomark _)) (pe_one (pe_cmpR (op_eqX hr.units) (pe_callBfun cr_gcd (by rfl) i_gcd (pa_cons (pv 1) (pa_cons (pv 2) pa_nil))) pe_int (nomark _)))))))))), (by (try dsimp only [cxOf]); exact inferInstance), ?_⟩⟩
  intro xs μ Q hS
  obtain ⟨_, q, rfl, hQ⟩ := hS
  rw [show startP N_is_fraction [frP q] = [some (frP q), none, none] from rfl]
  have hd := den_pos q
  simp only [str_to, str_ot, mPar3, mLockV, mLockE, mItemsC, mKeysC, mDGet2, pIsN, isNonP, pRepLM, mTruD, dkOfP, pPopAt, pIndex, mLstRgM, mTruth, pReprA, pLenD, pLstD, mDNew, pRepL, mLenSetN, mDIn, mSortSet, mSortSetL, mRevT, mForC, mSeqC, mLcC, pAbs, pMax2, pMin2, pInt1, mDGet, mDPut, mBM, mBM0, pPop, pAppend, pExtend, pSetL, mSub, mDisp, mPs, mPs0, mRevL, mRevLM, pLstOfM, mTupRg, mRg1, mRg2, pPlusM, lstItems, dictOfP, keyP, keysP, val_left, val_mixed, val_draws, put_draws, mLc, mLcM, mLc2, mFor, mSeqI, mRng1, mRng2, mZip, mEnum, mSl, mNoPart, mPart, mSeq, mAsg, mAsg2, mCB, mCons, mNil, mVar, mC, mOp, mUn, pU, mTup, mLst, mRet, mRetN, mLstM, getl, setl, mName, mCall, mCallK, mIf, mIfS, mTest, mAnd, mOr, mNot, mYes, mAndV, mOrV, mNotV, mNext, mNever, mBreak, mCont, mDrop, mChain, mPar, mGTup, mGCons, mGNil, pGcd, pI, pI0, pIx, pTimes, pPlus, pEq, pNe, pLen, pSum, pMaxS, pAll, pAny, pTupOf, pLstOf, pIn, pIsB, pIsi, items_tup, items_lst, items_kl, items_mr, items_tab, items_lot, items_fr, decide_true, decide_false, eqP_int, eqP_bl, eqP_str, eqP_tup2, kit_tt, kit_ii, kit_ib, tyP, mEnd, wipeP, List.map_cons, List.map_nil, List.getElem?_cons_zero, List.getElem?_cons_succ, List.set_cons_zero, List.set_cons_succ, atI_zero, atI_one, if_true, if_false, ite_true, ite_false, Bool.false_eq_true, List.length_cons, List.length_nil, Bool.not_true, Bool.not_false, frP, S_is_integer, gcd_one]
  have e2 : decide (0 < (q.den : Int)) = true := by simpa using hd
  rw [e2]
  exact ⟨trivial, trivial, _, rfl, trivial, _, rfl, fin_keep hQ⟩
abbrev N_added : List Str := ["one", "other"]
theorem sc_added : FnScope N_added ["one", "other"] (defScope s_added) := ⟨rfl, rfl, rfl, by decide +kernel, rfl, by decide +kernel, by decide +kernel⟩
theorem ok_added (B : Blt mg) (h_added : Own K mg "added" s_added) (k_lowest : Ok P w K mg base 1 "lowest" s_lowest ["top", "bottom"] S_lowest) : Ok P w K mg base 2 "added" s_added ["one", "other"] S_added := by
  obtain ⟨f_s, fd_s, F_s, g_s⟩ := h_added
  obtain ⟨f_lowest, fd_lowest, F_lowest, g_lowest, b_lowest, G_lowest⟩ := k_lowest
  refine ⟨f_s, fd_s, F_s, g_s, F_s.binds (fun _ _ _ _ _ _ us hl => match us, hl with | [_, _], _ => rfl), FnG.of F_s sc_added (fun xs μ Q h => by first | exact h.1 | (obtain ⟨⟩ := h)) fun cdv A outer s H hr hgd => ⟨_, _, (pss_one (ps_ret (pe_callG (G_lowest.mono (by decide)) hr hgd (by rfl) g_lowest F_lowest.kp b_lowest (pa_cons (pe_op op_plus (pe_op op_times (pe_ix ix_seq (pv 0) pe_int (fun _ _ => rfl)) (pe_ix ix_seq (pv 1) pe_int (fun _ _ => rfl))) (pe_op op_times (pe_ix ix_seq (pv 1) pe_int (fun _ _ => rfl)) (pe_ix ix_seq (pv 0) pe_int (fun _ _ => rfl)))) (pa_cons (pe_op op_times (pe_ix ix_seq (pv 0) pe_int (fun _ _ => rfl)) (pe_ix ix_seq (pv 1) pe_int (fun _ _ => rfl))) pa_nil))))), (by (try dsimp only [cxOf]); exact inferInstance), ?_⟩⟩
  intro xs μ Q hS
  obtain ⟨_, p, q, rfl, hp, hq, hQ⟩ := hS
  rw [show startP N_added [frP p, frP q] = [some (frP p), some (frP q)] from rfl]
  obtain ⟨m1, m2, m3, m4⟩ := fr_mul hp hq
  obtain ⟨n1, n2, n3, n4⟩ := fr_mul hq hp
  simp only [str_to, str_ot, mPar3, mLockV, mLockE, mItemsC, mKeysC, mDGet2, pIsN, isNonP, pRepLM, mTruD, dkOfP, pPopAt, pIndex, mLstRgM, mTruth, pReprA, pLenD, pLstD, mDNew, pRepL, mLenSetN, mDIn, mSortSet, mSortSetL, mRevT, mForC, mSeqC, mLcC, pAbs, pMax2, pMin2, pInt1, mDGet, mDPut, mBM, mBM0, pPop, pAppend, pExtend, pSetL, mSub, mDisp, mPs, mPs0, mRevL, mRevLM, pLstOfM, mTupRg, mRg1, mRg2, pPlusM, lstItems, dictOfP, keyP, keysP, val_left, val_mixed, val_draws, put_draws, mLc, mLcM, mLc2, mFor, mSeqI, mRng1, mRng2, mZip, mEnum, mSl, mNoPart, mPart, mSeq, mAsg, mAsg2, mCB, mCons, mNil, mVar, mC, mOp, mUn, pU, mTup, mLst, mRet, mRetN, mLstM, getl, setl, mName, mCall, mCallK, mIf, mIfS, mTest, mAnd, mOr, mNot, mYes, mAndV, mOrV, mNotV, mNext, mNever, mBreak, mCont, mDrop, mChain, mPar, mGTup, mGCons, mGNil, pGcd, pI, pI0, pIx, pTimes, pPlus, pEq, pNe, pLen, pSum, pMaxS, pAll, pAny, pTupOf, pLstOf, pIn, pIsB, pIsi, items_tup, items_lst, items_kl, items_mr, items_tab, items_lot, items_fr, decide_true, decide_false, eqP_int, eqP_bl, eqP_str, eqP_tup2, kit_tt, kit_ii, kit_ib, tyP, mEnd, wipeP, List.map_cons, List.map_nil, List.getElem?_cons_zero, List.getElem?_cons_succ, List.set_cons_zero, List.set_cons_succ, atI_zero, atI_one, if_true, if_false, ite_true, ite_false, Bool.false_eq_true, List.length_cons, List.length_nil, Bool.not_true, Bool.not_false, frP, S_lowest]
  refine ⟨m2, n2, m4, trivial, _, _, rfl, Int.mul_pos (den_pos p) (den_pos q), ?_, ?_⟩
  · exact Nat.lt_of_lt_of_le (natAbs_mul_lt (x := (p.den : Int)) (y := (q.den : Int)) (by simpa using hp.2) (by simpa using hq.2)) (Nat.pow_le_pow_right (by decide) (by decide))
  · rw [← add_eq]
    exact fin_keep hQ
abbrev N_times : List Str := ["one", "other"]
theorem sc_times : FnScope N_times ["one", "other"] (defScope s_times) := ⟨rfl, rfl, rfl, by decide +kernel, rfl, by decide +kernel, by decide +kernel⟩
theorem ok_times (B : Blt mg) (h_times : Own K mg "times" s_times) (k_lowest : Ok P w K mg base 1 "lowest" s_lowest ["top", "bottom"] S_lowest) : Ok P w K mg base 2 "times" s_times ["one", "other"] S_times := by
  obtain ⟨f_s, fd_s, F_s, g_s⟩ := h_times
  obtain ⟨f_lowest, fd_lowest, F_lowest, g_lowest, b_lowest, G_lowest⟩ := k_lowest
  refine ⟨f_s, fd_s, F_s, g_s, F_s.binds (fun _ _ _ _ _ _ us hl => match us, hl with | [_, _], _ => rfl), FnG.of F_s sc_times (fun xs μ Q h => by first | exact h.1 | (obtain ⟨⟩ := h)) fun cdv A outer s H hr hgd => ⟨_, _, (pss_one (ps_ret (pe_callG (G_lowest.mono (by decide)) hr hgd (by rfl) g_lowest F_lowest.kp b_lowest (pa_cons (pe_op op_times (pe_ix ix_seq (pv 0) pe_int (fun _ _ => rfl)) (pe_ix ix_seq (pv 1) pe_int (fun _ _ => rfl))) (pa_cons (pe_op op_times (pe_ix ix_seq (pv 0) pe_int (fun _ _ => rfl)) (pe_ix ix_seq (pv 1) pe_int (fun _ _ => rfl))) pa_nil))))), (by (try dsimp only [cxOf]); exact inferInstance), ?_⟩⟩
  intro xs μ Q hS
  obtain ⟨_, p, q, rfl, hp, hq, hQ⟩ := hS
  rw [show startP N_times [frP p, frP q] = [some (frP p), some (frP q)] from rfl]
  obtain ⟨m1, m2, m3, m4⟩ := fr_mul hp hq
  simp only [str_to, str_ot, mPar3, mLockV, mLockE, mItemsC, mKeysC, mDGet2, pIsN, isNonP, pRepLM, mTruD, dkOfP, pPopAt, pIndex, mLstRgM, mTruth, pReprA, pLenD, pLstD, mDNew, pRepL, mLenSetN, mDIn, mSortSet, mSortSetL, mRevT, mForC, mSeqC, mLcC, pAbs, pMax2, pMin2, pInt1, mDGet, mDPut, mBM, mBM0, pPop, pAppend, pExtend, pSetL, mSub, mDisp, mPs, mPs0, mRevL, mRevLM, pLstOfM, mTupRg, mRg1, mRg2, pPlusM, lstItems, dictOfP, keyP, keysP, val_left, val_mixed, val_draws, put_draws, mLc, mLcM, mLc2, mFor, mSeqI, mRng1, mRng2, mZip, mEnum, mSl, mNoPart, mPart, mSeq, mAsg, mAsg2, mCB, mCons, mNil, mVar, mC, mOp, mUn, pU, mTup, mLst, mRet, mRetN, mLstM, getl, setl, mName, mCall, mCallK, mIf, mIfS, mTest, mAnd, mOr, mNot, mYes, mAndV, mOrV, mNotV, mNext, mNever, mBreak, mCont, mDrop, mChain, mPar, mGTup, mGCons, mGNil, pGcd, pI, pI0, pIx, pTimes, pPlus, pEq, pNe, pLen, pSum, pMaxS, pAll, pAny, pTupOf, pLstOf, pIn, pIsB, pIsi, items_tup, items_lst, items_kl, items_mr, items_tab, items_lot, items_fr, decide_true, decide_false, eqP_int, eqP_bl, eqP_str, eqP_tup2, kit_tt, kit_ii, kit_ib, tyP, mEnd, wipeP, List.map_cons, List.map_nil, List.getElem?_cons_zero, List.getElem?_cons_succ, List.set_cons_zero, List.set_cons_succ, atI_zero, atI_one, if_true, if_false, ite_true, ite_false, Bool.false_eq_true, List.length_cons, List.length_nil, Bool.not_true, Bool.not_false, frP, S_lowest]
  refine ⟨m1, m4, trivial, _, _, rfl, Int.mul_pos (den_pos p) (den_pos q), ?_, ?_⟩
  · exact Nat.lt_of_lt_of_le (natAbs_mul_lt (x := (p.den : Int)) (y := (q.den : Int)) (by simpa using hp.2) (by simpa using hq.2)) (Nat.pow_le_pow_right (by decide) (by decide))
  · rw [← mul_eq]
    exact fin_keep hQ
abbrev N__law_is_way : List Str := ["_law_model_here", "_law_thing", "_law_state", "_law_i", "_law_table_here", "_law_followers"]
theorem sc__law_is_way : FnScope N__law_is_way ["_law_model_here", "_law_thing"] (defScope s__law_is_way) := ⟨rfl, rfl, rfl, by decide +kernel, rfl, by decide +kernel, by decide +kernel⟩
theorem ok__law_is_way (B : Blt mg) (h__law_is_way : Own K mg "_law_is_way" s__law_is_way) (k__law_is_integer : Ok P w K mg base 1 "_law_is_integer" s__law_is_integer ["_law_thing"] S__law_is_integer) : Ok P w K mg base 2 "_law_is_way" s__law_is_way ["_law_model_here", "_law_thing"] S__law_is_way := by
  obtain ⟨f_s, fd_s, F_s, g_s⟩ := h__law_is_way
  obtain ⟨f__law_is_integer, fd__law_is_integer, F__law_is_integer, g__law_is_integer, b__law_is_integer, G__law_is_integer⟩ := k__law_is_integer
  refine ⟨f_s, fd_s, F_s, g_s, F_s.binds (fun _ _ _ _ _ _ us hl => match us, hl with | [_, _], _ => rfl), FnG.of F_s sc__law_is_way (fun xs μ Q h => by first | exact h.1 | (obtain ⟨⟩ := h)) fun cdv A outer s H hr hgd => ⟨_, _, (pss_cons (ps_if (pt_not (pt_val (pe_callB call_isi (by rfl) (B "isinstance" (by decide)) (by decide +kernel) (pa_cons (pv 1) (pa_cons (pe_bltn (v := .ty "tuple") (u := .type "tuple") (by rfl) (B "tuple" (by decide)) (by decide +kernel) rfl) pa_nil)))))
 (pss_one (ps_ret pe_bl))
 pss_nil)
 (pss_cons (ps_set (i := 2) sc__law_is_way.nd rfl (Or.inl rfl) pe_int)
 (pss_cons (ps_for PassesOwn.never rfl (pi_seq (pv 1)) (pg_name (i := 3) sc__law_is_way.nd rfl (Or.inl rfl))
 (pss_cons (ps_asg (pe_ix ix_seq (pv 0) (pv 2) (fun _ _ => rfl)) (pg_tup (n := 2) rfl (pgs_cons (pg_name (i := 4) sc__law_is_way.nd rfl (Or.inl rfl)) (pgs_cons (pg_name (i := 5) sc__law_is_way.nd rfl (Or.inl rfl)) pgs_nil))))
 (pss_cons (ps_if (PW.pt (pw_or (pt_not (pt_val (pe_callG (G__law_is_integer.mono (by decide)) hr hgd (by rfl) g__law_is_integer F__law_is_integer.kp b__law_is_integer (pa_cons (pv 3) pa_nil)))) (pw_or (pt_not (pt_chain op_le op_lt pe_int (pv 3) (pe_callB cb_len (by rfl) (B "len" (by decide)) (by decide +kernel) (pa_cons (pv 4) pa_nil)))) (pw_or1 (pt_cmpR (op_eqX hr.units) (pe_ix ix_seq (pe_ix ix_seq (pv 4) (pv 3) (fun _ _ => rfl)) pe_int (fun _ _ => rfl)) pe_int (nomark _))))))
 (pss_one (ps_ret pe_bl))
 pss_nil)
 (pss_one (ps_set (i := 2) sc__law_is_way.nd rfl (Or.inl rfl) (pe_ix ix_seq (pv 5) (pv 3) (fun _ _ => rfl)))))))
 (pss_one (ps_ret pe_bl))))), (by (try dsimp only [cxOf]); exact inferInstance), ?_⟩⟩
  intro xs μ Q hS
  obtain ⟨_, n, M, w, rfl, hM, hlt, hl, hQ⟩ := hS
  rw [show startP N__law_is_way [mdlP M, lotP w] = [some (mdlP M), some (lotP w), none, none, none, none] from rfl]
  have h0 := List.length_pos_iff.mpr hM.ne
  refine stm_of fun R hR => ?_
  simp only [str_to, str_ot, mPar3, mLockV, mLockE, mItemsC, mKeysC, mDGet2, pIsN, isNonP, pRepLM, mTruD, dkOfP, pPopAt, pIndex, mLstRgM, mTruth, pReprA, pLenD, pLstD, mDNew, pRepL, mLenSetN, mDIn, mSortSet, mSortSetL, mRevT, mForC, mSeqC, mLcC, pAbs, pMax2, pMin2, pInt1, mDGet, mDPut, mBM, mBM0, pPop, pAppend, pExtend, pSetL, mSub, mDisp, mPs, mPs0, mRevL, mRevLM, pLstOfM, mTupRg, mRg1, mRg2, pPlusM, lstItems, dictOfP, keyP, keysP, val_left, val_mixed, val_draws, put_draws, mLc, mLcM, mLc2, mFor, mSeqI, mRng1, mRng2, mZip, mEnum, mSl, mNoPart, mPart, mSeq, mAsg, mAsg2, mCB, mCons, mNil, mVar, mC, mOp, mUn, pU, mTup, mLst, mRet, mRetN, mLstM, getl, setl, mName, mCall, mCallK, mIf, mIfS, mTest, mAnd, mOr, mNot, mYes, mAndV, mOrV, mNotV, mNext, mNever, mBreak, mCont, mDrop, mChain, mPar, mGTup, mGCons, mGNil, pGcd, pI, pI0, pIx, pTimes, pPlus, pEq, pNe, pLen, pSum, pMaxS, pAll, pAny, pTupOf, pLstOf, pIn, pIsB, pIsi, items_tup, items_lst, items_kl, items_mr, items_tab, items_lot, items_fr, decide_true, decide_false, eqP_int, eqP_bl, eqP_str, eqP_tup2, kit_tt, kit_ii, kit_ib, tyP, mEnd, wipeP, List.map_cons, List.map_nil, List.getElem?_cons_zero, List.getElem?_cons_succ, List.set_cons_zero, List.set_cons_succ, atI_zero, atI_one, if_true, if_false, ite_true, ite_false, Bool.false_eq_true, List.length_cons, List.length_nil, Bool.not_true, Bool.not_false, lotP]
  subst hR
  refine stm_of fun R1 hR1 => ?_
  simp only [str_to, str_ot, mPar3, mLockV, mLockE, mItemsC, mKeysC, mDGet2, pIsN, isNonP, pRepLM, mTruD, dkOfP, pPopAt, pIndex, mLstRgM, mTruth, pReprA, pLenD, pLstD, mDNew, pRepL, mLenSetN, mDIn, mSortSet, mSortSetL, mRevT, mForC, mSeqC, mLcC, pAbs, pMax2, pMin2, pInt1, mDGet, mDPut, mBM, mBM0, pPop, pAppend, pExtend, pSetL, mSub, mDisp, mPs, mPs0, mRevL, mRevLM, pLstOfM, mTupRg, mRg1, mRg2, pPlusM, lstItems, dictOfP, keyP, keysP, val_left, val_mixed, val_draws, put_draws, mLc, mLcM, mLc2, mFor, mSeqI, mRng1, mRng2, mZip, mEnum, mSl, mNoPart, mPart, mSeq, mAsg, mAsg2, mCB, mCons, mNil, mVar, mC, mOp, mUn, pU, mTup, mLst, mRet, mRetN, mLstM, getl, setl, mName, mCall, mCallK, mIf, mIfS, mTest, mAnd, mOr, mNot, mYes, mAndV, mOrV, mNotV, mNext, mNever, mBreak, mCont, mDrop, mChain, mPar, mGTup, mGCons, mGNil, pGcd, pI, pI0, pIx, pTimes, pPlus, pEq, pNe, pLen, pSum, pMaxS, pAll, pAny, pTupOf, pLstOf, pIn, pIsB, pIsi, items_tup, items_lst, items_kl, items_mr, items_tab, items_lot, items_fr, decide_true, decide_false, eqP_int, eqP_bl, eqP_str, eqP_tup2, kit_tt, kit_ii, kit_ib, tyP, mEnd, wipeP, List.map_cons, List.map_nil, List.getElem?_cons_zero, List.getElem?_cons_succ, List.set_cons_zero, List.set_cons_succ, atI_zero, atI_one, if_true, if_false, ite_true, ite_false, Bool.false_eq_true, List.length_cons, List.length_nil, Bool.not_true, Bool.not_false]
  subst hR1
  refine stm_of fun R2 hR2 => ?_
  simp only [str_to, str_ot, mPar3, mLockV, mLockE, mItemsC, mKeysC, mDGet2, pIsN, isNonP, pRepLM, mTruD, dkOfP, pPopAt, pIndex, mLstRgM, mTruth, pReprA, pLenD, pLstD, mDNew, pRepL, mLenSetN, mDIn, mSortSet, mSortSetL, mRevT, mForC, mSeqC, mLcC, pAbs, pMax2, pMin2, pInt1, mDGet, mDPut, mBM, mBM0, pPop, pAppend, pExtend, pSetL, mSub, mDisp, mPs, mPs0, mRevL, mRevLM, pLstOfM, mTupRg, mRg1, mRg2, pPlusM, lstItems, dictOfP, keyP, keysP, val_left, val_mixed, val_draws, put_draws, mLc, mLcM, mLc2, mFor, mSeqI, mRng1, mRng2, mZip, mEnum, mSl, mNoPart, mPart, mSeq, mAsg, mAsg2, mCB, mCons, mNil, mVar, mC, mOp, mUn, pU, mTup, mLst, mRet, mRetN, mLstM, getl, setl, mName, mCall, mCallK, mIf, mIfS, mTest, mAnd, mOr, mNot, mYes, mAndV, mOrV, mNotV, mNext, mNever, mBreak, mCont, mDrop, mChain, mPar, mGTup, mGCons, mGNil, pGcd, pI, pI0, pIx, pTimes, pPlus, pEq, pNe, pLen, pSum, pMaxS, pAll, pAny, pTupOf, pLstOf, pIn, pIsB, pIsi, items_tup, items_lst, items_kl, items_mr, items_tab, items_lot, items_fr, decide_true, decide_false, eqP_int, eqP_bl, eqP_str, eqP_tup2, kit_tt, kit_ii, kit_ib, tyP, mEnd, wipeP, List.map_cons, List.map_nil, List.getElem?_cons_zero, List.getElem?_cons_succ, List.set_cons_zero, List.set_cons_succ, atI_zero, atI_one, if_true, if_false, ite_true, ite_false, Bool.false_eq_true, List.length_cons, List.length_nil, Bool.not_true, Bool.not_false]
  refine for_inv (enc := fun (i : Nat) => PV.int i) (fun pre ρ μ' => (∃ (a : Nat) (y3 y4 y5 : Option PV), ρ = [some (mdlP M), some (.tup (w.map fun (n : Nat) => PV.int n)), some (.int (a : Nat)), y3, y4, y5] ∧ a < M.length ∧ wayB M 0 w = wayB M a (w.drop pre.length)) ∧ μ' = μ) (done := []) ⟨⟨0, _, _, _, rfl, h0, rfl⟩, rfl⟩ (fun pre i post ρ μ1 e hI N hN => ?_) fun ρ μ1 hI => ?_
  · obtain ⟨⟨a, y3, y4, y5, rfl, ha, hwa⟩, rfl⟩ := hI
    have e' : w = pre ++ i :: post := e
    have i4 : i < n := hlt i (by rw [e']; simp)
    have ed : w.drop pre.length = i :: w.drop (pre.length + 1) := by rw [e']; simp
    rw [ed] at hwa
    have i1 : i < (mtab M a).length := by rw [hM.tl ha]; exact i4
    have i5 : i < (mfol M a).length := by rw [hM.fll ha]; exact i4
    simp only [str_to, str_ot, mPar3, mLockV, mLockE, mItemsC, mKeysC, mDGet2, pIsN, isNonP, pRepLM, mTruD, dkOfP, pPopAt, pIndex, mLstRgM, mTruth, pReprA, pLenD, pLstD, mDNew, pRepL, mLenSetN, mDIn, mSortSet, mSortSetL, mRevT, mForC, mSeqC, mLcC, pAbs, pMax2, pMin2, pInt1, mDGet, mDPut, mBM, mBM0, pPop, pAppend, pExtend, pSetL, mSub, mDisp, mPs, mPs0, mRevL, mRevLM, pLstOfM, mTupRg, mRg1, mRg2, pPlusM, lstItems, dictOfP, keyP, keysP, val_left, val_mixed, val_draws, put_draws, mLc, mLcM, mLc2, mFor, mSeqI, mRng1, mRng2, mZip, mEnum, mSl, mNoPart, mPart, mSeq, mAsg, mAsg2, mCB, mCons, mNil, mVar, mC, mOp, mUn, pU, mTup, mLst, mRet, mRetN, mLstM, getl, setl, mName, mCall, mCallK, mIf, mIfS, mTest, mAnd, mOr, mNot, mYes, mAndV, mOrV, mNotV, mNext, mNever, mBreak, mCont, mDrop, mChain, mPar, mGTup, mGCons, mGNil, pGcd, pI, pI0, pIx, pTimes, pPlus, pEq, pNe, pLen, pSum, pMaxS, pAll, pAny, pTupOf, pLstOf, pIn, pIsB, pIsi, items_tup, items_lst, items_kl, items_mr, items_tab, items_lot, items_fr, decide_true, decide_false, eqP_int, eqP_bl, eqP_str, eqP_tup2, kit_tt, kit_ii, kit_ib, tyP, mEnd, wipeP, List.map_cons, List.map_nil, List.getElem?_cons_zero, List.getElem?_cons_succ, List.set_cons_zero, List.set_cons_succ, atI_zero, atI_one, if_true, if_false, ite_true, ite_false, Bool.false_eq_true, List.length_cons, List.length_nil, Bool.not_true, Bool.not_false, items_mdl, atM ha, tabP, atT i1, frP, S__law_is_integer, List.length_map]
    have hw0 : wayB M a (i :: w.drop (pre.length + 1)) = (decide ((mtab M a).getD i 0 ≠ 0) && wayB M ((mfol M a).getD i 0) (w.drop (pre.length + 1))) := by
      simp only [wayB, decide_eq_true i1, Bool.true_and]
    rw [hw0] at hwa
    refine ⟨trivial, trivial, _, rfl, ?_⟩
    rw [decide_eq_true (by omega), if_pos rfl, decide_eq_true (by omega), if_neg (by decide)]
    by_cases c : (mtab M a).getD i 0 = 0
    · rw [decide_eq_true (num_zero.mpr c), if_pos rfl]
      rw [decide_eq_false (fun z => z c), Bool.false_and] at hwa
      rw [hwa] at hQ
      exact fin_keep hQ
    · rw [decide_eq_false (fun z => c (num_zero.mp z)), if_neg (by decide), atL i5]
      rw [decide_eq_true c, Bool.true_and] at hwa
      refine hN _ _ ⟨⟨(mfol M a).getD i 0, _, _, _, rfl, hM.f ha i4, ?_⟩, rfl⟩
      rw [List.length_append, List.length_singleton]
      exact hwa
  · obtain ⟨⟨a, y3, y4, y5, rfl, ha, hwa⟩, rfl⟩ := hI
    show R2 _ _
    subst hR2
    simp only [str_to, str_ot, mPar3, mLockV, mLockE, mItemsC, mKeysC, mDGet2, pIsN, isNonP, pRepLM, mTruD, dkOfP, pPopAt, pIndex, mLstRgM, mTruth, pReprA, pLenD, pLstD, mDNew, pRepL, mLenSetN, mDIn, mSortSet, mSortSetL, mRevT, mForC, mSeqC, mLcC, pAbs, pMax2, pMin2, pInt1, mDGet, mDPut, mBM, mBM0, pPop, pAppend, pExtend, pSetL, mSub, mDisp, mPs, mPs0, mRevL, mRevLM, pLstOfM, mTupRg, mRg1, mRg2, pPlusM, lstItems, dictOfP, keyP, keysP, val_left, val_mixed, val_draws, put_draws, mLc, mLcM, mLc2, mFor, mSeqI, mRng1, mRng2, mZip, mEnum, mSl, mNoPart, mPart, mSeq, mAsg, mAsg2, mCB, mCons, mNil, mVar, mC, mOp, mUn, pU, mTup, mLst, mRet, mRetN, mLstM, getl, setl, mName, mCall, mCallK, mIf, mIfS, mTest, mAnd, mOr, mNot, mYes, mAndV, mOrV, mNotV, mNext, mNever, mBreak, mCont, mDrop, mChain, mPar, mGTup, mGCons, mGNil, pGcd, pI, pI0, pIx, pTimes, pPlus, pEq, pNe, pLen, pSum, pMaxS, pAll, pAny, pTupOf, pLstOf, pIn, pIsB, pIsi, items_tup, items_lst, items_kl, items_mr, items_tab, items_lot, items_fr, decide_true, decide_false, eqP_int, eqP_bl, eqP_str, eqP_tup2, kit_tt, kit_ii, kit_ib, tyP, mEnd, wipeP, List.map_cons, List.map_nil, List.getElem?_cons_zero, List.getElem?_cons_succ, List.set_cons_zero, List.set_cons_succ, atI_zero, atI_one, if_true, if_false, ite_true, ite_false, Bool.false_eq_true, List.length_cons, List.length_nil, Bool.not_true, Bool.not_false]
    rw [List.nil_append, List.drop_length] at hwa
    rw [hwa] at hQ
    exact fin_keep hQ
abbrev N__law_bits : List Str := ["_law_deck_here", "_law_many", "_law_turn"]
theorem sc__law_bits : FnScope N__law_bits ["_law_deck_here", "_law_many"] (defScope s__law_bits) := ⟨rfl, rfl, rfl, by decide +kernel, rfl, by decide +kernel, by decide +kernel⟩
theorem ok__law_bits (B : Blt mg) (h__law_bits : Own K mg "_law_bits" s__law_bits) (k__law_draw : Ok P w K mg base 1 "_law_draw" s__law_draw ["_law_deck_here", "_law_many"] S__law_draw) : Ok P w K mg base 2 "_law_bits" s__law_bits ["_law_deck_here", "_law_many"] S__law_bits := by
  obtain ⟨f_s, fd_s, F_s, g_s⟩ := h__law_bits
  obtain ⟨f__law_draw, fd__law_draw, F__law_draw, g__law_draw, b__law_draw, G__law_draw⟩ := k__law_draw
  refine ⟨f_s, fd_s, F_s, g_s, F_s.binds (fun _ _ _ _ _ _ us hl => match us, hl with | [_, _], _ => rfl), FnG.of F_s sc__law_bits (fun xs μ Q h => by first | exact h.1 | (obtain ⟨⟩ := h)) fun cdv A outer s H hr hgd => ⟨_, _, (pss_one (ps_ret (pe_callTy cb_tup (by rfl) (B "tuple" (by decide)) (by decide +kernel) (pa_cons (pe_lc (own := [("_law_turn", 2)]) (by rfl) sc__law_bits.nd (pi_range1 (by rfl) (B "range" (by decide)) (pa_cons (pv 1) pa_nil)) (blkOk_by (own := [("_law_turn", 2)]) (N := N__law_bits) (sc := defScope s__law_bits) (by decide +kernel)) (fun _ _ _ _ _ => (pg_name (i := 2) sc__law_bits.nd rfl (Or.inl rfl))) (fun _ _ _ _ _ => pts_nil) (fun _ _ _ _ _ => (pek_call K rfl (G__law_draw.mono (by decide)) hr hgd (by rfl) g__law_draw F__law_draw.kp b__law_draw (pa_cons (pv 0) (pa_cons pe_int pa_nil))))) pa_nil)))), (by (try dsimp only [cxOf]); exact inferInstance), ?_⟩⟩
  intro xs μ Q hS
  obtain ⟨_, n, m, rest, rfl, hD, hn, hQ⟩ := hS
  rw [show startP N__law_bits [.mr 1, .int n] = [some (.mr 1), some (.int n), none] from rfl]
  simp only [str_to, str_ot, mPar3, mLockV, mLockE, mItemsC, mKeysC, mDGet2, pIsN, isNonP, pRepLM, mTruD, dkOfP, pPopAt, pIndex, mLstRgM, mTruth, pReprA, pLenD, pLstD, mDNew, pRepL, mLenSetN, mDIn, mSortSet, mSortSetL, mRevT, mForC, mSeqC, mLcC, pAbs, pMax2, pMin2, pInt1, mDGet, mDPut, mBM, mBM0, pPop, pAppend, pExtend, pSetL, mSub, mDisp, mPs, mPs0, mRevL, mRevLM, pLstOfM, mTupRg, mRg1, mRg2, pPlusM, lstItems, dictOfP, keyP, keysP, val_left, val_mixed, val_draws, put_draws, mLc, mLcM, mLc2, mFor, mSeqI, mRng1, mRng2, mZip, mEnum, mSl, mNoPart, mPart, mSeq, mAsg, mAsg2, mCB, mCons, mNil, mVar, mC, mOp, mUn, pU, mTup, mLst, mRet, mRetN, mLstM, getl, setl, mName, mCall, mCallK, mIf, mIfS, mTest, mAnd, mOr, mNot, mYes, mAndV, mOrV, mNotV, mNext, mNever, mBreak, mCont, mDrop, mChain, mPar, mGTup, mGCons, mGNil, pGcd, pI, pI0, pIx, pTimes, pPlus, pEq, pNe, pLen, pSum, pMaxS, pAll, pAny, pTupOf, pLstOf, pIn, pIsB, pIsi, items_tup, items_lst, items_kl, items_mr, items_tab, items_lot, items_fr, decide_true, decide_false, eqP_int, eqP_bl, eqP_str, eqP_tup2, kit_tt, kit_ii, kit_ib, tyP, mEnd, wipeP, List.map_cons, List.map_nil, List.getElem?_cons_zero, List.getElem?_cons_succ, List.set_cons_zero, List.set_cons_succ, atI_zero, atI_one, if_true, if_false, ite_true, ite_false, Bool.false_eq_true, List.length_cons, List.length_nil, Bool.not_true, Bool.not_false, S__law_draw]
  rw [Int.toNat_natCast, rangeP_eq]
  refine ⟨by decide, ⟨by omega, by omega⟩, by rw [List.length_map, List.length_range]; unfold lim; omega, lc_any (fun pre acc μ' => Dk m rest μ' ∧ ∃ ns : List Nat, acc = (ns.map fun (i : Nat) => PV.int i) ∧ ns.length = pre.length ∧ ∀ i ∈ ns, i < 2) (done := []) ⟨hD, [], rfl, rfl, by simp⟩ (fun pre a post acc μ' e hI N hN => ?_) fun acc μ' hI => ?_⟩
  · obtain ⟨hD', ns, rfl, hp, hlt⟩ := hI
    simp only [str_to, str_ot, mPar3, mLockV, mLockE, mItemsC, mKeysC, mDGet2, pIsN, isNonP, pRepLM, mTruD, dkOfP, pPopAt, pIndex, mLstRgM, mTruth, pReprA, pLenD, pLstD, mDNew, pRepL, mLenSetN, mDIn, mSortSet, mSortSetL, mRevT, mForC, mSeqC, mLcC, pAbs, pMax2, pMin2, pInt1, mDGet, mDPut, mBM, mBM0, pPop, pAppend, pExtend, pSetL, mSub, mDisp, mPs, mPs0, mRevL, mRevLM, pLstOfM, mTupRg, mRg1, mRg2, pPlusM, lstItems, dictOfP, keyP, keysP, val_left, val_mixed, val_draws, put_draws, mLc, mLcM, mLc2, mFor, mSeqI, mRng1, mRng2, mZip, mEnum, mSl, mNoPart, mPart, mSeq, mAsg, mAsg2, mCB, mCons, mNil, mVar, mC, mOp, mUn, pU, mTup, mLst, mRet, mRetN, mLstM, getl, setl, mName, mCall, mCallK, mIf, mIfS, mTest, mAnd, mOr, mNot, mYes, mAndV, mOrV, mNotV, mNext, mNever, mBreak, mCont, mDrop, mChain, mPar, mGTup, mGCons, mGNil, pGcd, pI, pI0, pIx, pTimes, pPlus, pEq, pNe, pLen, pSum, pMaxS, pAll, pAny, pTupOf, pLstOf, pIn, pIsB, pIsi, items_tup, items_lst, items_kl, items_mr, items_tab, items_lot, items_fr, decide_true, decide_false, eqP_int, eqP_bl, eqP_str, eqP_tup2, kit_tt, kit_ii, kit_ib, tyP, mEnd, wipeP, List.map_cons, List.map_nil, List.getElem?_cons_zero, List.getElem?_cons_succ, List.set_cons_zero, List.set_cons_succ, atI_zero, atI_one, if_true, if_false, ite_true, ite_false, Bool.false_eq_true, List.length_cons, List.length_nil, Bool.not_true, Bool.not_false, S__law_draw]
    refine ⟨trivial, 2, m, rest, rfl, hD', by decide, by decide, fun z μ2 h0 h1 hD2 => ?_⟩
    obtain ⟨j, rfl⟩ : ∃ j : Nat, z = (j : Int) := ⟨z.toNat, by omega⟩
    refine hN _ _ ⟨hD2, ns ++ [j], by rw [List.map_append]; rfl, by rw [List.length_append, List.length_append, hp]; rfl, fun i hi => ?_⟩
    rcases List.mem_append.mp hi with hi | hi
    · exact hlt i hi
    · rw [List.mem_singleton.mp hi]; omega
  · obtain ⟨hD', ns, rfl, hp, hlt⟩ := hI
    refine fin_keep (hQ ns _ hlt ?_ hD')
    simp at hp
    omega
abbrev N__law_table : List Str := ["_law_deck_here", "_law_n", "_law_bottoms", "_law_bottom", "_law_parts", "_law_left", "_law_at", "_law_part"]
theorem sc__law_table : FnScope N__law_table ["_law_deck_here", "_law_n", "_law_bottoms"] (defScope s__law_table) := ⟨rfl, rfl, rfl, by decide +kernel, rfl, by decide +kernel, by decide +kernel⟩
theorem ok__law_table (B : Blt mg) (h__law_table : Own K mg "_law_table" s__law_table) (k__law_pick : Ok P w K mg base 2 "_law_pick" s__law_pick ["_law_deck_here", "_law_some"] S__law_pick) (k__law_draw : Ok P w K mg base 1 "_law_draw" s__law_draw ["_law_deck_here", "_law_many"] S__law_draw) (k__law_fraction : Ok P w K mg base 2 "_law_fraction" s__law_fraction ["_law_top", "_law_bottom"] S__law_fraction) : Ok P w K mg base 3 "_law_table" s__law_table ["_law_deck_here", "_law_n", "_law_bottoms"] S__law_table := by
  obtain ⟨f_s, fd_s, F_s, g_s⟩ := h__law_table
  obtain ⟨f__law_pick, fd__law_pick, F__law_pick, g__law_pick, b__law_pick, G__law_pick⟩ := k__law_pick
  obtain ⟨f__law_draw, fd__law_draw, F__law_draw, g__law_draw, b__law_draw, G__law_draw⟩ := k__law_draw
  obtain ⟨f__law_fraction, fd__law_fraction, F__law_fraction, g__law_fraction, b__law_fraction, G__law_fraction⟩ := k__law_fraction
  refine ⟨f_s, fd_s, F_s, g_s, F_s.binds (fun _ _ _ _ _ _ us hl => match us, hl with | [_, _, _], _ => rfl), FnG.of F_s sc__law_table (fun xs μ Q h => by first | exact h.1 | (obtain ⟨⟩ := h)) fun cdv A outer s H hr hgd => ⟨_, _, (pss_cons (ps_asg (pe_tup (pa_cons (pe_callG (G__law_pick.mono (by decide)) hr hgd (by rfl) g__law_pick F__law_pick.kp b__law_pick (pa_cons (pv 0) (pa_cons (pv 2) pa_nil))) (pa_cons (peLM (pe_lst pa_nil)) pa_nil))) (pg_tup (n := 2) rfl (pgs_cons (pg_name (i := 3) sc__law_table.nd rfl (Or.inr rfl)) (pgs_cons (pg_name (i := 4) sc__law_table.nd rfl (Or.inl rfl)) pgs_nil))))
 (pss_cons (ps_set (i := 5) sc__law_table.nd rfl (Or.inl rfl) (pv 3))
 (pss_cons (ps_for PassesOwn.never rfl (pi_range1 (by rfl) (B "range" (by decide)) (pa_cons (pe_op op_sub (pv 1) pe_int) pa_nil)) (pg_name (i := 6) sc__law_table.nd rfl (Or.inl rfl))
 (pss_cons (ps_expr (pe_bm PySem.F.plainAttrs_list PySem.F.slot_list_append PySem.F.type_list_append mt_append (pv 4) (pa_cons (pe_ifExp (pt_cmpR (op_eqX hr.units) (pe_callG (G__law_draw.mono (by decide)) hr hgd (by rfl) g__law_draw F__law_draw.kp b__law_draw (pa_cons (pv 0) (pa_cons pe_int pa_nil))) pe_int (nomark _)) (pe_callG (G__law_draw.mono (by decide)) hr hgd (by rfl) g__law_draw F__law_draw.kp b__law_draw (pa_cons (pv 0) (pa_cons (pe_op op_plus (pv 5) pe_int) pa_nil))) (pe_callB (cb_min2 rfl) (by rfl) (B "min" (by decide)) (by decide +kernel) (pa_cons (pv 5) (pa_cons (pe_callG (G__law_draw.mono (by decide)) hr hgd (by rfl) g__law_draw F__law_draw.kp b__law_draw (pa_cons (pv 0) (pa_cons (pe_op op_plus (pe_op op_divX (pe_op op_times pe_int (pv 3)) (pv 1)) pe_int) pa_nil))) pa_nil)))) pa_nil)))
 (pss_one (ps_set (i := 5) sc__law_table.nd rfl (Or.inl rfl) (pe_op op_sub (pv 5) (pe_ix ix_seq (pv 4) (pe_un un_neg pe_int) (fun _ _ => rfl)))))))
 (pss_cons (ps_expr (pe_bm PySem.F.plainAttrs_list PySem.F.slot_list_append PySem.F.type_list_append mt_append (pv 4) (pa_cons (pv 5) pa_nil)))
 (pss_cons (ps_set (i := 6) sc__law_table.nd rfl (Or.inl rfl) (pe_callG (G__law_draw.mono (by decide)) hr hgd (by rfl) g__law_draw F__law_draw.kp b__law_draw (pa_cons (pv 0) (pa_cons (pv 1) pa_nil))))
 (pss_cons (ps_asg (pe_tup (pa_cons (pe_ix ix_seq (pv 4) (pe_un un_neg pe_int) (fun _ _ => rfl)) (pa_cons (pe_ix ix_seq (pv 4) (pv 6) (fun _ _ => rfl)) pa_nil))) (pg_tup (n := 2) rfl (pgs_cons (pg_sub (pv 4) (pv 6) set_list) (pgs_cons (pg_sub (pv 4) (pe_un un_neg pe_int) set_list) pgs_nil))))
 (pss_one (ps_ret (pe_callTy cb_tup (by rfl) (B "tuple" (by decide)) (by decide +kernel) (pa_cons (pe_lc (own := [("_law_part", 7)]) (by rfl) sc__law_table.nd (pi_seqM (pv 4)) (blkOk_by (own := [("_law_part", 7)]) (N := N__law_table) (sc := defScope s__law_table) (by decide +kernel)) (fun _ _ _ _ _ => (pg_name (i := 7) sc__law_table.nd rfl (Or.inl rfl))) (fun _ _ _ _ _ => pts_nil) (fun _ _ _ _ _ => (pek_call K rfl (G__law_fraction.mono (by decide)) hr hgd (by rfl) g__law_fraction F__law_fraction.kp b__law_fraction (pa_cons (pv 7) (pa_cons (pv 3) pa_nil))))) pa_nil)))))))))), (by (try dsimp only [cxOf]); exact inferInstance), ?_⟩⟩
  intro xs μ Q hS
  obtain ⟨_, n, z, m, rest, x, Bs, rfl, hx, hD, n1, n8, hz, hB, hBl, hBb, hQ⟩ := hS
  rw [show startP N__law_table [.mr 1, .int n, x] = [some (.mr 1), some (.int n), some x, none, none, none, none, none] from rfl]
  refine stm_of fun R hR => ?_
  simp only [str_to, str_ot, mPar3, mLockV, mLockE, mItemsC, mKeysC, mDGet2, pIsN, isNonP, pRepLM, mTruD, dkOfP, pPopAt, pIndex, mLstRgM, mTruth, pReprA, pLenD, pLstD, mDNew, pRepL, mLenSetN, mDIn, mSortSet, mSortSetL, mRevT, mForC, mSeqC, mLcC, pAbs, pMax2, pMin2, pInt1, mDGet, mDPut, mBM, mBM0, pPop, pAppend, pExtend, pSetL, mSub, mDisp, mPs, mPs0, mRevL, mRevLM, pLstOfM, mTupRg, mRg1, mRg2, pPlusM, lstItems, dictOfP, keyP, keysP, val_left, val_mixed, val_draws, put_draws, mLc, mLcM, mLc2, mFor, mSeqI, mRng1, mRng2, mZip, mEnum, mSl, mNoPart, mPart, mSeq, mAsg, mAsg2, mCB, mCons, mNil, mVar, mC, mOp, mUn, pU, mTup, mLst, mRet, mRetN, mLstM, getl, setl, mName, mCall, mCallK, mIf, mIfS, mTest, mAnd, mOr, mNot, mYes, mAndV, mOrV, mNotV, mNext, mNever, mBreak, mCont, mDrop, mChain, mPar, mGTup, mGCons, mGNil, pGcd, pI, pI0, pIx, pTimes, pPlus, pEq, pNe, pLen, pSum, pMaxS, pAll, pAny, pTupOf, pLstOf, pIn, pIsB, pIsi, items_tup, items_lst, items_kl, items_mr, items_tab, items_lot, items_fr, decide_true, decide_false, eqP_int, eqP_bl, eqP_str, eqP_tup2, kit_tt, kit_ii, kit_ib, tyP, mEnd, wipeP, List.map_cons, List.map_nil, List.getElem?_cons_zero, List.getElem?_cons_succ, List.set_cons_zero, List.set_cons_succ, atI_zero, atI_one, if_true, if_false, ite_true, ite_false, Bool.false_eq_true, List.length_cons, List.length_nil, Bool.not_true, Bool.not_false, S__law_pick]
  refine ⟨trivial, x, _, m, rest, rfl, .inl hx, hD, by rw [List.length_map]; exact List.length_pos_iff.mpr hB, by rw [List.length_map]; exact hBl, fun v hv μ1 D1 => ?_⟩
  obtain ⟨b, hb, rfl⟩ := List.mem_map.mp hv
  obtain ⟨b1, b2⟩ := hBb b hb
  clear hv hx
  refine ⟨by decide, by decide, trivial, ?_⟩
  subst hR
  refine stm_of fun R1 hR1 => ?_
  simp only [str_to, str_ot, mPar3, mLockV, mLockE, mItemsC, mKeysC, mDGet2, pIsN, isNonP, pRepLM, mTruD, dkOfP, pPopAt, pIndex, mLstRgM, mTruth, pReprA, pLenD, pLstD, mDNew, pRepL, mLenSetN, mDIn, mSortSet, mSortSetL, mRevT, mForC, mSeqC, mLcC, pAbs, pMax2, pMin2, pInt1, mDGet, mDPut, mBM, mBM0, pPop, pAppend, pExtend, pSetL, mSub, mDisp, mPs, mPs0, mRevL, mRevLM, pLstOfM, mTupRg, mRg1, mRg2, pPlusM, lstItems, dictOfP, keyP, keysP, val_left, val_mixed, val_draws, put_draws, mLc, mLcM, mLc2, mFor, mSeqI, mRng1, mRng2, mZip, mEnum, mSl, mNoPart, mPart, mSeq, mAsg, mAsg2, mCB, mCons, mNil, mVar, mC, mOp, mUn, pU, mTup, mLst, mRet, mRetN, mLstM, getl, setl, mName, mCall, mCallK, mIf, mIfS, mTest, mAnd, mOr, mNot, mYes, mAndV, mOrV, mNotV, mNext, mNever, mBreak, mCont, mDrop, mChain, mPar, mGTup, mGCons, mGNil, pGcd, pI, pI0, pIx, pTimes, pPlus, pEq, pNe, pLen, pSum, pMaxS, pAll, pAny, pTupOf, pLstOf, pIn, pIsB, pIsi, items_tup, items_lst, items_kl, items_mr, items_tab, items_lot, items_fr, decide_true, decide_false, eqP_int, eqP_bl, eqP_str, eqP_tup2, kit_tt, kit_ii, kit_ib, tyP, mEnd, wipeP, List.map_cons, List.map_nil, List.getElem?_cons_zero, List.getElem?_cons_succ, List.set_cons_zero, List.set_cons_succ, atI_zero, atI_one, if_true, if_false, ite_true, ite_false, Bool.false_eq_true, List.length_cons, List.length_nil, Bool.not_true, Bool.not_false]
  subst hR1
  refine stm_of fun R2 hR2 => ?_
  simp only [str_to, str_ot, mPar3, mLockV, mLockE, mItemsC, mKeysC, mDGet2, pIsN, isNonP, pRepLM, mTruD, dkOfP, pPopAt, pIndex, mLstRgM, mTruth, pReprA, pLenD, pLstD, mDNew, pRepL, mLenSetN, mDIn, mSortSet, mSortSetL, mRevT, mForC, mSeqC, mLcC, pAbs, pMax2, pMin2, pInt1, mDGet, mDPut, mBM, mBM0, pPop, pAppend, pExtend, pSetL, mSub, mDisp, mPs, mPs0, mRevL, mRevLM, pLstOfM, mTupRg, mRg1, mRg2, pPlusM, lstItems, dictOfP, keyP, keysP, val_left, val_mixed, val_draws, put_draws, mLc, mLcM, mLc2, mFor, mSeqI, mRng1, mRng2, mZip, mEnum, mSl, mNoPart, mPart, mSeq, mAsg, mAsg2, mCB, mCons, mNil, mVar, mC, mOp, mUn, pU, mTup, mLst, mRet, mRetN, mLstM, getl, setl, mName, mCall, mCallK, mIf, mIfS, mTest, mAnd, mOr, mNot, mYes, mAndV, mOrV, mNotV, mNext, mNever, mBreak, mCont, mDrop, mChain, mPar, mGTup, mGCons, mGNil, pGcd, pI, pI0, pIx, pTimes, pPlus, pEq, pNe, pLen, pSum, pMaxS, pAll, pAny, pTupOf, pLstOf, pIn, pIsB, pIsi, items_tup, items_lst, items_kl, items_mr, items_tab, items_lot, items_fr, decide_true, decide_false, eqP_int, eqP_bl, eqP_str, eqP_tup2, kit_tt, kit_ii, kit_ib, tyP, mEnd, wipeP, List.map_cons, List.map_nil, List.getElem?_cons_zero, List.getElem?_cons_succ, List.set_cons_zero, List.set_cons_succ, atI_zero, atI_one, if_true, if_false, ite_true, ite_false, Bool.false_eq_true, List.length_cons, List.length_nil, Bool.not_true, Bool.not_false]
  have hml := D1.len
  have hd : ∀ y : Int, DivOk y (n : Nat) := fun y => .inl ⟨by omega, by have := log_lt (x := (n : Int)) (n := 4) (by rw [Int.natAbs_natCast]; omega); omega⟩
  have hb44 : b < 2 ^ 44 := Nat.lt_of_lt_of_le b2 (Nat.pow_le_pow_right (by decide) hz)
  have e44 : (2 : Nat) ^ 44 = 17592186044416 := by decide
  rw [hml, show ((n : Nat) : Int) - 1 = ((n - 1 : Nat) : Int) by omega, Int.toNat_natCast, rangeP_eq]
  refine ⟨⟨by omega, by omega⟩, for_inv (enc := fun (i : Nat) => PV.int i) (fun pre ρ μ' => ∃ (L : List Nat) (left : Nat) (y6 y7 : Option PV), ρ = [some (.mr 1), some (.int (n : Nat)), some x, some (.int (b : Nat)), some (.mr (rest.length + 0 + 2)), some (.int (left : Nat)), y6, y7] ∧ Dk m (rest ++ [.lst (L.map fun (p : Nat) => PV.int p)]) μ' ∧ L.length = pre.length ∧ L.sum + left = b) (done := []) ⟨[], b, _, _, rfl, D1.app _, rfl, by simp⟩ (fun pre i post ρ μ2 e hI N hN => ?_) fun ρ μ2 hI => ?_⟩
  · obtain ⟨L, left, y6, y7, rfl, D2, hL, hs⟩ := hI
    have hpl : pre.length < n := by
      have := congrArg List.length e
      simp at this
      omega
    have g2 := fun {ν : Store} (h : Dk m (rest ++ [.lst (L.map fun (p : Nat) => PV.int p)]) ν) => (cl_get h 0).trans (show [MO.lst (L.map fun (p : Nat) => PV.int p)][0]? = some (MO.lst (L.map fun (p : Nat) => PV.int p)) from rfl)
    show mSeq _ _ _ _ _
    refine stm_of fun R3 hR3 => ?_
    have hdone : ∀ (v : Int) (ν : Store), 0 ≤ v → v ≤ left → Dk m (rest ++ [.lst (L.map fun (p : Nat) => PV.int p)]) ν → R3 [some (.mr 1), some (.int (n : Nat)), some x, some (.int (b : Nat)), some (.mr (rest.length + 0 + 2)), some (.int (left : Nat)), some (.int (i : Nat)), y7] (ν.set (rest.length + 0 + 2) (.lst ((L.map fun (p : Nat) => PV.int p) ++ [.int v]))) := by
      intro v ν v0 v1 D
      obtain ⟨v, rfl⟩ : ∃ j : Nat, v = (j : Int) := ⟨v.toNat, by omega⟩
      have D' := cl_set D 0 (.lst ((L.map fun (p : Nat) => PV.int p) ++ [.int (v : Nat)]))
      have g' := (cl_get D' 0).trans (show [MO.lst ((L.map fun (p : Nat) => PV.int p) ++ [.int (v : Nat)])][0]? = some (MO.lst ((L.map fun (p : Nat) => PV.int p) ++ [.int (v : Nat)])) from rfl)
      subst hR3
      simp only [str_to, str_ot, mPar3, mLockV, mLockE, mItemsC, mKeysC, mDGet2, pIsN, isNonP, pRepLM, mTruD, dkOfP, pPopAt, pIndex, mLstRgM, mTruth, pReprA, pLenD, pLstD, mDNew, pRepL, mLenSetN, mDIn, mSortSet, mSortSetL, mRevT, mForC, mSeqC, mLcC, pAbs, pMax2, pMin2, pInt1, mDGet, mDPut, mBM, mBM0, pPop, pAppend, pExtend, pSetL, mSub, mDisp, mPs, mPs0, mRevL, mRevLM, pLstOfM, mTupRg, mRg1, mRg2, pPlusM, lstItems, dictOfP, keyP, keysP, val_left, val_mixed, val_draws, put_draws, mLc, mLcM, mLc2, mFor, mSeqI, mRng1, mRng2, mZip, mEnum, mSl, mNoPart, mPart, mSeq, mAsg, mAsg2, mCB, mCons, mNil, mVar, mC, mOp, mUn, pU, mTup, mLst, mRet, mRetN, mLstM, getl, setl, mName, mCall, mCallK, mIf, mIfS, mTest, mAnd, mOr, mNot, mYes, mAndV, mOrV, mNotV, mNext, mNever, mBreak, mCont, mDrop, mChain, mPar, mGTup, mGCons, mGNil, pGcd, pI, pI0, pIx, pTimes, pPlus, pEq, pNe, pLen, pSum, pMaxS, pAll, pAny, pTupOf, pLstOf, pIn, pIsB, pIsi, items_tup, items_lst, items_kl, items_mr, items_tab, items_lot, items_fr, decide_true, decide_false, eqP_int, eqP_bl, eqP_str, eqP_tup2, kit_tt, kit_ii, kit_ib, tyP, mEnd, wipeP, List.map_cons, List.map_nil, List.getElem?_cons_zero, List.getElem?_cons_succ, List.set_cons_zero, List.set_cons_succ, atI_zero, atI_one, if_true, if_false, ite_true, ite_false, Bool.false_eq_true, List.length_cons, List.length_nil, Bool.not_true, Bool.not_false, g', atI_last]
      rw [show ((left : Nat) : Int) - (v : Int) = ((left - v : Nat) : Int) by omega]
      refine hN _ _ ⟨L ++ [v], left - v, _, _, rfl, ?_, by rw [List.length_append, List.length_append, hL]; rfl, by rw [List.sum_append]; simp; omega⟩
      rw [List.map_append]
      exact D'
    simp only [str_to, str_ot, mPar3, mLockV, mLockE, mItemsC, mKeysC, mDGet2, pIsN, isNonP, pRepLM, mTruD, dkOfP, pPopAt, pIndex, mLstRgM, mTruth, pReprA, pLenD, pLstD, mDNew, pRepL, mLenSetN, mDIn, mSortSet, mSortSetL, mRevT, mForC, mSeqC, mLcC, pAbs, pMax2, pMin2, pInt1, mDGet, mDPut, mBM, mBM0, pPop, pAppend, pExtend, pSetL, mSub, mDisp, mPs, mPs0, mRevL, mRevLM, pLstOfM, mTupRg, mRg1, mRg2, pPlusM, lstItems, dictOfP, keyP, keysP, val_left, val_mixed, val_draws, put_draws, mLc, mLcM, mLc2, mFor, mSeqI, mRng1, mRng2, mZip, mEnum, mSl, mNoPart, mPart, mSeq, mAsg, mAsg2, mCB, mCons, mNil, mVar, mC, mOp, mUn, pU, mTup, mLst, mRet, mRetN, mLstM, getl, setl, mName, mCall, mCallK, mIf, mIfS, mTest, mAnd, mOr, mNot, mYes, mAndV, mOrV, mNotV, mNext, mNever, mBreak, mCont, mDrop, mChain, mPar, mGTup, mGCons, mGNil, pGcd, pI, pI0, pIx, pTimes, pPlus, pEq, pNe, pLen, pSum, pMaxS, pAll, pAny, pTupOf, pLstOf, pIn, pIsB, pIsi, items_tup, items_lst, items_kl, items_mr, items_tab, items_lot, items_fr, decide_true, decide_false, eqP_int, eqP_bl, eqP_str, eqP_tup2, kit_tt, kit_ii, kit_ib, tyP, mEnd, wipeP, List.map_cons, List.map_nil, List.getElem?_cons_zero, List.getElem?_cons_succ, List.set_cons_zero, List.set_cons_succ, atI_zero, atI_one, if_true, if_false, ite_true, ite_false, Bool.false_eq_true, List.length_cons, List.length_nil, Bool.not_true, Bool.not_false, g2 D2, S__law_draw]
    have hLl : (L.map fun (p : Nat) => PV.int p).length ≤ lim := by rw [List.length_map]; unfold lim; omega
    refine ⟨trivial, 3, m, _, rfl, D2, by decide, by decide, fun y μ3 y0 y1 D3 => ?_⟩
    split
    · refine ⟨trivial, _, m, _, rfl, D3, by omega, by omega, fun v μ4 v0 v1 D4 => ?_⟩
      rw [g2 D4]
      exact ⟨hLl, hdone v _ v0 (by omega) D4⟩
    · have hq : (0 : Int) ≤ (2 * ((b : Nat) : Int)).fdiv (n : Nat) ∧ (2 * ((b : Nat) : Int)).fdiv (n : Nat) ≤ 2 * b := by
        rw [show 2 * ((b : Nat) : Int) = ((2 * b : Nat) : Int) by omega, fdivN]
        exact ⟨Int.natCast_nonneg _, Int.ofNat_le.mpr (Nat.div_le_self (2 * b) n)⟩
      refine ⟨mulL (by decide) (by decide), hd _, trivial, _, m, _, rfl, D3, by omega, by omega, fun v μ4 v0 v1 D4 => ?_⟩
      rw [g2 D4]
      refine ⟨hLl, ?_⟩
      split
      · exact hdone v _ v0 (by omega) D4
      · exact hdone left _ (by omega) (by omega) D4
  · obtain ⟨L, left, y6, y7, rfl, D2, hL, hs⟩ := hI
    rw [List.nil_append, List.length_range] at hL
    have g2 := (cl_get D2 0).trans (show [MO.lst (L.map fun (p : Nat) => PV.int p)][0]? = some (MO.lst (L.map fun (p : Nat) => PV.int p)) from rfl)
    show R2 _ _
    subst hR2
    refine stm_of fun R3 hR3 => ?_
    simp only [str_to, str_ot, mPar3, mLockV, mLockE, mItemsC, mKeysC, mDGet2, pIsN, isNonP, pRepLM, mTruD, dkOfP, pPopAt, pIndex, mLstRgM, mTruth, pReprA, pLenD, pLstD, mDNew, pRepL, mLenSetN, mDIn, mSortSet, mSortSetL, mRevT, mForC, mSeqC, mLcC, pAbs, pMax2, pMin2, pInt1, mDGet, mDPut, mBM, mBM0, pPop, pAppend, pExtend, pSetL, mSub, mDisp, mPs, mPs0, mRevL, mRevLM, pLstOfM, mTupRg, mRg1, mRg2, pPlusM, lstItems, dictOfP, keyP, keysP, val_left, val_mixed, val_draws, put_draws, mLc, mLcM, mLc2, mFor, mSeqI, mRng1, mRng2, mZip, mEnum, mSl, mNoPart, mPart, mSeq, mAsg, mAsg2, mCB, mCons, mNil, mVar, mC, mOp, mUn, pU, mTup, mLst, mRet, mRetN, mLstM, getl, setl, mName, mCall, mCallK, mIf, mIfS, mTest, mAnd, mOr, mNot, mYes, mAndV, mOrV, mNotV, mNext, mNever, mBreak, mCont, mDrop, mChain, mPar, mGTup, mGCons, mGNil, pGcd, pI, pI0, pIx, pTimes, pPlus, pEq, pNe, pLen, pSum, pMaxS, pAll, pAny, pTupOf, pLstOf, pIn, pIsB, pIsi, items_tup, items_lst, items_kl, items_mr, items_tab, items_lot, items_fr, decide_true, decide_false, eqP_int, eqP_bl, eqP_str, eqP_tup2, kit_tt, kit_ii, kit_ib, tyP, mEnd, wipeP, List.map_cons, List.map_nil, List.getElem?_cons_zero, List.getElem?_cons_succ, List.set_cons_zero, List.set_cons_succ, atI_zero, atI_one, if_true, if_false, ite_true, ite_false, Bool.false_eq_true, List.length_cons, List.length_nil, Bool.not_true, Bool.not_false, g2]
    have hLl : (L.map fun (p : Nat) => PV.int p).length ≤ lim := by rw [List.length_map]; unfold lim; omega
    refine ⟨hLl, ?_⟩
    have D3 := cl_set D2 0 (.lst ((L ++ [left]).map fun (p : Nat) => PV.int p))
    have e1 : (L.map fun (p : Nat) => PV.int p) ++ [PV.int (left : Nat)] = (L ++ [left]).map fun (p : Nat) => PV.int p := by rw [List.map_append]; rfl
    rw [e1]
    have hLn : (L ++ [left]).length = n := by rw [List.length_append, List.length_singleton]; omega
    have hsum : (L ++ [left]).sum = b := by rw [List.sum_append]; simp; omega
    generalize L ++ [left] = F at *
    clear g2 D2 hs hL e1 hLl
    generalize μ2.set (rest.length + 0 + 2) (MO.lst (F.map fun (p : Nat) => PV.int p)) = ν at *
    have D3 : Dk m (rest ++ [.lst (F.map fun (p : Nat) => PV.int p)]) ν := D3
    subst hR3
    refine stm_of fun R4 hR4 => ?_
    simp only [str_to, str_ot, mPar3, mLockV, mLockE, mItemsC, mKeysC, mDGet2, pIsN, isNonP, pRepLM, mTruD, dkOfP, pPopAt, pIndex, mLstRgM, mTruth, pReprA, pLenD, pLstD, mDNew, pRepL, mLenSetN, mDIn, mSortSet, mSortSetL, mRevT, mForC, mSeqC, mLcC, pAbs, pMax2, pMin2, pInt1, mDGet, mDPut, mBM, mBM0, pPop, pAppend, pExtend, pSetL, mSub, mDisp, mPs, mPs0, mRevL, mRevLM, pLstOfM, mTupRg, mRg1, mRg2, pPlusM, lstItems, dictOfP, keyP, keysP, val_left, val_mixed, val_draws, put_draws, mLc, mLcM, mLc2, mFor, mSeqI, mRng1, mRng2, mZip, mEnum, mSl, mNoPart, mPart, mSeq, mAsg, mAsg2, mCB, mCons, mNil, mVar, mC, mOp, mUn, pU, mTup, mLst, mRet, mRetN, mLstM, getl, setl, mName, mCall, mCallK, mIf, mIfS, mTest, mAnd, mOr, mNot, mYes, mAndV, mOrV, mNotV, mNext, mNever, mBreak, mCont, mDrop, mChain, mPar, mGTup, mGCons, mGNil, pGcd, pI, pI0, pIx, pTimes, pPlus, pEq, pNe, pLen, pSum, pMaxS, pAll, pAny, pTupOf, pLstOf, pIn, pIsB, pIsi, items_tup, items_lst, items_kl, items_mr, items_tab, items_lot, items_fr, decide_true, decide_false, eqP_int, eqP_bl, eqP_str, eqP_tup2, kit_tt, kit_ii, kit_ib, tyP, mEnd, wipeP, List.map_cons, List.map_nil, List.getElem?_cons_zero, List.getElem?_cons_succ, List.set_cons_zero, List.set_cons_succ, atI_zero, atI_one, if_true, if_false, ite_true, ite_false, Bool.false_eq_true, List.length_cons, List.length_nil, Bool.not_true, Bool.not_false, S__law_draw]
    refine ⟨trivial, _, m, _, rfl, D3, by omega, by omega, fun y μ3 y0 y1 D4 => ?_⟩
    obtain ⟨j, rfl⟩ : ∃ j : Nat, y = (j : Int) := ⟨y.toNat, by omega⟩
    have hj : j < F.length := by omega
    have hl : n - 1 < F.length := by omega
    have g4 := (cl_get D4 0).trans (show [MO.lst (F.map fun (p : Nat) => PV.int p)][0]? = some (MO.lst (F.map fun (p : Nat) => PV.int p)) from rfl)
    have a1 : L2.atI (F.map fun (p : Nat) => PV.int p) (-1) = some (.int (F[n - 1] : Nat)) := by
      unfold L2.atI
      rw [List.length_map, hLn, ixN_last n1]
      show (F.map fun (p : Nat) => PV.int p)[n - 1]? = _
      rw [List.getElem?_map, List.getElem?_eq_getElem hl]; rfl
    have a2 : L2.atI (F.map fun (p : Nat) => PV.int p) (j : Int) = some (.int (F[j] : Nat)) := by
      refine atI_some ?_
      rw [List.getElem?_map, List.getElem?_eq_getElem hj]; rfl
    subst hR4
    refine stm_of fun R5 hR5 => ?_
    have D5 := cl_set D4 0 (.lst ((F.set j F[n - 1]).map fun (p : Nat) => PV.int p))
    have g5 := (cl_get D5 0).trans (show [MO.lst ((F.set j F[n - 1]).map fun (p : Nat) => PV.int p)][0]? = some (MO.lst ((F.set j F[n - 1]).map fun (p : Nat) => PV.int p)) from rfl)
    simp only [str_to, str_ot, mPar3, mLockV, mLockE, mItemsC, mKeysC, mDGet2, pIsN, isNonP, pRepLM, mTruD, dkOfP, pPopAt, pIndex, mLstRgM, mTruth, pReprA, pLenD, pLstD, mDNew, pRepL, mLenSetN, mDIn, mSortSet, mSortSetL, mRevT, mForC, mSeqC, mLcC, pAbs, pMax2, pMin2, pInt1, mDGet, mDPut, mBM, mBM0, pPop, pAppend, pExtend, pSetL, mSub, mDisp, mPs, mPs0, mRevL, mRevLM, pLstOfM, mTupRg, mRg1, mRg2, pPlusM, lstItems, dictOfP, keyP, keysP, val_left, val_mixed, val_draws, put_draws, mLc, mLcM, mLc2, mFor, mSeqI, mRng1, mRng2, mZip, mEnum, mSl, mNoPart, mPart, mSeq, mAsg, mAsg2, mCB, mCons, mNil, mVar, mC, mOp, mUn, pU, mTup, mLst, mRet, mRetN, mLstM, getl, setl, mName, mCall, mCallK, mIf, mIfS, mTest, mAnd, mOr, mNot, mYes, mAndV, mOrV, mNotV, mNext, mNever, mBreak, mCont, mDrop, mChain, mPar, mGTup, mGCons, mGNil, pGcd, pI, pI0, pIx, pTimes, pPlus, pEq, pNe, pLen, pSum, pMaxS, pAll, pAny, pTupOf, pLstOf, pIn, pIsB, pIsi, items_tup, items_lst, items_kl, items_mr, items_tab, items_lot, items_fr, decide_true, decide_false, eqP_int, eqP_bl, eqP_str, eqP_tup2, kit_tt, kit_ii, kit_ib, tyP, mEnd, wipeP, List.map_cons, List.map_nil, List.getElem?_cons_zero, List.getElem?_cons_succ, List.set_cons_zero, List.set_cons_succ, atI_zero, atI_one, if_true, if_false, ite_true, ite_false, Bool.false_eq_true, List.length_cons, List.length_nil, Bool.not_true, Bool.not_false, g4, a1, a2, List.length_map, ixN_nat hj, set_map (fun (p : Nat) => PV.int p), g5]
    rw [List.length_set, hLn, ixN_last n1]
    refine ⟨by decide, trivial, ?_⟩
    simp only
    have D6 := cl_set D5 0 (.lst (((F.set j F[n - 1]).set (n - 1) F[j]).map fun (p : Nat) => PV.int p))
    have D6 : Dk m (rest ++ [.lst (((F.set j F[n - 1]).set (n - 1) F[j]).map fun (p : Nat) => PV.int p)]) _ := D6
    have hperm := List.set_set_perm hj hl
    have hs2 := hperm.sum_nat
    have hl2 := hperm.length_eq
    rw [hsum] at hs2
    rw [hLn] at hl2
    generalize (F.set j F[n - 1]).set (n - 1) F[j] = F2 at *
    generalize ((μ3.set (rest.length + 0 + 2) (MO.lst ((F.set j F[n - 1]).map fun (p : Nat) => PV.int p))).set (rest.length + 0 + 2) (MO.lst (F2.map fun (p : Nat) => PV.int p))) = ν6 at *
    have g6 := (cl_get D6 0).trans (show [MO.lst (F2.map fun (p : Nat) => PV.int p)][0]? = some (MO.lst (F2.map fun (p : Nat) => PV.int p)) from rfl)
    subst hR5
    simp only [str_to, str_ot, mPar3, mLockV, mLockE, mItemsC, mKeysC, mDGet2, pIsN, isNonP, pRepLM, mTruD, dkOfP, pPopAt, pIndex, mLstRgM, mTruth, pReprA, pLenD, pLstD, mDNew, pRepL, mLenSetN, mDIn, mSortSet, mSortSetL, mRevT, mForC, mSeqC, mLcC, pAbs, pMax2, pMin2, pInt1, mDGet, mDPut, mBM, mBM0, pPop, pAppend, pExtend, pSetL, mSub, mDisp, mPs, mPs0, mRevL, mRevLM, pLstOfM, mTupRg, mRg1, mRg2, pPlusM, lstItems, dictOfP, keyP, keysP, val_left, val_mixed, val_draws, put_draws, mLc, mLcM, mLc2, mFor, mSeqI, mRng1, mRng2, mZip, mEnum, mSl, mNoPart, mPart, mSeq, mAsg, mAsg2, mCB, mCons, mNil, mVar, mC, mOp, mUn, pU, mTup, mLst, mRet, mRetN, mLstM, getl, setl, mName, mCall, mCallK, mIf, mIfS, mTest, mAnd, mOr, mNot, mYes, mAndV, mOrV, mNotV, mNext, mNever, mBreak, mCont, mDrop, mChain, mPar, mGTup, mGCons, mGNil, pGcd, pI, pI0, pIx, pTimes, pPlus, pEq, pNe, pLen, pSum, pMaxS, pAll, pAny, pTupOf, pLstOf, pIn, pIsB, pIsi, items_tup, items_lst, items_kl, items_mr, items_tab, items_lot, items_fr, decide_true, decide_false, eqP_int, eqP_bl, eqP_str, eqP_tup2, kit_tt, kit_ii, kit_ib, tyP, mEnd, wipeP, List.map_cons, List.map_nil, List.getElem?_cons_zero, List.getElem?_cons_succ, List.set_cons_zero, List.set_cons_succ, atI_zero, atI_one, if_true, if_false, ite_true, ite_false, Bool.false_eq_true, List.length_cons, List.length_nil, Bool.not_true, Bool.not_false, g6]
    refine ⟨by decide, by rw [List.length_map]; unfold lim; omega, lcC_map (enc := fun (p : Nat) => PV.int p) (out := fun (p : Nat) => frP (Rat.divInt (p : Nat) (b : Nat))) g6 (fun p hp k hk => ?_) ?_⟩
    · simp only [str_to, str_ot, mPar3, mLockV, mLockE, mItemsC, mKeysC, mDGet2, pIsN, isNonP, pRepLM, mTruD, dkOfP, pPopAt, pIndex, mLstRgM, mTruth, pReprA, pLenD, pLstD, mDNew, pRepL, mLenSetN, mDIn, mSortSet, mSortSetL, mRevT, mForC, mSeqC, mLcC, pAbs, pMax2, pMin2, pInt1, mDGet, mDPut, mBM, mBM0, pPop, pAppend, pExtend, pSetL, mSub, mDisp, mPs, mPs0, mRevL, mRevLM, pLstOfM, mTupRg, mRg1, mRg2, pPlusM, lstItems, dictOfP, keyP, keysP, val_left, val_mixed, val_draws, put_draws, mLc, mLcM, mLc2, mFor, mSeqI, mRng1, mRng2, mZip, mEnum, mSl, mNoPart, mPart, mSeq, mAsg, mAsg2, mCB, mCons, mNil, mVar, mC, mOp, mUn, pU, mTup, mLst, mRet, mRetN, mLstM, getl, setl, mName, mCall, mCallK, mIf, mIfS, mTest, mAnd, mOr, mNot, mYes, mAndV, mOrV, mNotV, mNext, mNever, mBreak, mCont, mDrop, mChain, mPar, mGTup, mGCons, mGNil, pGcd, pI, pI0, pIx, pTimes, pPlus, pEq, pNe, pLen, pSum, pMaxS, pAll, pAny, pTupOf, pLstOf, pIn, pIsB, pIsi, items_tup, items_lst, items_kl, items_mr, items_tab, items_lot, items_fr, decide_true, decide_false, eqP_int, eqP_bl, eqP_str, eqP_tup2, kit_tt, kit_ii, kit_ib, tyP, mEnd, wipeP, List.map_cons, List.map_nil, List.getElem?_cons_zero, List.getElem?_cons_succ, List.set_cons_zero, List.set_cons_succ, atI_zero, atI_one, if_true, if_false, ite_true, ite_false, Bool.false_eq_true, List.length_cons, List.length_nil, Bool.not_true, Bool.not_false, S__law_fraction]
      refine ⟨trivial, _, _, rfl, by omega, ?_, hk⟩
      rw [Int.natAbs_natCast]
      exact Nat.lt_of_lt_of_le hb44 (Nat.pow_le_pow_right (by decide) (by decide))
    · rw [List.nil_append]
      have hT := parts_tab hl2 n1 n8 hs2 b1 b2
      have e9 : PV.tup (F2.map fun (p : Nat) => frP (Rat.divInt (p : Nat) (b : Nat))) = tabP (F2.map fun (p : Nat) => Rat.divInt (p : Nat) (b : Nat)) := by
        unfold tabP; rw [List.map_map]; rfl
      rw [e9]
      exact fin_keep (hQ _ _ _ hT (by rw [List.length_map]; exact hl2) D6)
abbrev N__law_plus : List Str := ["_law_one", "_law_other"]
theorem sc__law_plus : FnScope N__law_plus ["_law_one", "_law_other"] (defScope s__law_plus) := ⟨rfl, rfl, rfl, by decide +kernel, rfl, by decide +kernel, by decide +kernel⟩
theorem ok__law_plus (B : Blt mg) (h__law_plus : Own K mg "_law_plus" s__law_plus) (k__law_fraction : Ok P w K mg base 2 "_law_fraction" s__law_fraction ["_law_top", "_law_bottom"] S__law_fraction) : Ok P w K mg base 3 "_law_plus" s__law_plus ["_law_one", "_law_other"] S__law_plus := by
  obtain ⟨f_s, fd_s, F_s, g_s⟩ := h__law_plus
  obtain ⟨f__law_fraction, fd__law_fraction, F__law_fraction, g__law_fraction, b__law_fraction, G__law_fraction⟩ := k__law_fraction
  refine ⟨f_s, fd_s, F_s, g_s, F_s.binds (fun _ _ _ _ _ _ us hl => match us, hl with | [_, _], _ => rfl), FnG.of F_s sc__law_plus (fun xs μ Q h => by first | exact h.1 | (obtain ⟨⟩ := h)) fun cdv A outer s H hr hgd => ⟨_, _, (pss_one (ps_ret (pe_callG (G__law_fraction.mono (by decide)) hr hgd (by rfl) g__law_fraction F__law_fraction.kp b__law_fraction (pa_cons (pe_op op_plus (pe_op op_times (pe_ix ix_seq (pv 0) pe_int (fun _ _ => rfl)) (pe_ix ix_seq (pv 1) pe_int (fun _ _ => rfl))) (pe_op op_times (pe_ix ix_seq (pv 1) pe_int (fun _ _ => rfl)) (pe_ix ix_seq (pv 0) pe_int (fun _ _ => rfl)))) (pa_cons (pe_op op_times (pe_ix ix_seq (pv 0) pe_int (fun _ _ => rfl)) (pe_ix ix_seq (pv 1) pe_int (fun _ _ => rfl))) pa_nil))))), (by (try dsimp only [cxOf]); exact inferInstance), ?_⟩⟩
  intro xs μ Q hS
  obtain ⟨_, p, q, rfl, hp, hq, hQ⟩ := hS
  rw [show startP N__law_plus [frP p, frP q] = [some (frP p), some (frP q)] from rfl]
  obtain ⟨m1, m2, m3, m4⟩ := fr_mul hp hq
  obtain ⟨n1, n2, n3, n4⟩ := fr_mul hq hp
  simp only [str_to, str_ot, mPar3, mLockV, mLockE, mItemsC, mKeysC, mDGet2, pIsN, isNonP, pRepLM, mTruD, dkOfP, pPopAt, pIndex, mLstRgM, mTruth, pReprA, pLenD, pLstD, mDNew, pRepL, mLenSetN, mDIn, mSortSet, mSortSetL, mRevT, mForC, mSeqC, mLcC, pAbs, pMax2, pMin2, pInt1, mDGet, mDPut, mBM, mBM0, pPop, pAppend, pExtend, pSetL, mSub, mDisp, mPs, mPs0, mRevL, mRevLM, pLstOfM, mTupRg, mRg1, mRg2, pPlusM, lstItems, dictOfP, keyP, keysP, val_left, val_mixed, val_draws, put_draws, mLc, mLcM, mLc2, mFor, mSeqI, mRng1, mRng2, mZip, mEnum, mSl, mNoPart, mPart, mSeq, mAsg, mAsg2, mCB, mCons, mNil, mVar, mC, mOp, mUn, pU, mTup, mLst, mRet, mRetN, mLstM, getl, setl, mName, mCall, mCallK, mIf, mIfS, mTest, mAnd, mOr, mNot, mYes, mAndV, mOrV, mNotV, mNext, mNever, mBreak, mCont, mDrop, mChain, mPar, mGTup, mGCons, mGNil, pGcd, pI, pI0, pIx, pTimes, pPlus, pEq, pNe, pLen, pSum, pMaxS, pAll, pAny, pTupOf, pLstOf, pIn, pIsB, pIsi, items_tup, items_lst, items_kl, items_mr, items_tab, items_lot, items_fr, decide_true, decide_false, eqP_int, eqP_bl, eqP_str, eqP_tup2, kit_tt, kit_ii, kit_ib, tyP, mEnd, wipeP, List.map_cons, List.map_nil, List.getElem?_cons_zero, List.getElem?_cons_succ, List.set_cons_zero, List.set_cons_succ, atI_zero, atI_one, if_true, if_false, ite_true, ite_false, Bool.false_eq_true, List.length_cons, List.length_nil, Bool.not_true, Bool.not_false, frP, S__law_fraction]
  refine ⟨m2, n2, m4, trivial, _, _, rfl, Int.mul_pos (den_pos p) (den_pos q), ?_, ?_⟩
  · exact Nat.lt_of_lt_of_le (natAbs_mul_lt (x := (p.den : Int)) (y := (q.den : Int)) (by simpa using hp.2) (by simpa using hq.2)) (Nat.pow_le_pow_right (by decide) (by decide))
  · rw [← add_eq]
    exact fin_keep hQ
abbrev N__law_times : List Str := ["_law_one", "_law_other"]
theorem sc__law_times : FnScope N__law_times ["_law_one", "_law_other"] (defScope s__law_times) := ⟨rfl, rfl, rfl, by decide +kernel, rfl, by decide +kernel, by decide +kernel⟩
theorem ok__law_times (B : Blt mg) (h__law_times : Own K mg "_law_times" s__law_times) (k__law_fraction : Ok P w K mg base 2 "_law_fraction" s__law_fraction ["_law_top", "_law_bottom"] S__law_fraction) : Ok P w K mg base 3 "_law_times" s__law_times ["_law_one", "_law_other"] S__law_times := by
  obtain ⟨f_s, fd_s, F_s, g_s⟩ := h__law_times
  obtain ⟨f__law_fraction, fd__law_fraction, F__law_fraction, g__law_fraction, b__law_fraction, G__law_fraction⟩ := k__law_fraction
  refine ⟨f_s, fd_s, F_s, g_s, F_s.binds (fun _ _ _ _ _ _ us hl => match us, hl with | [_, _], _ => rfl), FnG.of F_s sc__law_times (fun xs μ Q h => by first | exact h.1 | (obtain ⟨⟩ := h)) fun cdv A outer s H hr hgd => ⟨_, _, (pss_one (ps_ret (pe_callG (G__law_fraction.mono (by decide)) hr hgd (by rfl) g__law_fraction F__law_fraction.kp b__law_fraction (pa_cons (pe_op op_times (pe_ix ix_seq (pv 0) pe_int (fun _ _ => rfl)) (pe_ix ix_seq (pv 1) pe_int (fun _ _ => rfl))) (pa_cons (pe_op op_times (pe_ix ix_seq (pv 0) pe_int (fun _ _ => rfl)) (pe_ix ix_seq (pv 1) pe_int (fun _ _ => rfl))) pa_nil))))), (by (try dsimp only [cxOf]); exact inferInstance), ?_⟩⟩
  intro xs μ Q hS
  obtain ⟨_, p, q, rfl, hp, hq, hQ⟩ := hS
  rw [show startP N__law_times [frP p, frP q] = [some (frP p), some (frP q)] from rfl]
  obtain ⟨m1, m2, m3, m4⟩ := fr_mul hp hq
  simp only [str_to, str_ot, mPar3, mLockV, mLockE, mItemsC, mKeysC, mDGet2, pIsN, isNonP, pRepLM, mTruD, dkOfP, pPopAt, pIndex, mLstRgM, mTruth, pReprA, pLenD, pLstD, mDNew, pRepL, mLenSetN, mDIn, mSortSet, mSortSetL, mRevT, mForC, mSeqC, mLcC, pAbs, pMax2, pMin2, pInt1, mDGet, mDPut, mBM, mBM0, pPop, pAppend, pExtend, pSetL, mSub, mDisp, mPs, mPs0, mRevL, mRevLM, pLstOfM, mTupRg, mRg1, mRg2, pPlusM, lstItems, dictOfP, keyP, keysP, val_left, val_mixed, val_draws, put_draws, mLc, mLcM, mLc2, mFor, mSeqI, mRng1, mRng2, mZip, mEnum, mSl, mNoPart, mPart, mSeq, mAsg, mAsg2, mCB, mCons, mNil, mVar, mC, mOp, mUn, pU, mTup, mLst, mRet, mRetN, mLstM, getl, setl, mName, mCall, mCallK, mIf, mIfS, mTest, mAnd, mOr, mNot, mYes, mAndV, mOrV, mNotV, mNext, mNever, mBreak, mCont, mDrop, mChain, mPar, mGTup, mGCons, mGNil, pGcd, pI, pI0, pIx, pTimes, pPlus, pEq, pNe, pLen, pSum, pMaxS, pAll, pAny, pTupOf, pLstOf, pIn, pIsB, pIsi, items_tup, items_lst, items_kl, items_mr, items_tab, items_lot, items_fr, decide_true, decide_false, eqP_int, eqP_bl, eqP_str, eqP_tup2, kit_tt, kit_ii, kit_ib, tyP, mEnd, wipeP, List.map_cons, List.map_nil, List.getElem?_cons_zero, List.getElem?_cons_succ, List.set_cons_zero, List.set_cons_succ, atI_zero, atI_one, if_true, if_false, ite_true, ite_false, Bool.false_eq_true, List.length_cons, List.length_nil, Bool.not_true, Bool.not_false, frP, S__law_fraction]
  refine ⟨m1, m4, trivial, _, _, rfl, Int.mul_pos (den_pos p) (den_pos q), ?_, ?_⟩
  · exact Nat.lt_of_lt_of_le (natAbs_mul_lt (x := (p.den : Int)) (y := (q.den : Int)) (by simpa using hp.2) (by simpa using hq.2)) (Nat.pow_le_pow_right (by decide) (by decide))
  · rw [← mul_eq]
    exact fin_keep hQ
abbrev N_are_integers : List Str := ["thing", "low", "high", "item"]
theorem sc_are_integers : FnScope N_are_integers ["thing", "low", "high"] (defScope s_are_integers) := ⟨rfl, rfl, rfl, by decide +kernel, rfl, by decide +kernel, by decide +kernel⟩
theorem ok_are_integers (B : Blt mg) (h_are_integers : Own K mg "are_integers" s_are_integers) (k_is_within : Ok P w K mg base 2 "is_within" s_is_within ["thing", "low", "high"] S_is_within) : Ok P w K mg base 3 "are_integers" s_are_integers ["thing", "low", "high"] S_are_integers := by
  obtain ⟨f_s, fd_s, F_s, g_s⟩ := h_are_integers
  obtain ⟨f_is_within, fd_is_within, F_is_within, g_is_within, b_is_within, G_is_within⟩ := k_is_within
  refine ⟨f_s, fd_s, F_s, g_s, F_s.binds (fun _ _ _ _ _ _ us hl => match us, hl with | [_, _, _], _ => rfl), FnG.of F_s sc_are_integers (fun xs μ Q h => by first | exact h.1 | (obtain ⟨⟩ := h)) fun cdv A outer s H hr hgd => ⟨_, _, (pss_one (ps_ret (pe_and (pe_callB call_isi (by rfl) (B "isinstance" (by decide)) (by decide +kernel) (pa_cons (pv 0) (pa_cons (pe_bltn (v := .ty "tuple") (u := .type "tuple") (by rfl) (B "tuple" (by decide)) (by decide +kernel) rfl) pa_nil))) (pe_one (pe_callB (cr_all rfl) (by rfl) (B "all" (by decide)) (by decide +kernel) (pa_cons (pe_lc (own := [("item", 3)]) (by rfl) sc_are_integers.nd (pi_seq (pv 0)) (blkOk_by (own := [("item", 3)]) (N := N_are_integers) (sc := defScope s_are_integers) (by decide +kernel)) (fun _ _ _ _ _ => (pg_name (i := 3) sc_are_integers.nd rfl (Or.inl rfl))) (fun _ _ _ _ _ => pts_nil) (fun _ _ _ _ _ => (pek_call K rfl (G_is_within.mono (by decide)) hr hgd (by rfl) g_is_within F_is_within.kp b_is_within (pa_cons (pv 3) (pa_cons (pv 1) (pa_cons (pv 2) pa_nil)))))) pa_nil)))))), (by (try dsimp only [cxOf]); exact inferInstance), ?_⟩⟩
  intro xs μ Q hS
  obtain ⟨_, vs, lo, hi, rfl, hl, hQ⟩ := hS
  rw [show startP N_are_integers [.tup (vs.map PV.int), .int lo, .int hi] = [some (.tup (vs.map PV.int)), some (.int lo), some (.int hi), none] from rfl]
  simp only [str_to, str_ot, mPar3, mLockV, mLockE, mItemsC, mKeysC, mDGet2, pIsN, isNonP, pRepLM, mTruD, dkOfP, pPopAt, pIndex, mLstRgM, mTruth, pReprA, pLenD, pLstD, mDNew, pRepL, mLenSetN, mDIn, mSortSet, mSortSetL, mRevT, mForC, mSeqC, mLcC, pAbs, pMax2, pMin2, pInt1, mDGet, mDPut, mBM, mBM0, pPop, pAppend, pExtend, pSetL, mSub, mDisp, mPs, mPs0, mRevL, mRevLM, pLstOfM, mTupRg, mRg1, mRg2, pPlusM, lstItems, dictOfP, keyP, keysP, val_left, val_mixed, val_draws, put_draws, mLc, mLcM, mLc2, mFor, mSeqI, mRng1, mRng2, mZip, mEnum, mSl, mNoPart, mPart, mSeq, mAsg, mAsg2, mCB, mCons, mNil, mVar, mC, mOp, mUn, pU, mTup, mLst, mRet, mRetN, mLstM, getl, setl, mName, mCall, mCallK, mIf, mIfS, mTest, mAnd, mOr, mNot, mYes, mAndV, mOrV, mNotV, mNext, mNever, mBreak, mCont, mDrop, mChain, mPar, mGTup, mGCons, mGNil, pGcd, pI, pI0, pIx, pTimes, pPlus, pEq, pNe, pLen, pSum, pMaxS, pAll, pAny, pTupOf, pLstOf, pIn, pIsB, pIsi, items_tup, items_lst, items_kl, items_mr, items_tab, items_lot, items_fr, decide_true, decide_false, eqP_int, eqP_bl, eqP_str, eqP_tup2, kit_tt, kit_ii, kit_ib, tyP, mEnd, wipeP, List.map_cons, List.map_nil, List.getElem?_cons_zero, List.getElem?_cons_succ, List.set_cons_zero, List.set_cons_succ, atI_zero, atI_one, if_true, if_false, ite_true, ite_false, Bool.false_eq_true, List.length_cons, List.length_nil, Bool.not_true, Bool.not_false]
  refine ⟨by decide, by rw [List.length_map]; exact hl, lc_map (out := fun (i : Int) => .bl (decide (lo ≤ i) && decide (i ≤ hi))) (fun i _ k hk => ?_) ?_⟩
  · simp only [str_to, str_ot, mPar3, mLockV, mLockE, mItemsC, mKeysC, mDGet2, pIsN, isNonP, pRepLM, mTruD, dkOfP, pPopAt, pIndex, mLstRgM, mTruth, pReprA, pLenD, pLstD, mDNew, pRepL, mLenSetN, mDIn, mSortSet, mSortSetL, mRevT, mForC, mSeqC, mLcC, pAbs, pMax2, pMin2, pInt1, mDGet, mDPut, mBM, mBM0, pPop, pAppend, pExtend, pSetL, mSub, mDisp, mPs, mPs0, mRevL, mRevLM, pLstOfM, mTupRg, mRg1, mRg2, pPlusM, lstItems, dictOfP, keyP, keysP, val_left, val_mixed, val_draws, put_draws, mLc, mLcM, mLc2, mFor, mSeqI, mRng1, mRng2, mZip, mEnum, mSl, mNoPart, mPart, mSeq, mAsg, mAsg2, mCB, mCons, mNil, mVar, mC, mOp, mUn, pU, mTup, mLst, mRet, mRetN, mLstM, getl, setl, mName, mCall, mCallK, mIf, mIfS, mTest, mAnd, mOr, mNot, mYes, mAndV, mOrV, mNotV, mNext, mNever, mBreak, mCont, mDrop, mChain, mPar, mGTup, mGCons, mGNil, pGcd, pI, pI0, pIx, pTimes, pPlus, pEq, pNe, pLen, pSum, pMaxS, pAll, pAny, pTupOf, pLstOf, pIn, pIsB, pIsi, items_tup, items_lst, items_kl, items_mr, items_tab, items_lot, items_fr, decide_true, decide_false, eqP_int, eqP_bl, eqP_str, eqP_tup2, kit_tt, kit_ii, kit_ib, tyP, mEnd, wipeP, List.map_cons, List.map_nil, List.getElem?_cons_zero, List.getElem?_cons_succ, List.set_cons_zero, List.set_cons_succ, atI_zero, atI_one, if_true, if_false, ite_true, ite_false, Bool.false_eq_true, List.length_cons, List.length_nil, Bool.not_true, Bool.not_false, S_is_within]
    exact ⟨trivial, i, lo, hi, rfl, hk⟩
  · simp only [bools_out, all_out]
    exact fin_keep hQ
abbrev N_is_amount : List Str := ["thing"]
theorem sc_is_amount : FnScope N_is_amount ["thing"] (defScope s_is_amount) := ⟨rfl, rfl, rfl, by decide +kernel, rfl, by decide +kernel, by decide +kernel⟩
theorem ok_is_amount (B : Blt mg) (h_is_amount : Own K mg "is_amount" s_is_amount) (k_is_fraction : Ok P w K mg base 2 "is_fraction" s_is_fraction ["thing"] S_is_fraction) : Ok P w K mg base 3 "is_amount" s_is_amount ["thing"] S_is_amount := by
  obtain ⟨f_s, fd_s, F_s, g_s⟩ := h_is_amount
  obtain ⟨f_is_fraction, fd_is_fraction, F_is_fraction, g_is_fraction, b_is_fraction, G_is_fraction⟩ := k_is_fraction
  refine ⟨f_s, fd_s, F_s, g_s, F_s.binds (fun _ _ _ _ _ _ us hl => match us, hl with | [_], _ => rfl), FnG.of F_s sc_is_amount (fun xs μ Q h => by first | exact h.1 | (obtain ⟨⟩ := h)) fun cdv A outer s H hr hgd => ⟨_, _, (pss_one (ps_ret (pe_and (pe_callG (G_is_fraction.mono (by decide)) hr hgd (by rfl) g_is_fraction F_is_fraction.kp b_is_fraction (pa_cons (pv 0) pa_nil)) (pe_one (pe_cmpR op_ge (pe_ix ix_seq (pv 0) pe_int (fun _ _ => rfl)) pe_int (nomark _)))))), (by (try dsimp only [cxOf]); exact inferInstance), ?_⟩⟩
  intro xs μ Q hS
  obtain ⟨_, q, rfl, h0, hQ⟩ := hS
  rw [show startP N_is_amount [frP q] = [some (frP q)] from rfl]
  have hn : 0 ≤ q.num := Rat.num_nonneg.mpr h0
  simp only [str_to, str_ot, mPar3, mLockV, mLockE, mItemsC, mKeysC, mDGet2, pIsN, isNonP, pRepLM, mTruD, dkOfP, pPopAt, pIndex, mLstRgM, mTruth, pReprA, pLenD, pLstD, mDNew, pRepL, mLenSetN, mDIn, mSortSet, mSortSetL, mRevT, mForC, mSeqC, mLcC, pAbs, pMax2, pMin2, pInt1, mDGet, mDPut, mBM, mBM0, pPop, pAppend, pExtend, pSetL, mSub, mDisp, mPs, mPs0, mRevL, mRevLM, pLstOfM, mTupRg, mRg1, mRg2, pPlusM, lstItems, dictOfP, keyP, keysP, val_left, val_mixed, val_draws, put_draws, mLc, mLcM, mLc2, mFor, mSeqI, mRng1, mRng2, mZip, mEnum, mSl, mNoPart, mPart, mSeq, mAsg, mAsg2, mCB, mCons, mNil, mVar, mC, mOp, mUn, pU, mTup, mLst, mRet, mRetN, mLstM, getl, setl, mName, mCall, mCallK, mIf, mIfS, mTest, mAnd, mOr, mNot, mYes, mAndV, mOrV, mNotV, mNext, mNever, mBreak, mCont, mDrop, mChain, mPar, mGTup, mGCons, mGNil, pGcd, pI, pI0, pIx, pTimes, pPlus, pEq, pNe, pLen, pSum, pMaxS, pAll, pAny, pTupOf, pLstOf, pIn, pIsB, pIsi, items_tup, items_lst, items_kl, items_mr, items_tab, items_lot, items_fr, decide_true, decide_false, eqP_int, eqP_bl, eqP_str, eqP_tup2, kit_tt, kit_ii, kit_ib, tyP, mEnd, wipeP, List.map_cons, List.map_nil, List.getElem?_cons_zero, List.getElem?_cons_succ, List.set_cons_zero, List.set_cons_succ, atI_zero, atI_one, if_true, if_false, ite_true, ite_false, Bool.false_eq_true, List.length_cons, List.length_nil, Bool.not_true, Bool.not_false, S_is_fraction]
  refine ⟨trivial, q, rfl, ?_⟩
  have e2 : decide (0 ≤ q.num) = true := by simpa using hn
  rw [e2]
  exact fin_keep hQ
abbrev N_total : List Str := ["fractions", "found", "fraction"]
theorem sc_total : FnScope N_total ["fractions"] (defScope s_total) := ⟨rfl, rfl, rfl, by decide +kernel, rfl, by decide +kernel, by decide +kernel⟩
theorem ok_total (B : Blt mg) (h_total : Own K mg "total" s_total) (k_added : Ok P w K mg base 2 "added" s_added ["one", "other"] S_added) : Ok P w K mg base 3 "total" s_total ["fractions"] S_total := by
  obtain ⟨f_s, fd_s, F_s, g_s⟩ := h_total
  obtain ⟨f_added, fd_added, F_added, g_added, b_added, G_added⟩ := k_added
  refine ⟨f_s, fd_s, F_s, g_s, F_s.binds (fun _ _ _ _ _ _ us hl => match us, hl with | [_], _ => rfl), FnG.of F_s sc_total (fun xs μ Q h => by first | exact h.1 | (obtain ⟨⟩ := h)) fun cdv A outer s H hr hgd => ⟨_, _, (pss_cons (ps_set (i := 1) sc_total.nd rfl (Or.inl rfl) (pe_tup (pa_cons pe_int (pa_cons pe_int pa_nil))))
 (pss_cons (ps_for PassesOwn.never rfl (pi_seq (pv 0)) (pg_name (i := 2) sc_total.nd rfl (Or.inl rfl))
 (pss_one (ps_set (i := 1) sc_total.nd rfl (Or.inl rfl) (pe_callG (G_added.mono (by decide)) hr hgd (by rfl) g_added F_added.kp b_added (pa_cons (pv 1) (pa_cons (pv 2) pa_nil))))))
 (pss_one (ps_ret (pv 1))))), (by (try dsimp only [cxOf]); exact inferInstance), ?_⟩⟩
  intro xs μ Q hS
  obtain ⟨_, x, qs, rfl, hx, hb, hQ⟩ := hS
  rw [show startP N_total [x] = [some x, none, none] from rfl]
  have key : mForL (mName 2) (mAsg (mCall S_added (mCons (mVar 1) (mCons (mVar 2) mNil))) (mName 1)) { nx := mRet (mVar 1) (mEnd μ Q), rt := fun x μ_1 => ∃ y μ', Gc μ x μ_1 y μ' ∧ Q y μ' } (qs.map frP) [some x, some (PV.tup [PV.int 0, PV.int 1]), none] μ := by
    refine for_inv (enc := frP) (fun pre ρ μ' => (∃ y, ρ = [some x, some (frP pre.sum), y]) ∧ μ' = μ) (done := []) ⟨⟨_, rfl⟩, rfl⟩ (fun pre a post ρ μ' e hI N hN => ?_) fun ρ μ' hI => ?_
    · obtain ⟨⟨y, rfl⟩, rfl⟩ := hI
      have e' : qs = pre ++ a :: post := e
      simp only [str_to, str_ot, mPar3, mLockV, mLockE, mItemsC, mKeysC, mDGet2, pIsN, isNonP, pRepLM, mTruD, dkOfP, pPopAt, pIndex, mLstRgM, mTruth, pReprA, pLenD, pLstD, mDNew, pRepL, mLenSetN, mDIn, mSortSet, mSortSetL, mRevT, mForC, mSeqC, mLcC, pAbs, pMax2, pMin2, pInt1, mDGet, mDPut, mBM, mBM0, pPop, pAppend, pExtend, pSetL, mSub, mDisp, mPs, mPs0, mRevL, mRevLM, pLstOfM, mTupRg, mRg1, mRg2, pPlusM, lstItems, dictOfP, keyP, keysP, val_left, val_mixed, val_draws, put_draws, mLc, mLcM, mLc2, mFor, mSeqI, mRng1, mRng2, mZip, mEnum, mSl, mNoPart, mPart, mSeq, mAsg, mAsg2, mCB, mCons, mNil, mVar, mC, mOp, mUn, pU, mTup, mLst, mRet, mRetN, mLstM, getl, setl, mName, mCall, mCallK, mIf, mIfS, mTest, mAnd, mOr, mNot, mYes, mAndV, mOrV, mNotV, mNext, mNever, mBreak, mCont, mDrop, mChain, mPar, mGTup, mGCons, mGNil, pGcd, pI, pI0, pIx, pTimes, pPlus, pEq, pNe, pLen, pSum, pMaxS, pAll, pAny, pTupOf, pLstOf, pIn, pIsB, pIsi, items_tup, items_lst, items_kl, items_mr, items_tab, items_lot, items_fr, decide_true, decide_false, eqP_int, eqP_bl, eqP_str, eqP_tup2, kit_tt, kit_ii, kit_ib, tyP, mEnd, wipeP, List.map_cons, List.map_nil, List.getElem?_cons_zero, List.getElem?_cons_succ, List.set_cons_zero, List.set_cons_succ, atI_zero, atI_one, if_true, if_false, ite_true, ite_false, Bool.false_eq_true, List.length_cons, List.length_nil, Bool.not_true, Bool.not_false, S_added]
      refine ⟨trivial, _, _, rfl, (hb.sub (by rw [e']; exact List.sublist_append_left _ _)).sum_sm.mono (by decide), (hb.mem_sm (by rw [e']; simp)).mono (by decide), hN _ _ ⟨⟨some (frP a), ?_⟩, rfl⟩⟩
      rw [sum_append, List.sum_cons]
      show _ = [some x, some (frP (pre.sum + (a + 0))), some (frP a)]
      rw [Rat.add_zero]
    · obtain ⟨⟨y, rfl⟩, rfl⟩ := hI
      simp only [str_to, str_ot, mPar3, mLockV, mLockE, mItemsC, mKeysC, mDGet2, pIsN, isNonP, pRepLM, mTruD, dkOfP, pPopAt, pIndex, mLstRgM, mTruth, pReprA, pLenD, pLstD, mDNew, pRepL, mLenSetN, mDIn, mSortSet, mSortSetL, mRevT, mForC, mSeqC, mLcC, pAbs, pMax2, pMin2, pInt1, mDGet, mDPut, mBM, mBM0, pPop, pAppend, pExtend, pSetL, mSub, mDisp, mPs, mPs0, mRevL, mRevLM, pLstOfM, mTupRg, mRg1, mRg2, pPlusM, lstItems, dictOfP, keyP, keysP, val_left, val_mixed, val_draws, put_draws, mLc, mLcM, mLc2, mFor, mSeqI, mRng1, mRng2, mZip, mEnum, mSl, mNoPart, mPart, mSeq, mAsg, mAsg2, mCB, mCons, mNil, mVar, mC, mOp, mUn, pU, mTup, mLst, mRet, mRetN, mLstM, getl, setl, mName, mCall, mCallK, mIf, mIfS, mTest, mAnd, mOr, mNot, mYes, mAndV, mOrV, mNotV, mNext, mNever, mBreak, mCont, mDrop, mChain, mPar, mGTup, mGCons, mGNil, pGcd, pI, pI0, pIx, pTimes, pPlus, pEq, pNe, pLen, pSum, pMaxS, pAll, pAny, pTupOf, pLstOf, pIn, pIsB, pIsi, items_tup, items_lst, items_kl, items_mr, items_tab, items_lot, items_fr, decide_true, decide_false, eqP_int, eqP_bl, eqP_str, eqP_tup2, kit_tt, kit_ii, kit_ib, tyP, mEnd, wipeP, List.map_cons, List.map_nil, List.getElem?_cons_zero, List.getElem?_cons_succ, List.set_cons_zero, List.set_cons_succ, atI_zero, atI_one, if_true, if_false, ite_true, ite_false, Bool.false_eq_true, List.length_cons, List.length_nil, Bool.not_true, Bool.not_false]
      exact fin_keep hQ
  cases x <;> simp only [seqP, reduceCtorEq, Option.some.injEq] at hx
  · subst hx
    simp only [str_to, str_ot, mPar3, mLockV, mLockE, mItemsC, mKeysC, mDGet2, pIsN, isNonP, pRepLM, mTruD, dkOfP, pPopAt, pIndex, mLstRgM, mTruth, pReprA, pLenD, pLstD, mDNew, pRepL, mLenSetN, mDIn, mSortSet, mSortSetL, mRevT, mForC, mSeqC, mLcC, pAbs, pMax2, pMin2, pInt1, mDGet, mDPut, mBM, mBM0, pPop, pAppend, pExtend, pSetL, mSub, mDisp, mPs, mPs0, mRevL, mRevLM, pLstOfM, mTupRg, mRg1, mRg2, pPlusM, lstItems, dictOfP, keyP, keysP, val_left, val_mixed, val_draws, put_draws, mLc, mLcM, mLc2, mFor, mSeqI, mRng1, mRng2, mZip, mEnum, mSl, mNoPart, mPart, mSeq, mAsg, mAsg2, mCB, mCons, mNil, mVar, mC, mOp, mUn, pU, mTup, mLst, mRet, mRetN, mLstM, getl, setl, mName, mCall, mCallK, mIf, mIfS, mTest, mAnd, mOr, mNot, mYes, mAndV, mOrV, mNotV, mNext, mNever, mBreak, mCont, mDrop, mChain, mPar, mGTup, mGCons, mGNil, pGcd, pI, pI0, pIx, pTimes, pPlus, pEq, pNe, pLen, pSum, pMaxS, pAll, pAny, pTupOf, pLstOf, pIn, pIsB, pIsi, items_tup, items_lst, items_kl, items_mr, items_tab, items_lot, items_fr, decide_true, decide_false, eqP_int, eqP_bl, eqP_str, eqP_tup2, kit_tt, kit_ii, kit_ib, tyP, mEnd, wipeP, List.map_cons, List.map_nil, List.getElem?_cons_zero, List.getElem?_cons_succ, List.set_cons_zero, List.set_cons_succ, atI_zero, atI_one, if_true, if_false, ite_true, ite_false, Bool.false_eq_true, List.length_cons, List.length_nil, Bool.not_true, Bool.not_false]
    exact ⟨by decide, key⟩
  · subst hx
    simp only [str_to, str_ot, mPar3, mLockV, mLockE, mItemsC, mKeysC, mDGet2, pIsN, isNonP, pRepLM, mTruD, dkOfP, pPopAt, pIndex, mLstRgM, mTruth, pReprA, pLenD, pLstD, mDNew, pRepL, mLenSetN, mDIn, mSortSet, mSortSetL, mRevT, mForC, mSeqC, mLcC, pAbs, pMax2, pMin2, pInt1, mDGet, mDPut, mBM, mBM0, pPop, pAppend, pExtend, pSetL, mSub, mDisp, mPs, mPs0, mRevL, mRevLM, pLstOfM, mTupRg, mRg1, mRg2, pPlusM, lstItems, dictOfP, keyP, keysP, val_left, val_mixed, val_draws, put_draws, mLc, mLcM, mLc2, mFor, mSeqI, mRng1, mRng2, mZip, mEnum, mSl, mNoPart, mPart, mSeq, mAsg, mAsg2, mCB, mCons, mNil, mVar, mC, mOp, mUn, pU, mTup, mLst, mRet, mRetN, mLstM, getl, setl, mName, mCall, mCallK, mIf, mIfS, mTest, mAnd, mOr, mNot, mYes, mAndV, mOrV, mNotV, mNext, mNever, mBreak, mCont, mDrop, mChain, mPar, mGTup, mGCons, mGNil, pGcd, pI, pI0, pIx, pTimes, pPlus, pEq, pNe, pLen, pSum, pMaxS, pAll, pAny, pTupOf, pLstOf, pIn, pIsB, pIsi, items_tup, items_lst, items_kl, items_mr, items_tab, items_lot, items_fr, decide_true, decide_false, eqP_int, eqP_bl, eqP_str, eqP_tup2, kit_tt, kit_ii, kit_ib, tyP, mEnd, wipeP, List.map_cons, List.map_nil, List.getElem?_cons_zero, List.getElem?_cons_succ, List.set_cons_zero, List.set_cons_succ, atI_zero, atI_one, if_true, if_false, ite_true, ite_false, Bool.false_eq_true, List.length_cons, List.length_nil, Bool.not_true, Bool.not_false]
    exact ⟨by decide, key⟩
abbrev N__law_bits_stretch : List Str := ["_law_bits_here", "_law_number", "_law_bit"]
theorem sc__law_bits_stretch : FnScope N__law_bits_stretch ["_law_bits_here"] (defScope s__law_bits_stretch) := ⟨rfl, rfl, rfl, by decide +kernel, rfl, by decide +kernel, by decide +kernel⟩
theorem ok__law_bits_stretch (B : Blt mg) (h__law_bits_stretch : Own K mg "_law_bits_stretch" s__law_bits_stretch) (k__law_fraction : Ok P w K mg base 2 "_law_fraction" s__law_fraction ["_law_top", "_law_bottom"] S__law_fraction) : Ok P w K mg base 3 "_law_bits_stretch" s__law_bits_stretch ["_law_bits_here"] S__law_bits_stretch := by
  obtain ⟨f_s, fd_s, F_s, g_s⟩ := h__law_bits_stretch
  obtain ⟨f__law_fraction, fd__law_fraction, F__law_fraction, g__law_fraction, b__law_fraction, G__law_fraction⟩ := k__law_fraction
  refine ⟨f_s, fd_s, F_s, g_s, F_s.binds (fun _ _ _ _ _ _ us hl => match us, hl with | [_], _ => rfl), FnG.of F_s sc__law_bits_stretch (fun xs μ Q h => by first | exact h.1 | (obtain ⟨⟩ := h)) fun cdv A outer s H hr hgd => ⟨_, _, (pss_cons (ps_set (i := 1) sc__law_bits_stretch.nd rfl (Or.inl rfl) pe_int)
 (pss_cons (ps_for PassesOwn.never rfl (pi_seq (pv 0)) (pg_name (i := 2) sc__law_bits_stretch.nd rfl (Or.inl rfl))
 (pss_one (ps_set (i := 1) sc__law_bits_stretch.nd rfl (Or.inl rfl) (pe_op op_plus (pe_op op_times pe_int (pv 1)) (pv 2)))))
 (pss_one (ps_ret (pe_tup (pa_cons (pe_callG (G__law_fraction.mono (by decide)) hr hgd (by rfl) g__law_fraction F__law_fraction.kp b__law_fraction (pa_cons (pv 1) (pa_cons (pe_op op_shlW pe_int (pe_callB cb_len (by rfl) (B "len" (by decide)) (by decide +kernel) (pa_cons (pv 0) pa_nil))) pa_nil))) (pa_cons (pe_tup (pa_cons pe_int (pa_cons (pe_op op_shlW pe_int (pe_callB cb_len (by rfl) (B "len" (by decide)) (by decide +kernel) (pa_cons (pv 0) pa_nil))) pa_nil))) pa_nil))))))), (by (try dsimp only [cxOf]); exact inferInstance), ?_⟩⟩
  intro xs μ Q hS
  obtain ⟨_, bs, rfl, hb, hl, hQ⟩ := hS
  rw [show startP N__law_bits_stretch [lotP bs] = [some (lotP bs), none, none] from rfl]
  refine stm_of fun R hR => ?_
  simp only [str_to, str_ot, mPar3, mLockV, mLockE, mItemsC, mKeysC, mDGet2, pIsN, isNonP, pRepLM, mTruD, dkOfP, pPopAt, pIndex, mLstRgM, mTruth, pReprA, pLenD, pLstD, mDNew, pRepL, mLenSetN, mDIn, mSortSet, mSortSetL, mRevT, mForC, mSeqC, mLcC, pAbs, pMax2, pMin2, pInt1, mDGet, mDPut, mBM, mBM0, pPop, pAppend, pExtend, pSetL, mSub, mDisp, mPs, mPs0, mRevL, mRevLM, pLstOfM, mTupRg, mRg1, mRg2, pPlusM, lstItems, dictOfP, keyP, keysP, val_left, val_mixed, val_draws, put_draws, mLc, mLcM, mLc2, mFor, mSeqI, mRng1, mRng2, mZip, mEnum, mSl, mNoPart, mPart, mSeq, mAsg, mAsg2, mCB, mCons, mNil, mVar, mC, mOp, mUn, pU, mTup, mLst, mRet, mRetN, mLstM, getl, setl, mName, mCall, mCallK, mIf, mIfS, mTest, mAnd, mOr, mNot, mYes, mAndV, mOrV, mNotV, mNext, mNever, mBreak, mCont, mDrop, mChain, mPar, mGTup, mGCons, mGNil, pGcd, pI, pI0, pIx, pTimes, pPlus, pEq, pNe, pLen, pSum, pMaxS, pAll, pAny, pTupOf, pLstOf, pIn, pIsB, pIsi, items_tup, items_lst, items_kl, items_mr, items_tab, items_lot, items_fr, decide_true, decide_false, eqP_int, eqP_bl, eqP_str, eqP_tup2, kit_tt, kit_ii, kit_ib, tyP, mEnd, wipeP, List.map_cons, List.map_nil, List.getElem?_cons_zero, List.getElem?_cons_succ, List.set_cons_zero, List.set_cons_succ, atI_zero, atI_one, if_true, if_false, ite_true, ite_false, Bool.false_eq_true, List.length_cons, List.length_nil, Bool.not_true, Bool.not_false]
  subst hR
  refine stm_of fun R1 hR1 => ?_
  simp only [str_to, str_ot, mPar3, mLockV, mLockE, mItemsC, mKeysC, mDGet2, pIsN, isNonP, pRepLM, mTruD, dkOfP, pPopAt, pIndex, mLstRgM, mTruth, pReprA, pLenD, pLstD, mDNew, pRepL, mLenSetN, mDIn, mSortSet, mSortSetL, mRevT, mForC, mSeqC, mLcC, pAbs, pMax2, pMin2, pInt1, mDGet, mDPut, mBM, mBM0, pPop, pAppend, pExtend, pSetL, mSub, mDisp, mPs, mPs0, mRevL, mRevLM, pLstOfM, mTupRg, mRg1, mRg2, pPlusM, lstItems, dictOfP, keyP, keysP, val_left, val_mixed, val_draws, put_draws, mLc, mLcM, mLc2, mFor, mSeqI, mRng1, mRng2, mZip, mEnum, mSl, mNoPart, mPart, mSeq, mAsg, mAsg2, mCB, mCons, mNil, mVar, mC, mOp, mUn, pU, mTup, mLst, mRet, mRetN, mLstM, getl, setl, mName, mCall, mCallK, mIf, mIfS, mTest, mAnd, mOr, mNot, mYes, mAndV, mOrV, mNotV, mNext, mNever, mBreak, mCont, mDrop, mChain, mPar, mGTup, mGCons, mGNil, pGcd, pI, pI0, pIx, pTimes, pPlus, pEq, pNe, pLen, pSum, pMaxS, pAll, pAny, pTupOf, pLstOf, pIn, pIsB, pIsi, items_tup, items_lst, items_kl, items_mr, items_tab, items_lot, items_fr, decide_true, decide_false, eqP_int, eqP_bl, eqP_str, eqP_tup2, kit_tt, kit_ii, kit_ib, tyP, mEnd, wipeP, List.map_cons, List.map_nil, List.getElem?_cons_zero, List.getElem?_cons_succ, List.set_cons_zero, List.set_cons_succ, atI_zero, atI_one, if_true, if_false, ite_true, ite_false, Bool.false_eq_true, List.length_cons, List.length_nil, Bool.not_true, Bool.not_false, lotP]
  refine for_inv (enc := fun (i : Nat) => PV.int i) (fun pre ρ μ' => (∃ (y : Option PV), ρ = [some (lotP bs), some (.int (val2 pre : Nat)), y]) ∧ μ' = μ) (done := []) ⟨⟨_, rfl⟩, rfl⟩ (fun pre i post ρ μ1 e hI N hN => ?_) fun ρ μ1 hI => ?_
  · obtain ⟨⟨y, rfl⟩, rfl⟩ := hI
    simp only [str_to, str_ot, mPar3, mLockV, mLockE, mItemsC, mKeysC, mDGet2, pIsN, isNonP, pRepLM, mTruD, dkOfP, pPopAt, pIndex, mLstRgM, mTruth, pReprA, pLenD, pLstD, mDNew, pRepL, mLenSetN, mDIn, mSortSet, mSortSetL, mRevT, mForC, mSeqC, mLcC, pAbs, pMax2, pMin2, pInt1, mDGet, mDPut, mBM, mBM0, pPop, pAppend, pExtend, pSetL, mSub, mDisp, mPs, mPs0, mRevL, mRevLM, pLstOfM, mTupRg, mRg1, mRg2, pPlusM, lstItems, dictOfP, keyP, keysP, val_left, val_mixed, val_draws, put_draws, mLc, mLcM, mLc2, mFor, mSeqI, mRng1, mRng2, mZip, mEnum, mSl, mNoPart, mPart, mSeq, mAsg, mAsg2, mCB, mCons, mNil, mVar, mC, mOp, mUn, pU, mTup, mLst, mRet, mRetN, mLstM, getl, setl, mName, mCall, mCallK, mIf, mIfS, mTest, mAnd, mOr, mNot, mYes, mAndV, mOrV, mNotV, mNext, mNever, mBreak, mCont, mDrop, mChain, mPar, mGTup, mGCons, mGNil, pGcd, pI, pI0, pIx, pTimes, pPlus, pEq, pNe, pLen, pSum, pMaxS, pAll, pAny, pTupOf, pLstOf, pIn, pIsB, pIsi, items_tup, items_lst, items_kl, items_mr, items_tab, items_lot, items_fr, decide_true, decide_false, eqP_int, eqP_bl, eqP_str, eqP_tup2, kit_tt, kit_ii, kit_ib, tyP, mEnd, wipeP, List.map_cons, List.map_nil, List.getElem?_cons_zero, List.getElem?_cons_succ, List.set_cons_zero, List.set_cons_succ, atI_zero, atI_one, if_true, if_false, ite_true, ite_false, Bool.false_eq_true, List.length_cons, List.length_nil, Bool.not_true, Bool.not_false]
    refine ⟨mulL (by decide) (by decide), hN _ _ ⟨⟨some (.int (i : Nat)), ?_⟩, rfl⟩⟩
    rw [val2_append, val2_one, List.length_singleton, show ((val2 pre * 2 ^ 1 + i : Nat) : Int) = 2 * (val2 pre : Int) + (i : Int) by omega]
  · obtain ⟨⟨y, rfl⟩, rfl⟩ := hI
    rw [List.nil_append]
    show R1 _ _
    subst hR1
    have hp : (0 : Int) < (2 ^ bs.length : Nat) := by have := Nat.two_pow_pos bs.length; omega
    simp only [str_to, str_ot, mPar3, mLockV, mLockE, mItemsC, mKeysC, mDGet2, pIsN, isNonP, pRepLM, mTruD, dkOfP, pPopAt, pIndex, mLstRgM, mTruth, pReprA, pLenD, pLstD, mDNew, pRepL, mLenSetN, mDIn, mSortSet, mSortSetL, mRevT, mForC, mSeqC, mLcC, pAbs, pMax2, pMin2, pInt1, mDGet, mDPut, mBM, mBM0, pPop, pAppend, pExtend, pSetL, mSub, mDisp, mPs, mPs0, mRevL, mRevLM, pLstOfM, mTupRg, mRg1, mRg2, pPlusM, lstItems, dictOfP, keyP, keysP, val_left, val_mixed, val_draws, put_draws, mLc, mLcM, mLc2, mFor, mSeqI, mRng1, mRng2, mZip, mEnum, mSl, mNoPart, mPart, mSeq, mAsg, mAsg2, mCB, mCons, mNil, mVar, mC, mOp, mUn, pU, mTup, mLst, mRet, mRetN, mLstM, getl, setl, mName, mCall, mCallK, mIf, mIfS, mTest, mAnd, mOr, mNot, mYes, mAndV, mOrV, mNotV, mNext, mNever, mBreak, mCont, mDrop, mChain, mPar, mGTup, mGCons, mGNil, pGcd, pI, pI0, pIx, pTimes, pPlus, pEq, pNe, pLen, pSum, pMaxS, pAll, pAny, pTupOf, pLstOf, pIn, pIsB, pIsi, items_tup, items_lst, items_kl, items_mr, items_tab, items_lot, items_fr, decide_true, decide_false, eqP_int, eqP_bl, eqP_str, eqP_tup2, kit_tt, kit_ii, kit_ib, tyP, mEnd, wipeP, List.map_cons, List.map_nil, List.getElem?_cons_zero, List.getElem?_cons_succ, List.set_cons_zero, List.set_cons_succ, atI_zero, atI_one, if_true, if_false, ite_true, ite_false, Bool.false_eq_true, List.length_cons, List.length_nil, Bool.not_true, Bool.not_false, S__law_fraction, len_lot, List.length_map]
    simp only [shl1w]
    refine ⟨shl_ok (n := 1) (by decide) (by omega), trivial, _, _, rfl, hp, ?_, shl_ok (n := 1) (by decide) (by omega), by decide, by decide, ?_⟩
    · rw [Int.natAbs_natCast]
      exact Nat.pow_lt_pow_right (by decide) (by omega)
    · rw [frP_pow]
      exact fin_keep hQ
abbrev N__law_way : List Str := ["_law_deck_here", "_law_model_here", "_law_many", "_law_state", "_law_found", "_law_turn", "_law_table_here", "_law_followers", "_law_i", "_law_at"]
theorem sc__law_way : FnScope N__law_way ["_law_deck_here", "_law_model_here", "_law_many"] (defScope s__law_way) := ⟨rfl, rfl, rfl, by decide +kernel, rfl, by decide +kernel, by decide +kernel⟩
theorem ok__law_way (B : Blt mg) (h__law_way : Own K mg "_law_way" s__law_way) (k__law_pick : Ok P w K mg base 2 "_law_pick" s__law_pick ["_law_deck_here", "_law_some"] S__law_pick) : Ok P w K mg base 3 "_law_way" s__law_way ["_law_deck_here", "_law_model_here", "_law_many"] S__law_way := by
  obtain ⟨f_s, fd_s, F_s, g_s⟩ := h__law_way
  obtain ⟨f__law_pick, fd__law_pick, F__law_pick, g__law_pick, b__law_pick, G__law_pick⟩ := k__law_pick
  refine ⟨f_s, fd_s, F_s, g_s, F_s.binds (fun _ _ _ _ _ _ us hl => match us, hl with | [_, _, _], _ => rfl), FnG.of F_s sc__law_way (fun xs μ Q h => by first | exact h.1 | (obtain ⟨⟩ := h)) fun cdv A outer s H hr hgd => ⟨_, _, (pss_cons (ps_asg (pe_tup (pa_cons pe_int (pa_cons (pe_tup pa_nil) pa_nil))) (pg_tup (n := 2) rfl (pgs_cons (pg_name (i := 3) sc__law_way.nd rfl (Or.inl rfl)) (pgs_cons (pg_name (i := 4) sc__law_way.nd rfl (Or.inl rfl)) pgs_nil))))
 (pss_cons (ps_for PassesOwn.never rfl (pi_range1 (by rfl) (B "range" (by decide)) (pa_cons (pv 2) pa_nil)) (pg_name (i := 5) sc__law_way.nd rfl (Or.inl rfl))
 (pss_cons (ps_asg (pe_ix ix_seq (pv 1) (pv 3) (fun _ _ => rfl)) (pg_tup (n := 2) rfl (pgs_cons (pg_name (i := 6) sc__law_way.nd rfl (Or.inr rfl)) (pgs_cons (pg_name (i := 7) sc__law_way.nd rfl (Or.inl rfl)) pgs_nil))))
 (pss_cons (ps_set (i := 8) sc__law_way.nd rfl (Or.inl rfl) (pe_callG (G__law_pick.mono (by decide)) hr hgd (by rfl) g__law_pick F__law_pick.kp b__law_pick (pa_cons (pv 0) (pa_cons (pe_lc (own := [("_law_at", 9)]) (by rfl) sc__law_way.nd (pi_range1 (by rfl) (B "range" (by decide)) (pa_cons (pe_callB cb_len (by rfl) (B "len" (by decide)) (by decide +kernel) (pa_cons (pv 6) pa_nil)) pa_nil)) (blkOk_by (own := [("_law_at", 9)]) (N := N__law_way) (sc := defScope s__law_way) (by decide +kernel)) (fun _ _ _ _ _ => (pg_name (i := 9) sc__law_way.nd rfl (Or.inl rfl))) (fun _ _ _ _ _ => pts_one (pt_cmpR op_gt (pe_ix (ixk_seq K rfl) (pe_ix (ixk_seq K rfl) (pv 6) (pv 9) (fun _ _ => rfl)) pe_int (fun _ _ => rfl)) pe_int (nomark _))) (fun _ _ _ _ _ => (pv 9))) pa_nil))))
 (pss_one (ps_par (i := 4) (j := 3) (by rfl) sc__law_way.nd rfl rfl (by decide) rfl rfl (pa_cons (pe_op op_plus (pv 4) (pe_tup (pa_cons (pv 8) pa_nil))) (pa_cons (pe_ix ix_seq (pv 7) (pv 8) (fun _ _ => rfl)) pa_nil)) (by rfl))))))
 (pss_one (ps_ret (pv 4))))), (by (try dsimp only [cxOf]); exact inferInstance), ?_⟩⟩
  intro xs μ Q hS
  obtain ⟨_, n, k, M, m, rest, rfl, hM, hk, hD, hQ⟩ := hS
  rw [show startP N__law_way [.mr 1, mdlP M, .int k] = [some (.mr 1), some (mdlP M), some (.int k), none, none, none, none, none, none, none] from rfl]
  have h0 := List.length_pos_iff.mpr hM.ne
  refine stm_of fun R hR => ?_
  simp only [str_to, str_ot, mPar3, mLockV, mLockE, mItemsC, mKeysC, mDGet2, pIsN, isNonP, pRepLM, mTruD, dkOfP, pPopAt, pIndex, mLstRgM, mTruth, pReprA, pLenD, pLstD, mDNew, pRepL, mLenSetN, mDIn, mSortSet, mSortSetL, mRevT, mForC, mSeqC, mLcC, pAbs, pMax2, pMin2, pInt1, mDGet, mDPut, mBM, mBM0, pPop, pAppend, pExtend, pSetL, mSub, mDisp, mPs, mPs0, mRevL, mRevLM, pLstOfM, mTupRg, mRg1, mRg2, pPlusM, lstItems, dictOfP, keyP, keysP, val_left, val_mixed, val_draws, put_draws, mLc, mLcM, mLc2, mFor, mSeqI, mRng1, mRng2, mZip, mEnum, mSl, mNoPart, mPart, mSeq, mAsg, mAsg2, mCB, mCons, mNil, mVar, mC, mOp, mUn, pU, mTup, mLst, mRet, mRetN, mLstM, getl, setl, mName, mCall, mCallK, mIf, mIfS, mTest, mAnd, mOr, mNot, mYes, mAndV, mOrV, mNotV, mNext, mNever, mBreak, mCont, mDrop, mChain, mPar, mGTup, mGCons, mGNil, pGcd, pI, pI0, pIx, pTimes, pPlus, pEq, pNe, pLen, pSum, pMaxS, pAll, pAny, pTupOf, pLstOf, pIn, pIsB, pIsi, items_tup, items_lst, items_kl, items_mr, items_tab, items_lot, items_fr, decide_true, decide_false, eqP_int, eqP_bl, eqP_str, eqP_tup2, kit_tt, kit_ii, kit_ib, tyP, mEnd, wipeP, List.map_cons, List.map_nil, List.getElem?_cons_zero, List.getElem?_cons_succ, List.set_cons_zero, List.set_cons_succ, atI_zero, atI_one, if_true, if_false, ite_true, ite_false, Bool.false_eq_true, List.length_cons, List.length_nil, Bool.not_true, Bool.not_false]
  refine ⟨by decide, by decide, trivial, ?_⟩
  subst hR
  refine stm_of fun R1 hR1 => ?_
  simp only [str_to, str_ot, mPar3, mLockV, mLockE, mItemsC, mKeysC, mDGet2, pIsN, isNonP, pRepLM, mTruD, dkOfP, pPopAt, pIndex, mLstRgM, mTruth, pReprA, pLenD, pLstD, mDNew, pRepL, mLenSetN, mDIn, mSortSet, mSortSetL, mRevT, mForC, mSeqC, mLcC, pAbs, pMax2, pMin2, pInt1, mDGet, mDPut, mBM, mBM0, pPop, pAppend, pExtend, pSetL, mSub, mDisp, mPs, mPs0, mRevL, mRevLM, pLstOfM, mTupRg, mRg1, mRg2, pPlusM, lstItems, dictOfP, keyP, keysP, val_left, val_mixed, val_draws, put_draws, mLc, mLcM, mLc2, mFor, mSeqI, mRng1, mRng2, mZip, mEnum, mSl, mNoPart, mPart, mSeq, mAsg, mAsg2, mCB, mCons, mNil, mVar, mC, mOp, mUn, pU, mTup, mLst, mRet, mRetN, mLstM, getl, setl, mName, mCall, mCallK, mIf, mIfS, mTest, mAnd, mOr, mNot, mYes, mAndV, mOrV, mNotV, mNext, mNever, mBreak, mCont, mDrop, mChain, mPar, mGTup, mGCons, mGNil, pGcd, pI, pI0, pIx, pTimes, pPlus, pEq, pNe, pLen, pSum, pMaxS, pAll, pAny, pTupOf, pLstOf, pIn, pIsB, pIsi, items_tup, items_lst, items_kl, items_mr, items_tab, items_lot, items_fr, decide_true, decide_false, eqP_int, eqP_bl, eqP_str, eqP_tup2, kit_tt, kit_ii, kit_ib, tyP, mEnd, wipeP, List.map_cons, List.map_nil, List.getElem?_cons_zero, List.getElem?_cons_succ, List.set_cons_zero, List.set_cons_succ, atI_zero, atI_one, if_true, if_false, ite_true, ite_false, Bool.false_eq_true, List.length_cons, List.length_nil, Bool.not_true, Bool.not_false]
  rw [Int.toNat_natCast, rangeP_eq]
  refine ⟨⟨by omega, by omega⟩, for_inv (enc := fun (i : Nat) => PV.int i) (fun pre ρ μ' => ∃ (w : List Nat) (y5 y6 y7 y8 y9 : Option PV), ρ = [some (.mr 1), some (mdlP M), some (.int (k : Nat)), some (.int (endW M 0 w : Nat)), some (lotP w), y5, y6, y7, y8, y9] ∧ wayB M 0 w = true ∧ w.length = pre.length ∧ Dk m rest μ') (done := []) ⟨[], _, _, _, _, _, rfl, rfl, rfl, hD⟩ (fun pre i post ρ μ1 e hI N hN => ?_) fun ρ μ1 hI => ?_⟩
  · obtain ⟨w, y5, y6, y7, y8, y9, rfl, hw, hwl, D1⟩ := hI
    have ha := endW_lt hM h0 hw
    show mSeq _ _ _ _ _
    refine stm_of fun R2 hR2 => ?_
    simp only [str_to, str_ot, mPar3, mLockV, mLockE, mItemsC, mKeysC, mDGet2, pIsN, isNonP, pRepLM, mTruD, dkOfP, pPopAt, pIndex, mLstRgM, mTruth, pReprA, pLenD, pLstD, mDNew, pRepL, mLenSetN, mDIn, mSortSet, mSortSetL, mRevT, mForC, mSeqC, mLcC, pAbs, pMax2, pMin2, pInt1, mDGet, mDPut, mBM, mBM0, pPop, pAppend, pExtend, pSetL, mSub, mDisp, mPs, mPs0, mRevL, mRevLM, pLstOfM, mTupRg, mRg1, mRg2, pPlusM, lstItems, dictOfP, keyP, keysP, val_left, val_mixed, val_draws, put_draws, mLc, mLcM, mLc2, mFor, mSeqI, mRng1, mRng2, mZip, mEnum, mSl, mNoPart, mPart, mSeq, mAsg, mAsg2, mCB, mCons, mNil, mVar, mC, mOp, mUn, pU, mTup, mLst, mRet, mRetN, mLstM, getl, setl, mName, mCall, mCallK, mIf, mIfS, mTest, mAnd, mOr, mNot, mYes, mAndV, mOrV, mNotV, mNext, mNever, mBreak, mCont, mDrop, mChain, mPar, mGTup, mGCons, mGNil, pGcd, pI, pI0, pIx, pTimes, pPlus, pEq, pNe, pLen, pSum, pMaxS, pAll, pAny, pTupOf, pLstOf, pIn, pIsB, pIsi, items_tup, items_lst, items_kl, items_mr, items_tab, items_lot, items_fr, decide_true, decide_false, eqP_int, eqP_bl, eqP_str, eqP_tup2, kit_tt, kit_ii, kit_ib, tyP, mEnd, wipeP, List.map_cons, List.map_nil, List.getElem?_cons_zero, List.getElem?_cons_succ, List.set_cons_zero, List.set_cons_succ, atI_zero, atI_one, if_true, if_false, ite_true, ite_false, Bool.false_eq_true, List.length_cons, List.length_nil, Bool.not_true, Bool.not_false, items_mdl, atM ha]
    refine ⟨trivial, ?_⟩
    subst hR2
    refine stm_of fun R3 hR3 => ?_
    simp only [str_to, str_ot, mPar3, mLockV, mLockE, mItemsC, mKeysC, mDGet2, pIsN, isNonP, pRepLM, mTruD, dkOfP, pPopAt, pIndex, mLstRgM, mTruth, pReprA, pLenD, pLstD, mDNew, pRepL, mLenSetN, mDIn, mSortSet, mSortSetL, mRevT, mForC, mSeqC, mLcC, pAbs, pMax2, pMin2, pInt1, mDGet, mDPut, mBM, mBM0, pPop, pAppend, pExtend, pSetL, mSub, mDisp, mPs, mPs0, mRevL, mRevLM, pLstOfM, mTupRg, mRg1, mRg2, pPlusM, lstItems, dictOfP, keyP, keysP, val_left, val_mixed, val_draws, put_draws, mLc, mLcM, mLc2, mFor, mSeqI, mRng1, mRng2, mZip, mEnum, mSl, mNoPart, mPart, mSeq, mAsg, mAsg2, mCB, mCons, mNil, mVar, mC, mOp, mUn, pU, mTup, mLst, mRet, mRetN, mLstM, getl, setl, mName, mCall, mCallK, mIf, mIfS, mTest, mAnd, mOr, mNot, mYes, mAndV, mOrV, mNotV, mNext, mNever, mBreak, mCont, mDrop, mChain, mPar, mGTup, mGCons, mGNil, pGcd, pI, pI0, pIx, pTimes, pPlus, pEq, pNe, pLen, pSum, pMaxS, pAll, pAny, pTupOf, pLstOf, pIn, pIsB, pIsi, items_tup, items_lst, items_kl, items_mr, items_tab, items_lot, items_fr, decide_true, decide_false, eqP_int, eqP_bl, eqP_str, eqP_tup2, kit_tt, kit_ii, kit_ib, tyP, mEnd, wipeP, List.map_cons, List.map_nil, List.getElem?_cons_zero, List.getElem?_cons_succ, List.set_cons_zero, List.set_cons_succ, atI_zero, atI_one, if_true, if_false, ite_true, ite_false, Bool.false_eq_true, List.length_cons, List.length_nil, Bool.not_true, Bool.not_false, tabP, List.length_map]
    have hT := hM.t ha
    have hkl : (mtab M (endW M 0 w)).length = n := hM.tl ha
    have n8 := hM.n8
    rw [Int.toNat_natCast, rangeP_eq]
    refine ⟨by decide, ⟨by omega, by omega⟩, by rw [List.length_map, List.length_range]; have := hM.n8; unfold lim; omega, lc_filter (enc := fun (i : Nat) => PV.int i) (out := fun (i : Nat) => PV.int i) (p := fun i => decide ((mtab M (endW M 0 w)).getD i 0 ≠ 0)) (fun j hj k2 nn h1 h2 => ?_) ?_⟩
    · have hj : j < (mtab M (endW M 0 w)).length := List.mem_range.mp hj
      simp only [str_to, str_ot, mPar3, mLockV, mLockE, mItemsC, mKeysC, mDGet2, pIsN, isNonP, pRepLM, mTruD, dkOfP, pPopAt, pIndex, mLstRgM, mTruth, pReprA, pLenD, pLstD, mDNew, pRepL, mLenSetN, mDIn, mSortSet, mSortSetL, mRevT, mForC, mSeqC, mLcC, pAbs, pMax2, pMin2, pInt1, mDGet, mDPut, mBM, mBM0, pPop, pAppend, pExtend, pSetL, mSub, mDisp, mPs, mPs0, mRevL, mRevLM, pLstOfM, mTupRg, mRg1, mRg2, pPlusM, lstItems, dictOfP, keyP, keysP, val_left, val_mixed, val_draws, put_draws, mLc, mLcM, mLc2, mFor, mSeqI, mRng1, mRng2, mZip, mEnum, mSl, mNoPart, mPart, mSeq, mAsg, mAsg2, mCB, mCons, mNil, mVar, mC, mOp, mUn, pU, mTup, mLst, mRet, mRetN, mLstM, getl, setl, mName, mCall, mCallK, mIf, mIfS, mTest, mAnd, mOr, mNot, mYes, mAndV, mOrV, mNotV, mNext, mNever, mBreak, mCont, mDrop, mChain, mPar, mGTup, mGCons, mGNil, pGcd, pI, pI0, pIx, pTimes, pPlus, pEq, pNe, pLen, pSum, pMaxS, pAll, pAny, pTupOf, pLstOf, pIn, pIsB, pIsi, items_tup, items_lst, items_kl, items_mr, items_tab, items_lot, items_fr, decide_true, decide_false, eqP_int, eqP_bl, eqP_str, eqP_tup2, kit_tt, kit_ii, kit_ib, tyP, mEnd, wipeP, List.map_cons, List.map_nil, List.getElem?_cons_zero, List.getElem?_cons_succ, List.set_cons_zero, List.set_cons_succ, atI_zero, atI_one, if_true, if_false, ite_true, ite_false, Bool.false_eq_true, List.length_cons, List.length_nil, Bool.not_true, Bool.not_false, atT hj, frP]
      by_cases c : (mtab M (endW M 0 w)).getD j 0 = 0
      · rw [decide_eq_false (fun z => (num_gt (getD_pos hT.pos j)).mp z c), if_neg (by decide)]
        exact h2 (by simpa using c)
      · rw [decide_eq_true ((num_gt (getD_pos hT.pos j)).mpr c), if_pos rfl]
        exact h1 (by simpa using c)
    · rw [List.nil_append]
      have hkn := kids_ne hT
      refine ⟨rfl, _, (kids (mtab M (endW M 0 w))).map fun (i : Nat) => PV.int i, m, rest, rfl, .inl rfl, D1, by rw [List.length_map]; exact List.length_pos_iff.mpr hkn, ?_, fun v hv μ2 D2 => ?_⟩
      · rw [List.length_map]
        have := List.length_filter_le (fun i => decide ((mtab M (endW M 0 w)).getD i 0 ≠ 0)) (List.range (mtab M (endW M 0 w)).length)
        rw [List.length_range] at this
        have := hM.n8
        unfold kids
        omega
      · obtain ⟨q, hq, rfl⟩ := List.mem_map.mp hv
        obtain ⟨q1, q2⟩ := mem_kids.mp hq
        have q3 : q < (mfol M (endW M 0 w)).length := by rw [hM.fll ha, ← hkl]; exact q1
        subst hR3
        simp only [str_to, str_ot, mPar3, mLockV, mLockE, mItemsC, mKeysC, mDGet2, pIsN, isNonP, pRepLM, mTruD, dkOfP, pPopAt, pIndex, mLstRgM, mTruth, pReprA, pLenD, pLstD, mDNew, pRepL, mLenSetN, mDIn, mSortSet, mSortSetL, mRevT, mForC, mSeqC, mLcC, pAbs, pMax2, pMin2, pInt1, mDGet, mDPut, mBM, mBM0, pPop, pAppend, pExtend, pSetL, mSub, mDisp, mPs, mPs0, mRevL, mRevLM, pLstOfM, mTupRg, mRg1, mRg2, pPlusM, lstItems, dictOfP, keyP, keysP, val_left, val_mixed, val_draws, put_draws, mLc, mLcM, mLc2, mFor, mSeqI, mRng1, mRng2, mZip, mEnum, mSl, mNoPart, mPart, mSeq, mAsg, mAsg2, mCB, mCons, mNil, mVar, mC, mOp, mUn, pU, mTup, mLst, mRet, mRetN, mLstM, getl, setl, mName, mCall, mCallK, mIf, mIfS, mTest, mAnd, mOr, mNot, mYes, mAndV, mOrV, mNotV, mNext, mNever, mBreak, mCont, mDrop, mChain, mPar, mGTup, mGCons, mGNil, pGcd, pI, pI0, pIx, pTimes, pPlus, pEq, pNe, pLen, pSum, pMaxS, pAll, pAny, pTupOf, pLstOf, pIn, pIsB, pIsi, items_tup, items_lst, items_kl, items_mr, items_tab, items_lot, items_fr, decide_true, decide_false, eqP_int, eqP_bl, eqP_str, eqP_tup2, kit_tt, kit_ii, kit_ib, tyP, mEnd, wipeP, List.map_cons, List.map_nil, List.getElem?_cons_zero, List.getElem?_cons_succ, List.set_cons_zero, List.set_cons_succ, atI_zero, atI_one, if_true, if_false, ite_true, ite_false, Bool.false_eq_true, List.length_cons, List.length_nil, Bool.not_true, Bool.not_false, lotP, atL q3]
        have hpl : pre.length < k := by
          have := congrArg List.length e
          simp at this
          omega
        refine ⟨by decide, by rw [List.length_map]; unfold lim; omega, hN _ _ ⟨w ++ [q], some (.int (i : Nat)), some (tabP (mtab M (endW M 0 w))), some (lotP (mfol M (endW M 0 w))), some (.int (q : Nat)), y9, ?_, ?_, ?_, D2⟩⟩
        · rw [endW_app]
          simp only [lotP, tabP, List.map_append, List.map_cons, List.map_nil]
          rfl
        · rw [wayB_app, hw]
          simp only [wayB, decide_eq_true q1, decide_eq_true q2, Bool.and_self]
        · rw [List.length_append, List.length_append, hwl]; rfl
  · obtain ⟨w, y5, y6, y7, y8, y9, rfl, hw, hwl, D1⟩ := hI
    rw [List.nil_append, List.length_range] at hwl
    show R1 _ _
    subst hR1
    simp only [str_to, str_ot, mPar3, mLockV, mLockE, mItemsC, mKeysC, mDGet2, pIsN, isNonP, pRepLM, mTruD, dkOfP, pPopAt, pIndex, mLstRgM, mTruth, pReprA, pLenD, pLstD, mDNew, pRepL, mLenSetN, mDIn, mSortSet, mSortSetL, mRevT, mForC, mSeqC, mLcC, pAbs, pMax2, pMin2, pInt1, mDGet, mDPut, mBM, mBM0, pPop, pAppend, pExtend, pSetL, mSub, mDisp, mPs, mPs0, mRevL, mRevLM, pLstOfM, mTupRg, mRg1, mRg2, pPlusM, lstItems, dictOfP, keyP, keysP, val_left, val_mixed, val_draws, put_draws, mLc, mLcM, mLc2, mFor, mSeqI, mRng1, mRng2, mZip, mEnum, mSl, mNoPart, mPart, mSeq, mAsg, mAsg2, mCB, mCons, mNil, mVar, mC, mOp, mUn, pU, mTup, mLst, mRet, mRetN, mLstM, getl, setl, mName, mCall, mCallK, mIf, mIfS, mTest, mAnd, mOr, mNot, mYes, mAndV, mOrV, mNotV, mNext, mNever, mBreak, mCont, mDrop, mChain, mPar, mGTup, mGCons, mGNil, pGcd, pI, pI0, pIx, pTimes, pPlus, pEq, pNe, pLen, pSum, pMaxS, pAll, pAny, pTupOf, pLstOf, pIn, pIsB, pIsi, items_tup, items_lst, items_kl, items_mr, items_tab, items_lot, items_fr, decide_true, decide_false, eqP_int, eqP_bl, eqP_str, eqP_tup2, kit_tt, kit_ii, kit_ib, tyP, mEnd, wipeP, List.map_cons, List.map_nil, List.getElem?_cons_zero, List.getElem?_cons_succ, List.set_cons_zero, List.set_cons_succ, atI_zero, atI_one, if_true, if_false, ite_true, ite_false, Bool.false_eq_true, List.length_cons, List.length_nil, Bool.not_true, Bool.not_false]
    exact fin_keep (hQ w _ hw hwl D1)
abbrev N__law_model : List Str := ["_law_deck_here", "_law_states", "_law_bottoms", "_law_many", "_law_n", "_law_found", "_law_at", "_law_table_here", "_law_i"]
theorem sc__law_model : FnScope N__law_model ["_law_deck_here", "_law_states", "_law_bottoms"] (defScope s__law_model) := ⟨rfl, rfl, rfl, by decide +kernel, rfl, by decide +kernel, by decide +kernel⟩
theorem ok__law_model (B : Blt mg) (h__law_model : Own K mg "_law_model" s__law_model) (k__law_pick : Ok P w K mg base 2 "_law_pick" s__law_pick ["_law_deck_here", "_law_some"] S__law_pick) (k__law_draw : Ok P w K mg base 1 "_law_draw" s__law_draw ["_law_deck_here", "_law_many"] S__law_draw) (k__law_table : Ok P w K mg base 3 "_law_table" s__law_table ["_law_deck_here", "_law_n", "_law_bottoms"] S__law_table) : Ok P w K mg base 4 "_law_model" s__law_model ["_law_deck_here", "_law_states", "_law_bottoms"] S__law_model := by
  obtain ⟨f_s, fd_s, F_s, g_s⟩ := h__law_model
  obtain ⟨f__law_pick, fd__law_pick, F__law_pick, g__law_pick, b__law_pick, G__law_pick⟩ := k__law_pick
  obtain ⟨f__law_draw, fd__law_draw, F__law_draw, g__law_draw, b__law_draw, G__law_draw⟩ := k__law_draw
  obtain ⟨f__law_table, fd__law_table, F__law_table, g__law_table, b__law_table, G__law_table⟩ := k__law_table
  refine ⟨f_s, fd_s, F_s, g_s, F_s.binds (fun _ _ _ _ _ _ us hl => match us, hl with | [_, _, _], _ => rfl), FnG.of F_s sc__law_model (fun xs μ Q h => by first | exact h.1 | (obtain ⟨⟩ := h)) fun cdv A outer s H hr hgd => ⟨_, _, (pss_cons (ps_asg (pe_tup (pa_cons (pe_op op_plus pe_int (pe_callG (G__law_draw.mono (by decide)) hr hgd (by rfl) g__law_draw F__law_draw.kp b__law_draw (pa_cons (pv 0) (pa_cons (pv 1) pa_nil)))) (pa_cons (pe_callG (G__law_pick.mono (by decide)) hr hgd (by rfl) g__law_pick F__law_pick.kp b__law_pick (pa_cons (pv 0) (pa_cons (pe_lst (pa_cons pe_int (pa_cons pe_int (pa_cons pe_int (pa_cons pe_int (pa_cons pe_int (pa_cons pe_int pa_nil))))))) pa_nil))) pa_nil))) (pg_tup (n := 2) rfl (pgs_cons (pg_name (i := 3) sc__law_model.nd rfl (Or.inr rfl)) (pgs_cons (pg_name (i := 4) sc__law_model.nd rfl (Or.inl rfl)) pgs_nil))))
 (pss_cons (ps_set (i := 5) sc__law_model.nd rfl (Or.inl rfl) (peLM (pe_lst pa_nil)))
 (pss_cons (ps_for PassesOwn.never rfl (pi_range1 (by rfl) (B "range" (by decide)) (pa_cons (pv 3) pa_nil)) (pg_name (i := 6) sc__law_model.nd rfl (Or.inl rfl))
 (pss_cons (ps_set (i := 7) sc__law_model.nd rfl (Or.inl rfl) (pe_callG (G__law_table.mono (by decide)) hr hgd (by rfl) g__law_table F__law_table.kp b__law_table (pa_cons (pv 0) (pa_cons (pv 4) (pa_cons (pv 2) pa_nil)))))
 (pss_one (ps_expr (pe_bm PySem.F.plainAttrs_list PySem.F.slot_list_append PySem.F.type_list_append mt_append (pv 5) (pa_cons (pe_tup (pa_cons (pv 7) (pa_cons (pe_callTy cb_tup (by rfl) (B "tuple" (by decide)) (by decide +kernel) (pa_cons (pe_lc (own := [("_law_i", 8)]) (by rfl) sc__law_model.nd (pi_range1 (by rfl) (B "range" (by decide)) (pa_cons (pv 4) pa_nil)) (blkOk_by (own := [("_law_i", 8)]) (N := N__law_model) (sc := defScope s__law_model) (by decide +kernel)) (fun _ _ _ _ _ => (pg_name (i := 8) sc__law_model.nd rfl (Or.inl rfl))) (fun _ _ _ _ _ => pts_nil) (fun _ _ _ _ _ => (pek_call K rfl (G__law_draw.mono (by decide)) hr hgd (by rfl) g__law_draw F__law_draw.kp b__law_draw (pa_cons (pv 0) (pa_cons (pv 3) pa_nil))))) pa_nil)) pa_nil))) pa_nil))))))
 (pss_one (ps_ret (pe_callTy cb_tup (by rfl) (B "tuple" (by decide)) (by decide +kernel) (pa_cons (pv 5) pa_nil))))))), (by (try dsimp only [cxOf]); exact inferInstance), ?_⟩⟩
  intro xs μ Q hS
  obtain ⟨_, many, m, rest, Bs, rfl, hD, m1, m50, hB, hBl, hBb, hQ⟩ := hS
  rw [show startP N__law_model [.mr 1, .int many, .lst (Bs.map fun (b : Nat) => PV.int b)] = [some (.mr 1), some (.int many), some (.lst (Bs.map fun (b : Nat) => PV.int b)), none, none, none, none, none, none] from rfl]
  refine stm_of fun R hR => ?_
  simp only [str_to, str_ot, mPar3, mLockV, mLockE, mItemsC, mKeysC, mDGet2, pIsN, isNonP, pRepLM, mTruD, dkOfP, pPopAt, pIndex, mLstRgM, mTruth, pReprA, pLenD, pLstD, mDNew, pRepL, mLenSetN, mDIn, mSortSet, mSortSetL, mRevT, mForC, mSeqC, mLcC, pAbs, pMax2, pMin2, pInt1, mDGet, mDPut, mBM, mBM0, pPop, pAppend, pExtend, pSetL, mSub, mDisp, mPs, mPs0, mRevL, mRevLM, pLstOfM, mTupRg, mRg1, mRg2, pPlusM, lstItems, dictOfP, keyP, keysP, val_left, val_mixed, val_draws, put_draws, mLc, mLcM, mLc2, mFor, mSeqI, mRng1, mRng2, mZip, mEnum, mSl, mNoPart, mPart, mSeq, mAsg, mAsg2, mCB, mCons, mNil, mVar, mC, mOp, mUn, pU, mTup, mLst, mRet, mRetN, mLstM, getl, setl, mName, mCall, mCallK, mIf, mIfS, mTest, mAnd, mOr, mNot, mYes, mAndV, mOrV, mNotV, mNext, mNever, mBreak, mCont, mDrop, mChain, mPar, mGTup, mGCons, mGNil, pGcd, pI, pI0, pIx, pTimes, pPlus, pEq, pNe, pLen, pSum, pMaxS, pAll, pAny, pTupOf, pLstOf, pIn, pIsB, pIsi, items_tup, items_lst, items_kl, items_mr, items_tab, items_lot, items_fr, decide_true, decide_false, eqP_int, eqP_bl, eqP_str, eqP_tup2, kit_tt, kit_ii, kit_ib, tyP, mEnd, wipeP, List.map_cons, List.map_nil, List.getElem?_cons_zero, List.getElem?_cons_succ, List.set_cons_zero, List.set_cons_succ, atI_zero, atI_one, if_true, if_false, ite_true, ite_false, Bool.false_eq_true, List.length_cons, List.length_nil, Bool.not_true, Bool.not_false, S__law_draw, S__law_pick]
  refine ⟨trivial, _, m, rest, rfl, hD, by omega, by omega, fun y μ1 y0 y1 D1 => ⟨by decide, trivial, _, _, m, rest, rfl, .inl rfl, D1, by simp, by simp, fun v hv μ2 D2 => ?_⟩⟩
  obtain ⟨n, rfl, n1, n5⟩ : ∃ n : Nat, v = .int (n : Nat) ∧ 1 ≤ n ∧ n ≤ 5 := by
    simp only [List.mem_cons, List.not_mem_nil, or_false] at hv
    rcases hv with rfl | rfl | rfl | rfl | rfl | rfl
    · exact ⟨2, rfl, by decide, by decide⟩
    · exact ⟨3, rfl, by decide, by decide⟩
    · exact ⟨2, rfl, by decide, by decide⟩
    · exact ⟨4, rfl, by decide, by decide⟩
    · exact ⟨5, rfl, by decide, by decide⟩
    · exact ⟨1, rfl, by decide, by decide⟩
  obtain ⟨k, hk, k1, k2⟩ : ∃ k : Nat, 1 + y = (k : Int) ∧ 1 ≤ k ∧ k ≤ 50 := ⟨(1 + y).toNat, by omega, by omega, by omega⟩
  rw [hk]
  refine ⟨by decide, trivial, ?_⟩
  subst hR
  refine stm_of fun R1 hR1 => ?_
  simp only [str_to, str_ot, mPar3, mLockV, mLockE, mItemsC, mKeysC, mDGet2, pIsN, isNonP, pRepLM, mTruD, dkOfP, pPopAt, pIndex, mLstRgM, mTruth, pReprA, pLenD, pLstD, mDNew, pRepL, mLenSetN, mDIn, mSortSet, mSortSetL, mRevT, mForC, mSeqC, mLcC, pAbs, pMax2, pMin2, pInt1, mDGet, mDPut, mBM, mBM0, pPop, pAppend, pExtend, pSetL, mSub, mDisp, mPs, mPs0, mRevL, mRevLM, pLstOfM, mTupRg, mRg1, mRg2, pPlusM, lstItems, dictOfP, keyP, keysP, val_left, val_mixed, val_draws, put_draws, mLc, mLcM, mLc2, mFor, mSeqI, mRng1, mRng2, mZip, mEnum, mSl, mNoPart, mPart, mSeq, mAsg, mAsg2, mCB, mCons, mNil, mVar, mC, mOp, mUn, pU, mTup, mLst, mRet, mRetN, mLstM, getl, setl, mName, mCall, mCallK, mIf, mIfS, mTest, mAnd, mOr, mNot, mYes, mAndV, mOrV, mNotV, mNext, mNever, mBreak, mCont, mDrop, mChain, mPar, mGTup, mGCons, mGNil, pGcd, pI, pI0, pIx, pTimes, pPlus, pEq, pNe, pLen, pSum, pMaxS, pAll, pAny, pTupOf, pLstOf, pIn, pIsB, pIsi, items_tup, items_lst, items_kl, items_mr, items_tab, items_lot, items_fr, decide_true, decide_false, eqP_int, eqP_bl, eqP_str, eqP_tup2, kit_tt, kit_ii, kit_ib, tyP, mEnd, wipeP, List.map_cons, List.map_nil, List.getElem?_cons_zero, List.getElem?_cons_succ, List.set_cons_zero, List.set_cons_succ, atI_zero, atI_one, if_true, if_false, ite_true, ite_false, Bool.false_eq_true, List.length_cons, List.length_nil, Bool.not_true, Bool.not_false]
  refine ⟨by decide, ?_⟩
  subst hR1
  refine stm_of fun R2 hR2 => ?_
  have hml := D2.len
  simp only [str_to, str_ot, mPar3, mLockV, mLockE, mItemsC, mKeysC, mDGet2, pIsN, isNonP, pRepLM, mTruD, dkOfP, pPopAt, pIndex, mLstRgM, mTruth, pReprA, pLenD, pLstD, mDNew, pRepL, mLenSetN, mDIn, mSortSet, mSortSetL, mRevT, mForC, mSeqC, mLcC, pAbs, pMax2, pMin2, pInt1, mDGet, mDPut, mBM, mBM0, pPop, pAppend, pExtend, pSetL, mSub, mDisp, mPs, mPs0, mRevL, mRevLM, pLstOfM, mTupRg, mRg1, mRg2, pPlusM, lstItems, dictOfP, keyP, keysP, val_left, val_mixed, val_draws, put_draws, mLc, mLcM, mLc2, mFor, mSeqI, mRng1, mRng2, mZip, mEnum, mSl, mNoPart, mPart, mSeq, mAsg, mAsg2, mCB, mCons, mNil, mVar, mC, mOp, mUn, pU, mTup, mLst, mRet, mRetN, mLstM, getl, setl, mName, mCall, mCallK, mIf, mIfS, mTest, mAnd, mOr, mNot, mYes, mAndV, mOrV, mNotV, mNext, mNever, mBreak, mCont, mDrop, mChain, mPar, mGTup, mGCons, mGNil, pGcd, pI, pI0, pIx, pTimes, pPlus, pEq, pNe, pLen, pSum, pMaxS, pAll, pAny, pTupOf, pLstOf, pIn, pIsB, pIsi, items_tup, items_lst, items_kl, items_mr, items_tab, items_lot, items_fr, decide_true, decide_false, eqP_int, eqP_bl, eqP_str, eqP_tup2, kit_tt, kit_ii, kit_ib, tyP, mEnd, wipeP, List.map_cons, List.map_nil, List.getElem?_cons_zero, List.getElem?_cons_succ, List.set_cons_zero, List.set_cons_succ, atI_zero, atI_one, if_true, if_false, ite_true, ite_false, Bool.false_eq_true, List.length_cons, List.length_nil, Bool.not_true, Bool.not_false]
  rw [hml, Int.toNat_natCast, rangeP_eq]
  refine ⟨⟨by omega, by omega⟩, for_inv (enc := fun (i : Nat) => PV.int i) (fun pre ρ μ' => ∃ (L : List (List Rat × List Nat)) (G : Store) (y6 y7 y8 : Option PV), ρ = [some (.mr 1), some (.int (many : Nat)), some (.lst (Bs.map fun (b : Nat) => PV.int b)), some (.int (k : Nat)), some (.int (n : Nat)), some (.mr (rest.length + 0 + 2)), y6, y7, y8] ∧ Dk m (rest ++ G) μ' ∧ G[0]? = some (.lst (L.map stP)) ∧ L.length = pre.length ∧ ∀ s ∈ L, Tab 7 s.1 ∧ s.1.length = n ∧ s.2.length = n ∧ ∀ f ∈ s.2, f < k) (done := []) ⟨[], _, _, _, _, rfl, D2.app _, rfl, rfl, by simp⟩ (fun pre i post ρ μ3 e hI N hN => ?_) fun ρ μ3 hI => ?_⟩
  · obtain ⟨L, G, y6, y7, y8, rfl, D3, g1, hL, hok⟩ := hI
    have hpl : pre.length < k := by
      have := congrArg List.length e
      simp at this
      omega
    show mSeq _ _ _ _ _
    refine stm_of fun R3 hR3 => ?_
    simp only [str_to, str_ot, mPar3, mLockV, mLockE, mItemsC, mKeysC, mDGet2, pIsN, isNonP, pRepLM, mTruD, dkOfP, pPopAt, pIndex, mLstRgM, mTruth, pReprA, pLenD, pLstD, mDNew, pRepL, mLenSetN, mDIn, mSortSet, mSortSetL, mRevT, mForC, mSeqC, mLcC, pAbs, pMax2, pMin2, pInt1, mDGet, mDPut, mBM, mBM0, pPop, pAppend, pExtend, pSetL, mSub, mDisp, mPs, mPs0, mRevL, mRevLM, pLstOfM, mTupRg, mRg1, mRg2, pPlusM, lstItems, dictOfP, keyP, keysP, val_left, val_mixed, val_draws, put_draws, mLc, mLcM, mLc2, mFor, mSeqI, mRng1, mRng2, mZip, mEnum, mSl, mNoPart, mPart, mSeq, mAsg, mAsg2, mCB, mCons, mNil, mVar, mC, mOp, mUn, pU, mTup, mLst, mRet, mRetN, mLstM, getl, setl, mName, mCall, mCallK, mIf, mIfS, mTest, mAnd, mOr, mNot, mYes, mAndV, mOrV, mNotV, mNext, mNever, mBreak, mCont, mDrop, mChain, mPar, mGTup, mGCons, mGNil, pGcd, pI, pI0, pIx, pTimes, pPlus, pEq, pNe, pLen, pSum, pMaxS, pAll, pAny, pTupOf, pLstOf, pIn, pIsB, pIsi, items_tup, items_lst, items_kl, items_mr, items_tab, items_lot, items_fr, decide_true, decide_false, eqP_int, eqP_bl, eqP_str, eqP_tup2, kit_tt, kit_ii, kit_ib, tyP, mEnd, wipeP, List.map_cons, List.map_nil, List.getElem?_cons_zero, List.getElem?_cons_succ, List.set_cons_zero, List.set_cons_succ, atI_zero, atI_one, if_true, if_false, ite_true, ite_false, Bool.false_eq_true, List.length_cons, List.length_nil, Bool.not_true, Bool.not_false, S__law_table]
    refine ⟨trivial, n, 7, m, _, _, Bs, rfl, rfl, D3, n1, by omega, by decide, hB, hBl, hBb, fun qs g μ4 hT hql D4 => ?_⟩
    rw [List.append_assoc] at D4
    have g2 : (G ++ g)[0]? = some (.lst (L.map stP)) := by rw [List.getElem?_append_left (List.getElem?_eq_some_iff.mp g1).1]; exact g1
    generalize G ++ g = G2 at *
    subst hR3
    simp only [str_to, str_ot, mPar3, mLockV, mLockE, mItemsC, mKeysC, mDGet2, pIsN, isNonP, pRepLM, mTruD, dkOfP, pPopAt, pIndex, mLstRgM, mTruth, pReprA, pLenD, pLstD, mDNew, pRepL, mLenSetN, mDIn, mSortSet, mSortSetL, mRevT, mForC, mSeqC, mLcC, pAbs, pMax2, pMin2, pInt1, mDGet, mDPut, mBM, mBM0, pPop, pAppend, pExtend, pSetL, mSub, mDisp, mPs, mPs0, mRevL, mRevLM, pLstOfM, mTupRg, mRg1, mRg2, pPlusM, lstItems, dictOfP, keyP, keysP, val_left, val_mixed, val_draws, put_draws, mLc, mLcM, mLc2, mFor, mSeqI, mRng1, mRng2, mZip, mEnum, mSl, mNoPart, mPart, mSeq, mAsg, mAsg2, mCB, mCons, mNil, mVar, mC, mOp, mUn, pU, mTup, mLst, mRet, mRetN, mLstM, getl, setl, mName, mCall, mCallK, mIf, mIfS, mTest, mAnd, mOr, mNot, mYes, mAndV, mOrV, mNotV, mNext, mNever, mBreak, mCont, mDrop, mChain, mPar, mGTup, mGCons, mGNil, pGcd, pI, pI0, pIx, pTimes, pPlus, pEq, pNe, pLen, pSum, pMaxS, pAll, pAny, pTupOf, pLstOf, pIn, pIsB, pIsi, items_tup, items_lst, items_kl, items_mr, items_tab, items_lot, items_fr, decide_true, decide_false, eqP_int, eqP_bl, eqP_str, eqP_tup2, kit_tt, kit_ii, kit_ib, tyP, mEnd, wipeP, List.map_cons, List.map_nil, List.getElem?_cons_zero, List.getElem?_cons_succ, List.set_cons_zero, List.set_cons_succ, atI_zero, atI_one, if_true, if_false, ite_true, ite_false, Bool.false_eq_true, List.length_cons, List.length_nil, Bool.not_true, Bool.not_false, (cl_get D4 0).trans g2]
    rw [Int.toNat_natCast, rangeP_eq]
    refine ⟨by decide, ⟨by omega, by omega⟩, by rw [List.length_map, List.length_range]; unfold lim; omega, nats_any D4 (c := k) (fun a μ' D' N2 hN2 => ?_) fun fs μ' b1 b2 D' => ?_⟩
    · simp only [str_to, str_ot, mPar3, mLockV, mLockE, mItemsC, mKeysC, mDGet2, pIsN, isNonP, pRepLM, mTruD, dkOfP, pPopAt, pIndex, mLstRgM, mTruth, pReprA, pLenD, pLstD, mDNew, pRepL, mLenSetN, mDIn, mSortSet, mSortSetL, mRevT, mForC, mSeqC, mLcC, pAbs, pMax2, pMin2, pInt1, mDGet, mDPut, mBM, mBM0, pPop, pAppend, pExtend, pSetL, mSub, mDisp, mPs, mPs0, mRevL, mRevLM, pLstOfM, mTupRg, mRg1, mRg2, pPlusM, lstItems, dictOfP, keyP, keysP, val_left, val_mixed, val_draws, put_draws, mLc, mLcM, mLc2, mFor, mSeqI, mRng1, mRng2, mZip, mEnum, mSl, mNoPart, mPart, mSeq, mAsg, mAsg2, mCB, mCons, mNil, mVar, mC, mOp, mUn, pU, mTup, mLst, mRet, mRetN, mLstM, getl, setl, mName, mCall, mCallK, mIf, mIfS, mTest, mAnd, mOr, mNot, mYes, mAndV, mOrV, mNotV, mNext, mNever, mBreak, mCont, mDrop, mChain, mPar, mGTup, mGCons, mGNil, pGcd, pI, pI0, pIx, pTimes, pPlus, pEq, pNe, pLen, pSum, pMaxS, pAll, pAny, pTupOf, pLstOf, pIn, pIsB, pIsi, items_tup, items_lst, items_kl, items_mr, items_tab, items_lot, items_fr, decide_true, decide_false, eqP_int, eqP_bl, eqP_str, eqP_tup2, kit_tt, kit_ii, kit_ib, tyP, mEnd, wipeP, List.map_cons, List.map_nil, List.getElem?_cons_zero, List.getElem?_cons_succ, List.set_cons_zero, List.set_cons_succ, atI_zero, atI_one, if_true, if_false, ite_true, ite_false, Bool.false_eq_true, List.length_cons, List.length_nil, Bool.not_true, Bool.not_false, S__law_draw]
      exact ⟨trivial, _, m, _, rfl, D', by omega, by omega, hN2⟩
    · simp only [(cl_get D' 0).trans g2]
      have D6 := cl_set D' 0 (.lst (L.map stP ++ [.tup [tabP qs, .tup (fs.map fun (n : Nat) => PV.int n)]]))
      refine ⟨by decide, by rw [List.length_map]; unfold lim; omega, hN _ _ ⟨L ++ [(qs, fs)], _, _, _, _, rfl, D6, ?_, by rw [List.length_append, List.length_append, hL]; rfl, fun s hs => ?_⟩⟩
      · rw [List.getElem?_set_self (List.getElem?_eq_some_iff.mp g2).1, List.map_append]
        rfl
      · rcases List.mem_append.mp hs with hs | hs
        · exact hok s hs
        · rw [List.mem_singleton.mp hs]
          exact ⟨hT, hql, b2, fun f hf => by have := b1 f hf; omega⟩
  · obtain ⟨L, G, y6, y7, y8, rfl, D3, g1, hL, hok⟩ := hI
    rw [List.nil_append, List.length_range] at hL
    show R2 _ _
    subst hR2
    simp only [str_to, str_ot, mPar3, mLockV, mLockE, mItemsC, mKeysC, mDGet2, pIsN, isNonP, pRepLM, mTruD, dkOfP, pPopAt, pIndex, mLstRgM, mTruth, pReprA, pLenD, pLstD, mDNew, pRepL, mLenSetN, mDIn, mSortSet, mSortSetL, mRevT, mForC, mSeqC, mLcC, pAbs, pMax2, pMin2, pInt1, mDGet, mDPut, mBM, mBM0, pPop, pAppend, pExtend, pSetL, mSub, mDisp, mPs, mPs0, mRevL, mRevLM, pLstOfM, mTupRg, mRg1, mRg2, pPlusM, lstItems, dictOfP, keyP, keysP, val_left, val_mixed, val_draws, put_draws, mLc, mLcM, mLc2, mFor, mSeqI, mRng1, mRng2, mZip, mEnum, mSl, mNoPart, mPart, mSeq, mAsg, mAsg2, mCB, mCons, mNil, mVar, mC, mOp, mUn, pU, mTup, mLst, mRet, mRetN, mLstM, getl, setl, mName, mCall, mCallK, mIf, mIfS, mTest, mAnd, mOr, mNot, mYes, mAndV, mOrV, mNotV, mNext, mNever, mBreak, mCont, mDrop, mChain, mPar, mGTup, mGCons, mGNil, pGcd, pI, pI0, pIx, pTimes, pPlus, pEq, pNe, pLen, pSum, pMaxS, pAll, pAny, pTupOf, pLstOf, pIn, pIsB, pIsi, items_tup, items_lst, items_kl, items_mr, items_tab, items_lot, items_fr, decide_true, decide_false, eqP_int, eqP_bl, eqP_str, eqP_tup2, kit_tt, kit_ii, kit_ib, tyP, mEnd, wipeP, List.map_cons, List.map_nil, List.getElem?_cons_zero, List.getElem?_cons_succ, List.set_cons_zero, List.set_cons_succ, atI_zero, atI_one, if_true, if_false, ite_true, ite_false, Bool.false_eq_true, List.length_cons, List.length_nil, Bool.not_true, Bool.not_false, (cl_get D3 0).trans g1]
    have hMo : MdlOk n L := ⟨fun z => by have h : L.length = 0 := congrArg List.length z; omega, by omega, n1, by omega, fun s hs => (hok s hs).1, fun s hs => (hok s hs).2.1, fun s hs => (hok s hs).2.2.1, fun s hs f hf => by have := (hok s hs).2.2.2 f hf; omega⟩
    exact fin_keep (hQ n L G μ3 hMo n5 D3)
abbrev N__law_total : List Str := ["_law_some", "_law_found", "_law_it"]
theorem sc__law_total : FnScope N__law_total ["_law_some"] (defScope s__law_total) := ⟨rfl, rfl, rfl, by decide +kernel, rfl, by decide +kernel, by decide +kernel⟩
theorem ok__law_total (B : Blt mg) (h__law_total : Own K mg "_law_total" s__law_total) (k__law_plus : Ok P w K mg base 3 "_law_plus" s__law_plus ["_law_one", "_law_other"] S__law_plus) : Ok P w K mg base 4 "_law_total" s__law_total ["_law_some"] S__law_total := by
  obtain ⟨f_s, fd_s, F_s, g_s⟩ := h__law_total
  obtain ⟨f__law_plus, fd__law_plus, F__law_plus, g__law_plus, b__law_plus, G__law_plus⟩ := k__law_plus
  refine ⟨f_s, fd_s, F_s, g_s, F_s.binds (fun _ _ _ _ _ _ us hl => match us, hl with | [_], _ => rfl), FnG.of F_s sc__law_total (fun xs μ Q h => by first | exact h.1 | (obtain ⟨⟩ := h)) fun cdv A outer s H hr hgd => ⟨_, _, (pss_cons (ps_set (i := 1) sc__law_total.nd rfl (Or.inl rfl) (pe_tup (pa_cons pe_int (pa_cons pe_int pa_nil))))
 (pss_cons (ps_for PassesOwn.never rfl (pi_seq (pv 0)) (pg_name (i := 2) sc__law_total.nd rfl (Or.inl rfl))
 (pss_one (ps_set (i := 1) sc__law_total.nd rfl (Or.inl rfl) (pe_callG (G__law_plus.mono (by decide)) hr hgd (by rfl) g__law_plus F__law_plus.kp b__law_plus (pa_cons (pv 1) (pa_cons (pv 2) pa_nil))))))
 (pss_one (ps_ret (pv 1))))), (by (try dsimp only [cxOf]); exact inferInstance), ?_⟩⟩
  intro xs μ Q hS
  obtain ⟨_, x, qs, rfl, hx, hb, hQ⟩ := hS
  rw [show startP N__law_total [x] = [some x, none, none] from rfl]
  have key : mForL (mName 2) (mAsg (mCall S__law_plus (mCons (mVar 1) (mCons (mVar 2) mNil))) (mName 1)) { nx := mRet (mVar 1) (mEnd μ Q), rt := fun x μ_1 => ∃ y μ', Gc μ x μ_1 y μ' ∧ Q y μ' } (qs.map frP) [some x, some (PV.tup [PV.int 0, PV.int 1]), none] μ := by
    refine for_inv (enc := frP) (fun pre ρ μ' => (∃ y, ρ = [some x, some (frP pre.sum), y]) ∧ μ' = μ) (done := []) ⟨⟨_, rfl⟩, rfl⟩ (fun pre a post ρ μ' e hI N hN => ?_) fun ρ μ' hI => ?_
    · obtain ⟨⟨y, rfl⟩, rfl⟩ := hI
      have e' : qs = pre ++ a :: post := e
      simp only [str_to, str_ot, mPar3, mLockV, mLockE, mItemsC, mKeysC, mDGet2, pIsN, isNonP, pRepLM, mTruD, dkOfP, pPopAt, pIndex, mLstRgM, mTruth, pReprA, pLenD, pLstD, mDNew, pRepL, mLenSetN, mDIn, mSortSet, mSortSetL, mRevT, mForC, mSeqC, mLcC, pAbs, pMax2, pMin2, pInt1, mDGet, mDPut, mBM, mBM0, pPop, pAppend, pExtend, pSetL, mSub, mDisp, mPs, mPs0, mRevL, mRevLM, pLstOfM, mTupRg, mRg1, mRg2, pPlusM, lstItems, dictOfP, keyP, keysP, val_left, val_mixed, val_draws, put_draws, mLc, mLcM, mLc2, mFor, mSeqI, mRng1, mRng2, mZip, mEnum, mSl, mNoPart, mPart, mSeq, mAsg, mAsg2, mCB, mCons, mNil, mVar, mC, mOp, mUn, pU, mTup, mLst, mRet, mRetN, mLstM, getl, setl, mName, mCall, mCallK, mIf, mIfS, mTest, mAnd, mOr, mNot, mYes, mAndV, mOrV, mNotV, mNext, mNever, mBreak, mCont, mDrop, mChain, mPar, mGTup, mGCons, mGNil, pGcd, pI, pI0, pIx, pTimes, pPlus, pEq, pNe, pLen, pSum, pMaxS, pAll, pAny, pTupOf, pLstOf, pIn, pIsB, pIsi, items_tup, items_lst, items_kl, items_mr, items_tab, items_lot, items_fr, decide_true, decide_false, eqP_int, eqP_bl, eqP_str, eqP_tup2, kit_tt, kit_ii, kit_ib, tyP, mEnd, wipeP, List.map_cons, List.map_nil, List.getElem?_cons_zero, List.getElem?_cons_succ, List.set_cons_zero, List.set_cons_succ, atI_zero, atI_one, if_true, if_false, ite_true, ite_false, Bool.false_eq_true, List.length_cons, List.length_nil, Bool.not_true, Bool.not_false, S__law_plus]
      refine ⟨trivial, _, _, rfl, (hb.sub (by rw [e']; exact List.sublist_append_left _ _)).sum_sm.mono (by decide), (hb.mem_sm (by rw [e']; simp)).mono (by decide), hN _ _ ⟨⟨some (frP a), ?_⟩, rfl⟩⟩
      rw [sum_append, List.sum_cons]
      show _ = [some x, some (frP (pre.sum + (a + 0))), some (frP a)]
      rw [Rat.add_zero]
    · obtain ⟨⟨y, rfl⟩, rfl⟩ := hI
      simp only [str_to, str_ot, mPar3, mLockV, mLockE, mItemsC, mKeysC, mDGet2, pIsN, isNonP, pRepLM, mTruD, dkOfP, pPopAt, pIndex, mLstRgM, mTruth, pReprA, pLenD, pLstD, mDNew, pRepL, mLenSetN, mDIn, mSortSet, mSortSetL, mRevT, mForC, mSeqC, mLcC, pAbs, pMax2, pMin2, pInt1, mDGet, mDPut, mBM, mBM0, pPop, pAppend, pExtend, pSetL, mSub, mDisp, mPs, mPs0, mRevL, mRevLM, pLstOfM, mTupRg, mRg1, mRg2, pPlusM, lstItems, dictOfP, keyP, keysP, val_left, val_mixed, val_draws, put_draws, mLc, mLcM, mLc2, mFor, mSeqI, mRng1, mRng2, mZip, mEnum, mSl, mNoPart, mPart, mSeq, mAsg, mAsg2, mCB, mCons, mNil, mVar, mC, mOp, mUn, pU, mTup, mLst, mRet, mRetN, mLstM, getl, setl, mName, mCall, mCallK, mIf, mIfS, mTest, mAnd, mOr, mNot, mYes, mAndV, mOrV, mNotV, mNext, mNever, mBreak, mCont, mDrop, mChain, mPar, mGTup, mGCons, mGNil, pGcd, pI, pI0, pIx, pTimes, pPlus, pEq, pNe, pLen, pSum, pMaxS, pAll, pAny, pTupOf, pLstOf, pIn, pIsB, pIsi, items_tup, items_lst, items_kl, items_mr, items_tab, items_lot, items_fr, decide_true, decide_false, eqP_int, eqP_bl, eqP_str, eqP_tup2, kit_tt, kit_ii, kit_ib, tyP, mEnd, wipeP, List.map_cons, List.map_nil, List.getElem?_cons_zero, List.getElem?_cons_succ, List.set_cons_zero, List.set_cons_succ, atI_zero, atI_one, if_true, if_false, ite_true, ite_false, Bool.false_eq_true, List.length_cons, List.length_nil, Bool.not_true, Bool.not_false]
      exact fin_keep hQ
  cases x <;> simp only [seqP, reduceCtorEq, Option.some.injEq] at hx
  · subst hx
    simp only [str_to, str_ot, mPar3, mLockV, mLockE, mItemsC, mKeysC, mDGet2, pIsN, isNonP, pRepLM, mTruD, dkOfP, pPopAt, pIndex, mLstRgM, mTruth, pReprA, pLenD, pLstD, mDNew, pRepL, mLenSetN, mDIn, mSortSet, mSortSetL, mRevT, mForC, mSeqC, mLcC, pAbs, pMax2, pMin2, pInt1, mDGet, mDPut, mBM, mBM0, pPop, pAppend, pExtend, pSetL, mSub, mDisp, mPs, mPs0, mRevL, mRevLM, pLstOfM, mTupRg, mRg1, mRg2, pPlusM, lstItems, dictOfP, keyP, keysP, val_left, val_mixed, val_draws, put_draws, mLc, mLcM, mLc2, mFor, mSeqI, mRng1, mRng2, mZip, mEnum, mSl, mNoPart, mPart, mSeq, mAsg, mAsg2, mCB, mCons, mNil, mVar, mC, mOp, mUn, pU, mTup, mLst, mRet, mRetN, mLstM, getl, setl, mName, mCall, mCallK, mIf, mIfS, mTest, mAnd, mOr, mNot, mYes, mAndV, mOrV, mNotV, mNext, mNever, mBreak, mCont, mDrop, mChain, mPar, mGTup, mGCons, mGNil, pGcd, pI, pI0, pIx, pTimes, pPlus, pEq, pNe, pLen, pSum, pMaxS, pAll, pAny, pTupOf, pLstOf, pIn, pIsB, pIsi, items_tup, items_lst, items_kl, items_mr, items_tab, items_lot, items_fr, decide_true, decide_false, eqP_int, eqP_bl, eqP_str, eqP_tup2, kit_tt, kit_ii, kit_ib, tyP, mEnd, wipeP, List.map_cons, List.map_nil, List.getElem?_cons_zero, List.getElem?_cons_succ, List.set_cons_zero, List.set_cons_succ, atI_zero, atI_one, if_true, if_false, ite_true, ite_false, Bool.false_eq_true, List.length_cons, List.length_nil, Bool.not_true, Bool.not_false]
    exact ⟨by decide, key⟩
  · subst hx
    simp only [str_to, str_ot, mPar3, mLockV, mLockE, mItemsC, mKeysC, mDGet2, pIsN, isNonP, pRepLM, mTruD, dkOfP, pPopAt, pIndex, mLstRgM, mTruth, pReprA, pLenD, pLstD, mDNew, pRepL, mLenSetN, mDIn, mSortSet, mSortSetL, mRevT, mForC, mSeqC, mLcC, pAbs, pMax2, pMin2, pInt1, mDGet, mDPut, mBM, mBM0, pPop, pAppend, pExtend, pSetL, mSub, mDisp, mPs, mPs0, mRevL, mRevLM, pLstOfM, mTupRg, mRg1, mRg2, pPlusM, lstItems, dictOfP, keyP, keysP, val_left, val_mixed, val_draws, put_draws, mLc, mLcM, mLc2, mFor, mSeqI, mRng1, mRng2, mZip, mEnum, mSl, mNoPart, mPart, mSeq, mAsg, mAsg2, mCB, mCons, mNil, mVar, mC, mOp, mUn, pU, mTup, mLst, mRet, mRetN, mLstM, getl, setl, mName, mCall, mCallK, mIf, mIfS, mTest, mAnd, mOr, mNot, mYes, mAndV, mOrV, mNotV, mNext, mNever, mBreak, mCont, mDrop, mChain, mPar, mGTup, mGCons, mGNil, pGcd, pI, pI0, pIx, pTimes, pPlus, pEq, pNe, pLen, pSum, pMaxS, pAll, pAny, pTupOf, pLstOf, pIn, pIsB, pIsi, items_tup, items_lst, items_kl, items_mr, items_tab, items_lot, items_fr, decide_true, decide_false, eqP_int, eqP_bl, eqP_str, eqP_tup2, kit_tt, kit_ii, kit_ib, tyP, mEnd, wipeP, List.map_cons, List.map_nil, List.getElem?_cons_zero, List.getElem?_cons_succ, List.set_cons_zero, List.set_cons_succ, atI_zero, atI_one, if_true, if_false, ite_true, ite_false, Bool.false_eq_true, List.length_cons, List.length_nil, Bool.not_true, Bool.not_false]
    exact ⟨by decide, key⟩
abbrev N_are_amounts : List Str := ["thing", "many", "item"]
theorem sc_are_amounts : FnScope N_are_amounts ["thing", "many"] (defScope s_are_amounts) := ⟨rfl, rfl, rfl, by decide +kernel, rfl, by decide +kernel, by decide +kernel⟩
theorem ok_are_amounts (B : Blt mg) (h_are_amounts : Own K mg "are_amounts" s_are_amounts) (k_is_amount : Ok P w K mg base 3 "is_amount" s_is_amount ["thing"] S_is_amount) : Ok P w K mg base 4 "are_amounts" s_are_amounts ["thing", "many"] S_are_amounts := by
  obtain ⟨f_s, fd_s, F_s, g_s⟩ := h_are_amounts
  obtain ⟨f_is_amount, fd_is_amount, F_is_amount, g_is_amount, b_is_amount, G_is_amount⟩ := k_is_amount
  refine ⟨f_s, fd_s, F_s, g_s, F_s.binds (fun _ _ _ _ _ _ us hl => match us, hl with | [_, _], _ => rfl), FnG.of F_s sc_are_amounts (fun xs μ Q h => by first | exact h.1 | (obtain ⟨⟩ := h)) fun cdv A outer s H hr hgd => ⟨_, _, (pss_one (ps_ret (pe_and (pe_callB call_isi (by rfl) (B "isinstance" (by decide)) (by decide +kernel) (pa_cons (pv 0) (pa_cons (pe_bltn (v := .ty "tuple") (u := .type "tuple") (by rfl) (B "tuple" (by decide)) (by decide +kernel) rfl) pa_nil))) (pe_and (pe_cmpR (op_eqX hr.units) (pe_callB cb_len (by rfl) (B "len" (by decide)) (by decide +kernel) (pa_cons (pv 0) pa_nil)) (pv 1) (nomark _)) (pe_one (pe_callB (cr_all rfl) (by rfl) (B "all" (by decide)) (by decide +kernel) (pa_cons (pe_lc (own := [("item", 2)]) (by rfl) sc_are_amounts.nd (pi_seq (pv 0)) (blkOk_by (own := [("item", 2)]) (N := N_are_amounts) (sc := defScope s_are_amounts) (by decide +kernel)) (fun _ _ _ _ _ => (pg_name (i := 2) sc_are_amounts.nd rfl (Or.inl rfl))) (fun _ _ _ _ _ => pts_nil) (fun _ _ _ _ _ => (pek_call K rfl (G_is_amount.mono (by decide)) hr hgd (by rfl) g_is_amount F_is_amount.kp b_is_amount (pa_cons (pv 2) pa_nil)))) pa_nil))))))), (by (try dsimp only [cxOf]); exact inferInstance), ?_⟩⟩
  intro xs μ Q hS
  obtain ⟨_, qs, n, rfl, hn, hl, h0, hQ⟩ := hS
  rw [show startP N_are_amounts [tabP qs, .int n] = [some (tabP qs), some (.int n), none] from rfl]
  simp only [str_to, str_ot, mPar3, mLockV, mLockE, mItemsC, mKeysC, mDGet2, pIsN, isNonP, pRepLM, mTruD, dkOfP, pPopAt, pIndex, mLstRgM, mTruth, pReprA, pLenD, pLstD, mDNew, pRepL, mLenSetN, mDIn, mSortSet, mSortSetL, mRevT, mForC, mSeqC, mLcC, pAbs, pMax2, pMin2, pInt1, mDGet, mDPut, mBM, mBM0, pPop, pAppend, pExtend, pSetL, mSub, mDisp, mPs, mPs0, mRevL, mRevLM, pLstOfM, mTupRg, mRg1, mRg2, pPlusM, lstItems, dictOfP, keyP, keysP, val_left, val_mixed, val_draws, put_draws, mLc, mLcM, mLc2, mFor, mSeqI, mRng1, mRng2, mZip, mEnum, mSl, mNoPart, mPart, mSeq, mAsg, mAsg2, mCB, mCons, mNil, mVar, mC, mOp, mUn, pU, mTup, mLst, mRet, mRetN, mLstM, getl, setl, mName, mCall, mCallK, mIf, mIfS, mTest, mAnd, mOr, mNot, mYes, mAndV, mOrV, mNotV, mNext, mNever, mBreak, mCont, mDrop, mChain, mPar, mGTup, mGCons, mGNil, pGcd, pI, pI0, pIx, pTimes, pPlus, pEq, pNe, pLen, pSum, pMaxS, pAll, pAny, pTupOf, pLstOf, pIn, pIsB, pIsi, items_tup, items_lst, items_kl, items_mr, items_tab, items_lot, items_fr, decide_true, decide_false, eqP_int, eqP_bl, eqP_str, eqP_tup2, kit_tt, kit_ii, kit_ib, tyP, mEnd, wipeP, List.map_cons, List.map_nil, List.getElem?_cons_zero, List.getElem?_cons_succ, List.set_cons_zero, List.set_cons_succ, atI_zero, atI_one, if_true, if_false, ite_true, ite_false, Bool.false_eq_true, List.length_cons, List.length_nil, Bool.not_true, Bool.not_false, tabP]
  have e1 : decide ((((qs.map frP).length : Nat) : Int) = (n : Int)) = true := by simp [hn]
  rw [e1]
  refine ⟨by decide, by rw [List.length_map]; exact hl, lc_map (out := fun _ => .bl true) (fun q hq k hk => ?_) ?_⟩
  · simp only [str_to, str_ot, mPar3, mLockV, mLockE, mItemsC, mKeysC, mDGet2, pIsN, isNonP, pRepLM, mTruD, dkOfP, pPopAt, pIndex, mLstRgM, mTruth, pReprA, pLenD, pLstD, mDNew, pRepL, mLenSetN, mDIn, mSortSet, mSortSetL, mRevT, mForC, mSeqC, mLcC, pAbs, pMax2, pMin2, pInt1, mDGet, mDPut, mBM, mBM0, pPop, pAppend, pExtend, pSetL, mSub, mDisp, mPs, mPs0, mRevL, mRevLM, pLstOfM, mTupRg, mRg1, mRg2, pPlusM, lstItems, dictOfP, keyP, keysP, val_left, val_mixed, val_draws, put_draws, mLc, mLcM, mLc2, mFor, mSeqI, mRng1, mRng2, mZip, mEnum, mSl, mNoPart, mPart, mSeq, mAsg, mAsg2, mCB, mCons, mNil, mVar, mC, mOp, mUn, pU, mTup, mLst, mRet, mRetN, mLstM, getl, setl, mName, mCall, mCallK, mIf, mIfS, mTest, mAnd, mOr, mNot, mYes, mAndV, mOrV, mNotV, mNext, mNever, mBreak, mCont, mDrop, mChain, mPar, mGTup, mGCons, mGNil, pGcd, pI, pI0, pIx, pTimes, pPlus, pEq, pNe, pLen, pSum, pMaxS, pAll, pAny, pTupOf, pLstOf, pIn, pIsB, pIsi, items_tup, items_lst, items_kl, items_mr, items_tab, items_lot, items_fr, decide_true, decide_false, eqP_int, eqP_bl, eqP_str, eqP_tup2, kit_tt, kit_ii, kit_ib, tyP, mEnd, wipeP, List.map_cons, List.map_nil, List.getElem?_cons_zero, List.getElem?_cons_succ, List.set_cons_zero, List.set_cons_succ, atI_zero, atI_one, if_true, if_false, ite_true, ite_false, Bool.false_eq_true, List.length_cons, List.length_nil, Bool.not_true, Bool.not_false, S_is_amount]
    exact ⟨trivial, q, rfl, h0 q hq, hk⟩
  · simp only [all_true, all_id]
    exact fin_keep hQ
abbrev N_is_way_of : List Str := ["model", "thing", "at", "i", "table", "followers"]
theorem sc_is_way_of : FnScope N_is_way_of ["model", "thing"] (defScope s_is_way_of) := ⟨rfl, rfl, rfl, by decide +kernel, rfl, by decide +kernel, by decide +kernel⟩
theorem ok_is_way_of (B : Blt mg) (h_is_way_of : Own K mg "is_way_of" s_is_way_of) (k_are_integers : Ok P w K mg base 3 "are_integers" s_are_integers ["thing", "low", "high"] S_are_integers) : Ok P w K mg base 4 "is_way_of" s_is_way_of ["model", "thing"] S_is_way_of := by
  obtain ⟨f_s, fd_s, F_s, g_s⟩ := h_is_way_of
  obtain ⟨f_are_integers, fd_are_integers, F_are_integers, g_are_integers, b_are_integers, G_are_integers⟩ := k_are_integers
  refine ⟨f_s, fd_s, F_s, g_s, F_s.binds (fun _ _ _ _ _ _ us hl => match us, hl with | [_, _], _ => rfl), FnG.of F_s sc_is_way_of (fun xs μ Q h => by first | exact h.1 | (obtain ⟨⟩ := h)) fun cdv A outer s H hr hgd => ⟨_, _, (pss_cons (ps_if (pt_not (pt_val (pe_callG (G_are_integers.mono (by decide)) hr hgd (by rfl) g_are_integers F_are_integers.kp b_are_integers (pa_cons (pv 1) (pa_cons pe_int (pa_cons (pe_op op_sub (pe_callB cb_len (by rfl) (B "len" (by decide)) (by decide +kernel) (pa_cons (pe_ix ix_seq (pe_ix ix_seq (pv 0) pe_int (fun _ _ => rfl)) pe_int (fun _ _ => rfl)) pa_nil)) pe_int) pa_nil))))))
 (pss_one (ps_ret pe_bl))
 pss_nil)
 (pss_cons (ps_set (i := 2) sc_is_way_of.nd rfl (Or.inl rfl) pe_int)
 (pss_cons (ps_for PassesOwn.never rfl (pi_seq (pv 1)) (pg_name (i := 3) sc_is_way_of.nd rfl (Or.inl rfl))
 (pss_cons (ps_asg (pe_ix ix_seq (pv 0) (pv 2) (fun _ _ => rfl)) (pg_tup (n := 2) rfl (pgs_cons (pg_name (i := 4) sc_is_way_of.nd rfl (Or.inl rfl)) (pgs_cons (pg_name (i := 5) sc_is_way_of.nd rfl (Or.inl rfl)) pgs_nil))))
 (pss_cons (ps_if (pt_cmpR (op_eqX hr.units) (pe_ix ix_seq (pe_ix ix_seq (pv 4) (pv 3) (fun _ _ => rfl)) pe_int (fun _ _ => rfl)) pe_int (nomark _))
 (pss_one (ps_ret pe_bl))
 pss_nil)
 (pss_one (ps_set (i := 2) sc_is_way_of.nd rfl (Or.inl rfl) (pe_ix ix_seq (pv 5) (pv 3) (fun _ _ => rfl)))))))
 (pss_one (ps_ret pe_bl))))), (by (try dsimp only [cxOf]); exact inferInstance), ?_⟩⟩
  intro xs μ Q hS
  obtain ⟨_, n, M, w, rfl, hM, hw, hl, hQ⟩ := hS
  rw [show startP N_is_way_of [mdlP M, lotP w] = [some (mdlP M), some (lotP w), none, none, none, none] from rfl]
  have h0 := List.length_pos_iff.mpr hM.ne
  have hlt := way_lt hM h0 hw
  refine stm_of fun R hR => ?_
  simp only [str_to, str_ot, mPar3, mLockV, mLockE, mItemsC, mKeysC, mDGet2, pIsN, isNonP, pRepLM, mTruD, dkOfP, pPopAt, pIndex, mLstRgM, mTruth, pReprA, pLenD, pLstD, mDNew, pRepL, mLenSetN, mDIn, mSortSet, mSortSetL, mRevT, mForC, mSeqC, mLcC, pAbs, pMax2, pMin2, pInt1, mDGet, mDPut, mBM, mBM0, pPop, pAppend, pExtend, pSetL, mSub, mDisp, mPs, mPs0, mRevL, mRevLM, pLstOfM, mTupRg, mRg1, mRg2, pPlusM, lstItems, dictOfP, keyP, keysP, val_left, val_mixed, val_draws, put_draws, mLc, mLcM, mLc2, mFor, mSeqI, mRng1, mRng2, mZip, mEnum, mSl, mNoPart, mPart, mSeq, mAsg, mAsg2, mCB, mCons, mNil, mVar, mC, mOp, mUn, pU, mTup, mLst, mRet, mRetN, mLstM, getl, setl, mName, mCall, mCallK, mIf, mIfS, mTest, mAnd, mOr, mNot, mYes, mAndV, mOrV, mNotV, mNext, mNever, mBreak, mCont, mDrop, mChain, mPar, mGTup, mGCons, mGNil, pGcd, pI, pI0, pIx, pTimes, pPlus, pEq, pNe, pLen, pSum, pMaxS, pAll, pAny, pTupOf, pLstOf, pIn, pIsB, pIsi, items_tup, items_lst, items_kl, items_mr, items_tab, items_lot, items_fr, decide_true, decide_false, eqP_int, eqP_bl, eqP_str, eqP_tup2, kit_tt, kit_ii, kit_ib, tyP, mEnd, wipeP, List.map_cons, List.map_nil, List.getElem?_cons_zero, List.getElem?_cons_succ, List.set_cons_zero, List.set_cons_succ, atI_zero, atI_one, if_true, if_false, ite_true, ite_false, Bool.false_eq_true, List.length_cons, List.length_nil, Bool.not_true, Bool.not_false, S_are_integers, items_mdl]
  simp only [atM0 h0]
  simp only [str_to, str_ot, mPar3, mLockV, mLockE, mItemsC, mKeysC, mDGet2, pIsN, isNonP, pRepLM, mTruD, dkOfP, pPopAt, pIndex, mLstRgM, mTruth, pReprA, pLenD, pLstD, mDNew, pRepL, mLenSetN, mDIn, mSortSet, mSortSetL, mRevT, mForC, mSeqC, mLcC, pAbs, pMax2, pMin2, pInt1, mDGet, mDPut, mBM, mBM0, pPop, pAppend, pExtend, pSetL, mSub, mDisp, mPs, mPs0, mRevL, mRevLM, pLstOfM, mTupRg, mRg1, mRg2, pPlusM, lstItems, dictOfP, keyP, keysP, val_left, val_mixed, val_draws, put_draws, mLc, mLcM, mLc2, mFor, mSeqI, mRng1, mRng2, mZip, mEnum, mSl, mNoPart, mPart, mSeq, mAsg, mAsg2, mCB, mCons, mNil, mVar, mC, mOp, mUn, pU, mTup, mLst, mRet, mRetN, mLstM, getl, setl, mName, mCall, mCallK, mIf, mIfS, mTest, mAnd, mOr, mNot, mYes, mAndV, mOrV, mNotV, mNext, mNever, mBreak, mCont, mDrop, mChain, mPar, mGTup, mGCons, mGNil, pGcd, pI, pI0, pIx, pTimes, pPlus, pEq, pNe, pLen, pSum, pMaxS, pAll, pAny, pTupOf, pLstOf, pIn, pIsB, pIsi, items_tup, items_lst, items_kl, items_mr, items_tab, items_lot, items_fr, decide_true, decide_false, eqP_int, eqP_bl, eqP_str, eqP_tup2, kit_tt, kit_ii, kit_ib, tyP, mEnd, wipeP, List.map_cons, List.map_nil, List.getElem?_cons_zero, List.getElem?_cons_succ, List.set_cons_zero, List.set_cons_succ, atI_zero, atI_one, if_true, if_false, ite_true, ite_false, Bool.false_eq_true, List.length_cons, List.length_nil, Bool.not_true, Bool.not_false, tabP, List.length_map]
  refine ⟨trivial, zs w, _, _, by rw [lot_ints], by rw [zs_length]; unfold lim; omega, ?_⟩
  have e1 : ((zs w).all fun i => decide ((0 : Int) ≤ i) && decide (i ≤ (((mtab M 0).length : Nat) : Int) - 1)) = true := by
    rw [List.all_eq_true]
    intro i hi
    obtain ⟨m, hm, rfl⟩ := List.mem_map.mp hi
    have := hlt m hm
    rw [hM.tl h0]
    simp; omega
  rw [e1, if_neg (by decide)]
  subst hR
  refine stm_of fun R1 hR1 => ?_
  simp only [str_to, str_ot, mPar3, mLockV, mLockE, mItemsC, mKeysC, mDGet2, pIsN, isNonP, pRepLM, mTruD, dkOfP, pPopAt, pIndex, mLstRgM, mTruth, pReprA, pLenD, pLstD, mDNew, pRepL, mLenSetN, mDIn, mSortSet, mSortSetL, mRevT, mForC, mSeqC, mLcC, pAbs, pMax2, pMin2, pInt1, mDGet, mDPut, mBM, mBM0, pPop, pAppend, pExtend, pSetL, mSub, mDisp, mPs, mPs0, mRevL, mRevLM, pLstOfM, mTupRg, mRg1, mRg2, pPlusM, lstItems, dictOfP, keyP, keysP, val_left, val_mixed, val_draws, put_draws, mLc, mLcM, mLc2, mFor, mSeqI, mRng1, mRng2, mZip, mEnum, mSl, mNoPart, mPart, mSeq, mAsg, mAsg2, mCB, mCons, mNil, mVar, mC, mOp, mUn, pU, mTup, mLst, mRet, mRetN, mLstM, getl, setl, mName, mCall, mCallK, mIf, mIfS, mTest, mAnd, mOr, mNot, mYes, mAndV, mOrV, mNotV, mNext, mNever, mBreak, mCont, mDrop, mChain, mPar, mGTup, mGCons, mGNil, pGcd, pI, pI0, pIx, pTimes, pPlus, pEq, pNe, pLen, pSum, pMaxS, pAll, pAny, pTupOf, pLstOf, pIn, pIsB, pIsi, items_tup, items_lst, items_kl, items_mr, items_tab, items_lot, items_fr, decide_true, decide_false, eqP_int, eqP_bl, eqP_str, eqP_tup2, kit_tt, kit_ii, kit_ib, tyP, mEnd, wipeP, List.map_cons, List.map_nil, List.getElem?_cons_zero, List.getElem?_cons_succ, List.set_cons_zero, List.set_cons_succ, atI_zero, atI_one, if_true, if_false, ite_true, ite_false, Bool.false_eq_true, List.length_cons, List.length_nil, Bool.not_true, Bool.not_false]
  subst hR1
  refine stm_of fun R2 hR2 => ?_
  simp only [str_to, str_ot, mPar3, mLockV, mLockE, mItemsC, mKeysC, mDGet2, pIsN, isNonP, pRepLM, mTruD, dkOfP, pPopAt, pIndex, mLstRgM, mTruth, pReprA, pLenD, pLstD, mDNew, pRepL, mLenSetN, mDIn, mSortSet, mSortSetL, mRevT, mForC, mSeqC, mLcC, pAbs, pMax2, pMin2, pInt1, mDGet, mDPut, mBM, mBM0, pPop, pAppend, pExtend, pSetL, mSub, mDisp, mPs, mPs0, mRevL, mRevLM, pLstOfM, mTupRg, mRg1, mRg2, pPlusM, lstItems, dictOfP, keyP, keysP, val_left, val_mixed, val_draws, put_draws, mLc, mLcM, mLc2, mFor, mSeqI, mRng1, mRng2, mZip, mEnum, mSl, mNoPart, mPart, mSeq, mAsg, mAsg2, mCB, mCons, mNil, mVar, mC, mOp, mUn, pU, mTup, mLst, mRet, mRetN, mLstM, getl, setl, mName, mCall, mCallK, mIf, mIfS, mTest, mAnd, mOr, mNot, mYes, mAndV, mOrV, mNotV, mNext, mNever, mBreak, mCont, mDrop, mChain, mPar, mGTup, mGCons, mGNil, pGcd, pI, pI0, pIx, pTimes, pPlus, pEq, pNe, pLen, pSum, pMaxS, pAll, pAny, pTupOf, pLstOf, pIn, pIsB, pIsi, items_tup, items_lst, items_kl, items_mr, items_tab, items_lot, items_fr, decide_true, decide_false, eqP_int, eqP_bl, eqP_str, eqP_tup2, kit_tt, kit_ii, kit_ib, tyP, mEnd, wipeP, List.map_cons, List.map_nil, List.getElem?_cons_zero, List.getElem?_cons_succ, List.set_cons_zero, List.set_cons_succ, atI_zero, atI_one, if_true, if_false, ite_true, ite_false, Bool.false_eq_true, List.length_cons, List.length_nil, Bool.not_true, Bool.not_false, lotP]
  refine for_inv (enc := fun (i : Nat) => PV.int i) (fun pre ρ μ' => (∃ (a : Nat) (y3 y4 y5 : Option PV), ρ = [some (mdlP M), some (.tup (w.map fun (n : Nat) => PV.int n)), some (.int (a : Nat)), y3, y4, y5] ∧ a < M.length ∧ wayB M a (w.drop pre.length) = true) ∧ μ' = μ) (done := []) ⟨⟨0, _, _, _, rfl, h0, hw⟩, rfl⟩ (fun pre i post ρ μ1 e hI N hN => ?_) fun ρ μ1 hI => ?_
  · obtain ⟨⟨a, y3, y4, y5, rfl, ha, hwa⟩, rfl⟩ := hI
    have e' : w = pre ++ i :: post := e
    have ed : w.drop pre.length = i :: w.drop (pre.length + 1) := by rw [e']; simp
    rw [ed] at hwa
    obtain ⟨i1, i2, i3⟩ := wayB_cons.mp hwa
    have i4 : i < n := by rw [hM.tl ha] at i1; exact i1
    have i5 : i < (mfol M a).length := by rw [hM.fll ha]; exact i4
    simp only [str_to, str_ot, mPar3, mLockV, mLockE, mItemsC, mKeysC, mDGet2, pIsN, isNonP, pRepLM, mTruD, dkOfP, pPopAt, pIndex, mLstRgM, mTruth, pReprA, pLenD, pLstD, mDNew, pRepL, mLenSetN, mDIn, mSortSet, mSortSetL, mRevT, mForC, mSeqC, mLcC, pAbs, pMax2, pMin2, pInt1, mDGet, mDPut, mBM, mBM0, pPop, pAppend, pExtend, pSetL, mSub, mDisp, mPs, mPs0, mRevL, mRevLM, pLstOfM, mTupRg, mRg1, mRg2, pPlusM, lstItems, dictOfP, keyP, keysP, val_left, val_mixed, val_draws, put_draws, mLc, mLcM, mLc2, mFor, mSeqI, mRng1, mRng2, mZip, mEnum, mSl, mNoPart, mPart, mSeq, mAsg, mAsg2, mCB, mCons, mNil, mVar, mC, mOp, mUn, pU, mTup, mLst, mRet, mRetN, mLstM, getl, setl, mName, mCall, mCallK, mIf, mIfS, mTest, mAnd, mOr, mNot, mYes, mAndV, mOrV, mNotV, mNext, mNever, mBreak, mCont, mDrop, mChain, mPar, mGTup, mGCons, mGNil, pGcd, pI, pI0, pIx, pTimes, pPlus, pEq, pNe, pLen, pSum, pMaxS, pAll, pAny, pTupOf, pLstOf, pIn, pIsB, pIsi, items_tup, items_lst, items_kl, items_mr, items_tab, items_lot, items_fr, decide_true, decide_false, eqP_int, eqP_bl, eqP_str, eqP_tup2, kit_tt, kit_ii, kit_ib, tyP, mEnd, wipeP, List.map_cons, List.map_nil, List.getElem?_cons_zero, List.getElem?_cons_succ, List.set_cons_zero, List.set_cons_succ, atI_zero, atI_one, if_true, if_false, ite_true, ite_false, Bool.false_eq_true, List.length_cons, List.length_nil, Bool.not_true, Bool.not_false, items_mdl, atM ha, tabP, atT i1, frP]
    rw [decide_eq_false (fun z => i2 (num_zero.mp z)), if_neg (by decide), atL i5]
    refine ⟨trivial, ?_⟩
    refine hN _ _ ⟨⟨(mfol M a).getD i 0, _, _, _, rfl, hM.f ha i4, ?_⟩, rfl⟩
    rw [List.length_append, List.length_singleton]
    exact i3
  · obtain ⟨⟨a, y3, y4, y5, rfl, ha, hwa⟩, rfl⟩ := hI
    show R2 _ _
    subst hR2
    simp only [str_to, str_ot, mPar3, mLockV, mLockE, mItemsC, mKeysC, mDGet2, pIsN, isNonP, pRepLM, mTruD, dkOfP, pPopAt, pIndex, mLstRgM, mTruth, pReprA, pLenD, pLstD, mDNew, pRepL, mLenSetN, mDIn, mSortSet, mSortSetL, mRevT, mForC, mSeqC, mLcC, pAbs, pMax2, pMin2, pInt1, mDGet, mDPut, mBM, mBM0, pPop, pAppend, pExtend, pSetL, mSub, mDisp, mPs, mPs0, mRevL, mRevLM, pLstOfM, mTupRg, mRg1, mRg2, pPlusM, lstItems, dictOfP, keyP, keysP, val_left, val_mixed, val_draws, put_draws, mLc, mLcM, mLc2, mFor, mSeqI, mRng1, mRng2, mZip, mEnum, mSl, mNoPart, mPart, mSeq, mAsg, mAsg2, mCB, mCons, mNil, mVar, mC, mOp, mUn, pU, mTup, mLst, mRet, mRetN, mLstM, getl, setl, mName, mCall, mCallK, mIf, mIfS, mTest, mAnd, mOr, mNot, mYes, mAndV, mOrV, mNotV, mNext, mNever, mBreak, mCont, mDrop, mChain, mPar, mGTup, mGCons, mGNil, pGcd, pI, pI0, pIx, pTimes, pPlus, pEq, pNe, pLen, pSum, pMaxS, pAll, pAny, pTupOf, pLstOf, pIn, pIsB, pIsi, items_tup, items_lst, items_kl, items_mr, items_tab, items_lot, items_fr, decide_true, decide_false, eqP_int, eqP_bl, eqP_str, eqP_tup2, kit_tt, kit_ii, kit_ib, tyP, mEnd, wipeP, List.map_cons, List.map_nil, List.getElem?_cons_zero, List.getElem?_cons_succ, List.set_cons_zero, List.set_cons_succ, atI_zero, atI_one, if_true, if_false, ite_true, ite_false, Bool.false_eq_true, List.length_cons, List.length_nil, Bool.not_true, Bool.not_false]
    exact fin_keep hQ
abbrev N_stretch_behind : List Str := ["found", "table", "i", "low", "size"]
theorem sc_stretch_behind : FnScope N_stretch_behind ["found", "table", "i"] (defScope s_stretch_behind) := ⟨rfl, rfl, rfl, by decide +kernel, rfl, by decide +kernel, by decide +kernel⟩
theorem ok_stretch_behind (B : Blt mg) (h_stretch_behind : Own K mg "stretch_behind" s_stretch_behind) (k_times : Ok P w K mg base 2 "times" s_times ["one", "other"] S_times) (k_added : Ok P w K mg base 2 "added" s_added ["one", "other"] S_added) (k_total : Ok P w K mg base 3 "total" s_total ["fractions"] S_total) : Ok P w K mg base 4 "stretch_behind" s_stretch_behind ["found", "table", "i"] S_stretch_behind := by
  obtain ⟨f_s, fd_s, F_s, g_s⟩ := h_stretch_behind
  obtain ⟨f_times, fd_times, F_times, g_times, b_times, G_times⟩ := k_times
  obtain ⟨f_added, fd_added, F_added, g_added, b_added, G_added⟩ := k_added
  obtain ⟨f_total, fd_total, F_total, g_total, b_total, G_total⟩ := k_total
  refine ⟨f_s, fd_s, F_s, g_s, F_s.binds (fun _ _ _ _ _ _ us hl => match us, hl with | [_, _, _], _ => rfl), FnG.of F_s sc_stretch_behind (fun xs μ Q h => by first | exact h.1 | (obtain ⟨⟩ := h)) fun cdv A outer s H hr hgd => ⟨_, _, (pss_cons (ps_asg (pv 0) (pg_tup (n := 2) rfl (pgs_cons (pg_name (i := 3) sc_stretch_behind.nd rfl (Or.inl rfl)) (pgs_cons (pg_name (i := 4) sc_stretch_behind.nd rfl (Or.inl rfl)) pgs_nil))))
 (pss_one (ps_ret (pe_tup (pa_cons (pe_callG (G_added.mono (by decide)) hr hgd (by rfl) g_added F_added.kp b_added (pa_cons (pv 3) (pa_cons (pe_callG (G_times.mono (by decide)) hr hgd (by rfl) g_times F_times.kp b_times (pa_cons (pv 4) (pa_cons (pe_callG (G_total.mono (by decide)) hr hgd (by rfl) g_total F_total.kp b_total (pa_cons (pe_slice sl_any (pv 1) po_none (po_some (pv 2))) pa_nil)) pa_nil))) pa_nil))) (pa_cons (pe_callG (G_times.mono (by decide)) hr hgd (by rfl) g_times F_times.kp b_times (pa_cons (pv 4) (pa_cons (pe_ix ix_seq (pv 1) (pv 2) (fun _ _ => rfl)) pa_nil))) pa_nil)))))), (by (try dsimp only [cxOf]); exact inferInstance), ?_⟩⟩
  intro xs μ Q hS
  obtain ⟨_, k, f, t, i, rfl, hf, hk, hT, hi, hQ⟩ := hS
  rw [show startP N_stretch_behind [strP f, tabP t, .int i] = [some (strP f), some (tabP t), some (.int i), none, none] from rfl]
  refine stm_of fun R hR => ?_
  simp only [str_to, str_ot, mPar3, mLockV, mLockE, mItemsC, mKeysC, mDGet2, pIsN, isNonP, pRepLM, mTruD, dkOfP, pPopAt, pIndex, mLstRgM, mTruth, pReprA, pLenD, pLstD, mDNew, pRepL, mLenSetN, mDIn, mSortSet, mSortSetL, mRevT, mForC, mSeqC, mLcC, pAbs, pMax2, pMin2, pInt1, mDGet, mDPut, mBM, mBM0, pPop, pAppend, pExtend, pSetL, mSub, mDisp, mPs, mPs0, mRevL, mRevLM, pLstOfM, mTupRg, mRg1, mRg2, pPlusM, lstItems, dictOfP, keyP, keysP, val_left, val_mixed, val_draws, put_draws, mLc, mLcM, mLc2, mFor, mSeqI, mRng1, mRng2, mZip, mEnum, mSl, mNoPart, mPart, mSeq, mAsg, mAsg2, mCB, mCons, mNil, mVar, mC, mOp, mUn, pU, mTup, mLst, mRet, mRetN, mLstM, getl, setl, mName, mCall, mCallK, mIf, mIfS, mTest, mAnd, mOr, mNot, mYes, mAndV, mOrV, mNotV, mNext, mNever, mBreak, mCont, mDrop, mChain, mPar, mGTup, mGCons, mGNil, pGcd, pI, pI0, pIx, pTimes, pPlus, pEq, pNe, pLen, pSum, pMaxS, pAll, pAny, pTupOf, pLstOf, pIn, pIsB, pIsi, items_tup, items_lst, items_kl, items_mr, items_tab, items_lot, items_fr, decide_true, decide_false, eqP_int, eqP_bl, eqP_str, eqP_tup2, kit_tt, kit_ii, kit_ib, tyP, mEnd, wipeP, List.map_cons, List.map_nil, List.getElem?_cons_zero, List.getElem?_cons_succ, List.set_cons_zero, List.set_cons_succ, atI_zero, atI_one, if_true, if_false, ite_true, ite_false, Bool.false_eq_true, List.length_cons, List.length_nil, Bool.not_true, Bool.not_false, strP]
  refine ⟨trivial, ?_⟩
  subst hR
  simp only [str_to, str_ot, mPar3, mLockV, mLockE, mItemsC, mKeysC, mDGet2, pIsN, isNonP, pRepLM, mTruD, dkOfP, pPopAt, pIndex, mLstRgM, mTruth, pReprA, pLenD, pLstD, mDNew, pRepL, mLenSetN, mDIn, mSortSet, mSortSetL, mRevT, mForC, mSeqC, mLcC, pAbs, pMax2, pMin2, pInt1, mDGet, mDPut, mBM, mBM0, pPop, pAppend, pExtend, pSetL, mSub, mDisp, mPs, mPs0, mRevL, mRevLM, pLstOfM, mTupRg, mRg1, mRg2, pPlusM, lstItems, dictOfP, keyP, keysP, val_left, val_mixed, val_draws, put_draws, mLc, mLcM, mLc2, mFor, mSeqI, mRng1, mRng2, mZip, mEnum, mSl, mNoPart, mPart, mSeq, mAsg, mAsg2, mCB, mCons, mNil, mVar, mC, mOp, mUn, pU, mTup, mLst, mRet, mRetN, mLstM, getl, setl, mName, mCall, mCallK, mIf, mIfS, mTest, mAnd, mOr, mNot, mYes, mAndV, mOrV, mNotV, mNext, mNever, mBreak, mCont, mDrop, mChain, mPar, mGTup, mGCons, mGNil, pGcd, pI, pI0, pIx, pTimes, pPlus, pEq, pNe, pLen, pSum, pMaxS, pAll, pAny, pTupOf, pLstOf, pIn, pIsB, pIsi, items_tup, items_lst, items_kl, items_mr, items_tab, items_lot, items_fr, decide_true, decide_false, eqP_int, eqP_bl, eqP_str, eqP_tup2, kit_tt, kit_ii, kit_ib, tyP, mEnd, wipeP, List.map_cons, List.map_nil, List.getElem?_cons_zero, List.getElem?_cons_succ, List.set_cons_zero, List.set_cons_succ, atI_zero, atI_one, if_true, if_false, ite_true, ite_false, Bool.false_eq_true, List.length_cons, List.length_nil, Bool.not_true, Bool.not_false, tabP, cut_to, atT hi, S_total, S_times, S_added]
  have s1 := hf.sm1
  have s2 := hf.sm2
  have hsb : Sb 3900 (t.take i) := (hT.sb.mono (by decide)).sub (List.take_sublist _ _)
  have sP : Sm 47 (t.take i).sum := (hT.sb.sub (List.take_sublist _ _)).sum_sm
  have sp : Sm 8 (t.getD i 0) := by
    rw [List.getD_eq_getElem?_getD, List.getElem?_eq_getElem hi]
    exact hT.sm (List.getElem_mem hi)
  rw [← List.map_take]
  refine ⟨trivial, _, t.take i, rfl, rfl, hsb, trivial, _, _, rfl, s2.mono (by omega), sP.mono (by decide), trivial, _, _, rfl, s1.mono (by omega), ((s2.mul sP).mono (by omega)), trivial, _, _, rfl, s2.mono (by omega), sp.mono (by decide), by decide, fin_keep hQ⟩
abbrev N__law_lies : List Str := ["_law_inner", "_law_outer"]
theorem sc__law_lies : FnScope N__law_lies ["_law_inner", "_law_outer"] (defScope s__law_lies) := ⟨rfl, rfl, rfl, by decide +kernel, rfl, by decide +kernel, by decide +kernel⟩
theorem ok__law_lies (B : Blt mg) (h__law_lies : Own K mg "_law_lies" s__law_lies) (k__law_is_less : Ok P w K mg base 1 "_law_is_less" s__law_is_less ["_law_one", "_law_other"] S__law_is_less) (k__law_plus : Ok P w K mg base 3 "_law_plus" s__law_plus ["_law_one", "_law_other"] S__law_plus) : Ok P w K mg base 4 "_law_lies" s__law_lies ["_law_inner", "_law_outer"] S__law_lies := by
  obtain ⟨f_s, fd_s, F_s, g_s⟩ := h__law_lies
  obtain ⟨f__law_is_less, fd__law_is_less, F__law_is_less, g__law_is_less, b__law_is_less, G__law_is_less⟩ := k__law_is_less
  obtain ⟨f__law_plus, fd__law_plus, F__law_plus, g__law_plus, b__law_plus, G__law_plus⟩ := k__law_plus
  refine ⟨f_s, fd_s, F_s, g_s, F_s.binds (fun _ _ _ _ _ _ us hl => match us, hl with | [_, _], _ => rfl), FnG.of F_s sc__law_lies (fun xs μ Q h => by first | exact h.1 | (obtain ⟨⟩ := h)) fun cdv A outer s H hr hgd => ⟨_, _, (pss_cons (ps_if (pt_val (pe_callG (G__law_is_less.mono (by decide)) hr hgd (by rfl) g__law_is_less F__law_is_less.kp b__law_is_less (pa_cons (pe_ix ix_seq (pv 0) pe_int (fun _ _ => rfl)) (pa_cons (pe_ix ix_seq (pv 1) pe_int (fun _ _ => rfl)) pa_nil))))
 (pss_one (ps_ret pe_bl))
 pss_nil)
 (pss_one (ps_ret (pe_not (pe_callG (G__law_is_less.mono (by decide)) hr hgd (by rfl) g__law_is_less F__law_is_less.kp b__law_is_less (pa_cons (pe_callG (G__law_plus.mono (by decide)) hr hgd (by rfl) g__law_plus F__law_plus.kp b__law_plus (pa_cons (pe_ix ix_seq (pv 1) pe_int (fun _ _ => rfl)) (pa_cons (pe_ix ix_seq (pv 1) pe_int (fun _ _ => rfl)) pa_nil))) (pa_cons (pe_callG (G__law_plus.mono (by decide)) hr hgd (by rfl) g__law_plus F__law_plus.kp b__law_plus (pa_cons (pe_ix ix_seq (pv 0) pe_int (fun _ _ => rfl)) (pa_cons (pe_ix ix_seq (pv 0) pe_int (fun _ _ => rfl)) pa_nil))) pa_nil))))))), (by (try dsimp only [cxOf]); exact inferInstance), ?_⟩⟩
  intro xs μ Q hS
  obtain ⟨_, f, g, rfl, f1, f2, g1, g2, hQ⟩ := hS
  rw [show startP N__law_lies [strP f, strP g] = [some (strP f), some (strP g)] from rfl]
  simp only [str_to, str_ot, mPar3, mLockV, mLockE, mItemsC, mKeysC, mDGet2, pIsN, isNonP, pRepLM, mTruD, dkOfP, pPopAt, pIndex, mLstRgM, mTruth, pReprA, pLenD, pLstD, mDNew, pRepL, mLenSetN, mDIn, mSortSet, mSortSetL, mRevT, mForC, mSeqC, mLcC, pAbs, pMax2, pMin2, pInt1, mDGet, mDPut, mBM, mBM0, pPop, pAppend, pExtend, pSetL, mSub, mDisp, mPs, mPs0, mRevL, mRevLM, pLstOfM, mTupRg, mRg1, mRg2, pPlusM, lstItems, dictOfP, keyP, keysP, val_left, val_mixed, val_draws, put_draws, mLc, mLcM, mLc2, mFor, mSeqI, mRng1, mRng2, mZip, mEnum, mSl, mNoPart, mPart, mSeq, mAsg, mAsg2, mCB, mCons, mNil, mVar, mC, mOp, mUn, pU, mTup, mLst, mRet, mRetN, mLstM, getl, setl, mName, mCall, mCallK, mIf, mIfS, mTest, mAnd, mOr, mNot, mYes, mAndV, mOrV, mNotV, mNext, mNever, mBreak, mCont, mDrop, mChain, mPar, mGTup, mGCons, mGNil, pGcd, pI, pI0, pIx, pTimes, pPlus, pEq, pNe, pLen, pSum, pMaxS, pAll, pAny, pTupOf, pLstOf, pIn, pIsB, pIsi, items_tup, items_lst, items_kl, items_mr, items_tab, items_lot, items_fr, decide_true, decide_false, eqP_int, eqP_bl, eqP_str, eqP_tup2, kit_tt, kit_ii, kit_ib, tyP, mEnd, wipeP, List.map_cons, List.map_nil, List.getElem?_cons_zero, List.getElem?_cons_succ, List.set_cons_zero, List.set_cons_succ, atI_zero, atI_one, if_true, if_false, ite_true, ite_false, Bool.false_eq_true, List.length_cons, List.length_nil, Bool.not_true, Bool.not_false, strP, S__law_is_less, S__law_plus]
  have sF : Sm 3990 (f.1 + f.2) := (f1.add f2).mono (by decide)
  have sG : Sm 3990 (g.1 + g.2) := (g1.add g2).mono (by decide)
  refine ⟨trivial, _, _, rfl, f1.mono (by decide), g1.mono (by decide), ?_⟩
  by_cases c : f.1 < g.1
  · rw [decide_eq_true c, if_pos rfl]
    have c2 : ¬ (g.1 ≤ f.1 ∧ f.1 + f.2 ≤ g.1 + g.2) := fun z => by have := z.1; grind
    rw [decide_eq_false c2] at hQ
    exact fin_keep hQ
  · rw [decide_eq_false c, if_neg (by decide)]
    refine ⟨trivial, _, _, rfl, g1.mono (by decide), g2.mono (by decide), trivial, _, _, rfl, f1.mono (by decide), f2.mono (by decide), trivial, _, _, rfl, sG.mono (by decide), sF.mono (by decide), ?_⟩
    have e : (!decide (g.1 + g.2 < f.1 + f.2)) = decide (g.1 ≤ f.1 ∧ f.1 + f.2 ≤ g.1 + g.2) := by
      by_cases c2 : g.1 + g.2 < f.1 + f.2
      · have : ¬ (g.1 ≤ f.1 ∧ f.1 + f.2 ≤ g.1 + g.2) := fun z => by have := z.2; grind
        rw [decide_eq_true c2, decide_eq_false this]; rfl
      · have : g.1 ≤ f.1 ∧ f.1 + f.2 ≤ g.1 + g.2 := ⟨by grind, by grind⟩
        rw [decide_eq_false c2, decide_eq_true this]; rfl
    rw [e]
    exact fin_keep hQ
abbrev N_are_bits : List Str := ["thing"]
theorem sc_are_bits : FnScope N_are_bits ["thing"] (defScope s_are_bits) := ⟨rfl, rfl, rfl, by decide +kernel, rfl, by decide +kernel, by decide +kernel⟩
theorem ok_are_bits (B : Blt mg) (h_are_bits : Own K mg "are_bits" s_are_bits) (k_are_integers : Ok P w K mg base 3 "are_integers" s_are_integers ["thing", "low", "high"] S_are_integers) : Ok P w K mg base 4 "are_bits" s_are_bits ["thing"] S_are_bits := by
  obtain ⟨f_s, fd_s, F_s, g_s⟩ := h_are_bits
  obtain ⟨f_are_integers, fd_are_integers, F_are_integers, g_are_integers, b_are_integers, G_are_integers⟩ := k_are_integers
  refine ⟨f_s, fd_s, F_s, g_s, F_s.binds (fun _ _ _ _ _ _ us hl => match us, hl with | [_], _ => rfl), FnG.of F_s sc_are_bits (fun xs μ Q h => by first | exact h.1 | (obtain ⟨⟩ := h)) fun cdv A outer s H hr hgd => ⟨_, _, (pss_one (ps_ret (pe_callG (G_are_integers.mono (by decide)) hr hgd (by rfl) g_are_integers F_are_integers.kp b_are_integers (pa_cons (pv 0) (pa_cons pe_int (pa_cons pe_int pa_nil)))))), (by (try dsimp only [cxOf]); exact inferInstance), ?_⟩⟩
  intro xs μ Q hS
  obtain ⟨_, bs, rfl, hl, hQ⟩ := hS
  rw [show startP N_are_bits [lotP bs] = [some (lotP bs)] from rfl]
  simp only [str_to, str_ot, mPar3, mLockV, mLockE, mItemsC, mKeysC, mDGet2, pIsN, isNonP, pRepLM, mTruD, dkOfP, pPopAt, pIndex, mLstRgM, mTruth, pReprA, pLenD, pLstD, mDNew, pRepL, mLenSetN, mDIn, mSortSet, mSortSetL, mRevT, mForC, mSeqC, mLcC, pAbs, pMax2, pMin2, pInt1, mDGet, mDPut, mBM, mBM0, pPop, pAppend, pExtend, pSetL, mSub, mDisp, mPs, mPs0, mRevL, mRevLM, pLstOfM, mTupRg, mRg1, mRg2, pPlusM, lstItems, dictOfP, keyP, keysP, val_left, val_mixed, val_draws, put_draws, mLc, mLcM, mLc2, mFor, mSeqI, mRng1, mRng2, mZip, mEnum, mSl, mNoPart, mPart, mSeq, mAsg, mAsg2, mCB, mCons, mNil, mVar, mC, mOp, mUn, pU, mTup, mLst, mRet, mRetN, mLstM, getl, setl, mName, mCall, mCallK, mIf, mIfS, mTest, mAnd, mOr, mNot, mYes, mAndV, mOrV, mNotV, mNext, mNever, mBreak, mCont, mDrop, mChain, mPar, mGTup, mGCons, mGNil, pGcd, pI, pI0, pIx, pTimes, pPlus, pEq, pNe, pLen, pSum, pMaxS, pAll, pAny, pTupOf, pLstOf, pIn, pIsB, pIsi, items_tup, items_lst, items_kl, items_mr, items_tab, items_lot, items_fr, decide_true, decide_false, eqP_int, eqP_bl, eqP_str, eqP_tup2, kit_tt, kit_ii, kit_ib, tyP, mEnd, wipeP, List.map_cons, List.map_nil, List.getElem?_cons_zero, List.getElem?_cons_succ, List.set_cons_zero, List.set_cons_succ, atI_zero, atI_one, if_true, if_false, ite_true, ite_false, Bool.false_eq_true, List.length_cons, List.length_nil, Bool.not_true, Bool.not_false, S_are_integers]
  refine ⟨trivial, zs bs, 0, 1, by rw [lot_ints], by rw [zs_length]; unfold lim; omega, ?_⟩
  rw [bits_all]
  exact fin_keep hQ
abbrev N__law_stretch : List Str := ["_law_model_here", "_law_way_here", "_law_low", "_law_size", "_law_state", "_law_i", "_law_table_here", "_law_followers"]
theorem sc__law_stretch : FnScope N__law_stretch ["_law_model_here", "_law_way_here"] (defScope s__law_stretch) := ⟨rfl, rfl, rfl, by decide +kernel, rfl, by decide +kernel, by decide +kernel⟩
theorem ok__law_stretch (B : Blt mg) (h__law_stretch : Own K mg "_law_stretch" s__law_stretch) (k__law_plus : Ok P w K mg base 3 "_law_plus" s__law_plus ["_law_one", "_law_other"] S__law_plus) (k__law_times : Ok P w K mg base 3 "_law_times" s__law_times ["_law_one", "_law_other"] S__law_times) (k__law_total : Ok P w K mg base 4 "_law_total" s__law_total ["_law_some"] S__law_total) : Ok P w K mg base 5 "_law_stretch" s__law_stretch ["_law_model_here", "_law_way_here"] S__law_stretch := by
  obtain ⟨f_s, fd_s, F_s, g_s⟩ := h__law_stretch
  obtain ⟨f__law_plus, fd__law_plus, F__law_plus, g__law_plus, b__law_plus, G__law_plus⟩ := k__law_plus
  obtain ⟨f__law_times, fd__law_times, F__law_times, g__law_times, b__law_times, G__law_times⟩ := k__law_times
  obtain ⟨f__law_total, fd__law_total, F__law_total, g__law_total, b__law_total, G__law_total⟩ := k__law_total
  refine ⟨f_s, fd_s, F_s, g_s, F_s.binds (fun _ _ _ _ _ _ us hl => match us, hl with | [_, _], _ => rfl), FnG.of F_s sc__law_stretch (fun xs μ Q h => by first | exact h.1 | (obtain ⟨⟩ := h)) fun cdv A outer s H hr hgd => ⟨_, _, (pss_cons (ps_asg (pe_tup (pa_cons (pe_tup (pa_cons pe_int (pa_cons pe_int pa_nil))) (pa_cons (pe_tup (pa_cons pe_int (pa_cons pe_int pa_nil))) (pa_cons pe_int pa_nil)))) (pg_tup (n := 3) rfl (pgs_cons (pg_name (i := 2) sc__law_stretch.nd rfl (Or.inl rfl)) (pgs_cons (pg_name (i := 3) sc__law_stretch.nd rfl (Or.inl rfl)) (pgs_cons (pg_name (i := 4) sc__law_stretch.nd rfl (Or.inl rfl)) pgs_nil)))))
 (pss_cons (ps_for PassesOwn.never rfl (pi_seq (pv 1)) (pg_name (i := 5) sc__law_stretch.nd rfl (Or.inl rfl))
 (pss_cons (ps_asg (pe_ix ix_seq (pv 0) (pv 4) (fun _ _ => rfl)) (pg_tup (n := 2) rfl (pgs_cons (pg_name (i := 6) sc__law_stretch.nd rfl (Or.inl rfl)) (pgs_cons (pg_name (i := 7) sc__law_stretch.nd rfl (Or.inl rfl)) pgs_nil))))
 (pss_cons (ps_set (i := 2) sc__law_stretch.nd rfl (Or.inl rfl) (pe_callG (G__law_plus.mono (by decide)) hr hgd (by rfl) g__law_plus F__law_plus.kp b__law_plus (pa_cons (pv 2) (pa_cons (pe_callG (G__law_times.mono (by decide)) hr hgd (by rfl) g__law_times F__law_times.kp b__law_times (pa_cons (pv 3) (pa_cons (pe_callG (G__law_total.mono (by decide)) hr hgd (by rfl) g__law_total F__law_total.kp b__law_total (pa_cons (pe_slice sl_any (pv 6) po_none (po_some (pv 5))) pa_nil)) pa_nil))) pa_nil))))
 (pss_one (ps_par (i := 3) (j := 4) (by rfl) sc__law_stretch.nd rfl rfl (by decide) rfl rfl (pa_cons (pe_callG (G__law_times.mono (by decide)) hr hgd (by rfl) g__law_times F__law_times.kp b__law_times (pa_cons (pv 3) (pa_cons (pe_ix ix_seq (pv 6) (pv 5) (fun _ _ => rfl)) pa_nil))) (pa_cons (pe_ix ix_seq (pv 7) (pv 5) (fun _ _ => rfl)) pa_nil)) (by rfl))))))
 (pss_one (ps_ret (pe_tup (pa_cons (pv 2) (pa_cons (pv 3) pa_nil))))))), (by (try dsimp only [cxOf]); exact inferInstance), ?_⟩⟩
  intro xs μ Q hS
  obtain ⟨_, n, M, w, rfl, hM, hw, hl, hQ⟩ := hS
  rw [show startP N__law_stretch [mdlP M, lotP w] = [some (mdlP M), some (lotP w), none, none, none, none, none, none] from rfl]
  have h0 := List.length_pos_iff.mpr hM.ne
  refine stm_of fun R hR => ?_
  simp only [str_to, str_ot, mPar3, mLockV, mLockE, mItemsC, mKeysC, mDGet2, pIsN, isNonP, pRepLM, mTruD, dkOfP, pPopAt, pIndex, mLstRgM, mTruth, pReprA, pLenD, pLstD, mDNew, pRepL, mLenSetN, mDIn, mSortSet, mSortSetL, mRevT, mForC, mSeqC, mLcC, pAbs, pMax2, pMin2, pInt1, mDGet, mDPut, mBM, mBM0, pPop, pAppend, pExtend, pSetL, mSub, mDisp, mPs, mPs0, mRevL, mRevLM, pLstOfM, mTupRg, mRg1, mRg2, pPlusM, lstItems, dictOfP, keyP, keysP, val_left, val_mixed, val_draws, put_draws, mLc, mLcM, mLc2, mFor, mSeqI, mRng1, mRng2, mZip, mEnum, mSl, mNoPart, mPart, mSeq, mAsg, mAsg2, mCB, mCons, mNil, mVar, mC, mOp, mUn, pU, mTup, mLst, mRet, mRetN, mLstM, getl, setl, mName, mCall, mCallK, mIf, mIfS, mTest, mAnd, mOr, mNot, mYes, mAndV, mOrV, mNotV, mNext, mNever, mBreak, mCont, mDrop, mChain, mPar, mGTup, mGCons, mGNil, pGcd, pI, pI0, pIx, pTimes, pPlus, pEq, pNe, pLen, pSum, pMaxS, pAll, pAny, pTupOf, pLstOf, pIn, pIsB, pIsi, items_tup, items_lst, items_kl, items_mr, items_tab, items_lot, items_fr, decide_true, decide_false, eqP_int, eqP_bl, eqP_str, eqP_tup2, kit_tt, kit_ii, kit_ib, tyP, mEnd, wipeP, List.map_cons, List.map_nil, List.getElem?_cons_zero, List.getElem?_cons_succ, List.set_cons_zero, List.set_cons_succ, atI_zero, atI_one, if_true, if_false, ite_true, ite_false, Bool.false_eq_true, List.length_cons, List.length_nil, Bool.not_true, Bool.not_false]
  refine ⟨by decide, by decide, by decide, trivial, ?_⟩
  subst hR
  refine stm_of fun R1 hR1 => ?_
  simp only [str_to, str_ot, mPar3, mLockV, mLockE, mItemsC, mKeysC, mDGet2, pIsN, isNonP, pRepLM, mTruD, dkOfP, pPopAt, pIndex, mLstRgM, mTruth, pReprA, pLenD, pLstD, mDNew, pRepL, mLenSetN, mDIn, mSortSet, mSortSetL, mRevT, mForC, mSeqC, mLcC, pAbs, pMax2, pMin2, pInt1, mDGet, mDPut, mBM, mBM0, pPop, pAppend, pExtend, pSetL, mSub, mDisp, mPs, mPs0, mRevL, mRevLM, pLstOfM, mTupRg, mRg1, mRg2, pPlusM, lstItems, dictOfP, keyP, keysP, val_left, val_mixed, val_draws, put_draws, mLc, mLcM, mLc2, mFor, mSeqI, mRng1, mRng2, mZip, mEnum, mSl, mNoPart, mPart, mSeq, mAsg, mAsg2, mCB, mCons, mNil, mVar, mC, mOp, mUn, pU, mTup, mLst, mRet, mRetN, mLstM, getl, setl, mName, mCall, mCallK, mIf, mIfS, mTest, mAnd, mOr, mNot, mYes, mAndV, mOrV, mNotV, mNext, mNever, mBreak, mCont, mDrop, mChain, mPar, mGTup, mGCons, mGNil, pGcd, pI, pI0, pIx, pTimes, pPlus, pEq, pNe, pLen, pSum, pMaxS, pAll, pAny, pTupOf, pLstOf, pIn, pIsB, pIsi, items_tup, items_lst, items_kl, items_mr, items_tab, items_lot, items_fr, decide_true, decide_false, eqP_int, eqP_bl, eqP_str, eqP_tup2, kit_tt, kit_ii, kit_ib, tyP, mEnd, wipeP, List.map_cons, List.map_nil, List.getElem?_cons_zero, List.getElem?_cons_succ, List.set_cons_zero, List.set_cons_succ, atI_zero, atI_one, if_true, if_false, ite_true, ite_false, Bool.false_eq_true, List.length_cons, List.length_nil, Bool.not_true, Bool.not_false, lotP]
  refine for_inv (enc := fun (i : Nat) => PV.int i) (fun pre ρ μ' => (∃ (y5 y6 y7 : Option PV), ρ = [some (mdlP M), some (lotP w), some (frP (strF M 0 (0, 1) pre).1), some (frP (strF M 0 (0, 1) pre).2), some (.int (endW M 0 pre : Nat)), y5, y6, y7]) ∧ μ' = μ) (done := []) ⟨⟨_, _, _, rfl⟩, rfl⟩ (fun pre i post ρ μ1 e hI N hN => ?_) fun ρ μ1 hI => ?_
  · obtain ⟨⟨y5, y6, y7, rfl⟩, rfl⟩ := hI
    have e' : w = pre ++ i :: post := e
    rw [e', wayB_app, Bool.and_eq_true] at hw
    obtain ⟨hw1, hw2⟩ := hw
    obtain ⟨i1, i2, i3⟩ := wayB_cons.mp hw2
    have ha := endW_lt hM h0 hw1
    have i4 : i < n := by rw [hM.tl ha] at i1; exact i1
    have i5 : i < (mfol M (endW M 0 pre)).length := by rw [hM.fll ha]; exact i4
    have hiv := iv_way hM h0 hw1 iv_start
    have hpl : pre.length ≤ w.length := by rw [e', List.length_append]; omega
    have hT := hM.t ha
    have s1 := hiv.sm1
    have s2 := hiv.sm2
    have hsb : Sb 3900 ((mtab M (endW M 0 pre)).take i) := (hT.sb.mono (by decide)).sub (List.take_sublist _ _)
    have sP : Sm 47 ((mtab M (endW M 0 pre)).take i).sum := (hT.sb.sub (List.take_sublist _ _)).sum_sm
    have sp : Sm 8 ((mtab M (endW M 0 pre)).getD i 0) := by
      rw [List.getD_eq_getElem?_getD, List.getElem?_eq_getElem i1]
      exact hT.sm (List.getElem_mem i1)
    show mSeq _ _ _ _ _
    refine stm_of fun R2 hR2 => ?_
    simp only [str_to, str_ot, mPar3, mLockV, mLockE, mItemsC, mKeysC, mDGet2, pIsN, isNonP, pRepLM, mTruD, dkOfP, pPopAt, pIndex, mLstRgM, mTruth, pReprA, pLenD, pLstD, mDNew, pRepL, mLenSetN, mDIn, mSortSet, mSortSetL, mRevT, mForC, mSeqC, mLcC, pAbs, pMax2, pMin2, pInt1, mDGet, mDPut, mBM, mBM0, pPop, pAppend, pExtend, pSetL, mSub, mDisp, mPs, mPs0, mRevL, mRevLM, pLstOfM, mTupRg, mRg1, mRg2, pPlusM, lstItems, dictOfP, keyP, keysP, val_left, val_mixed, val_draws, put_draws, mLc, mLcM, mLc2, mFor, mSeqI, mRng1, mRng2, mZip, mEnum, mSl, mNoPart, mPart, mSeq, mAsg, mAsg2, mCB, mCons, mNil, mVar, mC, mOp, mUn, pU, mTup, mLst, mRet, mRetN, mLstM, getl, setl, mName, mCall, mCallK, mIf, mIfS, mTest, mAnd, mOr, mNot, mYes, mAndV, mOrV, mNotV, mNext, mNever, mBreak, mCont, mDrop, mChain, mPar, mGTup, mGCons, mGNil, pGcd, pI, pI0, pIx, pTimes, pPlus, pEq, pNe, pLen, pSum, pMaxS, pAll, pAny, pTupOf, pLstOf, pIn, pIsB, pIsi, items_tup, items_lst, items_kl, items_mr, items_tab, items_lot, items_fr, decide_true, decide_false, eqP_int, eqP_bl, eqP_str, eqP_tup2, kit_tt, kit_ii, kit_ib, tyP, mEnd, wipeP, List.map_cons, List.map_nil, List.getElem?_cons_zero, List.getElem?_cons_succ, List.set_cons_zero, List.set_cons_succ, atI_zero, atI_one, if_true, if_false, ite_true, ite_false, Bool.false_eq_true, List.length_cons, List.length_nil, Bool.not_true, Bool.not_false, items_mdl, atM ha]
    refine ⟨trivial, ?_⟩
    subst hR2
    refine stm_of fun R3 hR3 => ?_
    simp only [str_to, str_ot, mPar3, mLockV, mLockE, mItemsC, mKeysC, mDGet2, pIsN, isNonP, pRepLM, mTruD, dkOfP, pPopAt, pIndex, mLstRgM, mTruth, pReprA, pLenD, pLstD, mDNew, pRepL, mLenSetN, mDIn, mSortSet, mSortSetL, mRevT, mForC, mSeqC, mLcC, pAbs, pMax2, pMin2, pInt1, mDGet, mDPut, mBM, mBM0, pPop, pAppend, pExtend, pSetL, mSub, mDisp, mPs, mPs0, mRevL, mRevLM, pLstOfM, mTupRg, mRg1, mRg2, pPlusM, lstItems, dictOfP, keyP, keysP, val_left, val_mixed, val_draws, put_draws, mLc, mLcM, mLc2, mFor, mSeqI, mRng1, mRng2, mZip, mEnum, mSl, mNoPart, mPart, mSeq, mAsg, mAsg2, mCB, mCons, mNil, mVar, mC, mOp, mUn, pU, mTup, mLst, mRet, mRetN, mLstM, getl, setl, mName, mCall, mCallK, mIf, mIfS, mTest, mAnd, mOr, mNot, mYes, mAndV, mOrV, mNotV, mNext, mNever, mBreak, mCont, mDrop, mChain, mPar, mGTup, mGCons, mGNil, pGcd, pI, pI0, pIx, pTimes, pPlus, pEq, pNe, pLen, pSum, pMaxS, pAll, pAny, pTupOf, pLstOf, pIn, pIsB, pIsi, items_tup, items_lst, items_kl, items_mr, items_tab, items_lot, items_fr, decide_true, decide_false, eqP_int, eqP_bl, eqP_str, eqP_tup2, kit_tt, kit_ii, kit_ib, tyP, mEnd, wipeP, List.map_cons, List.map_nil, List.getElem?_cons_zero, List.getElem?_cons_succ, List.set_cons_zero, List.set_cons_succ, atI_zero, atI_one, if_true, if_false, ite_true, ite_false, Bool.false_eq_true, List.length_cons, List.length_nil, Bool.not_true, Bool.not_false, tabP, cut_to, ← List.map_take, atT i1, S__law_total, S__law_times, S__law_plus]
    refine ⟨trivial, _, _, rfl, rfl, hsb, trivial, _, _, rfl, s2.mono (by omega), sP.mono (by decide), trivial, _, _, rfl, s1.mono (by omega), ((s2.mul sP).mono (by omega)), ?_⟩
    subst hR3
    simp only [str_to, str_ot, mPar3, mLockV, mLockE, mItemsC, mKeysC, mDGet2, pIsN, isNonP, pRepLM, mTruD, dkOfP, pPopAt, pIndex, mLstRgM, mTruth, pReprA, pLenD, pLstD, mDNew, pRepL, mLenSetN, mDIn, mSortSet, mSortSetL, mRevT, mForC, mSeqC, mLcC, pAbs, pMax2, pMin2, pInt1, mDGet, mDPut, mBM, mBM0, pPop, pAppend, pExtend, pSetL, mSub, mDisp, mPs, mPs0, mRevL, mRevLM, pLstOfM, mTupRg, mRg1, mRg2, pPlusM, lstItems, dictOfP, keyP, keysP, val_left, val_mixed, val_draws, put_draws, mLc, mLcM, mLc2, mFor, mSeqI, mRng1, mRng2, mZip, mEnum, mSl, mNoPart, mPart, mSeq, mAsg, mAsg2, mCB, mCons, mNil, mVar, mC, mOp, mUn, pU, mTup, mLst, mRet, mRetN, mLstM, getl, setl, mName, mCall, mCallK, mIf, mIfS, mTest, mAnd, mOr, mNot, mYes, mAndV, mOrV, mNotV, mNext, mNever, mBreak, mCont, mDrop, mChain, mPar, mGTup, mGCons, mGNil, pGcd, pI, pI0, pIx, pTimes, pPlus, pEq, pNe, pLen, pSum, pMaxS, pAll, pAny, pTupOf, pLstOf, pIn, pIsB, pIsi, items_tup, items_lst, items_kl, items_mr, items_tab, items_lot, items_fr, decide_true, decide_false, eqP_int, eqP_bl, eqP_str, eqP_tup2, kit_tt, kit_ii, kit_ib, tyP, mEnd, wipeP, List.map_cons, List.map_nil, List.getElem?_cons_zero, List.getElem?_cons_succ, List.set_cons_zero, List.set_cons_succ, atI_zero, atI_one, if_true, if_false, ite_true, ite_false, Bool.false_eq_true, List.length_cons, List.length_nil, Bool.not_true, Bool.not_false, tabP, atT i1, lotP, atL i5, S__law_times]
    refine ⟨trivial, _, _, rfl, s2.mono (by omega), sp.mono (by decide), hN _ _ ⟨⟨some (.int (i : Nat)), some (tabP (mtab M (endW M 0 pre))), some (lotP (mfol M (endW M 0 pre))), ?_⟩, rfl⟩⟩
    rw [endW_app, strF_app]
    rfl
  · obtain ⟨⟨y5, y6, y7, rfl⟩, rfl⟩ := hI
    rw [List.nil_append]
    show R1 _ _
    subst hR1
    simp only [str_to, str_ot, mPar3, mLockV, mLockE, mItemsC, mKeysC, mDGet2, pIsN, isNonP, pRepLM, mTruD, dkOfP, pPopAt, pIndex, mLstRgM, mTruth, pReprA, pLenD, pLstD, mDNew, pRepL, mLenSetN, mDIn, mSortSet, mSortSetL, mRevT, mForC, mSeqC, mLcC, pAbs, pMax2, pMin2, pInt1, mDGet, mDPut, mBM, mBM0, pPop, pAppend, pExtend, pSetL, mSub, mDisp, mPs, mPs0, mRevL, mRevLM, pLstOfM, mTupRg, mRg1, mRg2, pPlusM, lstItems, dictOfP, keyP, keysP, val_left, val_mixed, val_draws, put_draws, mLc, mLcM, mLc2, mFor, mSeqI, mRng1, mRng2, mZip, mEnum, mSl, mNoPart, mPart, mSeq, mAsg, mAsg2, mCB, mCons, mNil, mVar, mC, mOp, mUn, pU, mTup, mLst, mRet, mRetN, mLstM, getl, setl, mName, mCall, mCallK, mIf, mIfS, mTest, mAnd, mOr, mNot, mYes, mAndV, mOrV, mNotV, mNext, mNever, mBreak, mCont, mDrop, mChain, mPar, mGTup, mGCons, mGNil, pGcd, pI, pI0, pIx, pTimes, pPlus, pEq, pNe, pLen, pSum, pMaxS, pAll, pAny, pTupOf, pLstOf, pIn, pIsB, pIsi, items_tup, items_lst, items_kl, items_mr, items_tab, items_lot, items_fr, decide_true, decide_false, eqP_int, eqP_bl, eqP_str, eqP_tup2, kit_tt, kit_ii, kit_ib, tyP, mEnd, wipeP, List.map_cons, List.map_nil, List.getElem?_cons_zero, List.getElem?_cons_succ, List.set_cons_zero, List.set_cons_succ, atI_zero, atI_one, if_true, if_false, ite_true, ite_false, Bool.false_eq_true, List.length_cons, List.length_nil, Bool.not_true, Bool.not_false]
    exact ⟨by decide, fin_keep hQ⟩
abbrev N_is_table : List Str := ["thing"]
theorem sc_is_table : FnScope N_is_table ["thing"] (defScope s_is_table) := ⟨rfl, rfl, rfl, by decide +kernel, rfl, by decide +kernel, by decide +kernel⟩
theorem ok_is_table (B : Blt mg) (h_is_table : Own K mg "is_table" s_is_table) (k_total : Ok P w K mg base 3 "total" s_total ["fractions"] S_total) (k_are_amounts : Ok P w K mg base 4 "are_amounts" s_are_amounts ["thing", "many"] S_are_amounts) {t_MOST_OUTCOMES : Tok} (c_MOST_OUTCOMES : mg "MOST_OUTCOMES" = some (.int 8 t_MOST_OUTCOMES)) : Ok P w K mg base 5 "is_table" s_is_table ["thing"] S_is_table := by
  obtain ⟨f_s, fd_s, F_s, g_s⟩ := h_is_table
  obtain ⟨f_total, fd_total, F_total, g_total, b_total, G_total⟩ := k_total
  obtain ⟨f_are_amounts, fd_are_amounts, F_are_amounts, g_are_amounts, b_are_amounts, G_are_amounts⟩ := k_are_amounts
  refine ⟨f_s, fd_s, F_s, g_s, F_s.binds (fun _ _ _ _ _ _ us hl => match us, hl with | [_], _ => rfl), FnG.of F_s sc_is_table (fun xs μ Q h => by first | exact h.1 | (obtain ⟨⟩ := h)) fun cdv A outer s H hr hgd => ⟨_, _, (pss_cons (ps_if (PW.pt (pw_or (pt_not (pt_val (pe_callB call_isi (by rfl) (B "isinstance" (by decide)) (by decide +kernel) (pa_cons (pv 0) (pa_cons (pe_bltn (v := .ty "tuple") (u := .type "tuple") (by rfl) (B "tuple" (by decide)) (by decide +kernel) rfl) pa_nil))))) (pw_or1 (pt_not (pt_chain op_le op_le pe_int (pe_callB cb_len (by rfl) (B "len" (by decide)) (by decide +kernel) (pa_cons (pv 0) pa_nil)) (pe_glob (v := .int 8) rfl c_MOST_OUTCOMES ⟨_, rfl⟩))))))
 (pss_one (ps_ret pe_bl))
 pss_nil)
 (pss_one (ps_ret (pe_and (pe_callG (G_are_amounts.mono (by decide)) hr hgd (by rfl) g_are_amounts F_are_amounts.kp b_are_amounts (pa_cons (pv 0) (pa_cons (pe_callB cb_len (by rfl) (B "len" (by decide)) (by decide +kernel) (pa_cons (pv 0) pa_nil)) pa_nil))) (pe_one (pe_cmpR (op_eqX hr.units) (pe_callG (G_total.mono (by decide)) hr hgd (by rfl) g_total F_total.kp b_total (pa_cons (pv 0) pa_nil)) (pe_tup (pa_cons pe_int (pa_cons pe_int pa_nil))) (nomark _))))))), (by (try dsimp only [cxOf]); exact inferInstance), ?_⟩⟩
  intro xs μ Q hS
  obtain ⟨_, qs, rfl, hT, hQ⟩ := hS
  rw [show startP N_is_table [tabP qs] = [some (tabP qs)] from rfl]
  have l8 := hT.len
  have l1 := List.length_pos_iff.mpr hT.ne
  have e0 : ∀ μ, itemsOf (tabP qs) μ = some (qs.map frP) := fun _ => rfl
  have e1 : decide ((1 : Int) ≤ ((qs.map frP).length : Nat)) = true := by simp; omega
  have e2 : decide (((qs.map frP).length : Nat) ≤ (8 : Int)) = true := by simp; omega
  simp only [str_to, str_ot, mPar3, mLockV, mLockE, mItemsC, mKeysC, mDGet2, pIsN, isNonP, pRepLM, mTruD, dkOfP, pPopAt, pIndex, mLstRgM, mTruth, pReprA, pLenD, pLstD, mDNew, pRepL, mLenSetN, mDIn, mSortSet, mSortSetL, mRevT, mForC, mSeqC, mLcC, pAbs, pMax2, pMin2, pInt1, mDGet, mDPut, mBM, mBM0, pPop, pAppend, pExtend, pSetL, mSub, mDisp, mPs, mPs0, mRevL, mRevLM, pLstOfM, mTupRg, mRg1, mRg2, pPlusM, lstItems, dictOfP, keyP, keysP, val_left, val_mixed, val_draws, put_draws, mLc, mLcM, mLc2, mFor, mSeqI, mRng1, mRng2, mZip, mEnum, mSl, mNoPart, mPart, mSeq, mAsg, mAsg2, mCB, mCons, mNil, mVar, mC, mOp, mUn, pU, mTup, mLst, mRet, mRetN, mLstM, getl, setl, mName, mCall, mCallK, mIf, mIfS, mTest, mAnd, mOr, mNot, mYes, mAndV, mOrV, mNotV, mNext, mNever, mBreak, mCont, mDrop, mChain, mPar, mGTup, mGCons, mGNil, pGcd, pI, pI0, pIx, pTimes, pPlus, pEq, pNe, pLen, pSum, pMaxS, pAll, pAny, pTupOf, pLstOf, pIn, pIsB, pIsi, items_tup, items_lst, items_kl, items_mr, items_tab, items_lot, items_fr, decide_true, decide_false, eqP_int, eqP_bl, eqP_str, eqP_tup2, kit_tt, kit_ii, kit_ib, tyP, mEnd, wipeP, List.map_cons, List.map_nil, List.getElem?_cons_zero, List.getElem?_cons_succ, List.set_cons_zero, List.set_cons_succ, atI_zero, atI_one, if_true, if_false, ite_true, ite_false, Bool.false_eq_true, List.length_cons, List.length_nil, Bool.not_true, Bool.not_false, tabP]
  rw [e1, e2]
  simp only [str_to, str_ot, mPar3, mLockV, mLockE, mItemsC, mKeysC, mDGet2, pIsN, isNonP, pRepLM, mTruD, dkOfP, pPopAt, pIndex, mLstRgM, mTruth, pReprA, pLenD, pLstD, mDNew, pRepL, mLenSetN, mDIn, mSortSet, mSortSetL, mRevT, mForC, mSeqC, mLcC, pAbs, pMax2, pMin2, pInt1, mDGet, mDPut, mBM, mBM0, pPop, pAppend, pExtend, pSetL, mSub, mDisp, mPs, mPs0, mRevL, mRevLM, pLstOfM, mTupRg, mRg1, mRg2, pPlusM, lstItems, dictOfP, keyP, keysP, val_left, val_mixed, val_draws, put_draws, mLc, mLcM, mLc2, mFor, mSeqI, mRng1, mRng2, mZip, mEnum, mSl, mNoPart, mPart, mSeq, mAsg, mAsg2, mCB, mCons, mNil, mVar, mC, mOp, mUn, pU, mTup, mLst, mRet, mRetN, mLstM, getl, setl, mName, mCall, mCallK, mIf, mIfS, mTest, mAnd, mOr, mNot, mYes, mAndV, mOrV, mNotV, mNext, mNever, mBreak, mCont, mDrop, mChain, mPar, mGTup, mGCons, mGNil, pGcd, pI, pI0, pIx, pTimes, pPlus, pEq, pNe, pLen, pSum, pMaxS, pAll, pAny, pTupOf, pLstOf, pIn, pIsB, pIsi, items_tup, items_lst, items_kl, items_mr, items_tab, items_lot, items_fr, decide_true, decide_false, eqP_int, eqP_bl, eqP_str, eqP_tup2, kit_tt, kit_ii, kit_ib, tyP, mEnd, wipeP, List.map_cons, List.map_nil, List.getElem?_cons_zero, List.getElem?_cons_succ, List.set_cons_zero, List.set_cons_succ, atI_zero, atI_one, if_true, if_false, ite_true, ite_false, Bool.false_eq_true, List.length_cons, List.length_nil, Bool.not_true, Bool.not_false, S_are_amounts]
  refine ⟨trivial, qs, qs.length, by rw [List.length_map]; rfl, rfl, by unfold lim; omega, hT.pos, ?_⟩
  simp only [str_to, str_ot, mPar3, mLockV, mLockE, mItemsC, mKeysC, mDGet2, pIsN, isNonP, pRepLM, mTruD, dkOfP, pPopAt, pIndex, mLstRgM, mTruth, pReprA, pLenD, pLstD, mDNew, pRepL, mLenSetN, mDIn, mSortSet, mSortSetL, mRevT, mForC, mSeqC, mLcC, pAbs, pMax2, pMin2, pInt1, mDGet, mDPut, mBM, mBM0, pPop, pAppend, pExtend, pSetL, mSub, mDisp, mPs, mPs0, mRevL, mRevLM, pLstOfM, mTupRg, mRg1, mRg2, pPlusM, lstItems, dictOfP, keyP, keysP, val_left, val_mixed, val_draws, put_draws, mLc, mLcM, mLc2, mFor, mSeqI, mRng1, mRng2, mZip, mEnum, mSl, mNoPart, mPart, mSeq, mAsg, mAsg2, mCB, mCons, mNil, mVar, mC, mOp, mUn, pU, mTup, mLst, mRet, mRetN, mLstM, getl, setl, mName, mCall, mCallK, mIf, mIfS, mTest, mAnd, mOr, mNot, mYes, mAndV, mOrV, mNotV, mNext, mNever, mBreak, mCont, mDrop, mChain, mPar, mGTup, mGCons, mGNil, pGcd, pI, pI0, pIx, pTimes, pPlus, pEq, pNe, pLen, pSum, pMaxS, pAll, pAny, pTupOf, pLstOf, pIn, pIsB, pIsi, items_tup, items_lst, items_kl, items_mr, items_tab, items_lot, items_fr, decide_true, decide_false, eqP_int, eqP_bl, eqP_str, eqP_tup2, kit_tt, kit_ii, kit_ib, tyP, mEnd, wipeP, List.map_cons, List.map_nil, List.getElem?_cons_zero, List.getElem?_cons_succ, List.set_cons_zero, List.set_cons_succ, atI_zero, atI_one, if_true, if_false, ite_true, ite_false, Bool.false_eq_true, List.length_cons, List.length_nil, Bool.not_true, Bool.not_false, S_total]
  refine ⟨trivial, _, qs, rfl, rfl, hT.sb.mono (by decide), by decide, ?_⟩
  rw [hT.one, one_fr, eqP_fr]
  exact fin_keep hQ
abbrev N_check_bits : List Str := ["bits"]
theorem sc_check_bits : FnScope N_check_bits ["bits"] (defScope s_check_bits) := ⟨rfl, rfl, rfl, by decide +kernel, rfl, by decide +kernel, by decide +kernel⟩
theorem ok_check_bits (B : Blt mg) (h_check_bits : Own K mg "check_bits" s_check_bits) (k_are_bits : Ok P w K mg base 4 "are_bits" s_are_bits ["thing"] S_are_bits) : Ok P w K mg base 5 "check_bits" s_check_bits ["bits"] S_check_bits := by
  obtain ⟨f_s, fd_s, F_s, g_s⟩ := h_check_bits
  obtain ⟨f_are_bits, fd_are_bits, F_are_bits, g_are_bits, b_are_bits, G_are_bits⟩ := k_are_bits
  refine ⟨f_s, fd_s, F_s, g_s, F_s.binds (fun _ _ _ _ _ _ us hl => match us, hl with | [_], _ => rfl), FnG.of F_s sc_check_bits (fun xs μ Q h => by first | exact h.1 | (obtain ⟨⟩ := h)) fun cdv A outer s H hr hgd => ⟨_, _, (pss_one (ps_if (pt_not (pt_val (pe_callG (G_are_bits.mono (by decide)) hr hgd (by rfl) g_are_bits F_are_bits.kp b_are_bits (pa_cons (pv 0) pa_nil))))
 (pss_one ps_never)
 pss_nil)), (by (try dsimp only [cxOf]); exact inferInstance), ?_⟩⟩
  intro xs μ Q hS
  obtain ⟨_, bs, rfl, hb, hl, hQ⟩ := hS
  rw [show startP N_check_bits [lotP bs] = [some (lotP bs)] from rfl]
  have hall : bs.all (· < 2) = true := by simpa using hb
  simp only [str_to, str_ot, mPar3, mLockV, mLockE, mItemsC, mKeysC, mDGet2, pIsN, isNonP, pRepLM, mTruD, dkOfP, pPopAt, pIndex, mLstRgM, mTruth, pReprA, pLenD, pLstD, mDNew, pRepL, mLenSetN, mDIn, mSortSet, mSortSetL, mRevT, mForC, mSeqC, mLcC, pAbs, pMax2, pMin2, pInt1, mDGet, mDPut, mBM, mBM0, pPop, pAppend, pExtend, pSetL, mSub, mDisp, mPs, mPs0, mRevL, mRevLM, pLstOfM, mTupRg, mRg1, mRg2, pPlusM, lstItems, dictOfP, keyP, keysP, val_left, val_mixed, val_draws, put_draws, mLc, mLcM, mLc2, mFor, mSeqI, mRng1, mRng2, mZip, mEnum, mSl, mNoPart, mPart, mSeq, mAsg, mAsg2, mCB, mCons, mNil, mVar, mC, mOp, mUn, pU, mTup, mLst, mRet, mRetN, mLstM, getl, setl, mName, mCall, mCallK, mIf, mIfS, mTest, mAnd, mOr, mNot, mYes, mAndV, mOrV, mNotV, mNext, mNever, mBreak, mCont, mDrop, mChain, mPar, mGTup, mGCons, mGNil, pGcd, pI, pI0, pIx, pTimes, pPlus, pEq, pNe, pLen, pSum, pMaxS, pAll, pAny, pTupOf, pLstOf, pIn, pIsB, pIsi, items_tup, items_lst, items_kl, items_mr, items_tab, items_lot, items_fr, decide_true, decide_false, eqP_int, eqP_bl, eqP_str, eqP_tup2, kit_tt, kit_ii, kit_ib, tyP, mEnd, wipeP, List.map_cons, List.map_nil, List.getElem?_cons_zero, List.getElem?_cons_succ, List.set_cons_zero, List.set_cons_succ, atI_zero, atI_one, if_true, if_false, ite_true, ite_false, Bool.false_eq_true, List.length_cons, List.length_nil, Bool.not_true, Bool.not_false, S_are_bits]
  refine ⟨trivial, bs, rfl, by omega, ?_⟩
  rw [hall]
  exact fin_keep hQ
abbrev N_is_state : List Str := ["thing", "many"]
theorem sc_is_state : FnScope N_is_state ["thing", "many"] (defScope s_is_state) := ⟨rfl, rfl, rfl, by decide +kernel, rfl, by decide +kernel, by decide +kernel⟩
theorem ok_is_state (B : Blt mg) (h_is_state : Own K mg "is_state" s_is_state) (k_is_table : Ok P w K mg base 5 "is_table" s_is_table ["thing"] S_is_table) (k_are_integers : Ok P w K mg base 3 "are_integers" s_are_integers ["thing", "low", "high"] S_are_integers) : Ok P w K mg base 6 "is_state" s_is_state ["thing", "many"] S_is_state := by
  obtain ⟨f_s, fd_s, F_s, g_s⟩ := h_is_state
  obtain ⟨f_is_table, fd_is_table, F_is_table, g_is_table, b_is_table, G_is_table⟩ := k_is_table
  obtain ⟨f_are_integers, fd_are_integers, F_are_integers, g_are_integers, b_are_integers, G_are_integers⟩ := k_are_integers
  refine ⟨f_s, fd_s, F_s, g_s, F_s.binds (fun _ _ _ _ _ _ us hl => match us, hl with | [_, _], _ => rfl), FnG.of F_s sc_is_state (fun xs μ Q h => by first | exact h.1 | (obtain ⟨⟩ := h)) fun cdv A outer s H hr hgd => ⟨_, _, (pss_cons (ps_if (PW.pt (pw_or (pt_not (pt_val (pe_callB call_isi (by rfl) (B "isinstance" (by decide)) (by decide +kernel) (pa_cons (pv 0) (pa_cons (pe_bltn (v := .ty "tuple") (u := .type "tuple") (by rfl) (B "tuple" (by decide)) (by decide +kernel) rfl) pa_nil))))) (pw_or (pt_cmpR (op_neX hr.units) (pe_callB cb_len (by rfl) (B "len" (by decide)) (by decide +kernel) (pa_cons (pv 0) pa_nil)) pe_int (nomark _)) (pw_or1 (pt_not (pt_val (pe_callG (G_is_table.mono (by decide)) hr hgd (by rfl) g_is_table F_is_table.kp b_is_table (pa_cons (pe_ix ix_seq (pv 0) pe_int (fun _ _ => rfl)) pa_nil))))))))
 (pss_one (ps_ret pe_bl))
 pss_nil)
 (pss_one (ps_ret (pe_and (pe_callG (G_are_integers.mono (by decide)) hr hgd (by rfl) g_are_integers F_are_integers.kp b_are_integers (pa_cons (pe_ix ix_seq (pv 0) pe_int (fun _ _ => rfl)) (pa_cons pe_int (pa_cons (pe_op op_sub (pv 1) pe_int) pa_nil)))) (pe_one (pe_cmpR (op_eqX hr.units) (pe_callB cb_len (by rfl) (B "len" (by decide)) (by decide +kernel) (pa_cons (pe_ix ix_seq (pv 0) pe_int (fun _ _ => rfl)) pa_nil)) (pe_callB cb_len (by rfl) (B "len" (by decide)) (by decide +kernel) (pa_cons (pe_ix ix_seq (pv 0) pe_int (fun _ _ => rfl)) pa_nil)) (nomark _))))))), (by (try dsimp only [cxOf]); exact inferInstance), ?_⟩⟩
  intro xs μ Q hS
  obtain ⟨_, s, many, rfl, hT, hl, hf, hQ⟩ := hS
  rw [show startP N_is_state [stP s, .int many] = [some (stP s), some (.int many)] from rfl]
  simp only [str_to, str_ot, mPar3, mLockV, mLockE, mItemsC, mKeysC, mDGet2, pIsN, isNonP, pRepLM, mTruD, dkOfP, pPopAt, pIndex, mLstRgM, mTruth, pReprA, pLenD, pLstD, mDNew, pRepL, mLenSetN, mDIn, mSortSet, mSortSetL, mRevT, mForC, mSeqC, mLcC, pAbs, pMax2, pMin2, pInt1, mDGet, mDPut, mBM, mBM0, pPop, pAppend, pExtend, pSetL, mSub, mDisp, mPs, mPs0, mRevL, mRevLM, pLstOfM, mTupRg, mRg1, mRg2, pPlusM, lstItems, dictOfP, keyP, keysP, val_left, val_mixed, val_draws, put_draws, mLc, mLcM, mLc2, mFor, mSeqI, mRng1, mRng2, mZip, mEnum, mSl, mNoPart, mPart, mSeq, mAsg, mAsg2, mCB, mCons, mNil, mVar, mC, mOp, mUn, pU, mTup, mLst, mRet, mRetN, mLstM, getl, setl, mName, mCall, mCallK, mIf, mIfS, mTest, mAnd, mOr, mNot, mYes, mAndV, mOrV, mNotV, mNext, mNever, mBreak, mCont, mDrop, mChain, mPar, mGTup, mGCons, mGNil, pGcd, pI, pI0, pIx, pTimes, pPlus, pEq, pNe, pLen, pSum, pMaxS, pAll, pAny, pTupOf, pLstOf, pIn, pIsB, pIsi, items_tup, items_lst, items_kl, items_mr, items_tab, items_lot, items_fr, decide_true, decide_false, eqP_int, eqP_bl, eqP_str, eqP_tup2, kit_tt, kit_ii, kit_ib, tyP, mEnd, wipeP, List.map_cons, List.map_nil, List.getElem?_cons_zero, List.getElem?_cons_succ, List.set_cons_zero, List.set_cons_succ, atI_zero, atI_one, if_true, if_false, ite_true, ite_false, Bool.false_eq_true, List.length_cons, List.length_nil, Bool.not_true, Bool.not_false, stP, S_is_table, S_are_integers]
  rw [if_neg (by decide)]
  refine ⟨trivial, s.1, rfl, hT, trivial, zs s.2, _, _, by rw [lot_ints], by rw [zs_length, hl]; have := hT.len; unfold lim; omega, ?_⟩
  have e1 : ((zs s.2).all fun i => decide ((0 : Int) ≤ i) && decide (i ≤ ((many : Nat) : Int) - 1)) = true := by
    rw [List.all_eq_true]
    intro i hi
    obtain ⟨n, hn, rfl⟩ := List.mem_map.mp hi
    have := hf n hn
    simp; omega
  rw [e1, if_pos rfl, List.length_map, List.length_map, hl, decide_eq_true rfl]
  exact fin_keep hQ
abbrev N_bits_stretch : List Str := ["bits"]
theorem sc_bits_stretch : FnScope N_bits_stretch ["bits"] (defScope s_bits_stretch) := ⟨rfl, rfl, rfl, by decide +kernel, rfl, by decide +kernel, by decide +kernel⟩
theorem ok_bits_stretch (B : Blt mg) (h_bits_stretch : Own K mg "bits_stretch" s_bits_stretch) (k_check_bits : Ok P w K mg base 5 "check_bits" s_check_bits ["bits"] S_check_bits) (k_lowest : Ok P w K mg base 1 "lowest" s_lowest ["top", "bottom"] S_lowest) (k_in_base_two : Ok P w K mg base 1 "in_base_two" s_in_base_two ["numbers"] S_in_base_two) : Ok P w K mg base 6 "bits_stretch" s_bits_stretch ["bits"] S_bits_stretch := by
  obtain ⟨f_s, fd_s, F_s, g_s⟩ := h_bits_stretch
  obtain ⟨f_check_bits, fd_check_bits, F_check_bits, g_check_bits, b_check_bits, G_check_bits⟩ := k_check_bits
  obtain ⟨f_lowest, fd_lowest, F_lowest, g_lowest, b_lowest, G_lowest⟩ := k_lowest
  obtain ⟨f_in_base_two, fd_in_base_two, F_in_base_two, g_in_base_two, b_in_base_two, G_in_base_two⟩ := k_in_base_two
  refine ⟨f_s, fd_s, F_s, g_s, F_s.binds (fun _ _ _ _ _ _ us hl => match us, hl with | [_], _ => rfl), FnG.of F_s sc_bits_stretch (fun xs μ Q h => by first | exact h.1 | (obtain ⟨⟩ := h)) fun cdv A outer s H hr hgd => ⟨_, _, (pss_cons (ps_expr (pe_callG (G_check_bits.mono (by decide)) hr hgd (by rfl) g_check_bits F_check_bits.kp b_check_bits (pa_cons (pv 0) pa_nil)))
 (pss_one (ps_ret (pe_tup (pa_cons (pe_callG (G_lowest.mono (by decide)) hr hgd (by rfl) g_lowest F_lowest.kp b_lowest (pa_cons (pe_callG (G_in_base_two.mono (by decide)) hr hgd (by rfl) g_in_base_two F_in_base_two.kp b_in_base_two (pa_cons (pv 0) pa_nil)) (pa_cons (pe_op op_shlW pe_int (pe_callB cb_len (by rfl) (B "len" (by decide)) (by decide +kernel) (pa_cons (pv 0) pa_nil))) pa_nil))) (pa_cons (pe_tup (pa_cons pe_int (pa_cons (pe_op op_shlW pe_int (pe_callB cb_len (by rfl) (B "len" (by decide)) (by decide +kernel) (pa_cons (pv 0) pa_nil))) pa_nil))) pa_nil)))))), (by (try dsimp only [cxOf]); exact inferInstance), ?_⟩⟩
  intro xs μ Q hS
  obtain ⟨_, bs, rfl, hb, hl, hQ⟩ := hS
  rw [show startP N_bits_stretch [lotP bs] = [some (lotP bs)] from rfl]
  simp only [str_to, str_ot, mPar3, mLockV, mLockE, mItemsC, mKeysC, mDGet2, pIsN, isNonP, pRepLM, mTruD, dkOfP, pPopAt, pIndex, mLstRgM, mTruth, pReprA, pLenD, pLstD, mDNew, pRepL, mLenSetN, mDIn, mSortSet, mSortSetL, mRevT, mForC, mSeqC, mLcC, pAbs, pMax2, pMin2, pInt1, mDGet, mDPut, mBM, mBM0, pPop, pAppend, pExtend, pSetL, mSub, mDisp, mPs, mPs0, mRevL, mRevLM, pLstOfM, mTupRg, mRg1, mRg2, pPlusM, lstItems, dictOfP, keyP, keysP, val_left, val_mixed, val_draws, put_draws, mLc, mLcM, mLc2, mFor, mSeqI, mRng1, mRng2, mZip, mEnum, mSl, mNoPart, mPart, mSeq, mAsg, mAsg2, mCB, mCons, mNil, mVar, mC, mOp, mUn, pU, mTup, mLst, mRet, mRetN, mLstM, getl, setl, mName, mCall, mCallK, mIf, mIfS, mTest, mAnd, mOr, mNot, mYes, mAndV, mOrV, mNotV, mNext, mNever, mBreak, mCont, mDrop, mChain, mPar, mGTup, mGCons, mGNil, pGcd, pI, pI0, pIx, pTimes, pPlus, pEq, pNe, pLen, pSum, pMaxS, pAll, pAny, pTupOf, pLstOf, pIn, pIsB, pIsi, items_tup, items_lst, items_kl, items_mr, items_tab, items_lot, items_fr, decide_true, decide_false, eqP_int, eqP_bl, eqP_str, eqP_tup2, kit_tt, kit_ii, kit_ib, tyP, mEnd, wipeP, List.map_cons, List.map_nil, List.getElem?_cons_zero, List.getElem?_cons_succ, List.set_cons_zero, List.set_cons_succ, atI_zero, atI_one, if_true, if_false, ite_true, ite_false, Bool.false_eq_true, List.length_cons, List.length_nil, Bool.not_true, Bool.not_false, S_check_bits, S_in_base_two, S_lowest, len_lot, List.length_map]
  refine ⟨trivial, bs, rfl, hb, hl, ?_⟩
  simp only [shl1w]
  have hp : (0 : Int) < (2 ^ bs.length : Nat) := by have := Nat.two_pow_pos bs.length; omega
  refine ⟨trivial, lotP bs, bs, rfl, rfl, by omega, lt100 hb, shl_ok (n := 1) (by decide) (by omega), trivial, _, _, rfl, hp, ?_, shl_ok (n := 1) (by decide) (by omega), by decide, by decide, ?_⟩
  · rw [Int.natAbs_natCast]
    exact Nat.pow_lt_pow_right (by decide) (by omega)
  · rw [frP_pow]
    exact fin_keep hQ
abbrev N_are_states : List Str := ["thing", "state"]
theorem sc_are_states : FnScope N_are_states ["thing"] (defScope s_are_states) := ⟨rfl, rfl, rfl, by decide +kernel, rfl, by decide +kernel, by decide +kernel⟩
theorem ok_are_states (B : Blt mg) (h_are_states : Own K mg "are_states" s_are_states) (k_is_state : Ok P w K mg base 6 "is_state" s_is_state ["thing", "many"] S_is_state) : Ok P w K mg base 7 "are_states" s_are_states ["thing"] S_are_states := by
  obtain ⟨f_s, fd_s, F_s, g_s⟩ := h_are_states
  obtain ⟨f_is_state, fd_is_state, F_is_state, g_is_state, b_is_state, G_is_state⟩ := k_is_state
  refine ⟨f_s, fd_s, F_s, g_s, F_s.binds (fun _ _ _ _ _ _ us hl => match us, hl with | [_], _ => rfl), FnG.of F_s sc_are_states (fun xs μ Q h => by first | exact h.1 | (obtain ⟨⟩ := h)) fun cdv A outer s H hr hgd => ⟨_, _, (pss_cons (ps_if (PW.pt (pw_or (pt_not (pt_val (pe_callB call_isi (by rfl) (B "isinstance" (by decide)) (by decide +kernel) (pa_cons (pv 0) (pa_cons (pe_bltn (v := .ty "tuple") (u := .type "tuple") (by rfl) (B "tuple" (by decide)) (by decide +kernel) rfl) pa_nil))))) (pw_or (pt_cmpR (op_eqX hr.units) (pv 0) (pe_tup pa_nil) (nomark _)) (pw_or1 (pt_not (pt_val (pe_callB (cr_all rfl) (by rfl) (B "all" (by decide)) (by decide +kernel) (pa_cons (pe_lc (own := [("state", 1)]) (by rfl) sc_are_states.nd (pi_seq (pv 0)) (blkOk_by (own := [("state", 1)]) (N := N_are_states) (sc := defScope s_are_states) (by decide +kernel)) (fun _ _ _ _ _ => (pg_name (i := 1) sc_are_states.nd rfl (Or.inl rfl))) (fun _ _ _ _ _ => pts_nil) (fun _ _ _ _ _ => (pek_call K rfl (G_is_state.mono (by decide)) hr hgd (by rfl) g_is_state F_is_state.kp b_is_state (pa_cons (pv 1) (pa_cons (pe_callB (ck_len K rfl) (by rfl) (B "len" (by decide)) (by decide +kernel) (pa_cons (pv 0) pa_nil)) pa_nil))))) pa_nil))))))))
 (pss_one (ps_ret pe_bl))
 pss_nil)
 (pss_one (ps_ret (pe_callB (cr_all rfl) (by rfl) (B "all" (by decide)) (by decide +kernel) (pa_cons (pe_lc (own := [("state", 1)]) (by rfl) sc_are_states.nd (pi_seq (pv 0)) (blkOk_by (own := [("state", 1)]) (N := N_are_states) (sc := defScope s_are_states) (by decide +kernel)) (fun _ _ _ _ _ => (pg_name (i := 1) sc_are_states.nd rfl (Or.inl rfl))) (fun _ _ _ _ _ => pts_nil) (fun _ _ _ _ _ => (pe_cmpR (opk_eqX K rfl hr.units) (pe_callB (ck_len K rfl) (by rfl) (B "len" (by decide)) (by decide +kernel) (pa_cons (pe_ix (ixk_seq K rfl) (pv 1) pe_int (fun _ _ => rfl)) pa_nil)) (pe_callB (ck_len K rfl) (by rfl) (B "len" (by decide)) (by decide +kernel) (pa_cons (pe_ix (ixk_seq K rfl) (pe_ix (ixk_seq K rfl) (pv 0) pe_int (fun _ _ => rfl)) pe_int (fun _ _ => rfl)) pa_nil)) (nomark _)))) pa_nil))))), (by (try dsimp only [cxOf]); exact inferInstance), ?_⟩⟩
  intro xs μ Q hS
  obtain ⟨_, n, M, rfl, hM, hQ⟩ := hS
  rw [show startP N_are_states [mdlP M] = [some (mdlP M), none] from rfl]
  simp only [str_to, str_ot, mPar3, mLockV, mLockE, mItemsC, mKeysC, mDGet2, pIsN, isNonP, pRepLM, mTruD, dkOfP, pPopAt, pIndex, mLstRgM, mTruth, pReprA, pLenD, pLstD, mDNew, pRepL, mLenSetN, mDIn, mSortSet, mSortSetL, mRevT, mForC, mSeqC, mLcC, pAbs, pMax2, pMin2, pInt1, mDGet, mDPut, mBM, mBM0, pPop, pAppend, pExtend, pSetL, mSub, mDisp, mPs, mPs0, mRevL, mRevLM, pLstOfM, mTupRg, mRg1, mRg2, pPlusM, lstItems, dictOfP, keyP, keysP, val_left, val_mixed, val_draws, put_draws, mLc, mLcM, mLc2, mFor, mSeqI, mRng1, mRng2, mZip, mEnum, mSl, mNoPart, mPart, mSeq, mAsg, mAsg2, mCB, mCons, mNil, mVar, mC, mOp, mUn, pU, mTup, mLst, mRet, mRetN, mLstM, getl, setl, mName, mCall, mCallK, mIf, mIfS, mTest, mAnd, mOr, mNot, mYes, mAndV, mOrV, mNotV, mNext, mNever, mBreak, mCont, mDrop, mChain, mPar, mGTup, mGCons, mGNil, pGcd, pI, pI0, pIx, pTimes, pPlus, pEq, pNe, pLen, pSum, pMaxS, pAll, pAny, pTupOf, pLstOf, pIn, pIsB, pIsi, items_tup, items_lst, items_kl, items_mr, items_tab, items_lot, items_fr, decide_true, decide_false, eqP_int, eqP_bl, eqP_str, eqP_tup2, kit_tt, kit_ii, kit_ib, tyP, mEnd, wipeP, List.map_cons, List.map_nil, List.getElem?_cons_zero, List.getElem?_cons_succ, List.set_cons_zero, List.set_cons_succ, atI_zero, atI_one, if_true, if_false, ite_true, ite_false, Bool.false_eq_true, List.length_cons, List.length_nil, Bool.not_true, Bool.not_false, mdlP, eqP_mdl hM.ne]
  have h60 := hM.len
  refine ⟨by decide, by decide, by rw [List.length_map]; unfold lim; omega, lc_map (enc := stP) (out := fun _ => .bl true) (fun s hs k hk => ?_) ?_⟩
  · simp only [str_to, str_ot, mPar3, mLockV, mLockE, mItemsC, mKeysC, mDGet2, pIsN, isNonP, pRepLM, mTruD, dkOfP, pPopAt, pIndex, mLstRgM, mTruth, pReprA, pLenD, pLstD, mDNew, pRepL, mLenSetN, mDIn, mSortSet, mSortSetL, mRevT, mForC, mSeqC, mLcC, pAbs, pMax2, pMin2, pInt1, mDGet, mDPut, mBM, mBM0, pPop, pAppend, pExtend, pSetL, mSub, mDisp, mPs, mPs0, mRevL, mRevLM, pLstOfM, mTupRg, mRg1, mRg2, pPlusM, lstItems, dictOfP, keyP, keysP, val_left, val_mixed, val_draws, put_draws, mLc, mLcM, mLc2, mFor, mSeqI, mRng1, mRng2, mZip, mEnum, mSl, mNoPart, mPart, mSeq, mAsg, mAsg2, mCB, mCons, mNil, mVar, mC, mOp, mUn, pU, mTup, mLst, mRet, mRetN, mLstM, getl, setl, mName, mCall, mCallK, mIf, mIfS, mTest, mAnd, mOr, mNot, mYes, mAndV, mOrV, mNotV, mNext, mNever, mBreak, mCont, mDrop, mChain, mPar, mGTup, mGCons, mGNil, pGcd, pI, pI0, pIx, pTimes, pPlus, pEq, pNe, pLen, pSum, pMaxS, pAll, pAny, pTupOf, pLstOf, pIn, pIsB, pIsi, items_tup, items_lst, items_kl, items_mr, items_tab, items_lot, items_fr, decide_true, decide_false, eqP_int, eqP_bl, eqP_str, eqP_tup2, kit_tt, kit_ii, kit_ib, tyP, mEnd, wipeP, List.map_cons, List.map_nil, List.getElem?_cons_zero, List.getElem?_cons_succ, List.set_cons_zero, List.set_cons_succ, atI_zero, atI_one, if_true, if_false, ite_true, ite_false, Bool.false_eq_true, List.length_cons, List.length_nil, Bool.not_true, Bool.not_false, S_is_state, List.length_map]
    exact ⟨trivial, s, M.length, rfl, (hM.tab s hs).mono (by decide), by rw [hM.fl s hs, hM.ln s hs], hM.fo s hs, hk⟩
  · simp only [all_true, all_id, Bool.not_true, Bool.false_eq_true, if_false]
    refine ⟨by decide, by rw [List.length_map]; unfold lim; omega, lc_map (enc := stP) (out := fun _ => .bl true) (fun s hs k hk => ?_) ?_⟩
    · have h0 := List.length_pos_iff.mpr hM.ne
      simp only [str_to, str_ot, mPar3, mLockV, mLockE, mItemsC, mKeysC, mDGet2, pIsN, isNonP, pRepLM, mTruD, dkOfP, pPopAt, pIndex, mLstRgM, mTruth, pReprA, pLenD, pLstD, mDNew, pRepL, mLenSetN, mDIn, mSortSet, mSortSetL, mRevT, mForC, mSeqC, mLcC, pAbs, pMax2, pMin2, pInt1, mDGet, mDPut, mBM, mBM0, pPop, pAppend, pExtend, pSetL, mSub, mDisp, mPs, mPs0, mRevL, mRevLM, pLstOfM, mTupRg, mRg1, mRg2, pPlusM, lstItems, dictOfP, keyP, keysP, val_left, val_mixed, val_draws, put_draws, mLc, mLcM, mLc2, mFor, mSeqI, mRng1, mRng2, mZip, mEnum, mSl, mNoPart, mPart, mSeq, mAsg, mAsg2, mCB, mCons, mNil, mVar, mC, mOp, mUn, pU, mTup, mLst, mRet, mRetN, mLstM, getl, setl, mName, mCall, mCallK, mIf, mIfS, mTest, mAnd, mOr, mNot, mYes, mAndV, mOrV, mNotV, mNext, mNever, mBreak, mCont, mDrop, mChain, mPar, mGTup, mGCons, mGNil, pGcd, pI, pI0, pIx, pTimes, pPlus, pEq, pNe, pLen, pSum, pMaxS, pAll, pAny, pTupOf, pLstOf, pIn, pIsB, pIsi, items_tup, items_lst, items_kl, items_mr, items_tab, items_lot, items_fr, decide_true, decide_false, eqP_int, eqP_bl, eqP_str, eqP_tup2, kit_tt, kit_ii, kit_ib, tyP, mEnd, wipeP, List.map_cons, List.map_nil, List.getElem?_cons_zero, List.getElem?_cons_succ, List.set_cons_zero, List.set_cons_succ, atI_zero, atI_one, if_true, if_false, ite_true, ite_false, Bool.false_eq_true, List.length_cons, List.length_nil, Bool.not_true, Bool.not_false, stP, atM0 h0, tabP, List.length_map]
      rw [hM.ln s hs, hM.tl h0, decide_eq_true rfl]
      exact hk
    · simp only [all_true, all_id]
      exact fin_keep hQ
abbrev N_check_model : List Str := ["model"]
theorem sc_check_model : FnScope N_check_model ["model"] (defScope s_check_model) := ⟨rfl, rfl, rfl, by decide +kernel, rfl, by decide +kernel, by decide +kernel⟩
theorem ok_check_model (B : Blt mg) (h_check_model : Own K mg "check_model" s_check_model) (k_are_states : Ok P w K mg base 7 "are_states" s_are_states ["thing"] S_are_states) : Ok P w K mg base 8 "check_model" s_check_model ["model"] S_check_model := by
  obtain ⟨f_s, fd_s, F_s, g_s⟩ := h_check_model
  obtain ⟨f_are_states, fd_are_states, F_are_states, g_are_states, b_are_states, G_are_states⟩ := k_are_states
  refine ⟨f_s, fd_s, F_s, g_s, F_s.binds (fun _ _ _ _ _ _ us hl => match us, hl with | [_], _ => rfl), FnG.of F_s sc_check_model (fun xs μ Q h => by first | exact h.1 | (obtain ⟨⟩ := h)) fun cdv A outer s H hr hgd => ⟨_, _, (pss_one (ps_if (pt_not (pt_val (pe_callG (G_are_states.mono (by decide)) hr hgd (by rfl) g_are_states F_are_states.kp b_are_states (pa_cons (pv 0) pa_nil))))
 (pss_one ps_never)
 pss_nil)), (by (try dsimp only [cxOf]); exact inferInstance), ?_⟩⟩
  intro xs μ Q hS
  obtain ⟨_, n, M, rfl, hM, hQ⟩ := hS
  rw [show startP N_check_model [mdlP M] = [some (mdlP M)] from rfl]
  simp only [str_to, str_ot, mPar3, mLockV, mLockE, mItemsC, mKeysC, mDGet2, pIsN, isNonP, pRepLM, mTruD, dkOfP, pPopAt, pIndex, mLstRgM, mTruth, pReprA, pLenD, pLstD, mDNew, pRepL, mLenSetN, mDIn, mSortSet, mSortSetL, mRevT, mForC, mSeqC, mLcC, pAbs, pMax2, pMin2, pInt1, mDGet, mDPut, mBM, mBM0, pPop, pAppend, pExtend, pSetL, mSub, mDisp, mPs, mPs0, mRevL, mRevLM, pLstOfM, mTupRg, mRg1, mRg2, pPlusM, lstItems, dictOfP, keyP, keysP, val_left, val_mixed, val_draws, put_draws, mLc, mLcM, mLc2, mFor, mSeqI, mRng1, mRng2, mZip, mEnum, mSl, mNoPart, mPart, mSeq, mAsg, mAsg2, mCB, mCons, mNil, mVar, mC, mOp, mUn, pU, mTup, mLst, mRet, mRetN, mLstM, getl, setl, mName, mCall, mCallK, mIf, mIfS, mTest, mAnd, mOr, mNot, mYes, mAndV, mOrV, mNotV, mNext, mNever, mBreak, mCont, mDrop, mChain, mPar, mGTup, mGCons, mGNil, pGcd, pI, pI0, pIx, pTimes, pPlus, pEq, pNe, pLen, pSum, pMaxS, pAll, pAny, pTupOf, pLstOf, pIn, pIsB, pIsi, items_tup, items_lst, items_kl, items_mr, items_tab, items_lot, items_fr, decide_true, decide_false, eqP_int, eqP_bl, eqP_str, eqP_tup2, kit_tt, kit_ii, kit_ib, tyP, mEnd, wipeP, List.map_cons, List.map_nil, List.getElem?_cons_zero, List.getElem?_cons_succ, List.set_cons_zero, List.set_cons_succ, atI_zero, atI_one, if_true, if_false, ite_true, ite_false, Bool.false_eq_true, List.length_cons, List.length_nil, Bool.not_true, Bool.not_false, S_are_states]
  exact ⟨trivial, n, M, rfl, hM, fin_keep hQ⟩
abbrev N_check_way : List Str := ["model", "way"]
theorem sc_check_way : FnScope N_check_way ["model", "way"] (defScope s_check_way) := ⟨rfl, rfl, rfl, by decide +kernel, rfl, by decide +kernel, by decide +kernel⟩
theorem ok_check_way (B : Blt mg) (h_check_way : Own K mg "check_way" s_check_way) (k_check_model : Ok P w K mg base 8 "check_model" s_check_model ["model"] S_check_model) (k_is_way_of : Ok P w K mg base 4 "is_way_of" s_is_way_of ["model", "thing"] S_is_way_of) : Ok P w K mg base 9 "check_way" s_check_way ["model", "way"] S_check_way := by
  obtain ⟨f_s, fd_s, F_s, g_s⟩ := h_check_way
  obtain ⟨f_check_model, fd_check_model, F_check_model, g_check_model, b_check_model, G_check_model⟩ := k_check_model
  obtain ⟨f_is_way_of, fd_is_way_of, F_is_way_of, g_is_way_of, b_is_way_of, G_is_way_of⟩ := k_is_way_of
  refine ⟨f_s, fd_s, F_s, g_s, F_s.binds (fun _ _ _ _ _ _ us hl => match us, hl with | [_, _], _ => rfl), FnG.of F_s sc_check_way (fun xs μ Q h => by first | exact h.1 | (obtain ⟨⟩ := h)) fun cdv A outer s H hr hgd => ⟨_, _, (pss_cons (ps_expr (pe_callG (G_check_model.mono (by decide)) hr hgd (by rfl) g_check_model F_check_model.kp b_check_model (pa_cons (pv 0) pa_nil)))
 (pss_one (ps_if (pt_not (pt_val (pe_callG (G_is_way_of.mono (by decide)) hr hgd (by rfl) g_is_way_of F_is_way_of.kp b_is_way_of (pa_cons (pv 0) (pa_cons (pv 1) pa_nil)))))
 (pss_one ps_never)
 pss_nil))), (by (try dsimp only [cxOf]); exact inferInstance), ?_⟩⟩
  intro xs μ Q hS
  obtain ⟨_, n, M, w, rfl, hM, hw, hl, hQ⟩ := hS
  rw [show startP N_check_way [mdlP M, lotP w] = [some (mdlP M), some (lotP w)] from rfl]
  simp only [str_to, str_ot, mPar3, mLockV, mLockE, mItemsC, mKeysC, mDGet2, pIsN, isNonP, pRepLM, mTruD, dkOfP, pPopAt, pIndex, mLstRgM, mTruth, pReprA, pLenD, pLstD, mDNew, pRepL, mLenSetN, mDIn, mSortSet, mSortSetL, mRevT, mForC, mSeqC, mLcC, pAbs, pMax2, pMin2, pInt1, mDGet, mDPut, mBM, mBM0, pPop, pAppend, pExtend, pSetL, mSub, mDisp, mPs, mPs0, mRevL, mRevLM, pLstOfM, mTupRg, mRg1, mRg2, pPlusM, lstItems, dictOfP, keyP, keysP, val_left, val_mixed, val_draws, put_draws, mLc, mLcM, mLc2, mFor, mSeqI, mRng1, mRng2, mZip, mEnum, mSl, mNoPart, mPart, mSeq, mAsg, mAsg2, mCB, mCons, mNil, mVar, mC, mOp, mUn, pU, mTup, mLst, mRet, mRetN, mLstM, getl, setl, mName, mCall, mCallK, mIf, mIfS, mTest, mAnd, mOr, mNot, mYes, mAndV, mOrV, mNotV, mNext, mNever, mBreak, mCont, mDrop, mChain, mPar, mGTup, mGCons, mGNil, pGcd, pI, pI0, pIx, pTimes, pPlus, pEq, pNe, pLen, pSum, pMaxS, pAll, pAny, pTupOf, pLstOf, pIn, pIsB, pIsi, items_tup, items_lst, items_kl, items_mr, items_tab, items_lot, items_fr, decide_true, decide_false, eqP_int, eqP_bl, eqP_str, eqP_tup2, kit_tt, kit_ii, kit_ib, tyP, mEnd, wipeP, List.map_cons, List.map_nil, List.getElem?_cons_zero, List.getElem?_cons_succ, List.set_cons_zero, List.set_cons_succ, atI_zero, atI_one, if_true, if_false, ite_true, ite_false, Bool.false_eq_true, List.length_cons, List.length_nil, Bool.not_true, Bool.not_false, S_check_model, S_is_way_of]
  exact ⟨trivial, n, M, rfl, hM, trivial, n, M, w, rfl, hM, hw, hl, fin_keep hQ⟩
abbrev N_stretch : List Str := ["model", "way", "at", "found", "i", "table", "followers"]
theorem sc_stretch : FnScope N_stretch ["model", "way"] (defScope s_stretch) := ⟨rfl, rfl, rfl, by decide +kernel, rfl, by decide +kernel, by decide +kernel⟩
theorem ok_stretch (B : Blt mg) (h_stretch : Own K mg "stretch" s_stretch) (k_check_way : Ok P w K mg base 9 "check_way" s_check_way ["model", "way"] S_check_way) (k_stretch_behind : Ok P w K mg base 4 "stretch_behind" s_stretch_behind ["found", "table", "i"] S_stretch_behind) : Ok P w K mg base 10 "stretch" s_stretch ["model", "way"] S_stretch := by
  obtain ⟨f_s, fd_s, F_s, g_s⟩ := h_stretch
  obtain ⟨f_check_way, fd_check_way, F_check_way, g_check_way, b_check_way, G_check_way⟩ := k_check_way
  obtain ⟨f_stretch_behind, fd_stretch_behind, F_stretch_behind, g_stretch_behind, b_stretch_behind, G_stretch_behind⟩ := k_stretch_behind
  refine ⟨f_s, fd_s, F_s, g_s, F_s.binds (fun _ _ _ _ _ _ us hl => match us, hl with | [_, _], _ => rfl), FnG.of F_s sc_stretch (fun xs μ Q h => by first | exact h.1 | (obtain ⟨⟩ := h)) fun cdv A outer s H hr hgd => ⟨_, _, (pss_cons (ps_expr (pe_callG (G_check_way.mono (by decide)) hr hgd (by rfl) g_check_way F_check_way.kp b_check_way (pa_cons (pv 0) (pa_cons (pv 1) pa_nil))))
 (pss_cons (ps_set (i := 2) sc_stretch.nd rfl (Or.inl rfl) pe_int)
 (pss_cons (ps_set (i := 3) sc_stretch.nd rfl (Or.inl rfl) (pe_tup (pa_cons (pe_tup (pa_cons pe_int (pa_cons pe_int pa_nil))) (pa_cons (pe_tup (pa_cons pe_int (pa_cons pe_int pa_nil))) pa_nil))))
 (pss_cons (ps_for PassesOwn.never rfl (pi_seq (pv 1)) (pg_name (i := 4) sc_stretch.nd rfl (Or.inl rfl))
 (pss_cons (ps_asg (pe_ix ix_seq (pv 0) (pv 2) (fun _ _ => rfl)) (pg_tup (n := 2) rfl (pgs_cons (pg_name (i := 5) sc_stretch.nd rfl (Or.inl rfl)) (pgs_cons (pg_name (i := 6) sc_stretch.nd rfl (Or.inl rfl)) pgs_nil))))
 (pss_cons (ps_set (i := 3) sc_stretch.nd rfl (Or.inl rfl) (pe_callG (G_stretch_behind.mono (by decide)) hr hgd (by rfl) g_stretch_behind F_stretch_behind.kp b_stretch_behind (pa_cons (pv 3) (pa_cons (pv 5) (pa_cons (pv 4) pa_nil)))))
 (pss_one (ps_set (i := 2) sc_stretch.nd rfl (Or.inl rfl) (pe_ix ix_seq (pv 6) (pv 4) (fun _ _ => rfl)))))))
 (pss_one (ps_ret (pv 3))))))), (by (try dsimp only [cxOf]); exact inferInstance), ?_⟩⟩
  intro xs μ Q hS
  obtain ⟨_, n, M, w, rfl, hM, hw, hl, hQ⟩ := hS
  rw [show startP N_stretch [mdlP M, lotP w] = [some (mdlP M), some (lotP w), none, none, none, none, none] from rfl]
  have h0 := List.length_pos_iff.mpr hM.ne
  simp only [str_to, str_ot, mPar3, mLockV, mLockE, mItemsC, mKeysC, mDGet2, pIsN, isNonP, pRepLM, mTruD, dkOfP, pPopAt, pIndex, mLstRgM, mTruth, pReprA, pLenD, pLstD, mDNew, pRepL, mLenSetN, mDIn, mSortSet, mSortSetL, mRevT, mForC, mSeqC, mLcC, pAbs, pMax2, pMin2, pInt1, mDGet, mDPut, mBM, mBM0, pPop, pAppend, pExtend, pSetL, mSub, mDisp, mPs, mPs0, mRevL, mRevLM, pLstOfM, mTupRg, mRg1, mRg2, pPlusM, lstItems, dictOfP, keyP, keysP, val_left, val_mixed, val_draws, put_draws, mLc, mLcM, mLc2, mFor, mSeqI, mRng1, mRng2, mZip, mEnum, mSl, mNoPart, mPart, mSeq, mAsg, mAsg2, mCB, mCons, mNil, mVar, mC, mOp, mUn, pU, mTup, mLst, mRet, mRetN, mLstM, getl, setl, mName, mCall, mCallK, mIf, mIfS, mTest, mAnd, mOr, mNot, mYes, mAndV, mOrV, mNotV, mNext, mNever, mBreak, mCont, mDrop, mChain, mPar, mGTup, mGCons, mGNil, pGcd, pI, pI0, pIx, pTimes, pPlus, pEq, pNe, pLen, pSum, pMaxS, pAll, pAny, pTupOf, pLstOf, pIn, pIsB, pIsi, items_tup, items_lst, items_kl, items_mr, items_tab, items_lot, items_fr, decide_true, decide_false, eqP_int, eqP_bl, eqP_str, eqP_tup2, kit_tt, kit_ii, kit_ib, tyP, mEnd, wipeP, List.map_cons, List.map_nil, List.getElem?_cons_zero, List.getElem?_cons_succ, List.set_cons_zero, List.set_cons_succ, atI_zero, atI_one, if_true, if_false, ite_true, ite_false, Bool.false_eq_true, List.length_cons, List.length_nil, Bool.not_true, Bool.not_false, S_check_way, lotP]
  refine ⟨trivial, n, M, w, rfl, hM, hw, by omega, ?_⟩
  refine ⟨by decide, by decide, by decide, ?_⟩
  refine for_inv (enc := fun (i : Nat) => PV.int i) (fun pre ρ μ' => (∃ (y4 y5 y6 : Option PV), ρ = [some (mdlP M), some (.tup (w.map fun (n : Nat) => PV.int n)), some (.int (endW M 0 pre : Nat)), some (strP (strF M 0 (0, 1) pre)), y4, y5, y6]) ∧ μ' = μ) (done := []) ⟨⟨_, _, _, rfl⟩, rfl⟩ (fun pre i post ρ μ1 e hI N hN => ?_) fun ρ μ1 hI => ?_
  · obtain ⟨⟨y4, y5, y6, rfl⟩, rfl⟩ := hI
    have e' : w = pre ++ i :: post := e
    rw [e', wayB_app, Bool.and_eq_true] at hw
    obtain ⟨hw1, hw2⟩ := hw
    obtain ⟨i1, i2, i3⟩ := wayB_cons.mp hw2
    have ha := endW_lt hM h0 hw1
    have i4 : i < n := by rw [hM.tl ha] at i1; exact i1
    have i5 : i < (mfol M (endW M 0 pre)).length := by rw [hM.fll ha]; exact i4
    have hiv := iv_way hM h0 hw1 iv_start
    have hpl : pre.length ≤ w.length := by rw [e', List.length_append]; omega
    simp only [str_to, str_ot, mPar3, mLockV, mLockE, mItemsC, mKeysC, mDGet2, pIsN, isNonP, pRepLM, mTruD, dkOfP, pPopAt, pIndex, mLstRgM, mTruth, pReprA, pLenD, pLstD, mDNew, pRepL, mLenSetN, mDIn, mSortSet, mSortSetL, mRevT, mForC, mSeqC, mLcC, pAbs, pMax2, pMin2, pInt1, mDGet, mDPut, mBM, mBM0, pPop, pAppend, pExtend, pSetL, mSub, mDisp, mPs, mPs0, mRevL, mRevLM, pLstOfM, mTupRg, mRg1, mRg2, pPlusM, lstItems, dictOfP, keyP, keysP, val_left, val_mixed, val_draws, put_draws, mLc, mLcM, mLc2, mFor, mSeqI, mRng1, mRng2, mZip, mEnum, mSl, mNoPart, mPart, mSeq, mAsg, mAsg2, mCB, mCons, mNil, mVar, mC, mOp, mUn, pU, mTup, mLst, mRet, mRetN, mLstM, getl, setl, mName, mCall, mCallK, mIf, mIfS, mTest, mAnd, mOr, mNot, mYes, mAndV, mOrV, mNotV, mNext, mNever, mBreak, mCont, mDrop, mChain, mPar, mGTup, mGCons, mGNil, pGcd, pI, pI0, pIx, pTimes, pPlus, pEq, pNe, pLen, pSum, pMaxS, pAll, pAny, pTupOf, pLstOf, pIn, pIsB, pIsi, items_tup, items_lst, items_kl, items_mr, items_tab, items_lot, items_fr, decide_true, decide_false, eqP_int, eqP_bl, eqP_str, eqP_tup2, kit_tt, kit_ii, kit_ib, tyP, mEnd, wipeP, List.map_cons, List.map_nil, List.getElem?_cons_zero, List.getElem?_cons_succ, List.set_cons_zero, List.set_cons_succ, atI_zero, atI_one, if_true, if_false, ite_true, ite_false, Bool.false_eq_true, List.length_cons, List.length_nil, Bool.not_true, Bool.not_false, items_mdl, atM ha, S_stretch_behind]
    refine ⟨trivial, trivial, _, strF M 0 (0, 1) pre, mtab M (endW M 0 pre), i, rfl, hiv, by omega, hM.t ha, i1, ?_⟩
    simp only [str_to, str_ot, mPar3, mLockV, mLockE, mItemsC, mKeysC, mDGet2, pIsN, isNonP, pRepLM, mTruD, dkOfP, pPopAt, pIndex, mLstRgM, mTruth, pReprA, pLenD, pLstD, mDNew, pRepL, mLenSetN, mDIn, mSortSet, mSortSetL, mRevT, mForC, mSeqC, mLcC, pAbs, pMax2, pMin2, pInt1, mDGet, mDPut, mBM, mBM0, pPop, pAppend, pExtend, pSetL, mSub, mDisp, mPs, mPs0, mRevL, mRevLM, pLstOfM, mTupRg, mRg1, mRg2, pPlusM, lstItems, dictOfP, keyP, keysP, val_left, val_mixed, val_draws, put_draws, mLc, mLcM, mLc2, mFor, mSeqI, mRng1, mRng2, mZip, mEnum, mSl, mNoPart, mPart, mSeq, mAsg, mAsg2, mCB, mCons, mNil, mVar, mC, mOp, mUn, pU, mTup, mLst, mRet, mRetN, mLstM, getl, setl, mName, mCall, mCallK, mIf, mIfS, mTest, mAnd, mOr, mNot, mYes, mAndV, mOrV, mNotV, mNext, mNever, mBreak, mCont, mDrop, mChain, mPar, mGTup, mGCons, mGNil, pGcd, pI, pI0, pIx, pTimes, pPlus, pEq, pNe, pLen, pSum, pMaxS, pAll, pAny, pTupOf, pLstOf, pIn, pIsB, pIsi, items_tup, items_lst, items_kl, items_mr, items_tab, items_lot, items_fr, decide_true, decide_false, eqP_int, eqP_bl, eqP_str, eqP_tup2, kit_tt, kit_ii, kit_ib, tyP, mEnd, wipeP, List.map_cons, List.map_nil, List.getElem?_cons_zero, List.getElem?_cons_succ, List.set_cons_zero, List.set_cons_succ, atI_zero, atI_one, if_true, if_false, ite_true, ite_false, Bool.false_eq_true, List.length_cons, List.length_nil, Bool.not_true, Bool.not_false, lotP, atL i5]
    refine hN _ _ ⟨⟨some (.int (i : Nat)), some (tabP (mtab M (endW M 0 pre))), some (lotP (mfol M (endW M 0 pre))), ?_⟩, rfl⟩
    rw [endW_app, strF_app]
    rfl
  · obtain ⟨⟨y4, y5, y6, rfl⟩, rfl⟩ := hI
    simp only [str_to, str_ot, mPar3, mLockV, mLockE, mItemsC, mKeysC, mDGet2, pIsN, isNonP, pRepLM, mTruD, dkOfP, pPopAt, pIndex, mLstRgM, mTruth, pReprA, pLenD, pLstD, mDNew, pRepL, mLenSetN, mDIn, mSortSet, mSortSetL, mRevT, mForC, mSeqC, mLcC, pAbs, pMax2, pMin2, pInt1, mDGet, mDPut, mBM, mBM0, pPop, pAppend, pExtend, pSetL, mSub, mDisp, mPs, mPs0, mRevL, mRevLM, pLstOfM, mTupRg, mRg1, mRg2, pPlusM, lstItems, dictOfP, keyP, keysP, val_left, val_mixed, val_draws, put_draws, mLc, mLcM, mLc2, mFor, mSeqI, mRng1, mRng2, mZip, mEnum, mSl, mNoPart, mPart, mSeq, mAsg, mAsg2, mCB, mCons, mNil, mVar, mC, mOp, mUn, pU, mTup, mLst, mRet, mRetN, mLstM, getl, setl, mName, mCall, mCallK, mIf, mIfS, mTest, mAnd, mOr, mNot, mYes, mAndV, mOrV, mNotV, mNext, mNever, mBreak, mCont, mDrop, mChain, mPar, mGTup, mGCons, mGNil, pGcd, pI, pI0, pIx, pTimes, pPlus, pEq, pNe, pLen, pSum, pMaxS, pAll, pAny, pTupOf, pLstOf, pIn, pIsB, pIsi, items_tup, items_lst, items_kl, items_mr, items_tab, items_lot, items_fr, decide_true, decide_false, eqP_int, eqP_bl, eqP_str, eqP_tup2, kit_tt, kit_ii, kit_ib, tyP, mEnd, wipeP, List.map_cons, List.map_nil, List.getElem?_cons_zero, List.getElem?_cons_succ, List.set_cons_zero, List.set_cons_succ, atI_zero, atI_one, if_true, if_false, ite_true, ite_false, Bool.false_eq_true, List.length_cons, List.length_nil, Bool.not_true, Bool.not_false]
    exact fin_keep hQ
abbrev N__law_is_right : List Str := ["_law_deck_here", "_law_model_here", "_law_way_here", "_law_due", "_law_more", "_law_some", "_law_i", "_law_it", "_law_low", "_law_size"]
theorem sc__law_is_right : FnScope N__law_is_right ["_law_deck_here", "_law_model_here", "_law_way_here"] (defScope s__law_is_right) := ⟨rfl, rfl, rfl, by decide +kernel, rfl, by decide +kernel, by decide +kernel⟩
theorem ok__law_is_right (B : Blt mg) (h__law_is_right : Own K mg "_law_is_right" s__law_is_right) (k__law_stretch : Ok P w K mg base 5 "_law_stretch" s__law_stretch ["_law_model_here", "_law_way_here"] S__law_stretch) (k_stretch : Ok P w K mg base 10 "stretch" s_stretch ["model", "way"] S_stretch) (k__law_is_way : Ok P w K mg base 2 "_law_is_way" s__law_is_way ["_law_model_here", "_law_thing"] S__law_is_way) (k__law_lies : Ok P w K mg base 4 "_law_lies" s__law_lies ["_law_inner", "_law_outer"] S__law_lies) (k__law_total : Ok P w K mg base 4 "_law_total" s__law_total ["_law_some"] S__law_total) : Ok P w K mg base 11 "_law_is_right" s__law_is_right ["_law_deck_here", "_law_model_here", "_law_way_here"] S__law_is_right := by
  obtain ⟨f_s, fd_s, F_s, g_s⟩ := h__law_is_right
  obtain ⟨f__law_stretch, fd__law_stretch, F__law_stretch, g__law_stretch, b__law_stretch, G__law_stretch⟩ := k__law_stretch
  obtain ⟨f_stretch, fd_stretch, F_stretch, g_stretch, b_stretch, G_stretch⟩ := k_stretch
  obtain ⟨f__law_is_way, fd__law_is_way, F__law_is_way, g__law_is_way, b__law_is_way, G__law_is_way⟩ := k__law_is_way
  obtain ⟨f__law_lies, fd__law_lies, F__law_lies, g__law_lies, b__law_lies, G__law_lies⟩ := k__law_lies
  obtain ⟨f__law_total, fd__law_total, F__law_total, g__law_total, b__law_total, G__law_total⟩ := k__law_total
  have kb_stretch_way_model : KBs fd_stretch ["model", "way"] ["way", "model"] 0 [1, 0] := kbs_mk F_stretch fun _ _ _ _ _ _ us ws hu hw => match us, ws, hu, hw with | [], [_, _], _, _ => rfl
  refine ⟨f_s, fd_s, F_s, g_s, F_s.binds (fun _ _ _ _ _ _ us hl => match us, hl with | [_, _, _], _ => rfl), FnG.of F_s sc__law_is_right (fun xs μ Q h => by first | exact h.1 | (obtain ⟨⟩ := h)) fun cdv A outer s H hr hgd => ⟨_, _, (pss_cons (ps_set (i := 3) sc__law_is_right.nd rfl (Or.inr rfl) (pe_callG (G__law_stretch.mono (by decide)) hr hgd (by rfl) g__law_stretch F__law_stretch.kp b__law_stretch (pa_cons (pv 1) (pa_cons (pv 2) pa_nil))))
 (pss_cons (ps_if (pt_cmpR (op_neX hr.units) (pe_callB (cb_repr hgd hr.units) (by rfl) (B "repr" (by decide)) (by decide +kernel) (pa_cons (pe_tup (pa_cons (pe_callG (G_stretch.mono (by decide)) hr hgd (by rfl) g_stretch F_stretch.kp b_stretch (pa_cons (pv 1) (pa_cons (pv 2) pa_nil))) (pa_cons (pe_callK0G (G_stretch.mono (by decide)) hr hgd (by rfl) g_stretch F_stretch.kp kb_stretch_way_model (pk_cons (pv 2) (pk_cons (pv 1) pk_nil))) pa_nil))) pa_nil)) (pe_callB (cb_repr hgd hr.units) (by rfl) (B "repr" (by decide)) (by decide +kernel) (pa_cons (pe_tup (pa_cons (pv 3) (pa_cons (pv 3) pa_nil))) pa_nil)) (nomark _))
 (pss_one (ps_ret pe_bl))
 pss_nil)
 (pss_cons (ps_setLc (i := 4) (own := [("_law_i", 6)]) rfl sc__law_is_right.nd rfl rfl (sw_true rfl rfl rfl (by decide +kernel)) (pi_range1 (by rfl) (B "range" (by decide)) (pa_cons (pe_callB cb_len (by rfl) (B "len" (by decide)) (by decide +kernel) (pa_cons (pe_ix ix_seq (pe_ix ix_seq (pv 1) pe_int (fun _ _ => rfl)) pe_int (fun _ _ => rfl)) pa_nil)) pa_nil)) (blkOk_by (own := [("_law_i", 6)]) (N := N__law_is_right) (sc := defScope s__law_is_right) (by decide +kernel)) (fun _ _ _ _ _ => (pg_name (i := 6) sc__law_is_right.nd rfl (Or.inl rfl))) (fun _ _ _ _ _ => pts_one (pt_val (pek_call K rfl (G__law_is_way.mono (by decide)) hr hgd (by rfl) g__law_is_way F__law_is_way.kp b__law_is_way (pa_cons (pv 1) (pa_cons (pe_op (opk_plus K rfl) (pv 2) (pe_tup (pa_cons (pv 6) pa_nil))) pa_nil))))) (fun _ _ _ _ _ => (pe_op (opk_plus K rfl) (pv 2) (pe_tup (pa_cons (pv 6) pa_nil)))))
 (pss_cons (ps_setLc (i := 5) (own := [("_law_it", 7)]) rfl sc__law_is_right.nd rfl rfl (sw_true rfl rfl rfl (by decide +kernel)) (pi_seq (pv 4)) (blkOk_by (own := [("_law_it", 7)]) (N := N__law_is_right) (sc := defScope s__law_is_right) (by decide +kernel)) (fun _ _ _ _ _ => (pg_name (i := 7) sc__law_is_right.nd rfl (Or.inl rfl))) (fun _ _ _ _ _ => pts_nil) (fun _ _ _ _ _ => (pek_call K rfl (G_stretch.mono (by decide)) hr hgd (by rfl) g_stretch F_stretch.kp b_stretch (pa_cons (pv 1) (pa_cons (pv 7) pa_nil)))))
 (pss_cons (ps_if (pt_cmpR (op_neX hr.units) (pe_lc (own := [("_law_it", 7)]) (by rfl) sc__law_is_right.nd (pi_seq (pv 5)) (blkOk_by (own := [("_law_it", 7)]) (N := N__law_is_right) (sc := defScope s__law_is_right) (by decide +kernel)) (fun _ _ _ _ _ => (pg_name (i := 7) sc__law_is_right.nd rfl (Or.inl rfl))) (fun _ _ _ _ _ => pts_one (pt_not (pt_val (pek_call K rfl (G__law_lies.mono (by decide)) hr hgd (by rfl) g__law_lies F__law_lies.kp b__law_lies (pa_cons (pv 7) (pa_cons (pv 3) pa_nil)))))) (fun _ _ _ _ _ => (pv 7))) (pe_lst pa_nil) (nomark _))
 (pss_one (ps_ret pe_bl))
 pss_nil)
 (pss_one (ps_ret (pe_cmpR (op_eqX hr.units) (pe_callB (cb_repr hgd hr.units) (by rfl) (B "repr" (by decide)) (by decide +kernel) (pa_cons (pe_callG (G__law_total.mono (by decide)) hr hgd (by rfl) g__law_total F__law_total.kp b__law_total (pa_cons (pe_lc (own := [("_law_low", 8), ("_law_size", 9)]) (by rfl) sc__law_is_right.nd (pi_seq (pv 5)) (blkOk_by (own := [("_law_low", 8), ("_law_size", 9)]) (N := N__law_is_right) (sc := defScope s__law_is_right) (by decide +kernel)) (fun _ _ _ _ _ => (pgk_tup K 2 rfl rfl (pgs_cons (pg_name (i := 8) sc__law_is_right.nd rfl (Or.inl rfl)) (pgs_cons (pg_name (i := 9) sc__law_is_right.nd rfl (Or.inl rfl)) pgs_nil)) rfl rfl)) (fun _ _ _ _ _ => pts_nil) (fun _ _ _ _ _ => (pv 9))) pa_nil)) pa_nil)) (pe_callB (cb_repr hgd hr.units) (by rfl) (B "repr" (by decide)) (by decide +kernel) (pa_cons (pe_ix ix_seq (pv 3) pe_int (fun _ _ => rfl)) pa_nil)) (nomark _))))))))), (by (try dsimp only [cxOf]); exact inferInstance), ?_⟩⟩
  intro xs μ Q hS
  obtain ⟨_, n, M, w, rfl, hM, hw, hl, hQ⟩ := hS
  rw [show startP N__law_is_right [.mr 1, mdlP M, lotP w] = [some (.mr 1), some (mdlP M), some (lotP w), none, none, none, none, none, none, none] from rfl]
  have h0 := List.length_pos_iff.mpr hM.ne
  refine stm_of fun R hR => ?_
  simp only [str_to, str_ot, mPar3, mLockV, mLockE, mItemsC, mKeysC, mDGet2, pIsN, isNonP, pRepLM, mTruD, dkOfP, pPopAt, pIndex, mLstRgM, mTruth, pReprA, pLenD, pLstD, mDNew, pRepL, mLenSetN, mDIn, mSortSet, mSortSetL, mRevT, mForC, mSeqC, mLcC, pAbs, pMax2, pMin2, pInt1, mDGet, mDPut, mBM, mBM0, pPop, pAppend, pExtend, pSetL, mSub, mDisp, mPs, mPs0, mRevL, mRevLM, pLstOfM, mTupRg, mRg1, mRg2, pPlusM, lstItems, dictOfP, keyP, keysP, val_left, val_mixed, val_draws, put_draws, mLc, mLcM, mLc2, mFor, mSeqI, mRng1, mRng2, mZip, mEnum, mSl, mNoPart, mPart, mSeq, mAsg, mAsg2, mCB, mCons, mNil, mVar, mC, mOp, mUn, pU, mTup, mLst, mRet, mRetN, mLstM, getl, setl, mName, mCall, mCallK, mIf, mIfS, mTest, mAnd, mOr, mNot, mYes, mAndV, mOrV, mNotV, mNext, mNever, mBreak, mCont, mDrop, mChain, mPar, mGTup, mGCons, mGNil, pGcd, pI, pI0, pIx, pTimes, pPlus, pEq, pNe, pLen, pSum, pMaxS, pAll, pAny, pTupOf, pLstOf, pIn, pIsB, pIsi, items_tup, items_lst, items_kl, items_mr, items_tab, items_lot, items_fr, decide_true, decide_false, eqP_int, eqP_bl, eqP_str, eqP_tup2, kit_tt, kit_ii, kit_ib, tyP, mEnd, wipeP, List.map_cons, List.map_nil, List.getElem?_cons_zero, List.getElem?_cons_succ, List.set_cons_zero, List.set_cons_succ, atI_zero, atI_one, if_true, if_false, ite_true, ite_false, Bool.false_eq_true, List.length_cons, List.length_nil, Bool.not_true, Bool.not_false, S__law_stretch]
  have hiv := iv_way hM h0 hw iv_start
  have s1 := hiv.sm1.mono (show 7 * (0 + w.length) + 2 ≤ 1900 by omega)
  have s2 := hiv.sm2.mono (show 7 * (0 + w.length) + 2 ≤ 1900 by omega)
  refine ⟨trivial, n, M, w, rfl, hM, hw, by omega, ?_⟩
  subst hR
  refine stm_of fun R1 hR1 => ?_
  simp only [str_to, str_ot, mPar3, mLockV, mLockE, mItemsC, mKeysC, mDGet2, pIsN, isNonP, pRepLM, mTruD, dkOfP, pPopAt, pIndex, mLstRgM, mTruth, pReprA, pLenD, pLstD, mDNew, pRepL, mLenSetN, mDIn, mSortSet, mSortSetL, mRevT, mForC, mSeqC, mLcC, pAbs, pMax2, pMin2, pInt1, mDGet, mDPut, mBM, mBM0, pPop, pAppend, pExtend, pSetL, mSub, mDisp, mPs, mPs0, mRevL, mRevLM, pLstOfM, mTupRg, mRg1, mRg2, pPlusM, lstItems, dictOfP, keyP, keysP, val_left, val_mixed, val_draws, put_draws, mLc, mLcM, mLc2, mFor, mSeqI, mRng1, mRng2, mZip, mEnum, mSl, mNoPart, mPart, mSeq, mAsg, mAsg2, mCB, mCons, mNil, mVar, mC, mOp, mUn, pU, mTup, mLst, mRet, mRetN, mLstM, getl, setl, mName, mCall, mCallK, mIf, mIfS, mTest, mAnd, mOr, mNot, mYes, mAndV, mOrV, mNotV, mNext, mNever, mBreak, mCont, mDrop, mChain, mPar, mGTup, mGCons, mGNil, pGcd, pI, pI0, pIx, pTimes, pPlus, pEq, pNe, pLen, pSum, pMaxS, pAll, pAny, pTupOf, pLstOf, pIn, pIsB, pIsi, items_tup, items_lst, items_kl, items_mr, items_tab, items_lot, items_fr, decide_true, decide_false, eqP_int, eqP_bl, eqP_str, eqP_tup2, kit_tt, kit_ii, kit_ib, tyP, mEnd, wipeP, List.map_cons, List.map_nil, List.getElem?_cons_zero, List.getElem?_cons_succ, List.set_cons_zero, List.set_cons_succ, atI_zero, atI_one, if_true, if_false, ite_true, ite_false, Bool.false_eq_true, List.length_cons, List.length_nil, Bool.not_true, Bool.not_false, S_stretch]
  refine ⟨trivial, n, M, w, rfl, hM, hw, by omega, trivial, rfl, n, M, w, rfl, hM, hw, by omega, by decide, pRepr_str2 s1 s2 ⟨by decide, pRepr_str2 s1 s2 ?_⟩⟩
  simp only [eqP_str, decide_true, Bool.not_true, Bool.false_eq_true, if_false]
  subst hR1
  refine stm_of fun R2 hR2 => ?_
  simp only [str_to, str_ot, mPar3, mLockV, mLockE, mItemsC, mKeysC, mDGet2, pIsN, isNonP, pRepLM, mTruD, dkOfP, pPopAt, pIndex, mLstRgM, mTruth, pReprA, pLenD, pLstD, mDNew, pRepL, mLenSetN, mDIn, mSortSet, mSortSetL, mRevT, mForC, mSeqC, mLcC, pAbs, pMax2, pMin2, pInt1, mDGet, mDPut, mBM, mBM0, pPop, pAppend, pExtend, pSetL, mSub, mDisp, mPs, mPs0, mRevL, mRevLM, pLstOfM, mTupRg, mRg1, mRg2, pPlusM, lstItems, dictOfP, keyP, keysP, val_left, val_mixed, val_draws, put_draws, mLc, mLcM, mLc2, mFor, mSeqI, mRng1, mRng2, mZip, mEnum, mSl, mNoPart, mPart, mSeq, mAsg, mAsg2, mCB, mCons, mNil, mVar, mC, mOp, mUn, pU, mTup, mLst, mRet, mRetN, mLstM, getl, setl, mName, mCall, mCallK, mIf, mIfS, mTest, mAnd, mOr, mNot, mYes, mAndV, mOrV, mNotV, mNext, mNever, mBreak, mCont, mDrop, mChain, mPar, mGTup, mGCons, mGNil, pGcd, pI, pI0, pIx, pTimes, pPlus, pEq, pNe, pLen, pSum, pMaxS, pAll, pAny, pTupOf, pLstOf, pIn, pIsB, pIsi, items_tup, items_lst, items_kl, items_mr, items_tab, items_lot, items_fr, decide_true, decide_false, eqP_int, eqP_bl, eqP_str, eqP_tup2, kit_tt, kit_ii, kit_ib, tyP, mEnd, wipeP, List.map_cons, List.map_nil, List.getElem?_cons_zero, List.getElem?_cons_succ, List.set_cons_zero, List.set_cons_succ, atI_zero, atI_one, if_true, if_false, ite_true, ite_false, Bool.false_eq_true, List.length_cons, List.length_nil, Bool.not_true, Bool.not_false, items_mdl, atM0 h0, S__law_is_way]
  have ha := endW_lt hM h0 hw
  have hT := hM.t ha
  have n8 := hM.n8
  have hlt := way_lt hM h0 hw
  have hkids := way_kid hM hw ha
  rw [List.length_map, hM.tl h0, Int.toNat_natCast, rangeP_eq]
  refine ⟨by decide, ⟨by omega, by omega⟩, by rw [List.length_map, List.length_range]; unfold lim; omega, lc_filter (enc := fun (i : Nat) => PV.int i) (out := fun (i : Nat) => lotP (w ++ [i])) (p := fun i => wayB M 0 (w ++ [i])) (fun j hj k2 nn h1 h2 => ?_) ?_⟩
  · have hj : j < n := List.mem_range.mp hj
    simp only [str_to, str_ot, mPar3, mLockV, mLockE, mItemsC, mKeysC, mDGet2, pIsN, isNonP, pRepLM, mTruD, dkOfP, pPopAt, pIndex, mLstRgM, mTruth, pReprA, pLenD, pLstD, mDNew, pRepL, mLenSetN, mDIn, mSortSet, mSortSetL, mRevT, mForC, mSeqC, mLcC, pAbs, pMax2, pMin2, pInt1, mDGet, mDPut, mBM, mBM0, pPop, pAppend, pExtend, pSetL, mSub, mDisp, mPs, mPs0, mRevL, mRevLM, pLstOfM, mTupRg, mRg1, mRg2, pPlusM, lstItems, dictOfP, keyP, keysP, val_left, val_mixed, val_draws, put_draws, mLc, mLcM, mLc2, mFor, mSeqI, mRng1, mRng2, mZip, mEnum, mSl, mNoPart, mPart, mSeq, mAsg, mAsg2, mCB, mCons, mNil, mVar, mC, mOp, mUn, pU, mTup, mLst, mRet, mRetN, mLstM, getl, setl, mName, mCall, mCallK, mIf, mIfS, mTest, mAnd, mOr, mNot, mYes, mAndV, mOrV, mNotV, mNext, mNever, mBreak, mCont, mDrop, mChain, mPar, mGTup, mGCons, mGNil, pGcd, pI, pI0, pIx, pTimes, pPlus, pEq, pNe, pLen, pSum, pMaxS, pAll, pAny, pTupOf, pLstOf, pIn, pIsB, pIsi, items_tup, items_lst, items_kl, items_mr, items_tab, items_lot, items_fr, decide_true, decide_false, eqP_int, eqP_bl, eqP_str, eqP_tup2, kit_tt, kit_ii, kit_ib, tyP, mEnd, wipeP, List.map_cons, List.map_nil, List.getElem?_cons_zero, List.getElem?_cons_succ, List.set_cons_zero, List.set_cons_succ, atI_zero, atI_one, if_true, if_false, ite_true, ite_false, Bool.false_eq_true, List.length_cons, List.length_nil, Bool.not_true, Bool.not_false, lotP, S__law_is_way]
    have e9 : PV.tup ((w.map fun (n : Nat) => PV.int n) ++ [PV.int (j : Nat)]) = lotP (w ++ [j]) := by simp only [lotP, List.map_append, List.map_cons, List.map_nil]
    rw [e9]
    have hwl : (w.map fun (n : Nat) => PV.int n).length + (0 + 1) ≤ lim := by rw [List.length_map]; unfold lim; omega
    refine ⟨by decide, hwl, trivial, n, M, w ++ [j], rfl, hM, fun i hi => ?_, by rw [List.length_append, List.length_singleton]; omega, ?_⟩
    · rcases List.mem_append.mp hi with hi | hi
      · exact hlt i hi
      · rw [List.mem_singleton.mp hi]; exact hj
    · cases c : wayB M 0 (w ++ [j]) with
      | true => exact ⟨by decide, hwl, h1 c⟩
      | false => exact h2 c
  · rw [List.nil_append, hkids]
    subst hR2
    refine stm_of fun R3 hR3 => ?_
    simp only [str_to, str_ot, mPar3, mLockV, mLockE, mItemsC, mKeysC, mDGet2, pIsN, isNonP, pRepLM, mTruD, dkOfP, pPopAt, pIndex, mLstRgM, mTruth, pReprA, pLenD, pLstD, mDNew, pRepL, mLenSetN, mDIn, mSortSet, mSortSetL, mRevT, mForC, mSeqC, mLcC, pAbs, pMax2, pMin2, pInt1, mDGet, mDPut, mBM, mBM0, pPop, pAppend, pExtend, pSetL, mSub, mDisp, mPs, mPs0, mRevL, mRevLM, pLstOfM, mTupRg, mRg1, mRg2, pPlusM, lstItems, dictOfP, keyP, keysP, val_left, val_mixed, val_draws, put_draws, mLc, mLcM, mLc2, mFor, mSeqI, mRng1, mRng2, mZip, mEnum, mSl, mNoPart, mPart, mSeq, mAsg, mAsg2, mCB, mCons, mNil, mVar, mC, mOp, mUn, pU, mTup, mLst, mRet, mRetN, mLstM, getl, setl, mName, mCall, mCallK, mIf, mIfS, mTest, mAnd, mOr, mNot, mYes, mAndV, mOrV, mNotV, mNext, mNever, mBreak, mCont, mDrop, mChain, mPar, mGTup, mGCons, mGNil, pGcd, pI, pI0, pIx, pTimes, pPlus, pEq, pNe, pLen, pSum, pMaxS, pAll, pAny, pTupOf, pLstOf, pIn, pIsB, pIsi, items_tup, items_lst, items_kl, items_mr, items_tab, items_lot, items_fr, decide_true, decide_false, eqP_int, eqP_bl, eqP_str, eqP_tup2, kit_tt, kit_ii, kit_ib, tyP, mEnd, wipeP, List.map_cons, List.map_nil, List.getElem?_cons_zero, List.getElem?_cons_succ, List.set_cons_zero, List.set_cons_succ, atI_zero, atI_one, if_true, if_false, ite_true, ite_false, Bool.false_eq_true, List.length_cons, List.length_nil, Bool.not_true, Bool.not_false, S_stretch]
    have hkl := kids_len (mtab M (endW M 0 w))
    rw [hM.tl ha] at hkl
    refine ⟨by decide, by rw [List.length_map]; unfold lim; omega, lc_map (enc := fun (i : Nat) => lotP (w ++ [i])) (out := fun (i : Nat) => strP (stb (strF M 0 (0, 1) w) (mtab M (endW M 0 w)) i)) (fun j hj k2 hk2 => ?_) ?_⟩
    · obtain ⟨j1, j2⟩ := mem_kids.mp hj
      simp only [str_to, str_ot, mPar3, mLockV, mLockE, mItemsC, mKeysC, mDGet2, pIsN, isNonP, pRepLM, mTruD, dkOfP, pPopAt, pIndex, mLstRgM, mTruth, pReprA, pLenD, pLstD, mDNew, pRepL, mLenSetN, mDIn, mSortSet, mSortSetL, mRevT, mForC, mSeqC, mLcC, pAbs, pMax2, pMin2, pInt1, mDGet, mDPut, mBM, mBM0, pPop, pAppend, pExtend, pSetL, mSub, mDisp, mPs, mPs0, mRevL, mRevLM, pLstOfM, mTupRg, mRg1, mRg2, pPlusM, lstItems, dictOfP, keyP, keysP, val_left, val_mixed, val_draws, put_draws, mLc, mLcM, mLc2, mFor, mSeqI, mRng1, mRng2, mZip, mEnum, mSl, mNoPart, mPart, mSeq, mAsg, mAsg2, mCB, mCons, mNil, mVar, mC, mOp, mUn, pU, mTup, mLst, mRet, mRetN, mLstM, getl, setl, mName, mCall, mCallK, mIf, mIfS, mTest, mAnd, mOr, mNot, mYes, mAndV, mOrV, mNotV, mNext, mNever, mBreak, mCont, mDrop, mChain, mPar, mGTup, mGCons, mGNil, pGcd, pI, pI0, pIx, pTimes, pPlus, pEq, pNe, pLen, pSum, pMaxS, pAll, pAny, pTupOf, pLstOf, pIn, pIsB, pIsi, items_tup, items_lst, items_kl, items_mr, items_tab, items_lot, items_fr, decide_true, decide_false, eqP_int, eqP_bl, eqP_str, eqP_tup2, kit_tt, kit_ii, kit_ib, tyP, mEnd, wipeP, List.map_cons, List.map_nil, List.getElem?_cons_zero, List.getElem?_cons_succ, List.set_cons_zero, List.set_cons_succ, atI_zero, atI_one, if_true, if_false, ite_true, ite_false, Bool.false_eq_true, List.length_cons, List.length_nil, Bool.not_true, Bool.not_false, S_stretch]
      refine ⟨trivial, n, M, w ++ [j], rfl, hM, ?_, by rw [List.length_append, List.length_singleton]; omega, ?_⟩
      · rw [wayB_app, hw]
        simp only [wayB, decide_eq_true j1, decide_eq_true j2, Bool.and_self]
      · rw [strF_app]
        exact hk2
    · rw [List.nil_append]
      subst hR3
      refine stm_of fun R4 hR4 => ?_
      simp only [str_to, str_ot, mPar3, mLockV, mLockE, mItemsC, mKeysC, mDGet2, pIsN, isNonP, pRepLM, mTruD, dkOfP, pPopAt, pIndex, mLstRgM, mTruth, pReprA, pLenD, pLstD, mDNew, pRepL, mLenSetN, mDIn, mSortSet, mSortSetL, mRevT, mForC, mSeqC, mLcC, pAbs, pMax2, pMin2, pInt1, mDGet, mDPut, mBM, mBM0, pPop, pAppend, pExtend, pSetL, mSub, mDisp, mPs, mPs0, mRevL, mRevLM, pLstOfM, mTupRg, mRg1, mRg2, pPlusM, lstItems, dictOfP, keyP, keysP, val_left, val_mixed, val_draws, put_draws, mLc, mLcM, mLc2, mFor, mSeqI, mRng1, mRng2, mZip, mEnum, mSl, mNoPart, mPart, mSeq, mAsg, mAsg2, mCB, mCons, mNil, mVar, mC, mOp, mUn, pU, mTup, mLst, mRet, mRetN, mLstM, getl, setl, mName, mCall, mCallK, mIf, mIfS, mTest, mAnd, mOr, mNot, mYes, mAndV, mOrV, mNotV, mNext, mNever, mBreak, mCont, mDrop, mChain, mPar, mGTup, mGCons, mGNil, pGcd, pI, pI0, pIx, pTimes, pPlus, pEq, pNe, pLen, pSum, pMaxS, pAll, pAny, pTupOf, pLstOf, pIn, pIsB, pIsi, items_tup, items_lst, items_kl, items_mr, items_tab, items_lot, items_fr, decide_true, decide_false, eqP_int, eqP_bl, eqP_str, eqP_tup2, kit_tt, kit_ii, kit_ib, tyP, mEnd, wipeP, List.map_cons, List.map_nil, List.getElem?_cons_zero, List.getElem?_cons_succ, List.set_cons_zero, List.set_cons_succ, atI_zero, atI_one, if_true, if_false, ite_true, ite_false, Bool.false_eq_true, List.length_cons, List.length_nil, Bool.not_true, Bool.not_false, S__law_lies]
      refine ⟨by decide, by rw [List.length_map]; unfold lim; omega, lc_filter (enc := fun (i : Nat) => strP (stb (strF M 0 (0, 1) w) (mtab M (endW M 0 w)) i)) (out := fun (i : Nat) => PV.int i) (p := fun _ => false) (fun j hj k2 nn h1 h2 => ?_) ?_⟩
      · obtain ⟨j1, j2⟩ := mem_kids.mp hj
        have hiv2 := iv_step hiv hT j1
        simp only [str_to, str_ot, mPar3, mLockV, mLockE, mItemsC, mKeysC, mDGet2, pIsN, isNonP, pRepLM, mTruD, dkOfP, pPopAt, pIndex, mLstRgM, mTruth, pReprA, pLenD, pLstD, mDNew, pRepL, mLenSetN, mDIn, mSortSet, mSortSetL, mRevT, mForC, mSeqC, mLcC, pAbs, pMax2, pMin2, pInt1, mDGet, mDPut, mBM, mBM0, pPop, pAppend, pExtend, pSetL, mSub, mDisp, mPs, mPs0, mRevL, mRevLM, pLstOfM, mTupRg, mRg1, mRg2, pPlusM, lstItems, dictOfP, keyP, keysP, val_left, val_mixed, val_draws, put_draws, mLc, mLcM, mLc2, mFor, mSeqI, mRng1, mRng2, mZip, mEnum, mSl, mNoPart, mPart, mSeq, mAsg, mAsg2, mCB, mCons, mNil, mVar, mC, mOp, mUn, pU, mTup, mLst, mRet, mRetN, mLstM, getl, setl, mName, mCall, mCallK, mIf, mIfS, mTest, mAnd, mOr, mNot, mYes, mAndV, mOrV, mNotV, mNext, mNever, mBreak, mCont, mDrop, mChain, mPar, mGTup, mGCons, mGNil, pGcd, pI, pI0, pIx, pTimes, pPlus, pEq, pNe, pLen, pSum, pMaxS, pAll, pAny, pTupOf, pLstOf, pIn, pIsB, pIsi, items_tup, items_lst, items_kl, items_mr, items_tab, items_lot, items_fr, decide_true, decide_false, eqP_int, eqP_bl, eqP_str, eqP_tup2, kit_tt, kit_ii, kit_ib, tyP, mEnd, wipeP, List.map_cons, List.map_nil, List.getElem?_cons_zero, List.getElem?_cons_succ, List.set_cons_zero, List.set_cons_succ, atI_zero, atI_one, if_true, if_false, ite_true, ite_false, Bool.false_eq_true, List.length_cons, List.length_nil, Bool.not_true, Bool.not_false, S__law_lies]
        refine ⟨trivial, _, _, rfl, hiv2.sm1.mono (by omega), hiv2.sm2.mono (by omega), s1.mono (by decide), s2.mono (by decide), ?_⟩
        rw [decide_eq_true (lies_kid hiv hT j1)]
        exact h2 rfl
      · rw [List.nil_append, show ((kids (mtab M (endW M 0 w))).filter fun _ => false) = [] by simp, List.map_nil, eqP_l00]
        refine ⟨by decide, ?_⟩
        subst hR4
        simp only [str_to, str_ot, mPar3, mLockV, mLockE, mItemsC, mKeysC, mDGet2, pIsN, isNonP, pRepLM, mTruD, dkOfP, pPopAt, pIndex, mLstRgM, mTruth, pReprA, pLenD, pLstD, mDNew, pRepL, mLenSetN, mDIn, mSortSet, mSortSetL, mRevT, mForC, mSeqC, mLcC, pAbs, pMax2, pMin2, pInt1, mDGet, mDPut, mBM, mBM0, pPop, pAppend, pExtend, pSetL, mSub, mDisp, mPs, mPs0, mRevL, mRevLM, pLstOfM, mTupRg, mRg1, mRg2, pPlusM, lstItems, dictOfP, keyP, keysP, val_left, val_mixed, val_draws, put_draws, mLc, mLcM, mLc2, mFor, mSeqI, mRng1, mRng2, mZip, mEnum, mSl, mNoPart, mPart, mSeq, mAsg, mAsg2, mCB, mCons, mNil, mVar, mC, mOp, mUn, pU, mTup, mLst, mRet, mRetN, mLstM, getl, setl, mName, mCall, mCallK, mIf, mIfS, mTest, mAnd, mOr, mNot, mYes, mAndV, mOrV, mNotV, mNext, mNever, mBreak, mCont, mDrop, mChain, mPar, mGTup, mGCons, mGNil, pGcd, pI, pI0, pIx, pTimes, pPlus, pEq, pNe, pLen, pSum, pMaxS, pAll, pAny, pTupOf, pLstOf, pIn, pIsB, pIsi, items_tup, items_lst, items_kl, items_mr, items_tab, items_lot, items_fr, decide_true, decide_false, eqP_int, eqP_bl, eqP_str, eqP_tup2, kit_tt, kit_ii, kit_ib, tyP, mEnd, wipeP, List.map_cons, List.map_nil, List.getElem?_cons_zero, List.getElem?_cons_succ, List.set_cons_zero, List.set_cons_succ, atI_zero, atI_one, if_true, if_false, ite_true, ite_false, Bool.false_eq_true, List.length_cons, List.length_nil, Bool.not_true, Bool.not_false, strP]
        have hfk := sb_kids hiv hT
        refine ⟨by decide, by rw [List.length_map]; unfold lim; omega, lc_map (enc := fun (i : Nat) => PV.tup [frP (stb (strF M 0 (0, 1) w) (mtab M (endW M 0 w)) i).1, frP (stb (strF M 0 (0, 1) w) (mtab M (endW M 0 w)) i).2]) (out := fun (i : Nat) => frP ((strF M 0 (0, 1) w).2 * (mtab M (endW M 0 w)).getD i 0)) (fun j hj k2 hk2 => ?_) ?_⟩
        · simp only [str_to, str_ot, mPar3, mLockV, mLockE, mItemsC, mKeysC, mDGet2, pIsN, isNonP, pRepLM, mTruD, dkOfP, pPopAt, pIndex, mLstRgM, mTruth, pReprA, pLenD, pLstD, mDNew, pRepL, mLenSetN, mDIn, mSortSet, mSortSetL, mRevT, mForC, mSeqC, mLcC, pAbs, pMax2, pMin2, pInt1, mDGet, mDPut, mBM, mBM0, pPop, pAppend, pExtend, pSetL, mSub, mDisp, mPs, mPs0, mRevL, mRevLM, pLstOfM, mTupRg, mRg1, mRg2, pPlusM, lstItems, dictOfP, keyP, keysP, val_left, val_mixed, val_draws, put_draws, mLc, mLcM, mLc2, mFor, mSeqI, mRng1, mRng2, mZip, mEnum, mSl, mNoPart, mPart, mSeq, mAsg, mAsg2, mCB, mCons, mNil, mVar, mC, mOp, mUn, pU, mTup, mLst, mRet, mRetN, mLstM, getl, setl, mName, mCall, mCallK, mIf, mIfS, mTest, mAnd, mOr, mNot, mYes, mAndV, mOrV, mNotV, mNext, mNever, mBreak, mCont, mDrop, mChain, mPar, mGTup, mGCons, mGNil, pGcd, pI, pI0, pIx, pTimes, pPlus, pEq, pNe, pLen, pSum, pMaxS, pAll, pAny, pTupOf, pLstOf, pIn, pIsB, pIsi, items_tup, items_lst, items_kl, items_mr, items_tab, items_lot, items_fr, decide_true, decide_false, eqP_int, eqP_bl, eqP_str, eqP_tup2, kit_tt, kit_ii, kit_ib, tyP, mEnd, wipeP, List.map_cons, List.map_nil, List.getElem?_cons_zero, List.getElem?_cons_succ, List.set_cons_zero, List.set_cons_succ, atI_zero, atI_one, if_true, if_false, ite_true, ite_false, Bool.false_eq_true, List.length_cons, List.length_nil, Bool.not_true, Bool.not_false]
          exact ⟨trivial, hk2⟩
        · rw [List.nil_append]
          refine ⟨rfl, _, (kids (mtab M (endW M 0 w))).map fun i => (strF M 0 (0, 1) w).2 * (mtab M (endW M 0 w)).getD i 0, rfl, ?_, hfk.mono (by omega), ?_⟩
          · rw [List.map_map]; rfl
          · rw [kids_sum hT]
            refine pRepr_fr s2 (pRepr_fr s2 ?_)
            simp only [eqP_str, decide_true]
            exact fin_keep hQ
abbrev N__law_are_bits_right : List Str := ["_law_deck_here", "_law_many", "_law_bits_here", "_law_plain", "_law_due", "_law_other", "_law_begins"]
theorem sc__law_are_bits_right : FnScope N__law_are_bits_right ["_law_deck_here", "_law_many"] (defScope s__law_are_bits_right) := ⟨rfl, rfl, rfl, by decide +kernel, rfl, by decide +kernel, by decide +kernel⟩
theorem ok__law_are_bits_right (B : Blt mg) (h__law_are_bits_right : Own K mg "_law_are_bits_right" s__law_are_bits_right) (k__law_bits : Ok P w K mg base 2 "_law_bits" s__law_bits ["_law_deck_here", "_law_many"] S__law_bits) (k__law_bits_stretch : Ok P w K mg base 3 "_law_bits_stretch" s__law_bits_stretch ["_law_bits_here"] S__law_bits_stretch) (k_bits_stretch : Ok P w K mg base 6 "bits_stretch" s_bits_stretch ["bits"] S_bits_stretch) (k_stretch : Ok P w K mg base 10 "stretch" s_stretch ["model", "way"] S_stretch) (k__law_draw : Ok P w K mg base 1 "_law_draw" s__law_draw ["_law_deck_here", "_law_many"] S__law_draw) (k__law_lies : Ok P w K mg base 4 "_law_lies" s__law_lies ["_law_inner", "_law_outer"] S__law_lies) : Ok P w K mg base 11 "_law_are_bits_right" s__law_are_bits_right ["_law_deck_here", "_law_many"] S__law_are_bits_right := by
  obtain ⟨f_s, fd_s, F_s, g_s⟩ := h__law_are_bits_right
  obtain ⟨f__law_bits, fd__law_bits, F__law_bits, g__law_bits, b__law_bits, G__law_bits⟩ := k__law_bits
  obtain ⟨f__law_bits_stretch, fd__law_bits_stretch, F__law_bits_stretch, g__law_bits_stretch, b__law_bits_stretch, G__law_bits_stretch⟩ := k__law_bits_stretch
  obtain ⟨f_bits_stretch, fd_bits_stretch, F_bits_stretch, g_bits_stretch, b_bits_stretch, G_bits_stretch⟩ := k_bits_stretch
  obtain ⟨f_stretch, fd_stretch, F_stretch, g_stretch, b_stretch, G_stretch⟩ := k_stretch
  obtain ⟨f__law_draw, fd__law_draw, F__law_draw, g__law_draw, b__law_draw, G__law_draw⟩ := k__law_draw
  obtain ⟨f__law_lies, fd__law_lies, F__law_lies, g__law_lies, b__law_lies, G__law_lies⟩ := k__law_lies
  have kb_bits_stretch_bits : KBs fd_bits_stretch ["bits"] ["bits"] 0 [0] := kbs_mk F_bits_stretch fun _ _ _ _ _ _ us ws hu hw => match us, ws, hu, hw with | [], [_], _, _ => rfl
  refine ⟨f_s, fd_s, F_s, g_s, F_s.binds (fun _ _ _ _ _ _ us hl => match us, hl with | [_, _], _ => rfl), FnG.of F_s sc__law_are_bits_right (fun xs μ Q h => by first | exact h.1 | (obtain ⟨⟩ := h)) fun cdv A outer s H hr hgd => ⟨_, _, (pss_cons (ps_par (i := 2) (j := 3) (by rfl) sc__law_are_bits_right.nd rfl rfl (by decide) rfl rfl (pa_cons (pe_callG (G__law_bits.mono (by decide)) hr hgd (by rfl) g__law_bits F__law_bits.kp b__law_bits (pa_cons (pv 0) (pa_cons (pv 1) pa_nil))) (pa_cons (pe_tup (pa_cons (pe_tup (pa_cons (pe_tup (pa_cons (pe_tup (pa_cons pe_int (pa_cons pe_int pa_nil))) (pa_cons (pe_tup (pa_cons pe_int (pa_cons pe_int pa_nil))) pa_nil))) (pa_cons (pe_tup (pa_cons pe_int (pa_cons pe_int pa_nil))) pa_nil))) pa_nil)) pa_nil)) (by rfl))
 (pss_cons (ps_set (i := 4) sc__law_are_bits_right.nd rfl (Or.inl rfl) (pe_callG (G__law_bits_stretch.mono (by decide)) hr hgd (by rfl) g__law_bits_stretch F__law_bits_stretch.kp b__law_bits_stretch (pa_cons (pv 2) pa_nil)))
 (pss_cons (ps_if (pt_cmpR (op_neX hr.units) (pe_callB (cb_repr hgd hr.units) (by rfl) (B "repr" (by decide)) (by decide +kernel) (pa_cons (pe_tup (pa_cons (pe_callG (G_bits_stretch.mono (by decide)) hr hgd (by rfl) g_bits_stretch F_bits_stretch.kp b_bits_stretch (pa_cons (pv 2) pa_nil)) (pa_cons (pe_callK0G (G_bits_stretch.mono (by decide)) hr hgd (by rfl) g_bits_stretch F_bits_stretch.kp kb_bits_stretch_bits (pk_cons (pv 2) pk_nil)) pa_nil))) pa_nil)) (pe_callB (cb_repr hgd hr.units) (by rfl) (B "repr" (by decide)) (by decide +kernel) (pa_cons (pe_tup (pa_cons (pv 4) (pa_cons (pv 4) pa_nil))) pa_nil)) (nomark _))
 (pss_one (ps_ret pe_bl))
 pss_nil)
 (pss_cons (ps_if (PW.pt (pw_and (pt_cmpR op_le (pv 1) pe_int (nomark _)) (pw_and1 (pt_cmpR (op_neX hr.units) (pe_callB (cb_repr hgd hr.units) (by rfl) (B "repr" (by decide)) (by decide +kernel) (pa_cons (pe_callG (G_stretch.mono (by decide)) hr hgd (by rfl) g_stretch F_stretch.kp b_stretch (pa_cons (pv 3) (pa_cons (pv 2) pa_nil))) pa_nil)) (pe_callB (cb_repr hgd hr.units) (by rfl) (B "repr" (by decide)) (by decide +kernel) (pa_cons (pv 4) pa_nil)) (nomark _)))))
 (pss_one (ps_ret pe_bl))
 pss_nil)
 (pss_cons (ps_set (i := 5) sc__law_are_bits_right.nd rfl (Or.inl rfl) (pe_op op_plus (pe_slice sl_any (pv 2) po_none (po_some (pe_callG (G__law_draw.mono (by decide)) hr hgd (by rfl) g__law_draw F__law_draw.kp b__law_draw (pa_cons (pv 0) (pa_cons (pe_op op_plus (pv 1) pe_int) pa_nil))))) (pe_callG (G__law_bits.mono (by decide)) hr hgd (by rfl) g__law_bits F__law_bits.kp b__law_bits (pa_cons (pv 0) (pa_cons (pe_callG (G__law_draw.mono (by decide)) hr hgd (by rfl) g__law_draw F__law_draw.kp b__law_draw (pa_cons (pv 0) (pa_cons pe_int pa_nil))) pa_nil)))))
 (pss_cons (ps_set (i := 6) sc__law_are_bits_right.nd rfl (Or.inl rfl) (pe_cmpR (op_eqX hr.units) (pe_slice sl_any (pv 5) po_none (po_some (pv 1))) (pv 2) (nomark _)))
 (pss_one (ps_ret (pe_cmpR (op_eqX hr.units) (pe_callG (G__law_lies.mono (by decide)) hr hgd (by rfl) g__law_lies F__law_lies.kp b__law_lies (pa_cons (pe_callG (G_bits_stretch.mono (by decide)) hr hgd (by rfl) g_bits_stretch F_bits_stretch.kp b_bits_stretch (pa_cons (pv 5) pa_nil)) (pa_cons (pv 4) pa_nil))) (pv 6) (nomark _)))))))))), (by (try dsimp only [cxOf]); exact inferInstance), ?_⟩⟩
  intro xs μ Q hS
  obtain ⟨_, k, m, rest, rfl, hD, hk, hQ⟩ := hS
  rw [show startP N__law_are_bits_right [.mr 1, .int k] = [some (.mr 1), some (.int k), none, none, none, none, none] from rfl]
  refine stm_of fun R hR => ?_
  simp only [str_to, str_ot, mPar3, mLockV, mLockE, mItemsC, mKeysC, mDGet2, pIsN, isNonP, pRepLM, mTruD, dkOfP, pPopAt, pIndex, mLstRgM, mTruth, pReprA, pLenD, pLstD, mDNew, pRepL, mLenSetN, mDIn, mSortSet, mSortSetL, mRevT, mForC, mSeqC, mLcC, pAbs, pMax2, pMin2, pInt1, mDGet, mDPut, mBM, mBM0, pPop, pAppend, pExtend, pSetL, mSub, mDisp, mPs, mPs0, mRevL, mRevLM, pLstOfM, mTupRg, mRg1, mRg2, pPlusM, lstItems, dictOfP, keyP, keysP, val_left, val_mixed, val_draws, put_draws, mLc, mLcM, mLc2, mFor, mSeqI, mRng1, mRng2, mZip, mEnum, mSl, mNoPart, mPart, mSeq, mAsg, mAsg2, mCB, mCons, mNil, mVar, mC, mOp, mUn, pU, mTup, mLst, mRet, mRetN, mLstM, getl, setl, mName, mCall, mCallK, mIf, mIfS, mTest, mAnd, mOr, mNot, mYes, mAndV, mOrV, mNotV, mNext, mNever, mBreak, mCont, mDrop, mChain, mPar, mGTup, mGCons, mGNil, pGcd, pI, pI0, pIx, pTimes, pPlus, pEq, pNe, pLen, pSum, pMaxS, pAll, pAny, pTupOf, pLstOf, pIn, pIsB, pIsi, items_tup, items_lst, items_kl, items_mr, items_tab, items_lot, items_fr, decide_true, decide_false, eqP_int, eqP_bl, eqP_str, eqP_tup2, kit_tt, kit_ii, kit_ib, tyP, mEnd, wipeP, List.map_cons, List.map_nil, List.getElem?_cons_zero, List.getElem?_cons_succ, List.set_cons_zero, List.set_cons_succ, atI_zero, atI_one, if_true, if_false, ite_true, ite_false, Bool.false_eq_true, List.length_cons, List.length_nil, Bool.not_true, Bool.not_false, S__law_bits]
  refine ⟨trivial, k, m, rest, rfl, hD, by omega, fun bs μ1 b1 b2 D1 => ⟨by decide, by decide, by decide, by decide, by decide, by decide, ?_⟩⟩
  have hpl : PV.tup [PV.tup [PV.tup [PV.tup [PV.int 1, PV.int 2], PV.tup [PV.int 1, PV.int 2]], PV.tup [PV.int 0, PV.int 0]]] = mdlP plainM := by
    unfold mdlP plainM
    simp only [List.map_cons, List.map_nil, stP, tabP, lotP, ← half_fr]
    rfl
  rw [hpl]
  subst hR
  refine stm_of fun R1 hR1 => ?_
  simp only [str_to, str_ot, mPar3, mLockV, mLockE, mItemsC, mKeysC, mDGet2, pIsN, isNonP, pRepLM, mTruD, dkOfP, pPopAt, pIndex, mLstRgM, mTruth, pReprA, pLenD, pLstD, mDNew, pRepL, mLenSetN, mDIn, mSortSet, mSortSetL, mRevT, mForC, mSeqC, mLcC, pAbs, pMax2, pMin2, pInt1, mDGet, mDPut, mBM, mBM0, pPop, pAppend, pExtend, pSetL, mSub, mDisp, mPs, mPs0, mRevL, mRevLM, pLstOfM, mTupRg, mRg1, mRg2, pPlusM, lstItems, dictOfP, keyP, keysP, val_left, val_mixed, val_draws, put_draws, mLc, mLcM, mLc2, mFor, mSeqI, mRng1, mRng2, mZip, mEnum, mSl, mNoPart, mPart, mSeq, mAsg, mAsg2, mCB, mCons, mNil, mVar, mC, mOp, mUn, pU, mTup, mLst, mRet, mRetN, mLstM, getl, setl, mName, mCall, mCallK, mIf, mIfS, mTest, mAnd, mOr, mNot, mYes, mAndV, mOrV, mNotV, mNext, mNever, mBreak, mCont, mDrop, mChain, mPar, mGTup, mGCons, mGNil, pGcd, pI, pI0, pIx, pTimes, pPlus, pEq, pNe, pLen, pSum, pMaxS, pAll, pAny, pTupOf, pLstOf, pIn, pIsB, pIsi, items_tup, items_lst, items_kl, items_mr, items_tab, items_lot, items_fr, decide_true, decide_false, eqP_int, eqP_bl, eqP_str, eqP_tup2, kit_tt, kit_ii, kit_ib, tyP, mEnd, wipeP, List.map_cons, List.map_nil, List.getElem?_cons_zero, List.getElem?_cons_succ, List.set_cons_zero, List.set_cons_succ, atI_zero, atI_one, if_true, if_false, ite_true, ite_false, Bool.false_eq_true, List.length_cons, List.length_nil, Bool.not_true, Bool.not_false, S__law_bits_stretch]
  refine ⟨trivial, bs, rfl, b1, by omega, ?_⟩
  subst hR1
  refine stm_of fun R2 hR2 => ?_
  simp only [str_to, str_ot, mPar3, mLockV, mLockE, mItemsC, mKeysC, mDGet2, pIsN, isNonP, pRepLM, mTruD, dkOfP, pPopAt, pIndex, mLstRgM, mTruth, pReprA, pLenD, pLstD, mDNew, pRepL, mLenSetN, mDIn, mSortSet, mSortSetL, mRevT, mForC, mSeqC, mLcC, pAbs, pMax2, pMin2, pInt1, mDGet, mDPut, mBM, mBM0, pPop, pAppend, pExtend, pSetL, mSub, mDisp, mPs, mPs0, mRevL, mRevLM, pLstOfM, mTupRg, mRg1, mRg2, pPlusM, lstItems, dictOfP, keyP, keysP, val_left, val_mixed, val_draws, put_draws, mLc, mLcM, mLc2, mFor, mSeqI, mRng1, mRng2, mZip, mEnum, mSl, mNoPart, mPart, mSeq, mAsg, mAsg2, mCB, mCons, mNil, mVar, mC, mOp, mUn, pU, mTup, mLst, mRet, mRetN, mLstM, getl, setl, mName, mCall, mCallK, mIf, mIfS, mTest, mAnd, mOr, mNot, mYes, mAndV, mOrV, mNotV, mNext, mNever, mBreak, mCont, mDrop, mChain, mPar, mGTup, mGCons, mGNil, pGcd, pI, pI0, pIx, pTimes, pPlus, pEq, pNe, pLen, pSum, pMaxS, pAll, pAny, pTupOf, pLstOf, pIn, pIsB, pIsi, items_tup, items_lst, items_kl, items_mr, items_tab, items_lot, items_fr, decide_true, decide_false, eqP_int, eqP_bl, eqP_str, eqP_tup2, kit_tt, kit_ii, kit_ib, tyP, mEnd, wipeP, List.map_cons, List.map_nil, List.getElem?_cons_zero, List.getElem?_cons_succ, List.set_cons_zero, List.set_cons_succ, atI_zero, atI_one, if_true, if_false, ite_true, ite_false, Bool.false_eq_true, List.length_cons, List.length_nil, Bool.not_true, Bool.not_false, S_bits_stretch]
  have sb := bst_sm b1 (z := 1900) (by omega)
  refine ⟨trivial, bs, rfl, b1, by omega, trivial, rfl, bs, rfl, b1, by omega, by decide, pRepr_str2 sb.1 sb.2 ⟨by decide, pRepr_str2 sb.1 sb.2 ?_⟩⟩
  simp only [eqP_str, decide_true, Bool.not_true, Bool.false_eq_true, if_false]
  subst hR2
  refine stm_of fun R3 hR3 => ?_
  simp only [str_to, str_ot, mPar3, mLockV, mLockE, mItemsC, mKeysC, mDGet2, pIsN, isNonP, pRepLM, mTruD, dkOfP, pPopAt, pIndex, mLstRgM, mTruth, pReprA, pLenD, pLstD, mDNew, pRepL, mLenSetN, mDIn, mSortSet, mSortSetL, mRevT, mForC, mSeqC, mLcC, pAbs, pMax2, pMin2, pInt1, mDGet, mDPut, mBM, mBM0, pPop, pAppend, pExtend, pSetL, mSub, mDisp, mPs, mPs0, mRevL, mRevLM, pLstOfM, mTupRg, mRg1, mRg2, pPlusM, lstItems, dictOfP, keyP, keysP, val_left, val_mixed, val_draws, put_draws, mLc, mLcM, mLc2, mFor, mSeqI, mRng1, mRng2, mZip, mEnum, mSl, mNoPart, mPart, mSeq, mAsg, mAsg2, mCB, mCons, mNil, mVar, mC, mOp, mUn, pU, mTup, mLst, mRet, mRetN, mLstM, getl, setl, mName, mCall, mCallK, mIf, mIfS, mTest, mAnd, mOr, mNot, mYes, mAndV, mOrV, mNotV, mNext, mNever, mBreak, mCont, mDrop, mChain, mPar, mGTup, mGCons, mGNil, pGcd, pI, pI0, pIx, pTimes, pPlus, pEq, pNe, pLen, pSum, pMaxS, pAll, pAny, pTupOf, pLstOf, pIn, pIsB, pIsi, items_tup, items_lst, items_kl, items_mr, items_tab, items_lot, items_fr, decide_true, decide_false, eqP_int, eqP_bl, eqP_str, eqP_tup2, kit_tt, kit_ii, kit_ib, tyP, mEnd, wipeP, List.map_cons, List.map_nil, List.getElem?_cons_zero, List.getElem?_cons_succ, List.set_cons_zero, List.set_cons_succ, atI_zero, atI_one, if_true, if_false, ite_true, ite_false, Bool.false_eq_true, List.length_cons, List.length_nil, Bool.not_true, Bool.not_false, S_stretch, -pRepr]
  suffices hgo : R3 [some (.mr 1), some (.int (k : Nat)), some (lotP bs), some (mdlP plainM), some (strP (bst bs)), none, none] μ1 by
    by_cases c : k ≤ 40
    · rw [decide_eq_true (by omega), if_pos rfl]
      refine ⟨trivial, 2, plainM, bs, rfl, plain_ok, plain_way b1, by omega, ?_⟩
      rw [plain_all b1]
      refine pRepr_str sb.1 sb.2 (pRepr_str sb.1 sb.2 ?_)
      simp only [eqP_str, decide_true, Bool.not_true, Bool.false_eq_true, if_false]
      exact hgo
    · rw [decide_eq_false (by omega), if_neg (by decide)]
      exact hgo
  subst hR3
  refine stm_of fun R4 hR4 => ?_
  simp only [str_to, str_ot, mPar3, mLockV, mLockE, mItemsC, mKeysC, mDGet2, pIsN, isNonP, pRepLM, mTruD, dkOfP, pPopAt, pIndex, mLstRgM, mTruth, pReprA, pLenD, pLstD, mDNew, pRepL, mLenSetN, mDIn, mSortSet, mSortSetL, mRevT, mForC, mSeqC, mLcC, pAbs, pMax2, pMin2, pInt1, mDGet, mDPut, mBM, mBM0, pPop, pAppend, pExtend, pSetL, mSub, mDisp, mPs, mPs0, mRevL, mRevLM, pLstOfM, mTupRg, mRg1, mRg2, pPlusM, lstItems, dictOfP, keyP, keysP, val_left, val_mixed, val_draws, put_draws, mLc, mLcM, mLc2, mFor, mSeqI, mRng1, mRng2, mZip, mEnum, mSl, mNoPart, mPart, mSeq, mAsg, mAsg2, mCB, mCons, mNil, mVar, mC, mOp, mUn, pU, mTup, mLst, mRet, mRetN, mLstM, getl, setl, mName, mCall, mCallK, mIf, mIfS, mTest, mAnd, mOr, mNot, mYes, mAndV, mOrV, mNotV, mNext, mNever, mBreak, mCont, mDrop, mChain, mPar, mGTup, mGCons, mGNil, pGcd, pI, pI0, pIx, pTimes, pPlus, pEq, pNe, pLen, pSum, pMaxS, pAll, pAny, pTupOf, pLstOf, pIn, pIsB, pIsi, items_tup, items_lst, items_kl, items_mr, items_tab, items_lot, items_fr, decide_true, decide_false, eqP_int, eqP_bl, eqP_str, eqP_tup2, kit_tt, kit_ii, kit_ib, tyP, mEnd, wipeP, List.map_cons, List.map_nil, List.getElem?_cons_zero, List.getElem?_cons_succ, List.set_cons_zero, List.set_cons_succ, atI_zero, atI_one, if_true, if_false, ite_true, ite_false, Bool.false_eq_true, List.length_cons, List.length_nil, Bool.not_true, Bool.not_false, S__law_draw, S__law_bits, lotP]
  refine ⟨trivial, _, m, rest, rfl, D1, by omega, by omega, fun z μ2 z0 z1 D2 => ?_⟩
  obtain ⟨z, rfl⟩ : ∃ i : Nat, z = (i : Int) := ⟨z.toNat, by omega⟩
  refine ⟨trivial, 3, m, rest, rfl, D2, by decide, by decide, fun y μ3 y0 y1 D3 => ?_⟩
  obtain ⟨y, rfl⟩ : ∃ i : Nat, y = (i : Int) := ⟨y.toNat, by omega⟩
  refine ⟨trivial, y, m, rest, rfl, D3, by omega, fun ds μ4 c1 c2 D4 => ?_⟩
  rw [cut_to, ← List.map_take, lot_appN]
  have hob : ∀ b ∈ bs.take z ++ ds, b < 2 := fun b h => by
    rcases List.mem_append.mp h with h | h
    · exact b1 b (List.mem_of_mem_take h)
    · exact c1 b h
  have hol : (bs.take z ++ ds).length ≤ 402 := by rw [List.length_append, List.length_take]; omega
  refine ⟨by rw [List.length_map, List.length_map, List.length_take]; unfold lim; omega, ?_⟩
  generalize bs.take z ++ ds = os at *
  subst hR4
  refine stm_of fun R5 hR5 => ?_
  simp only [str_to, str_ot, mPar3, mLockV, mLockE, mItemsC, mKeysC, mDGet2, pIsN, isNonP, pRepLM, mTruD, dkOfP, pPopAt, pIndex, mLstRgM, mTruth, pReprA, pLenD, pLstD, mDNew, pRepL, mLenSetN, mDIn, mSortSet, mSortSetL, mRevT, mForC, mSeqC, mLcC, pAbs, pMax2, pMin2, pInt1, mDGet, mDPut, mBM, mBM0, pPop, pAppend, pExtend, pSetL, mSub, mDisp, mPs, mPs0, mRevL, mRevLM, pLstOfM, mTupRg, mRg1, mRg2, pPlusM, lstItems, dictOfP, keyP, keysP, val_left, val_mixed, val_draws, put_draws, mLc, mLcM, mLc2, mFor, mSeqI, mRng1, mRng2, mZip, mEnum, mSl, mNoPart, mPart, mSeq, mAsg, mAsg2, mCB, mCons, mNil, mVar, mC, mOp, mUn, pU, mTup, mLst, mRet, mRetN, mLstM, getl, setl, mName, mCall, mCallK, mIf, mIfS, mTest, mAnd, mOr, mNot, mYes, mAndV, mOrV, mNotV, mNext, mNever, mBreak, mCont, mDrop, mChain, mPar, mGTup, mGCons, mGNil, pGcd, pI, pI0, pIx, pTimes, pPlus, pEq, pNe, pLen, pSum, pMaxS, pAll, pAny, pTupOf, pLstOf, pIn, pIsB, pIsi, items_tup, items_lst, items_kl, items_mr, items_tab, items_lot, items_fr, decide_true, decide_false, eqP_int, eqP_bl, eqP_str, eqP_tup2, kit_tt, kit_ii, kit_ib, tyP, mEnd, wipeP, List.map_cons, List.map_nil, List.getElem?_cons_zero, List.getElem?_cons_succ, List.set_cons_zero, List.set_cons_succ, atI_zero, atI_one, if_true, if_false, ite_true, ite_false, Bool.false_eq_true, List.length_cons, List.length_nil, Bool.not_true, Bool.not_false, lotP, cut_to, ← List.map_take, eqP_luN]
  subst hR5
  have so := bst_sm hob (z := 1900) (by omega)
  simp only [str_to, str_ot, mPar3, mLockV, mLockE, mItemsC, mKeysC, mDGet2, pIsN, isNonP, pRepLM, mTruD, dkOfP, pPopAt, pIndex, mLstRgM, mTruth, pReprA, pLenD, pLstD, mDNew, pRepL, mLenSetN, mDIn, mSortSet, mSortSetL, mRevT, mForC, mSeqC, mLcC, pAbs, pMax2, pMin2, pInt1, mDGet, mDPut, mBM, mBM0, pPop, pAppend, pExtend, pSetL, mSub, mDisp, mPs, mPs0, mRevL, mRevLM, pLstOfM, mTupRg, mRg1, mRg2, pPlusM, lstItems, dictOfP, keyP, keysP, val_left, val_mixed, val_draws, put_draws, mLc, mLcM, mLc2, mFor, mSeqI, mRng1, mRng2, mZip, mEnum, mSl, mNoPart, mPart, mSeq, mAsg, mAsg2, mCB, mCons, mNil, mVar, mC, mOp, mUn, pU, mTup, mLst, mRet, mRetN, mLstM, getl, setl, mName, mCall, mCallK, mIf, mIfS, mTest, mAnd, mOr, mNot, mYes, mAndV, mOrV, mNotV, mNext, mNever, mBreak, mCont, mDrop, mChain, mPar, mGTup, mGCons, mGNil, pGcd, pI, pI0, pIx, pTimes, pPlus, pEq, pNe, pLen, pSum, pMaxS, pAll, pAny, pTupOf, pLstOf, pIn, pIsB, pIsi, items_tup, items_lst, items_kl, items_mr, items_tab, items_lot, items_fr, decide_true, decide_false, eqP_int, eqP_bl, eqP_str, eqP_tup2, kit_tt, kit_ii, kit_ib, tyP, mEnd, wipeP, List.map_cons, List.map_nil, List.getElem?_cons_zero, List.getElem?_cons_succ, List.set_cons_zero, List.set_cons_succ, atI_zero, atI_one, if_true, if_false, ite_true, ite_false, Bool.false_eq_true, List.length_cons, List.length_nil, Bool.not_true, Bool.not_false, S_bits_stretch, S__law_lies]
  refine ⟨trivial, os, rfl, hob, by omega, trivial, _, _, rfl, so.1.mono (by decide), so.2.mono (by decide), sb.1.mono (by decide), sb.2.mono (by decide), ?_⟩
  have e9 : decide ((bst bs).1 ≤ (bst os).1 ∧ (bst os).1 + (bst os).2 ≤ (bst bs).1 + (bst bs).2) = decide (os.take k = bs) := by
    refine decide_eq_decide.mpr ?_
    rw [← b2]
    exact bst_lies hob b1
  rw [e9, decide_eq_true rfl]
  exact fin_keep (hQ _ D4)
abbrev N__law_lie_beside : List Str := ["_law_model_here", "_law_many", "_law_low", "_law_way_here", "_law_told"]
theorem sc__law_lie_beside : FnScope N__law_lie_beside ["_law_model_here", "_law_many"] (defScope s__law_lie_beside) := ⟨rfl, rfl, rfl, by decide +kernel, rfl, by decide +kernel, by decide +kernel⟩
theorem ok__law_lie_beside (B : Blt mg) (h__law_lie_beside : Own K mg "_law_lie_beside" s__law_lie_beside) (k__law_ways : Ok P w K mg base 1 "_law_ways" s__law_ways ["_law_model_here", "_law_many"] S__law_ways) (k_stretch : Ok P w K mg base 10 "stretch" s_stretch ["model", "way"] S_stretch) (k__law_is_less : Ok P w K mg base 1 "_law_is_less" s__law_is_less ["_law_one", "_law_other"] S__law_is_less) (k__law_plus : Ok P w K mg base 3 "_law_plus" s__law_plus ["_law_one", "_law_other"] S__law_plus) : Ok P w K mg base 11 "_law_lie_beside" s__law_lie_beside ["_law_model_here", "_law_many"] S__law_lie_beside := by
  obtain ⟨f_s, fd_s, F_s, g_s⟩ := h__law_lie_beside
  obtain ⟨f__law_ways, fd__law_ways, F__law_ways, g__law_ways, b__law_ways, G__law_ways⟩ := k__law_ways
  obtain ⟨f_stretch, fd_stretch, F_stretch, g_stretch, b_stretch, G_stretch⟩ := k_stretch
  obtain ⟨f__law_is_less, fd__law_is_less, F__law_is_less, g__law_is_less, b__law_is_less, G__law_is_less⟩ := k__law_is_less
  obtain ⟨f__law_plus, fd__law_plus, F__law_plus, g__law_plus, b__law_plus, G__law_plus⟩ := k__law_plus
  refine ⟨f_s, fd_s, F_s, g_s, F_s.binds (fun _ _ _ _ _ _ us hl => match us, hl with | [_, _], _ => rfl), FnG.of F_s sc__law_lie_beside (fun xs μ Q h => by first | exact h.1 | (obtain ⟨⟩ := h)) fun cdv A outer s H hr hgd => ⟨_, _, (pss_cons (ps_set (i := 2) sc__law_lie_beside.nd rfl (Or.inl rfl) (pe_tup (pa_cons pe_int (pa_cons pe_int pa_nil))))
 (pss_cons (ps_for PassesOwn.never rfl (pi_seq (pe_callG (G__law_ways.mono (by decide)) hr hgd (by rfl) g__law_ways F__law_ways.kp b__law_ways (pa_cons (pv 0) (pa_cons (pv 1) pa_nil)))) (pg_name (i := 3) sc__law_lie_beside.nd rfl (Or.inl rfl))
 (pss_cons (ps_set (i := 4) sc__law_lie_beside.nd rfl (Or.inl rfl) (pe_callG (G_stretch.mono (by decide)) hr hgd (by rfl) g_stretch F_stretch.kp b_stretch (pa_cons (pv 0) (pa_cons (pv 3) pa_nil))))
 (pss_cons (ps_if (PW.pt (pw_or (pt_cmpR (op_neX hr.units) (pe_callB (cb_repr hgd hr.units) (by rfl) (B "repr" (by decide)) (by decide +kernel) (pa_cons (pe_ix ix_seq (pv 4) pe_int (fun _ _ => rfl)) pa_nil)) (pe_callB (cb_repr hgd hr.units) (by rfl) (B "repr" (by decide)) (by decide +kernel) (pa_cons (pv 2) pa_nil)) (nomark _)) (pw_or1 (pt_not (pt_val (pe_callG (G__law_is_less.mono (by decide)) hr hgd (by rfl) g__law_is_less F__law_is_less.kp b__law_is_less (pa_cons (pe_tup (pa_cons pe_int (pa_cons pe_int pa_nil))) (pa_cons (pe_ix ix_seq (pv 4) pe_int (fun _ _ => rfl)) pa_nil))))))))
 (pss_one (ps_ret pe_bl))
 pss_nil)
 (pss_one (ps_set (i := 2) sc__law_lie_beside.nd rfl (Or.inl rfl) (pe_callG (G__law_plus.mono (by decide)) hr hgd (by rfl) g__law_plus F__law_plus.kp b__law_plus (pa_cons (pv 2) (pa_cons (pe_ix ix_seq (pv 4) pe_int (fun _ _ => rfl)) pa_nil))))))))
 (pss_one (ps_ret (pe_cmpR (op_eqX hr.units) (pv 2) (pe_tup (pa_cons pe_int (pa_cons pe_int pa_nil))) (nomark _)))))), (by (try dsimp only [cxOf]); exact inferInstance), ?_⟩⟩
  intro xs μ Q hS
  obtain ⟨_, n, k, M, rfl, hM, hk, hl, hQ⟩ := hS
  rw [show startP N__law_lie_beside [mdlP M, .int k] = [some (mdlP M), some (.int k), none, none, none] from rfl]
  refine stm_of fun R hR => ?_
  simp only [str_to, str_ot, mPar3, mLockV, mLockE, mItemsC, mKeysC, mDGet2, pIsN, isNonP, pRepLM, mTruD, dkOfP, pPopAt, pIndex, mLstRgM, mTruth, pReprA, pLenD, pLstD, mDNew, pRepL, mLenSetN, mDIn, mSortSet, mSortSetL, mRevT, mForC, mSeqC, mLcC, pAbs, pMax2, pMin2, pInt1, mDGet, mDPut, mBM, mBM0, pPop, pAppend, pExtend, pSetL, mSub, mDisp, mPs, mPs0, mRevL, mRevLM, pLstOfM, mTupRg, mRg1, mRg2, pPlusM, lstItems, dictOfP, keyP, keysP, val_left, val_mixed, val_draws, put_draws, mLc, mLcM, mLc2, mFor, mSeqI, mRng1, mRng2, mZip, mEnum, mSl, mNoPart, mPart, mSeq, mAsg, mAsg2, mCB, mCons, mNil, mVar, mC, mOp, mUn, pU, mTup, mLst, mRet, mRetN, mLstM, getl, setl, mName, mCall, mCallK, mIf, mIfS, mTest, mAnd, mOr, mNot, mYes, mAndV, mOrV, mNotV, mNext, mNever, mBreak, mCont, mDrop, mChain, mPar, mGTup, mGCons, mGNil, pGcd, pI, pI0, pIx, pTimes, pPlus, pEq, pNe, pLen, pSum, pMaxS, pAll, pAny, pTupOf, pLstOf, pIn, pIsB, pIsi, items_tup, items_lst, items_kl, items_mr, items_tab, items_lot, items_fr, decide_true, decide_false, eqP_int, eqP_bl, eqP_str, eqP_tup2, kit_tt, kit_ii, kit_ib, tyP, mEnd, wipeP, List.map_cons, List.map_nil, List.getElem?_cons_zero, List.getElem?_cons_succ, List.set_cons_zero, List.set_cons_succ, atI_zero, atI_one, if_true, if_false, ite_true, ite_false, Bool.false_eq_true, List.length_cons, List.length_nil, Bool.not_true, Bool.not_false]
  refine ⟨by decide, ?_⟩
  subst hR
  refine stm_of fun R1 hR1 => ?_
  simp only [str_to, str_ot, mPar3, mLockV, mLockE, mItemsC, mKeysC, mDGet2, pIsN, isNonP, pRepLM, mTruD, dkOfP, pPopAt, pIndex, mLstRgM, mTruth, pReprA, pLenD, pLstD, mDNew, pRepL, mLenSetN, mDIn, mSortSet, mSortSetL, mRevT, mForC, mSeqC, mLcC, pAbs, pMax2, pMin2, pInt1, mDGet, mDPut, mBM, mBM0, pPop, pAppend, pExtend, pSetL, mSub, mDisp, mPs, mPs0, mRevL, mRevLM, pLstOfM, mTupRg, mRg1, mRg2, pPlusM, lstItems, dictOfP, keyP, keysP, val_left, val_mixed, val_draws, put_draws, mLc, mLcM, mLc2, mFor, mSeqI, mRng1, mRng2, mZip, mEnum, mSl, mNoPart, mPart, mSeq, mAsg, mAsg2, mCB, mCons, mNil, mVar, mC, mOp, mUn, pU, mTup, mLst, mRet, mRetN, mLstM, getl, setl, mName, mCall, mCallK, mIf, mIfS, mTest, mAnd, mOr, mNot, mYes, mAndV, mOrV, mNotV, mNext, mNever, mBreak, mCont, mDrop, mChain, mPar, mGTup, mGCons, mGNil, pGcd, pI, pI0, pIx, pTimes, pPlus, pEq, pNe, pLen, pSum, pMaxS, pAll, pAny, pTupOf, pLstOf, pIn, pIsB, pIsi, items_tup, items_lst, items_kl, items_mr, items_tab, items_lot, items_fr, decide_true, decide_false, eqP_int, eqP_bl, eqP_str, eqP_tup2, kit_tt, kit_ii, kit_ib, tyP, mEnd, wipeP, List.map_cons, List.map_nil, List.getElem?_cons_zero, List.getElem?_cons_succ, List.set_cons_zero, List.set_cons_succ, atI_zero, atI_one, if_true, if_false, ite_true, ite_false, Bool.false_eq_true, List.length_cons, List.length_nil, Bool.not_true, Bool.not_false, S__law_ways]
  have h0 := List.length_pos_iff.mpr hM.ne
  have hwl := Nat.le_trans (waysF_len hM k) hl
  have hok := waysF_ok hM k
  have hc := ways_cont hM k
  refine ⟨trivial, n, k, M, rfl, hM, hk, hl, ?_⟩
  refine for_inv (enc := fun (p : List Nat × Nat) => lotP p.1) (fun pre ρ μ' => (∃ (a : Rat) (y3 y4 : Option PV), ρ = [some (mdlP M), some (.int (k : Nat)), some (frP a), y3, y4] ∧ Cont a (((waysF M k).drop pre.length).map fun p => strF M 0 (0, 1) p.1) 1 ∧ Sm 100 a) ∧ μ' = μ) (done := []) ⟨⟨0, _, _, rfl, hc, sm_zero⟩, rfl⟩ (fun pre p post ρ μ1 e hI N hN => ?_) fun ρ μ1 hI => ?_
  · obtain ⟨⟨a, y3, y4, rfl, hca, hsa⟩, rfl⟩ := hI
    have e' : waysF M k = pre ++ p :: post := e
    have hp : p ∈ waysF M k := by rw [e']; simp
    obtain ⟨p1, p2, p3, p4⟩ := hok p hp
    have ed : (waysF M k).drop pre.length = p :: (waysF M k).drop (pre.length + 1) := by rw [e']; simp
    rw [ed, List.map_cons] at hca
    obtain ⟨c1, c2, c3⟩ := hca
    have hiv := iv_way hM h0 p2 iv_start
    have s1 := hiv.sm1.mono (show 7 * (0 + p.1.length) + 2 ≤ 100 by omega)
    have s2 := hiv.sm2.mono (show 7 * (0 + p.1.length) + 2 ≤ 100 by omega)
    have s3 := hiv.smS.mono (show 7 * (0 + p.1.length) + 2 ≤ 100 by omega)
    simp only [str_to, str_ot, mPar3, mLockV, mLockE, mItemsC, mKeysC, mDGet2, pIsN, isNonP, pRepLM, mTruD, dkOfP, pPopAt, pIndex, mLstRgM, mTruth, pReprA, pLenD, pLstD, mDNew, pRepL, mLenSetN, mDIn, mSortSet, mSortSetL, mRevT, mForC, mSeqC, mLcC, pAbs, pMax2, pMin2, pInt1, mDGet, mDPut, mBM, mBM0, pPop, pAppend, pExtend, pSetL, mSub, mDisp, mPs, mPs0, mRevL, mRevLM, pLstOfM, mTupRg, mRg1, mRg2, pPlusM, lstItems, dictOfP, keyP, keysP, val_left, val_mixed, val_draws, put_draws, mLc, mLcM, mLc2, mFor, mSeqI, mRng1, mRng2, mZip, mEnum, mSl, mNoPart, mPart, mSeq, mAsg, mAsg2, mCB, mCons, mNil, mVar, mC, mOp, mUn, pU, mTup, mLst, mRet, mRetN, mLstM, getl, setl, mName, mCall, mCallK, mIf, mIfS, mTest, mAnd, mOr, mNot, mYes, mAndV, mOrV, mNotV, mNext, mNever, mBreak, mCont, mDrop, mChain, mPar, mGTup, mGCons, mGNil, pGcd, pI, pI0, pIx, pTimes, pPlus, pEq, pNe, pLen, pSum, pMaxS, pAll, pAny, pTupOf, pLstOf, pIn, pIsB, pIsi, items_tup, items_lst, items_kl, items_mr, items_tab, items_lot, items_fr, decide_true, decide_false, eqP_int, eqP_bl, eqP_str, eqP_tup2, kit_tt, kit_ii, kit_ib, tyP, mEnd, wipeP, List.map_cons, List.map_nil, List.getElem?_cons_zero, List.getElem?_cons_succ, List.set_cons_zero, List.set_cons_succ, atI_zero, atI_one, if_true, if_false, ite_true, ite_false, Bool.false_eq_true, List.length_cons, List.length_nil, Bool.not_true, Bool.not_false, S_stretch, -pRepr]
    have eit : ∀ μ : Store, itemsOf (strP (strF M 0 (0, 1) p.1)) μ = some [frP (strF M 0 (0, 1) p.1).1, frP (strF M 0 (0, 1) p.1).2] := fun _ => rfl
    refine ⟨trivial, n, M, p.1, rfl, hM, p2, by omega, ?_⟩
    simp only [str_to, str_ot, mPar3, mLockV, mLockE, mItemsC, mKeysC, mDGet2, pIsN, isNonP, pRepLM, mTruD, dkOfP, pPopAt, pIndex, mLstRgM, mTruth, pReprA, pLenD, pLstD, mDNew, pRepL, mLenSetN, mDIn, mSortSet, mSortSetL, mRevT, mForC, mSeqC, mLcC, pAbs, pMax2, pMin2, pInt1, mDGet, mDPut, mBM, mBM0, pPop, pAppend, pExtend, pSetL, mSub, mDisp, mPs, mPs0, mRevL, mRevLM, pLstOfM, mTupRg, mRg1, mRg2, pPlusM, lstItems, dictOfP, keyP, keysP, val_left, val_mixed, val_draws, put_draws, mLc, mLcM, mLc2, mFor, mSeqI, mRng1, mRng2, mZip, mEnum, mSl, mNoPart, mPart, mSeq, mAsg, mAsg2, mCB, mCons, mNil, mVar, mC, mOp, mUn, pU, mTup, mLst, mRet, mRetN, mLstM, getl, setl, mName, mCall, mCallK, mIf, mIfS, mTest, mAnd, mOr, mNot, mYes, mAndV, mOrV, mNotV, mNext, mNever, mBreak, mCont, mDrop, mChain, mPar, mGTup, mGCons, mGNil, pGcd, pI, pI0, pIx, pTimes, pPlus, pEq, pNe, pLen, pSum, pMaxS, pAll, pAny, pTupOf, pLstOf, pIn, pIsB, pIsi, items_tup, items_lst, items_kl, items_mr, items_tab, items_lot, items_fr, decide_true, decide_false, eqP_int, eqP_bl, eqP_str, eqP_tup2, kit_tt, kit_ii, kit_ib, tyP, mEnd, wipeP, List.map_cons, List.map_nil, List.getElem?_cons_zero, List.getElem?_cons_succ, List.set_cons_zero, List.set_cons_succ, atI_zero, atI_one, if_true, if_false, ite_true, ite_false, Bool.false_eq_true, List.length_cons, List.length_nil, Bool.not_true, Bool.not_false, eit, S__law_is_less, S__law_plus, -pRepr]
    rw [c1]
    refine pRepr_fr (hsa.mono (by decide)) (pRepr_fr (hsa.mono (by decide)) ?_)
    simp only [eqP_str, decide_true, Bool.not_true, Bool.false_eq_true, if_false]
    refine ⟨by decide, trivial, 0, _, by rw [zero_fr], (sm_zero (n := 1)).mono (by decide), s2.mono (by decide), ?_⟩
    rw [decide_eq_true c2, if_neg (by decide)]
    refine ⟨trivial, _, _, rfl, hsa.mono (by decide), s2.mono (by decide), hN _ _ ⟨⟨_, some (lotP p.1), some (strP (strF M 0 (0, 1) p.1)), rfl, ?_, ?_⟩, rfl⟩⟩
    · rw [List.length_append, List.length_singleton]; exact c3
    · rw [← c1]; exact s3
  · obtain ⟨⟨a, y3, y4, rfl, hca, hsa⟩, rfl⟩ := hI
    rw [List.nil_append, List.drop_length] at hca
    have hca : a = 1 := hca
    show R1 _ _
    subst hR1
    simp only [str_to, str_ot, mPar3, mLockV, mLockE, mItemsC, mKeysC, mDGet2, pIsN, isNonP, pRepLM, mTruD, dkOfP, pPopAt, pIndex, mLstRgM, mTruth, pReprA, pLenD, pLstD, mDNew, pRepL, mLenSetN, mDIn, mSortSet, mSortSetL, mRevT, mForC, mSeqC, mLcC, pAbs, pMax2, pMin2, pInt1, mDGet, mDPut, mBM, mBM0, pPop, pAppend, pExtend, pSetL, mSub, mDisp, mPs, mPs0, mRevL, mRevLM, pLstOfM, mTupRg, mRg1, mRg2, pPlusM, lstItems, dictOfP, keyP, keysP, val_left, val_mixed, val_draws, put_draws, mLc, mLcM, mLc2, mFor, mSeqI, mRng1, mRng2, mZip, mEnum, mSl, mNoPart, mPart, mSeq, mAsg, mAsg2, mCB, mCons, mNil, mVar, mC, mOp, mUn, pU, mTup, mLst, mRet, mRetN, mLstM, getl, setl, mName, mCall, mCallK, mIf, mIfS, mTest, mAnd, mOr, mNot, mYes, mAndV, mOrV, mNotV, mNext, mNever, mBreak, mCont, mDrop, mChain, mPar, mGTup, mGCons, mGNil, pGcd, pI, pI0, pIx, pTimes, pPlus, pEq, pNe, pLen, pSum, pMaxS, pAll, pAny, pTupOf, pLstOf, pIn, pIsB, pIsi, items_tup, items_lst, items_kl, items_mr, items_tab, items_lot, items_fr, decide_true, decide_false, eqP_int, eqP_bl, eqP_str, eqP_tup2, kit_tt, kit_ii, kit_ib, tyP, mEnd, wipeP, List.map_cons, List.map_nil, List.getElem?_cons_zero, List.getElem?_cons_succ, List.set_cons_zero, List.set_cons_succ, atI_zero, atI_one, if_true, if_false, ite_true, ite_false, Bool.false_eq_true, List.length_cons, List.length_nil, Bool.not_true, Bool.not_false]
    rw [hca, one_fr, eqP_fr, decide_eq_true rfl]
    exact ⟨by decide, fin_keep hQ⟩
abbrev N_law : List Str := ["_law_script", "_law_deck_here", "_law_model_here", "_law_many"]
theorem sc_law : FnScope N_law ["_law_script"] (defScope s_law) := ⟨rfl, rfl, rfl, by decide +kernel, rfl, by decide +kernel, by decide +kernel⟩
theorem ok_law (B : Blt mg) (h_law : Own K mg "law" s_law) (k__law_deck : Ok P w K mg base 1 "_law_deck" s__law_deck ["_law_script"] S__law_deck) (k__law_model : Ok P w K mg base 4 "_law_model" s__law_model ["_law_deck_here", "_law_states", "_law_bottoms"] S__law_model) (k__law_chances : Ok P w K mg base 1 "_law_chances" s__law_chances [] S__law_chances) (k__law_draw : Ok P w K mg base 1 "_law_draw" s__law_draw ["_law_deck_here", "_law_many"] S__law_draw) (k__law_is_right : Ok P w K mg base 11 "_law_is_right" s__law_is_right ["_law_deck_here", "_law_model_here", "_law_way_here"] S__law_is_right) (k__law_way : Ok P w K mg base 3 "_law_way" s__law_way ["_law_deck_here", "_law_model_here", "_law_many"] S__law_way) (k__law_lie_beside : Ok P w K mg base 11 "_law_lie_beside" s__law_lie_beside ["_law_model_here", "_law_many"] S__law_lie_beside) (k__law_are_few : Ok P w K mg base 1 "_law_are_few" s__law_are_few ["_law_model_here", "_law_many"] S__law_are_few) (k__law_are_bits_right : Ok P w K mg base 11 "_law_are_bits_right" s__law_are_bits_right ["_law_deck_here", "_law_many"] S__law_are_bits_right) (k_stretch : Ok P w K mg base 10 "stretch" s_stretch ["model", "way"] S_stretch) : Ok P w K mg base 12 "law" s_law ["_law_script"] S_law := by
  obtain ⟨f_s, fd_s, F_s, g_s⟩ := h_law
  obtain ⟨f__law_deck, fd__law_deck, F__law_deck, g__law_deck, b__law_deck, G__law_deck⟩ := k__law_deck
  obtain ⟨f__law_model, fd__law_model, F__law_model, g__law_model, b__law_model, G__law_model⟩ := k__law_model
  obtain ⟨f__law_chances, fd__law_chances, F__law_chances, g__law_chances, b__law_chances, G__law_chances⟩ := k__law_chances
  obtain ⟨f__law_draw, fd__law_draw, F__law_draw, g__law_draw, b__law_draw, G__law_draw⟩ := k__law_draw
  obtain ⟨f__law_is_right, fd__law_is_right, F__law_is_right, g__law_is_right, b__law_is_right, G__law_is_right⟩ := k__law_is_right
  obtain ⟨f__law_way, fd__law_way, F__law_way, g__law_way, b__law_way, G__law_way⟩ := k__law_way
  obtain ⟨f__law_lie_beside, fd__law_lie_beside, F__law_lie_beside, g__law_lie_beside, b__law_lie_beside, G__law_lie_beside⟩ := k__law_lie_beside
  obtain ⟨f__law_are_few, fd__law_are_few, F__law_are_few, g__law_are_few, b__law_are_few, G__law_are_few⟩ := k__law_are_few
  obtain ⟨f__law_are_bits_right, fd__law_are_bits_right, F__law_are_bits_right, g__law_are_bits_right, b__law_are_bits_right, G__law_are_bits_right⟩ := k__law_are_bits_right
  obtain ⟨f_stretch, fd_stretch, F_stretch, g_stretch, b_stretch, G_stretch⟩ := k_stretch
  have kb__law_chances_ : KBs fd__law_chances [] [] 0 [] := kbs_mk F__law_chances fun _ _ _ _ _ _ us ws hu hw => match us, ws, hu, hw with | [], [], _, _ => rfl
  refine ⟨f_s, fd_s, F_s, g_s, F_s.binds (fun _ _ _ _ _ _ us hl => match us, hl with | [_], _ => rfl), FnG.of F_s sc_law (fun xs μ Q h => by first | exact h.1 | (obtain ⟨⟩ := h)) fun cdv A outer s H hr hgd => ⟨_, _, (pss_cons (ps_set (i := 1) sc_law.nd rfl (Or.inl rfl) (pe_callG (G__law_deck.mono (by decide)) hr hgd (by rfl) g__law_deck F__law_deck.kp b__law_deck (pa_cons (pv 0) pa_nil)))
 (pss_cons (ps_set (i := 2) sc_law.nd rfl (Or.inl rfl) (pe_callG (G__law_model.mono (by decide)) hr hgd (by rfl) g__law_model F__law_model.kp b__law_model (pa_cons (pv 1) (pa_cons pe_int (pa_cons (pe_callK0G (G__law_chances.mono (by decide)) hr hgd (by rfl) g__law_chances F__law_chances.kp kb__law_chances_ pk_nil) pa_nil)))))
 (pss_cons (ps_for PassesOwn.never rfl (pi_seq (pe_tup (pa_cons pe_int (pa_cons pe_int (pa_cons pe_int (pa_cons (pe_callG (G__law_draw.mono (by decide)) hr hgd (by rfl) g__law_draw F__law_draw.kp b__law_draw (pa_cons (pv 1) (pa_cons pe_int pa_nil))) (pa_cons (pe_ifExp (pt_cmpR (op_eqX hr.units) (pe_callG (G__law_draw.mono (by decide)) hr hgd (by rfl) g__law_draw F__law_draw.kp b__law_draw (pa_cons (pv 1) (pa_cons pe_int pa_nil))) pe_int (nomark _)) pe_int pe_int) pa_nil))))))) (pg_name (i := 3) sc_law.nd rfl (Or.inl rfl))
 (pss_one (ps_if (pt_not (pt_val (pe_callG (G__law_is_right.mono (by decide)) hr hgd (by rfl) g__law_is_right F__law_is_right.kp b__law_is_right (pa_cons (pv 1) (pa_cons (pv 2) (pa_cons (pe_callG (G__law_way.mono (by decide)) hr hgd (by rfl) g__law_way F__law_way.kp b__law_way (pa_cons (pv 1) (pa_cons (pv 2) (pa_cons (pv 3) pa_nil)))) pa_nil))))))
 (pss_one (ps_ret pe_bl))
 pss_nil)))
 (pss_cons (ps_for PassesOwn.never rfl (pi_range1 (by rfl) (B "range" (by decide)) (pa_cons pe_int pa_nil)) (pg_name (i := 3) sc_law.nd rfl (Or.inl rfl))
 (pss_one (ps_if (PW.pt (pw_and (pt_val (pe_callG (G__law_are_few.mono (by decide)) hr hgd (by rfl) g__law_are_few F__law_are_few.kp b__law_are_few (pa_cons (pv 2) (pa_cons (pv 3) pa_nil)))) (pw_and1 (pt_not (pt_val (pe_callG (G__law_lie_beside.mono (by decide)) hr hgd (by rfl) g__law_lie_beside F__law_lie_beside.kp b__law_lie_beside (pa_cons (pv 2) (pa_cons (pv 3) pa_nil))))))))
 (pss_one (ps_ret pe_bl))
 pss_nil)))
 (pss_cons (ps_for PassesOwn.never rfl (pi_seq (pe_tup (pa_cons pe_int (pa_cons pe_int (pa_cons (pe_callG (G__law_draw.mono (by decide)) hr hgd (by rfl) g__law_draw F__law_draw.kp b__law_draw (pa_cons (pv 1) (pa_cons pe_int pa_nil))) (pa_cons (pe_ifExp (pt_cmpR (op_eqX hr.units) (pe_callG (G__law_draw.mono (by decide)) hr hgd (by rfl) g__law_draw F__law_draw.kp b__law_draw (pa_cons (pv 1) (pa_cons pe_int pa_nil))) pe_int (nomark _)) pe_int pe_int) pa_nil)))))) (pg_name (i := 3) sc_law.nd rfl (Or.inl rfl))
 (pss_one (ps_if (pt_not (pt_val (pe_callG (G__law_are_bits_right.mono (by decide)) hr hgd (by rfl) g__law_are_bits_right F__law_are_bits_right.kp b__law_are_bits_right (pa_cons (pv 1) (pa_cons (pv 3) pa_nil)))))
 (pss_one (ps_ret pe_bl))
 pss_nil)))
 (pss_one (ps_ret (pe_cmpR (op_eqX hr.units) (pe_callB (cb_repr hgd hr.units) (by rfl) (B "repr" (by decide)) (by decide +kernel) (pa_cons (pe_callG (G_stretch.mono (by decide)) hr hgd (by rfl) g_stretch F_stretch.kp b_stretch (pa_cons (pv 2) (pa_cons (pe_tup pa_nil) pa_nil))) pa_nil)) (pe_callB (cb_repr hgd hr.units) (by rfl) (B "repr" (by decide)) (by decide +kernel) (pa_cons (pe_tup (pa_cons (pe_tup (pa_cons pe_int (pa_cons pe_int pa_nil))) (pa_cons (pe_tup (pa_cons pe_int (pa_cons pe_int pa_nil))) pa_nil))) pa_nil)) (nomark _))))))))), (by (try dsimp only [cxOf]); exact inferInstance), ?_⟩⟩
  intro xs μ Q hS
  obtain ⟨_, ns, rfl, rfl, hQ⟩ := hS
  rw [show startP N_law [.kl (ns.map PV.int)] = [some (.kl (ns.map PV.int)), none, none, none] from rfl]
  refine stm_of fun R1 hR1 => ?_
  simp only [str_to, str_ot, mPar3, mLockV, mLockE, mItemsC, mKeysC, mDGet2, pIsN, isNonP, pRepLM, mTruD, dkOfP, pPopAt, pIndex, mLstRgM, mTruth, pReprA, pLenD, pLstD, mDNew, pRepL, mLenSetN, mDIn, mSortSet, mSortSetL, mRevT, mForC, mSeqC, mLcC, pAbs, pMax2, pMin2, pInt1, mDGet, mDPut, mBM, mBM0, pPop, pAppend, pExtend, pSetL, mSub, mDisp, mPs, mPs0, mRevL, mRevLM, pLstOfM, mTupRg, mRg1, mRg2, pPlusM, lstItems, dictOfP, keyP, keysP, val_left, val_mixed, val_draws, put_draws, mLc, mLcM, mLc2, mFor, mSeqI, mRng1, mRng2, mZip, mEnum, mSl, mNoPart, mPart, mSeq, mAsg, mAsg2, mCB, mCons, mNil, mVar, mC, mOp, mUn, pU, mTup, mLst, mRet, mRetN, mLstM, getl, setl, mName, mCall, mCallK, mIf, mIfS, mTest, mAnd, mOr, mNot, mYes, mAndV, mOrV, mNotV, mNext, mNever, mBreak, mCont, mDrop, mChain, mPar, mGTup, mGCons, mGNil, pGcd, pI, pI0, pIx, pTimes, pPlus, pEq, pNe, pLen, pSum, pMaxS, pAll, pAny, pTupOf, pLstOf, pIn, pIsB, pIsi, items_tup, items_lst, items_kl, items_mr, items_tab, items_lot, items_fr, decide_true, decide_false, eqP_int, eqP_bl, eqP_str, eqP_tup2, kit_tt, kit_ii, kit_ib, tyP, mEnd, wipeP, List.map_cons, List.map_nil, List.getElem?_cons_zero, List.getElem?_cons_succ, List.set_cons_zero, List.set_cons_succ, atI_zero, atI_one, if_true, if_false, ite_true, ite_false, Bool.false_eq_true, List.length_cons, List.length_nil, Bool.not_true, Bool.not_false, S__law_deck]
  refine ⟨trivial, ns, rfl, trivial, fun m μ1 D1 => ?_⟩
  subst hR1
  refine stm_of fun R2 hR2 => ?_
  simp only [str_to, str_ot, mPar3, mLockV, mLockE, mItemsC, mKeysC, mDGet2, pIsN, isNonP, pRepLM, mTruD, dkOfP, pPopAt, pIndex, mLstRgM, mTruth, pReprA, pLenD, pLstD, mDNew, pRepL, mLenSetN, mDIn, mSortSet, mSortSetL, mRevT, mForC, mSeqC, mLcC, pAbs, pMax2, pMin2, pInt1, mDGet, mDPut, mBM, mBM0, pPop, pAppend, pExtend, pSetL, mSub, mDisp, mPs, mPs0, mRevL, mRevLM, pLstOfM, mTupRg, mRg1, mRg2, pPlusM, lstItems, dictOfP, keyP, keysP, val_left, val_mixed, val_draws, put_draws, mLc, mLcM, mLc2, mFor, mSeqI, mRng1, mRng2, mZip, mEnum, mSl, mNoPart, mPart, mSeq, mAsg, mAsg2, mCB, mCons, mNil, mVar, mC, mOp, mUn, pU, mTup, mLst, mRet, mRetN, mLstM, getl, setl, mName, mCall, mCallK, mIf, mIfS, mTest, mAnd, mOr, mNot, mYes, mAndV, mOrV, mNotV, mNext, mNever, mBreak, mCont, mDrop, mChain, mPar, mGTup, mGCons, mGNil, pGcd, pI, pI0, pIx, pTimes, pPlus, pEq, pNe, pLen, pSum, pMaxS, pAll, pAny, pTupOf, pLstOf, pIn, pIsB, pIsi, items_tup, items_lst, items_kl, items_mr, items_tab, items_lot, items_fr, decide_true, decide_false, eqP_int, eqP_bl, eqP_str, eqP_tup2, kit_tt, kit_ii, kit_ib, tyP, mEnd, wipeP, List.map_cons, List.map_nil, List.getElem?_cons_zero, List.getElem?_cons_succ, List.set_cons_zero, List.set_cons_succ, atI_zero, atI_one, if_true, if_false, ite_true, ite_false, Bool.false_eq_true, List.length_cons, List.length_nil, Bool.not_true, Bool.not_false, S__law_model, S__law_chances]
  refine ⟨trivial, rfl, rfl, fun Bs c1 c2 c3 => ⟨trivial, 6, m, [], Bs, rfl, D1, by decide, by decide, c1, by omega, c3, fun n M g μ2 hM n5 D2 => ?_⟩⟩
  rw [List.nil_append] at D2
  subst hR2
  refine stm_of fun R3 hR3 => ?_
  refine for_of fun F hF => ?_
  have hloop : ∀ (z t : Nat) (ν : Store), z ≤ 12 → t ≤ 39 → Dk m g ν → F [.int 0, .int 1, .int 3, .int (z : Nat), .int (t : Nat)] ν := by
    intro z t ν hz ht D
    subst hF
    show mForL _ _ _ ([0, 1, 3, z, t].map fun (i : Nat) => PV.int i) _ _
    refine for_inv (enc := fun (i : Nat) => PV.int i) (fun pre ρ μ' => (∃ (y3 : Option PV), ρ = [some (.kl (ns.map PV.int)), some (.mr 1), some (mdlP M), y3]) ∧ Dk m g μ') (done := []) ⟨⟨_, rfl⟩, D⟩ (fun pre i post ρ μ3 e hI N hN => ?_) fun ρ μ3 hI => ?_
    · obtain ⟨⟨y3, rfl⟩, D3⟩ := hI
      have hi : i ≤ 39 := by
        have : i ∈ [0, 1, 3, z, t] := by rw [show [0, 1, 3, z, t] = pre ++ i :: post from e]; simp
        simp only [List.mem_cons, List.not_mem_nil, or_false] at this
        omega
      simp only [str_to, str_ot, mPar3, mLockV, mLockE, mItemsC, mKeysC, mDGet2, pIsN, isNonP, pRepLM, mTruD, dkOfP, pPopAt, pIndex, mLstRgM, mTruth, pReprA, pLenD, pLstD, mDNew, pRepL, mLenSetN, mDIn, mSortSet, mSortSetL, mRevT, mForC, mSeqC, mLcC, pAbs, pMax2, pMin2, pInt1, mDGet, mDPut, mBM, mBM0, pPop, pAppend, pExtend, pSetL, mSub, mDisp, mPs, mPs0, mRevL, mRevLM, pLstOfM, mTupRg, mRg1, mRg2, pPlusM, lstItems, dictOfP, keyP, keysP, val_left, val_mixed, val_draws, put_draws, mLc, mLcM, mLc2, mFor, mSeqI, mRng1, mRng2, mZip, mEnum, mSl, mNoPart, mPart, mSeq, mAsg, mAsg2, mCB, mCons, mNil, mVar, mC, mOp, mUn, pU, mTup, mLst, mRet, mRetN, mLstM, getl, setl, mName, mCall, mCallK, mIf, mIfS, mTest, mAnd, mOr, mNot, mYes, mAndV, mOrV, mNotV, mNext, mNever, mBreak, mCont, mDrop, mChain, mPar, mGTup, mGCons, mGNil, pGcd, pI, pI0, pIx, pTimes, pPlus, pEq, pNe, pLen, pSum, pMaxS, pAll, pAny, pTupOf, pLstOf, pIn, pIsB, pIsi, items_tup, items_lst, items_kl, items_mr, items_tab, items_lot, items_fr, decide_true, decide_false, eqP_int, eqP_bl, eqP_str, eqP_tup2, kit_tt, kit_ii, kit_ib, tyP, mEnd, wipeP, List.map_cons, List.map_nil, List.getElem?_cons_zero, List.getElem?_cons_succ, List.set_cons_zero, List.set_cons_succ, atI_zero, atI_one, if_true, if_false, ite_true, ite_false, Bool.false_eq_true, List.length_cons, List.length_nil, Bool.not_true, Bool.not_false, S__law_is_right, S__law_way]
      exact ⟨trivial, n, i, M, m, g, rfl, hM, by omega, D3, fun w μ4 w1 w2 D4 => ⟨trivial, n, M, w, rfl, hM, w1, by omega, hN _ _ ⟨⟨_, rfl⟩, D4⟩⟩⟩
    · obtain ⟨⟨y3, rfl⟩, D3⟩ := hI
      show R3 _ _
      subst hR3
      refine stm_of fun R4 hR4 => ?_
      simp only [str_to, str_ot, mPar3, mLockV, mLockE, mItemsC, mKeysC, mDGet2, pIsN, isNonP, pRepLM, mTruD, dkOfP, pPopAt, pIndex, mLstRgM, mTruth, pReprA, pLenD, pLstD, mDNew, pRepL, mLenSetN, mDIn, mSortSet, mSortSetL, mRevT, mForC, mSeqC, mLcC, pAbs, pMax2, pMin2, pInt1, mDGet, mDPut, mBM, mBM0, pPop, pAppend, pExtend, pSetL, mSub, mDisp, mPs, mPs0, mRevL, mRevLM, pLstOfM, mTupRg, mRg1, mRg2, pPlusM, lstItems, dictOfP, keyP, keysP, val_left, val_mixed, val_draws, put_draws, mLc, mLcM, mLc2, mFor, mSeqI, mRng1, mRng2, mZip, mEnum, mSl, mNoPart, mPart, mSeq, mAsg, mAsg2, mCB, mCons, mNil, mVar, mC, mOp, mUn, pU, mTup, mLst, mRet, mRetN, mLstM, getl, setl, mName, mCall, mCallK, mIf, mIfS, mTest, mAnd, mOr, mNot, mYes, mAndV, mOrV, mNotV, mNext, mNever, mBreak, mCont, mDrop, mChain, mPar, mGTup, mGCons, mGNil, pGcd, pI, pI0, pIx, pTimes, pPlus, pEq, pNe, pLen, pSum, pMaxS, pAll, pAny, pTupOf, pLstOf, pIn, pIsB, pIsi, items_tup, items_lst, items_kl, items_mr, items_tab, items_lot, items_fr, decide_true, decide_false, eqP_int, eqP_bl, eqP_str, eqP_tup2, kit_tt, kit_ii, kit_ib, tyP, mEnd, wipeP, List.map_cons, List.map_nil, List.getElem?_cons_zero, List.getElem?_cons_succ, List.set_cons_zero, List.set_cons_succ, atI_zero, atI_one, if_true, if_false, ite_true, ite_false, Bool.false_eq_true, List.length_cons, List.length_nil, Bool.not_true, Bool.not_false]
      refine ⟨by decide, ?_⟩
      rw [show (Int.toNat 5) = 5 from rfl, rangeP_eq]
      refine for_inv (enc := fun (i : Nat) => PV.int i) (fun pre ρ μ' => (∃ (y3 : Option PV), ρ = [some (.kl (ns.map PV.int)), some (.mr 1), some (mdlP M), y3]) ∧ Dk m g μ') (done := []) ⟨⟨_, rfl⟩, D3⟩ (fun pre i post ρ μ4 e hI N hN => ?_) fun ρ μ4 hI => ?_
      · obtain ⟨⟨y3, rfl⟩, D4⟩ := hI
        have hi : i < 5 := by
          have : i ∈ List.range 5 := by rw [show List.range 5 = pre ++ i :: post from e]; simp
          exact List.mem_range.mp this
        simp only [str_to, str_ot, mPar3, mLockV, mLockE, mItemsC, mKeysC, mDGet2, pIsN, isNonP, pRepLM, mTruD, dkOfP, pPopAt, pIndex, mLstRgM, mTruth, pReprA, pLenD, pLstD, mDNew, pRepL, mLenSetN, mDIn, mSortSet, mSortSetL, mRevT, mForC, mSeqC, mLcC, pAbs, pMax2, pMin2, pInt1, mDGet, mDPut, mBM, mBM0, pPop, pAppend, pExtend, pSetL, mSub, mDisp, mPs, mPs0, mRevL, mRevLM, pLstOfM, mTupRg, mRg1, mRg2, pPlusM, lstItems, dictOfP, keyP, keysP, val_left, val_mixed, val_draws, put_draws, mLc, mLcM, mLc2, mFor, mSeqI, mRng1, mRng2, mZip, mEnum, mSl, mNoPart, mPart, mSeq, mAsg, mAsg2, mCB, mCons, mNil, mVar, mC, mOp, mUn, pU, mTup, mLst, mRet, mRetN, mLstM, getl, setl, mName, mCall, mCallK, mIf, mIfS, mTest, mAnd, mOr, mNot, mYes, mAndV, mOrV, mNotV, mNext, mNever, mBreak, mCont, mDrop, mChain, mPar, mGTup, mGCons, mGNil, pGcd, pI, pI0, pIx, pTimes, pPlus, pEq, pNe, pLen, pSum, pMaxS, pAll, pAny, pTupOf, pLstOf, pIn, pIsB, pIsi, items_tup, items_lst, items_kl, items_mr, items_tab, items_lot, items_fr, decide_true, decide_false, eqP_int, eqP_bl, eqP_str, eqP_tup2, kit_tt, kit_ii, kit_ib, tyP, mEnd, wipeP, List.map_cons, List.map_nil, List.getElem?_cons_zero, List.getElem?_cons_succ, List.set_cons_zero, List.set_cons_succ, atI_zero, atI_one, if_true, if_false, ite_true, ite_false, Bool.false_eq_true, List.length_cons, List.length_nil, Bool.not_true, Bool.not_false, S__law_are_few, S__law_lie_beside]
        refine ⟨trivial, n, M, i, rfl, hM, by omega, ?_⟩
        by_cases c : n ^ i ≤ 60
        · rw [decide_eq_true c, if_pos rfl]
          exact ⟨trivial, n, i, M, rfl, hM, by omega, c, hN _ _ ⟨⟨_, rfl⟩, D4⟩⟩
        · rw [decide_eq_false c, if_neg (by decide)]
          exact hN _ _ ⟨⟨_, rfl⟩, D4⟩
      · obtain ⟨⟨y3, rfl⟩, D4⟩ := hI
        show R4 _ _
        subst hR4
        refine stm_of fun R5 hR5 => ?_
        refine for_of fun F hF => ?_
        have hloop : ∀ (z t : Nat) (ν : Store), z ≤ 12 → t ≤ 398 → Dk m g ν → F [.int 0, .int 1, .int (z : Nat), .int (t : Nat)] ν := by
          intro z t ν hz ht D
          subst hF
          show mForL _ _ _ ([0, 1, z, t].map fun (i : Nat) => PV.int i) _ _
          refine for_inv (enc := fun (i : Nat) => PV.int i) (fun pre ρ μ' => (∃ (y3 : Option PV), ρ = [some (.kl (ns.map PV.int)), some (.mr 1), some (mdlP M), y3]) ∧ Dk m g μ') (done := []) ⟨⟨_, rfl⟩, D⟩ (fun pre i post ρ μ3 e hI N hN => ?_) fun ρ μ3 hI => ?_
          · obtain ⟨⟨y3, rfl⟩, D3⟩ := hI
            have hi : i ≤ 398 := by
              have : i ∈ [0, 1, z, t] := by rw [show [0, 1, z, t] = pre ++ i :: post from e]; simp
              simp only [List.mem_cons, List.not_mem_nil, or_false] at this
              omega
            simp only [str_to, str_ot, mPar3, mLockV, mLockE, mItemsC, mKeysC, mDGet2, pIsN, isNonP, pRepLM, mTruD, dkOfP, pPopAt, pIndex, mLstRgM, mTruth, pReprA, pLenD, pLstD, mDNew, pRepL, mLenSetN, mDIn, mSortSet, mSortSetL, mRevT, mForC, mSeqC, mLcC, pAbs, pMax2, pMin2, pInt1, mDGet, mDPut, mBM, mBM0, pPop, pAppend, pExtend, pSetL, mSub, mDisp, mPs, mPs0, mRevL, mRevLM, pLstOfM, mTupRg, mRg1, mRg2, pPlusM, lstItems, dictOfP, keyP, keysP, val_left, val_mixed, val_draws, put_draws, mLc, mLcM, mLc2, mFor, mSeqI, mRng1, mRng2, mZip, mEnum, mSl, mNoPart, mPart, mSeq, mAsg, mAsg2, mCB, mCons, mNil, mVar, mC, mOp, mUn, pU, mTup, mLst, mRet, mRetN, mLstM, getl, setl, mName, mCall, mCallK, mIf, mIfS, mTest, mAnd, mOr, mNot, mYes, mAndV, mOrV, mNotV, mNext, mNever, mBreak, mCont, mDrop, mChain, mPar, mGTup, mGCons, mGNil, pGcd, pI, pI0, pIx, pTimes, pPlus, pEq, pNe, pLen, pSum, pMaxS, pAll, pAny, pTupOf, pLstOf, pIn, pIsB, pIsi, items_tup, items_lst, items_kl, items_mr, items_tab, items_lot, items_fr, decide_true, decide_false, eqP_int, eqP_bl, eqP_str, eqP_tup2, kit_tt, kit_ii, kit_ib, tyP, mEnd, wipeP, List.map_cons, List.map_nil, List.getElem?_cons_zero, List.getElem?_cons_succ, List.set_cons_zero, List.set_cons_succ, atI_zero, atI_one, if_true, if_false, ite_true, ite_false, Bool.false_eq_true, List.length_cons, List.length_nil, Bool.not_true, Bool.not_false, S__law_are_bits_right]
            exact ⟨trivial, i, m, g, rfl, D3, by omega, fun μ5 D5 => hN _ _ ⟨⟨_, rfl⟩, D5⟩⟩
          · obtain ⟨⟨y3, rfl⟩, D3⟩ := hI
            show R5 _ _
            subst hR5
            simp only [str_to, str_ot, mPar3, mLockV, mLockE, mItemsC, mKeysC, mDGet2, pIsN, isNonP, pRepLM, mTruD, dkOfP, pPopAt, pIndex, mLstRgM, mTruth, pReprA, pLenD, pLstD, mDNew, pRepL, mLenSetN, mDIn, mSortSet, mSortSetL, mRevT, mForC, mSeqC, mLcC, pAbs, pMax2, pMin2, pInt1, mDGet, mDPut, mBM, mBM0, pPop, pAppend, pExtend, pSetL, mSub, mDisp, mPs, mPs0, mRevL, mRevLM, pLstOfM, mTupRg, mRg1, mRg2, pPlusM, lstItems, dictOfP, keyP, keysP, val_left, val_mixed, val_draws, put_draws, mLc, mLcM, mLc2, mFor, mSeqI, mRng1, mRng2, mZip, mEnum, mSl, mNoPart, mPart, mSeq, mAsg, mAsg2, mCB, mCons, mNil, mVar, mC, mOp, mUn, pU, mTup, mLst, mRet, mRetN, mLstM, getl, setl, mName, mCall, mCallK, mIf, mIfS, mTest, mAnd, mOr, mNot, mYes, mAndV, mOrV, mNotV, mNext, mNever, mBreak, mCont, mDrop, mChain, mPar, mGTup, mGCons, mGNil, pGcd, pI, pI0, pIx, pTimes, pPlus, pEq, pNe, pLen, pSum, pMaxS, pAll, pAny, pTupOf, pLstOf, pIn, pIsB, pIsi, items_tup, items_lst, items_kl, items_mr, items_tab, items_lot, items_fr, decide_true, decide_false, eqP_int, eqP_bl, eqP_str, eqP_tup2, kit_tt, kit_ii, kit_ib, tyP, mEnd, wipeP, List.map_cons, List.map_nil, List.getElem?_cons_zero, List.getElem?_cons_succ, List.set_cons_zero, List.set_cons_succ, atI_zero, atI_one, if_true, if_false, ite_true, ite_false, Bool.false_eq_true, List.length_cons, List.length_nil, Bool.not_true, Bool.not_false, S_stretch]
            have z0 : Sm 1900 ((0 : Rat), (1 : Rat)).1 := (sm_zero (n := 1)).mono (by decide)
            have z1 : Sm 1900 ((0 : Rat), (1 : Rat)).2 := Sm.mono (m := 2) ⟨by decide, by decide⟩ (by decide)
            have e9 : PV.tup [PV.tup [PV.int 0, PV.int 1], PV.tup [PV.int 1, PV.int 1]] = strP (0, 1) := rfl
            rw [e9]
            refine ⟨by decide, trivial, n, M, [], rfl, hM, rfl, by simp, pRepr_str z0 z1 ⟨by decide, by decide, by decide, pRepr_str z0 z1 ?_⟩⟩
            simp only [eqP_str, strF, decide_true]
            exact fin_keep (hQ _)
        simp only [str_to, str_ot, mPar3, mLockV, mLockE, mItemsC, mKeysC, mDGet2, pIsN, isNonP, pRepLM, mTruD, dkOfP, pPopAt, pIndex, mLstRgM, mTruth, pReprA, pLenD, pLstD, mDNew, pRepL, mLenSetN, mDIn, mSortSet, mSortSetL, mRevT, mForC, mSeqC, mLcC, pAbs, pMax2, pMin2, pInt1, mDGet, mDPut, mBM, mBM0, pPop, pAppend, pExtend, pSetL, mSub, mDisp, mPs, mPs0, mRevL, mRevLM, pLstOfM, mTupRg, mRg1, mRg2, pPlusM, lstItems, dictOfP, keyP, keysP, val_left, val_mixed, val_draws, put_draws, mLc, mLcM, mLc2, mFor, mSeqI, mRng1, mRng2, mZip, mEnum, mSl, mNoPart, mPart, mSeq, mAsg, mAsg2, mCB, mCons, mNil, mVar, mC, mOp, mUn, pU, mTup, mLst, mRet, mRetN, mLstM, getl, setl, mName, mCall, mCallK, mIf, mIfS, mTest, mAnd, mOr, mNot, mYes, mAndV, mOrV, mNotV, mNext, mNever, mBreak, mCont, mDrop, mChain, mPar, mGTup, mGCons, mGNil, pGcd, pI, pI0, pIx, pTimes, pPlus, pEq, pNe, pLen, pSum, pMaxS, pAll, pAny, pTupOf, pLstOf, pIn, pIsB, pIsi, items_tup, items_lst, items_kl, items_mr, items_tab, items_lot, items_fr, decide_true, decide_false, eqP_int, eqP_bl, eqP_str, eqP_tup2, kit_tt, kit_ii, kit_ib, tyP, mEnd, wipeP, List.map_cons, List.map_nil, List.getElem?_cons_zero, List.getElem?_cons_succ, List.set_cons_zero, List.set_cons_succ, atI_zero, atI_one, if_true, if_false, ite_true, ite_false, Bool.false_eq_true, List.length_cons, List.length_nil, Bool.not_true, Bool.not_false, S__law_draw]
        refine ⟨trivial, 12, m, g, rfl, D4, by decide, by decide, fun z μ5 z0 z1 D5 => ⟨trivial, 8, m, g, rfl, D5, by decide, by decide, fun y μ6 y0 y1 D6 => ?_⟩⟩
        obtain ⟨z, rfl⟩ : ∃ i : Nat, z = (i : Int) := ⟨z.toNat, by omega⟩
        split
        · exact ⟨by decide, hloop z 398 _ (by omega) (by decide) D6⟩
        · exact ⟨by decide, hloop z 30 _ (by omega) (by decide) D6⟩
  simp only [str_to, str_ot, mPar3, mLockV, mLockE, mItemsC, mKeysC, mDGet2, pIsN, isNonP, pRepLM, mTruD, dkOfP, pPopAt, pIndex, mLstRgM, mTruth, pReprA, pLenD, pLstD, mDNew, pRepL, mLenSetN, mDIn, mSortSet, mSortSetL, mRevT, mForC, mSeqC, mLcC, pAbs, pMax2, pMin2, pInt1, mDGet, mDPut, mBM, mBM0, pPop, pAppend, pExtend, pSetL, mSub, mDisp, mPs, mPs0, mRevL, mRevLM, pLstOfM, mTupRg, mRg1, mRg2, pPlusM, lstItems, dictOfP, keyP, keysP, val_left, val_mixed, val_draws, put_draws, mLc, mLcM, mLc2, mFor, mSeqI, mRng1, mRng2, mZip, mEnum, mSl, mNoPart, mPart, mSeq, mAsg, mAsg2, mCB, mCons, mNil, mVar, mC, mOp, mUn, pU, mTup, mLst, mRet, mRetN, mLstM, getl, setl, mName, mCall, mCallK, mIf, mIfS, mTest, mAnd, mOr, mNot, mYes, mAndV, mOrV, mNotV, mNext, mNever, mBreak, mCont, mDrop, mChain, mPar, mGTup, mGCons, mGNil, pGcd, pI, pI0, pIx, pTimes, pPlus, pEq, pNe, pLen, pSum, pMaxS, pAll, pAny, pTupOf, pLstOf, pIn, pIsB, pIsi, items_tup, items_lst, items_kl, items_mr, items_tab, items_lot, items_fr, decide_true, decide_false, eqP_int, eqP_bl, eqP_str, eqP_tup2, kit_tt, kit_ii, kit_ib, tyP, mEnd, wipeP, List.map_cons, List.map_nil, List.getElem?_cons_zero, List.getElem?_cons_succ, List.set_cons_zero, List.set_cons_succ, atI_zero, atI_one, if_true, if_false, ite_true, ite_false, Bool.false_eq_true, List.length_cons, List.length_nil, Bool.not_true, Bool.not_false, S__law_draw]
  refine ⟨trivial, 12, m, g, rfl, D2, by decide, by decide, fun z μ3 z0 z1 D3 => ⟨trivial, 5, m, g, rfl, D3, by decide, by decide, fun y μ4 y0 y1 D4 => ?_⟩⟩
  obtain ⟨z, rfl⟩ : ∃ i : Nat, z = (i : Int) := ⟨z.toNat, by omega⟩
  split
  · exact ⟨by decide, hloop z 39 _ (by omega) (by decide) D4⟩
  · exact ⟨by decide, hloop z 6 _ (by omega) (by decide) D4⟩
theorem all_ok (B : Blt mg) (o__law_deck : Own K mg "_law_deck" s__law_deck) (o__law_draw : Own K mg "_law_draw" s__law_draw) (o__law_common : Own K mg "_law_common" s__law_common) (o__law_chances : Own K mg "_law_chances" s__law_chances) (o_is_integer : Own K mg "is_integer" s_is_integer) (o_lowest : Own K mg "lowest" s_lowest) (o__law_is_integer : Own K mg "_law_is_integer" s__law_is_integer) (o__law_is_less : Own K mg "_law_is_less" s__law_is_less) (o__law_are_few : Own K mg "_law_are_few" s__law_are_few) (o_in_base_two : Own K mg "in_base_two" s_in_base_two) (o__law_ways : Own K mg "_law_ways" s__law_ways) (o__law_pick : Own K mg "_law_pick" s__law_pick) (o__law_fraction : Own K mg "_law_fraction" s__law_fraction) (o_is_within : Own K mg "is_within" s_is_within) (o_is_fraction : Own K mg "is_fraction" s_is_fraction) (o_added : Own K mg "added" s_added) (o_times : Own K mg "times" s_times) (o__law_is_way : Own K mg "_law_is_way" s__law_is_way) (o__law_bits : Own K mg "_law_bits" s__law_bits) (o__law_table : Own K mg "_law_table" s__law_table) (o__law_plus : Own K mg "_law_plus" s__law_plus) (o__law_times : Own K mg "_law_times" s__law_times) (o_are_integers : Own K mg "are_integers" s_are_integers) (o_is_amount : Own K mg "is_amount" s_is_amount) (o_total : Own K mg "total" s_total) (o__law_bits_stretch : Own K mg "_law_bits_stretch" s__law_bits_stretch) (o__law_way : Own K mg "_law_way" s__law_way) (o__law_model : Own K mg "_law_model" s__law_model) (o__law_total : Own K mg "_law_total" s__law_total) (o_are_amounts : Own K mg "are_amounts" s_are_amounts) (o_is_way_of : Own K mg "is_way_of" s_is_way_of) (o_stretch_behind : Own K mg "stretch_behind" s_stretch_behind) (o__law_lies : Own K mg "_law_lies" s__law_lies) (o_are_bits : Own K mg "are_bits" s_are_bits) (o__law_stretch : Own K mg "_law_stretch" s__law_stretch) (o_is_table : Own K mg "is_table" s_is_table) (o_check_bits : Own K mg "check_bits" s_check_bits) (o_is_state : Own K mg "is_state" s_is_state) (o_bits_stretch : Own K mg "bits_stretch" s_bits_stretch) (o_are_states : Own K mg "are_states" s_are_states) (o_check_model : Own K mg "check_model" s_check_model) (o_check_way : Own K mg "check_way" s_check_way) (o_stretch : Own K mg "stretch" s_stretch) (o__law_is_right : Own K mg "_law_is_right" s__law_is_right) (o__law_are_bits_right : Own K mg "_law_are_bits_right" s__law_are_bits_right) (o__law_lie_beside : Own K mg "_law_lie_beside" s__law_lie_beside) (o_law : Own K mg "law" s_law) (i_gcd : mg "gcd" = some (.builtin "math.gcd")) {t_MOST_OUTCOMES : Tok} (c_MOST_OUTCOMES : mg "MOST_OUTCOMES" = some (.int 8 t_MOST_OUTCOMES)) : Ok P w K mg base 12 "law" s_law ["_law_script"] S_law := by
  have k__law_deck : Ok P w K mg base 1 "_law_deck" s__law_deck ["_law_script"] S__law_deck := ok__law_deck B o__law_deck 
  have k__law_draw : Ok P w K mg base 1 "_law_draw" s__law_draw ["_law_deck_here", "_law_many"] S__law_draw := ok__law_draw B o__law_draw 
  have k__law_common : Ok P w K mg base 1 "_law_common" s__law_common ["_law_one", "_law_other"] S__law_common := ok__law_common B o__law_common 
  have k__law_chances : Ok P w K mg base 1 "_law_chances" s__law_chances [] S__law_chances := ok__law_chances B o__law_chances 
  have k_is_integer : Ok P w K mg base 1 "is_integer" s_is_integer ["thing"] S_is_integer := ok_is_integer B o_is_integer 
  have k_lowest : Ok P w K mg base 1 "lowest" s_lowest ["top", "bottom"] S_lowest := ok_lowest B o_lowest i_gcd
  have k__law_is_integer : Ok P w K mg base 1 "_law_is_integer" s__law_is_integer ["_law_thing"] S__law_is_integer := ok__law_is_integer B o__law_is_integer 
  have k__law_is_less : Ok P w K mg base 1 "_law_is_less" s__law_is_less ["_law_one", "_law_other"] S__law_is_less := ok__law_is_less B o__law_is_less 
  have k__law_are_few : Ok P w K mg base 1 "_law_are_few" s__law_are_few ["_law_model_here", "_law_many"] S__law_are_few := ok__law_are_few B o__law_are_few 
  have k_in_base_two : Ok P w K mg base 1 "in_base_two" s_in_base_two ["numbers"] S_in_base_two := ok_in_base_two B o_in_base_two 
  have k__law_ways : Ok P w K mg base 1 "_law_ways" s__law_ways ["_law_model_here", "_law_many"] S__law_ways := ok__law_ways B o__law_ways 
  have k__law_pick : Ok P w K mg base 2 "_law_pick" s__law_pick ["_law_deck_here", "_law_some"] S__law_pick := ok__law_pick B o__law_pick k__law_draw
  have k__law_fraction : Ok P w K mg base 2 "_law_fraction" s__law_fraction ["_law_top", "_law_bottom"] S__law_fraction := ok__law_fraction B o__law_fraction k__law_common
  have k_is_within : Ok P w K mg base 2 "is_within" s_is_within ["thing", "low", "high"] S_is_within := ok_is_within B o_is_within k_is_integer
  have k_is_fraction : Ok P w K mg base 2 "is_fraction" s_is_fraction ["thing"] S_is_fraction := ok_is_fraction B o_is_fraction k_is_integer i_gcd
  have k_added : Ok P w K mg base 2 "added" s_added ["one", "other"] S_added := ok_added B o_added k_lowest
  have k_times : Ok P w K mg base 2 "times" s_times ["one", "other"] S_times := ok_times B o_times k_lowest
  have k__law_is_way : Ok P w K mg base 2 "_law_is_way" s__law_is_way ["_law_model_here", "_law_thing"] S__law_is_way := ok__law_is_way B o__law_is_way k__law_is_integer
  have k__law_bits : Ok P w K mg base 2 "_law_bits" s__law_bits ["_law_deck_here", "_law_many"] S__law_bits := ok__law_bits B o__law_bits k__law_draw
  have k__law_table : Ok P w K mg base 3 "_law_table" s__law_table ["_law_deck_here", "_law_n", "_law_bottoms"] S__law_table := ok__law_table B o__law_table k__law_pick k__law_draw k__law_fraction
  have k__law_plus : Ok P w K mg base 3 "_law_plus" s__law_plus ["_law_one", "_law_other"] S__law_plus := ok__law_plus B o__law_plus k__law_fraction
  have k__law_times : Ok P w K mg base 3 "_law_times" s__law_times ["_law_one", "_law_other"] S__law_times := ok__law_times B o__law_times k__law_fraction
  have k_are_integers : Ok P w K mg base 3 "are_integers" s_are_integers ["thing", "low", "high"] S_are_integers := ok_are_integers B o_are_integers k_is_within
  have k_is_amount : Ok P w K mg base 3 "is_amount" s_is_amount ["thing"] S_is_amount := ok_is_amount B o_is_amount k_is_fraction
  have k_total : Ok P w K mg base 3 "total" s_total ["fractions"] S_total := ok_total B o_total k_added
  have k__law_bits_stretch : Ok P w K mg base 3 "_law_bits_stretch" s__law_bits_stretch ["_law_bits_here"] S__law_bits_stretch := ok__law_bits_stretch B o__law_bits_stretch k__law_fraction
  have k__law_way : Ok P w K mg base 3 "_law_way" s__law_way ["_law_deck_here", "_law_model_here", "_law_many"] S__law_way := ok__law_way B o__law_way k__law_pick
  have k__law_model : Ok P w K mg base 4 "_law_model" s__law_model ["_law_deck_here", "_law_states", "_law_bottoms"] S__law_model := ok__law_model B o__law_model k__law_pick k__law_draw k__law_table
  have k__law_total : Ok P w K mg base 4 "_law_total" s__law_total ["_law_some"] S__law_total := ok__law_total B o__law_total k__law_plus
  have k_are_amounts : Ok P w K mg base 4 "are_amounts" s_are_amounts ["thing", "many"] S_are_amounts := ok_are_amounts B o_are_amounts k_is_amount
  have k_is_way_of : Ok P w K mg base 4 "is_way_of" s_is_way_of ["model", "thing"] S_is_way_of := ok_is_way_of B o_is_way_of k_are_integers
  have k_stretch_behind : Ok P w K mg base 4 "stretch_behind" s_stretch_behind ["found", "table", "i"] S_stretch_behind := ok_stretch_behind B o_stretch_behind k_times k_added k_total
  have k__law_lies : Ok P w K mg base 4 "_law_lies" s__law_lies ["_law_inner", "_law_outer"] S__law_lies := ok__law_lies B o__law_lies k__law_is_less k__law_plus
  have k_are_bits : Ok P w K mg base 4 "are_bits" s_are_bits ["thing"] S_are_bits := ok_are_bits B o_are_bits k_are_integers
  have k__law_stretch : Ok P w K mg base 5 "_law_stretch" s__law_stretch ["_law_model_here", "_law_way_here"] S__law_stretch := ok__law_stretch B o__law_stretch k__law_plus k__law_times k__law_total
  have k_is_table : Ok P w K mg base 5 "is_table" s_is_table ["thing"] S_is_table := ok_is_table B o_is_table k_total k_are_amounts c_MOST_OUTCOMES
  have k_check_bits : Ok P w K mg base 5 "check_bits" s_check_bits ["bits"] S_check_bits := ok_check_bits B o_check_bits k_are_bits
  have k_is_state : Ok P w K mg base 6 "is_state" s_is_state ["thing", "many"] S_is_state := ok_is_state B o_is_state k_is_table k_are_integers
  have k_bits_stretch : Ok P w K mg base 6 "bits_stretch" s_bits_stretch ["bits"] S_bits_stretch := ok_bits_stretch B o_bits_stretch k_check_bits k_lowest k_in_base_two
  have k_are_states : Ok P w K mg base 7 "are_states" s_are_states ["thing"] S_are_states := ok_are_states B o_are_states k_is_state
  have k_check_model : Ok P w K mg base 8 "check_model" s_check_model ["model"] S_check_model := ok_check_model B o_check_model k_are_states
  have k_check_way : Ok P w K mg base 9 "check_way" s_check_way ["model", "way"] S_check_way := ok_check_way B o_check_way k_check_model k_is_way_of
  have k_stretch : Ok P w K mg base 10 "stretch" s_stretch ["model", "way"] S_stretch := ok_stretch B o_stretch k_check_way k_stretch_behind
  have k__law_is_right : Ok P w K mg base 11 "_law_is_right" s__law_is_right ["_law_deck_here", "_law_model_here", "_law_way_here"] S__law_is_right := ok__law_is_right B o__law_is_right k__law_stretch k_stretch k__law_is_way k__law_lies k__law_total
  have k__law_are_bits_right : Ok P w K mg base 11 "_law_are_bits_right" s__law_are_bits_right ["_law_deck_here", "_law_many"] S__law_are_bits_right := ok__law_are_bits_right B o__law_are_bits_right k__law_bits k__law_bits_stretch k_bits_stretch k_stretch k__law_draw k__law_lies
  have k__law_lie_beside : Ok P w K mg base 11 "_law_lie_beside" s__law_lie_beside ["_law_model_here", "_law_many"] S__law_lie_beside := ok__law_lie_beside B o__law_lie_beside k__law_ways k_stretch k__law_is_less k__law_plus
  have k_law : Ok P w K mg base 12 "law" s_law ["_law_script"] S_law := ok_law B o_law k__law_deck k__law_model k__law_chances k__law_draw k__law_is_right k__law_way k__law_lie_beside k__law_are_few k__law_are_bits_right k_stretch
  exact k_law
end
end K51
namespace K51
open PySem PySem.Spec PyProof.Rows L2 RZ Fx MR
theorem all_mk {P : Program} {w : World} {K : PySem.W.Frag} {h : Heap} {mg : Str → Option Value} {fa : Addr} (X : K.In h) (G : h.Ns mainGlobals mg) (hfa : mg "law" = some (.ref fa))
    (o__law_deck : Own K mg "_law_deck" s__law_deck)
    (o__law_draw : Own K mg "_law_draw" s__law_draw)
    (o__law_common : Own K mg "_law_common" s__law_common)
    (o__law_chances : Own K mg "_law_chances" s__law_chances)
    (o_is_integer : Own K mg "is_integer" s_is_integer)
    (o_lowest : Own K mg "lowest" s_lowest)
    (o__law_is_integer : Own K mg "_law_is_integer" s__law_is_integer)
    (o__law_is_less : Own K mg "_law_is_less" s__law_is_less)
    (o__law_are_few : Own K mg "_law_are_few" s__law_are_few)
    (o_in_base_two : Own K mg "in_base_two" s_in_base_two)
    (o__law_ways : Own K mg "_law_ways" s__law_ways)
    (o__law_pick : Own K mg "_law_pick" s__law_pick)
    (o__law_fraction : Own K mg "_law_fraction" s__law_fraction)
    (o_is_within : Own K mg "is_within" s_is_within)
    (o_is_fraction : Own K mg "is_fraction" s_is_fraction)
    (o_added : Own K mg "added" s_added)
    (o_times : Own K mg "times" s_times)
    (o__law_is_way : Own K mg "_law_is_way" s__law_is_way)
    (o__law_bits : Own K mg "_law_bits" s__law_bits)
    (o__law_table : Own K mg "_law_table" s__law_table)
    (o__law_plus : Own K mg "_law_plus" s__law_plus)
    (o__law_times : Own K mg "_law_times" s__law_times)
    (o_are_integers : Own K mg "are_integers" s_are_integers)
    (o_is_amount : Own K mg "is_amount" s_is_amount)
    (o_total : Own K mg "total" s_total)
    (o__law_bits_stretch : Own K mg "_law_bits_stretch" s__law_bits_stretch)
    (o__law_way : Own K mg "_law_way" s__law_way)
    (o__law_model : Own K mg "_law_model" s__law_model)
    (o__law_total : Own K mg "_law_total" s__law_total)
    (o_are_amounts : Own K mg "are_amounts" s_are_amounts)
    (o_is_way_of : Own K mg "is_way_of" s_is_way_of)
    (o_stretch_behind : Own K mg "stretch_behind" s_stretch_behind)
    (o__law_lies : Own K mg "_law_lies" s__law_lies)
    (o_are_bits : Own K mg "are_bits" s_are_bits)
    (o__law_stretch : Own K mg "_law_stretch" s__law_stretch)
    (o_is_table : Own K mg "is_table" s_is_table)
    (o_check_bits : Own K mg "check_bits" s_check_bits)
    (o_is_state : Own K mg "is_state" s_is_state)
    (o_bits_stretch : Own K mg "bits_stretch" s_bits_stretch)
    (o_are_states : Own K mg "are_states" s_are_states)
    (o_check_model : Own K mg "check_model" s_check_model)
    (o_check_way : Own K mg "check_way" s_check_way)
    (o_stretch : Own K mg "stretch" s_stretch)
    (o__law_is_right : Own K mg "_law_is_right" s__law_is_right)
    (o__law_are_bits_right : Own K mg "_law_are_bits_right" s__law_are_bits_right)
    (o__law_lie_beside : Own K mg "_law_lie_beside" s__law_lie_beside)
    (o_law : Own K mg "law" s_law)
    (z_abs : PySem.W.nsIn K mainGlobals "abs" = some none)
    (z_len : PySem.W.nsIn K mainGlobals "len" = some none)
    (z_sum : PySem.W.nsIn K mainGlobals "sum" = some none)
    (z_all : PySem.W.nsIn K mainGlobals "all" = some none)
    (z_any : PySem.W.nsIn K mainGlobals "any" = some none)
    (z_isinstance : PySem.W.nsIn K mainGlobals "isinstance" = some none)
    (z_repr : PySem.W.nsIn K mainGlobals "repr" = some none)
    (z_int : PySem.W.nsIn K mainGlobals "int" = some none)
    (z_tuple : PySem.W.nsIn K mainGlobals "tuple" = some none)
    (z_list : PySem.W.nsIn K mainGlobals "list" = some none)
    (z_bool : PySem.W.nsIn K mainGlobals "bool" = some none)
    (z_str : PySem.W.nsIn K mainGlobals "str" = some none)
    (z_range : PySem.W.nsIn K mainGlobals "range" = some none)
    (z_zip : PySem.W.nsIn K mainGlobals "zip" = some none)
    (z_enumerate : PySem.W.nsIn K mainGlobals "enumerate" = some none)
    (z_max : PySem.W.nsIn K mainGlobals "max" = some none)
    (z_min : PySem.W.nsIn K mainGlobals "min" = some none)
    (z_sorted : PySem.W.nsIn K mainGlobals "sorted" = some none)
    (z_reversed : PySem.W.nsIn K mainGlobals "reversed" = some none)
    (z_set : PySem.W.nsIn K mainGlobals "set" = some none)
    (z_dict : PySem.W.nsIn K mainGlobals "dict" = some none)
    (i_gcd : PySem.W.nsIn K mainGlobals "gcd" = some (some (.builtin "math.gcd")))
    {t_MOST_OUTCOMES : Tok} (c_MOST_OUTCOMES : PySem.W.nsIn K mainGlobals "MOST_OUTCOMES" = some (some (.int 8 t_MOST_OUTCOMES))) :
    ∃ fd : FuncData, (∀ (s : Shared) (u : Value), BindsTo s fd ⟨[u], []⟩ [("_law_script", u)]) ∧ ∀ base : Heap, K.In base → base.Ns mainGlobals mg → FnG P w K mg base 12 fa fd ["_law_script"] (lawS 63) := by
  have B : Blt mg := blt_mk X G (fun x hx => by
    simp only [names0, List.mem_cons, List.not_mem_nil, or_false] at hx
    rcases hx with rfl | rfl | rfl | rfl | rfl | rfl | rfl | rfl | rfl | rfl | rfl | rfl | rfl | rfl | rfl | rfl | rfl | rfl | rfl | rfl | rfl <;> assumption)
  refine law_fin hfa o_law (fun _ _ _ _ _ _ _ _ => .of_eq rfl) (fun base hK hg => all_ok B o__law_deck o__law_draw o__law_common o__law_chances o_is_integer o_lowest o__law_is_integer o__law_is_less o__law_are_few o_in_base_two o__law_ways o__law_pick o__law_fraction o_is_within o_is_fraction o_added o_times o__law_is_way o__law_bits o__law_table o__law_plus o__law_times o_are_integers o_is_amount o_total o__law_bits_stretch o__law_way o__law_model o__law_total o_are_amounts o_is_way_of o_stretch_behind o__law_lies o_are_bits o__law_stretch o_is_table o_check_bits o_is_state o_bits_stretch o_are_states o_check_model o_check_way o_stretch o__law_is_right o__law_are_bits_right o__law_lie_beside o_law (PySem.W.mg_of X G i_gcd) (PySem.W.mg_of X G c_MOST_OUTCOMES)) ?_
  rintro xs μ Q ⟨rfl, ns, rfl, hl, hQ⟩
  exact ⟨rfl, ns, rfl, rfl, hQ⟩
end K51
open PySem PySem.W PyProof.Rows
set_option maxHeartbeats 0 in
theorem PySem.Challenge.cw_drawnbits_k51_whole_stretches_holds : PySem.Challenge.rw_drawnbits_k51_whole_stretches.Holds := by
  w_on; o_law; k_head; (case hw => w_witness2)
  k_fill
  refine Fx.walk_law (l := PySem.Challenge.rw_drawnbits_k51_whole_stretches) (n := 63) (k := 12) (x := "_law_script") rfl (by decide) rfl ⟨rfl, by decide, by decide⟩ (fun w h Y => PySem.W.kIn_of Y) ?F
  case F =>
    intro w mg fa h KX G hmg
    refine' K51.all_mk KX G hmg ?o__law_deck ?o__law_draw ?o__law_common ?o__law_chances ?o_is_integer ?o_lowest ?o__law_is_integer ?o__law_is_less ?o__law_are_few ?o_in_base_two ?o__law_ways ?o__law_pick ?o__law_fraction ?o_is_within ?o_is_fraction ?o_added ?o_times ?o__law_is_way ?o__law_bits ?o__law_table ?o__law_plus ?o__law_times ?o_are_integers ?o_is_amount ?o_total ?o__law_bits_stretch ?o__law_way ?o__law_model ?o__law_total ?o_are_amounts ?o_is_way_of ?o_stretch_behind ?o__law_lies ?o_are_bits ?o__law_stretch ?o_is_table ?o_check_bits ?o_is_state ?o_bits_stretch ?o_are_states ?o_check_model ?o_check_way ?o_stretch ?o__law_is_right ?o__law_are_bits_right ?o__law_lie_beside ?o_law ?z_abs ?z_len ?z_sum ?z_all ?z_any ?z_isinstance ?z_repr ?z_int ?z_tuple ?z_list ?z_bool ?z_str ?z_range ?z_zip ?z_enumerate ?z_max ?z_min ?z_sorted ?z_reversed ?z_set ?z_dict ?i_gcd ?c_MOST_OUTCOMES
    (case o__law_deck => refine' Fx.own_mk KX G ?a ?l ?c ?k; (case a => k_is); (case l => k_is); (case c => k_is); (case k => k_is))
    (case o__law_draw => refine' Fx.own_mk KX G ?a ?l ?c ?k; (case a => k_is); (case l => k_is); (case c => k_is); (case k => k_is))
    (case o__law_common => refine' Fx.own_mk KX G ?a ?l ?c ?k; (case a => k_is); (case l => k_is); (case c => k_is); (case k => k_is))
    (case o__law_chances => refine' Fx.own_mk KX G ?a ?l ?c ?k; (case a => k_is); (case l => k_is); (case c => k_is); (case k => k_is))
    (case o_is_integer => refine' Fx.own_mk KX G ?a ?l ?c ?k; (case a => k_is); (case l => k_is); (case c => k_is); (case k => k_is))
    (case o_lowest => refine' Fx.own_mk KX G ?a ?l ?c ?k; (case a => k_is); (case l => k_is); (case c => k_is); (case k => k_is))
    (case o__law_is_integer => refine' Fx.own_mk KX G ?a ?l ?c ?k; (case a => k_is); (case l => k_is); (case c => k_is); (case k => k_is))
    (case o__law_is_less => refine' Fx.own_mk KX G ?a ?l ?c ?k; (case a => k_is); (case l => k_is); (case c => k_is); (case k => k_is))
    (case o__law_are_few => refine' Fx.own_mk KX G ?a ?l ?c ?k; (case a => k_is); (case l => k_is); (case c => k_is); (case k => k_is))
    (case o_in_base_two => refine' Fx.own_mk KX G ?a ?l ?c ?k; (case a => k_is); (case l => k_is); (case c => k_is); (case k => k_is))
    (case o__law_ways => refine' Fx.own_mk KX G ?a ?l ?c ?k; (case a => k_is); (case l => k_is); (case c => k_is); (case k => k_is))
    (case o__law_pick => refine' Fx.own_mk KX G ?a ?l ?c ?k; (case a => k_is); (case l => k_is); (case c => k_is); (case k => k_is))
    (case o__law_fraction => refine' Fx.own_mk KX G ?a ?l ?c ?k; (case a => k_is); (case l => k_is); (case c => k_is); (case k => k_is))
    (case o_is_within => refine' Fx.own_mk KX G ?a ?l ?c ?k; (case a => k_is); (case l => k_is); (case c => k_is); (case k => k_is))
    (case o_is_fraction => refine' Fx.own_mk KX G ?a ?l ?c ?k; (case a => k_is); (case l => k_is); (case c => k_is); (case k => k_is))
    (case o_added => refine' Fx.own_mk KX G ?a ?l ?c ?k; (case a => k_is); (case l => k_is); (case c => k_is); (case k => k_is))
    (case o_times => refine' Fx.own_mk KX G ?a ?l ?c ?k; (case a => k_is); (case l => k_is); (case c => k_is); (case k => k_is))
    (case o__law_is_way => refine' Fx.own_mk KX G ?a ?l ?c ?k; (case a => k_is); (case l => k_is); (case c => k_is); (case k => k_is))
    (case o__law_bits => refine' Fx.own_mk KX G ?a ?l ?c ?k; (case a => k_is); (case l => k_is); (case c => k_is); (case k => k_is))
    (case o__law_table => refine' Fx.own_mk KX G ?a ?l ?c ?k; (case a => k_is); (case l => k_is); (case c => k_is); (case k => k_is))
    (case o__law_plus => refine' Fx.own_mk KX G ?a ?l ?c ?k; (case a => k_is); (case l => k_is); (case c => k_is); (case k => k_is))
    (case o__law_times => refine' Fx.own_mk KX G ?a ?l ?c ?k; (case a => k_is); (case l => k_is); (case c => k_is); (case k => k_is))
    (case o_are_integers => refine' Fx.own_mk KX G ?a ?l ?c ?k; (case a => k_is); (case l => k_is); (case c => k_is); (case k => k_is))
    (case o_is_amount => refine' Fx.own_mk KX G ?a ?l ?c ?k; (case a => k_is); (case l => k_is); (case c => k_is); (case k => k_is))
    (case o_total => refine' Fx.own_mk KX G ?a ?l ?c ?k; (case a => k_is); (case l => k_is); (case c => k_is); (case k => k_is))
    (case o__law_bits_stretch => refine' Fx.own_mk KX G ?a ?l ?c ?k; (case a => k_is); (case l => k_is); (case c => k_is); (case k => k_is))
    (case o__law_way => refine' Fx.own_mk KX G ?a ?l ?c ?k; (case a => k_is); (case l => k_is); (case c => k_is); (case k => k_is))
    (case o__law_model => refine' Fx.own_mk KX G ?a ?l ?c ?k; (case a => k_is); (case l => k_is); (case c => k_is); (case k => k_is))
    (case o__law_total => refine' Fx.own_mk KX G ?a ?l ?c ?k; (case a => k_is); (case l => k_is); (case c => k_is); (case k => k_is))
    (case o_are_amounts => refine' Fx.own_mk KX G ?a ?l ?c ?k; (case a => k_is); (case l => k_is); (case c => k_is); (case k => k_is))
    (case o_is_way_of => refine' Fx.own_mk KX G ?a ?l ?c ?k; (case a => k_is); (case l => k_is); (case c => k_is); (case k => k_is))
    (case o_stretch_behind => refine' Fx.own_mk KX G ?a ?l ?c ?k; (case a => k_is); (case l => k_is); (case c => k_is); (case k => k_is))
    (case o__law_lies => refine' Fx.own_mk KX G ?a ?l ?c ?k; (case a => k_is); (case l => k_is); (case c => k_is); (case k => k_is))
    (case o_are_bits => refine' Fx.own_mk KX G ?a ?l ?c ?k; (case a => k_is); (case l => k_is); (case c => k_is); (case k => k_is))
    (case o__law_stretch => refine' Fx.own_mk KX G ?a ?l ?c ?k; (case a => k_is); (case l => k_is); (case c => k_is); (case k => k_is))
    (case o_is_table => refine' Fx.own_mk KX G ?a ?l ?c ?k; (case a => k_is); (case l => k_is); (case c => k_is); (case k => k_is))
    (case o_check_bits => refine' Fx.own_mk KX G ?a ?l ?c ?k; (case a => k_is); (case l => k_is); (case c => k_is); (case k => k_is))
    (case o_is_state => refine' Fx.own_mk KX G ?a ?l ?c ?k; (case a => k_is); (case l => k_is); (case c => k_is); (case k => k_is))
    (case o_bits_stretch => refine' Fx.own_mk KX G ?a ?l ?c ?k; (case a => k_is); (case l => k_is); (case c => k_is); (case k => k_is))
    (case o_are_states => refine' Fx.own_mk KX G ?a ?l ?c ?k; (case a => k_is); (case l => k_is); (case c => k_is); (case k => k_is))
    (case o_check_model => refine' Fx.own_mk KX G ?a ?l ?c ?k; (case a => k_is); (case l => k_is); (case c => k_is); (case k => k_is))
    (case o_check_way => refine' Fx.own_mk KX G ?a ?l ?c ?k; (case a => k_is); (case l => k_is); (case c => k_is); (case k => k_is))
    (case o_stretch => refine' Fx.own_mk KX G ?a ?l ?c ?k; (case a => k_is); (case l => k_is); (case c => k_is); (case k => k_is))
    (case o__law_is_right => refine' Fx.own_mk KX G ?a ?l ?c ?k; (case a => k_is); (case l => k_is); (case c => k_is); (case k => k_is))
    (case o__law_are_bits_right => refine' Fx.own_mk KX G ?a ?l ?c ?k; (case a => k_is); (case l => k_is); (case c => k_is); (case k => k_is))
    (case o__law_lie_beside => refine' Fx.own_mk KX G ?a ?l ?c ?k; (case a => k_is); (case l => k_is); (case c => k_is); (case k => k_is))
    (case o_law => refine' Fx.own_mk KX G ?a ?l ?c ?k; (case a => k_is); (case l => k_is); (case c => k_is); (case k => k_is))
    (case z_abs => k_is)
    (case z_len => k_is)
    (case z_sum => k_is)
    (case z_all => k_is)
    (case z_any => k_is)
    (case z_isinstance => k_is)
    (case z_repr => k_is)
    (case z_int => k_is)
    (case z_tuple => k_is)
    (case z_list => k_is)
    (case z_bool => k_is)
    (case z_str => k_is)
    (case z_range => k_is)
    (case z_zip => k_is)
    (case z_enumerate => k_is)
    (case z_max => k_is)
    (case z_min => k_is)
    (case z_sorted => k_is)
    (case z_reversed => k_is)
    (case z_set => k_is)
    (case z_dict => k_is)
    (case i_gcd => k_is)
    (case c_MOST_OUTCOMES => k_is)
