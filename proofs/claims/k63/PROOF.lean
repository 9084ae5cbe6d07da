import PyProof.Rows.All
import Wide.All
import OpenK.AllK
import Wide.FinOn
import HandS.ForMost
import HandS.IsInst
import HandS.Gcd
import HandS.Wide
import HandS.TupMul
import HandS.TupAny
import HandS.TupLe
import HandS.Style
import HandS.Zip
import HandS.Walk
import HandS.Flow
import HandS.Conv
import KE.KMathG
import KE.DatumOrd
import PyProof.ReprRoads
import KE.GoesEnum
import HandS.Comp
import HandS.SetFor
import HandS.Strs
import HandS.WordsDict
import HandS.WideBits
import HandS.RaiseMore
import KE.BitLaws
import HandS.Iter
import HandS.Dict
import HandS.TupSets
import PySem.Challenge.RW_drawnbits_k63_whole_first_words_with_len
set_option Elab.async false
set_option linter.all false
set_option maxRecDepth 100000
set_option maxHeartbeats 4000000
set_option synthInstance.maxHeartbeats 400000
set_option synthInstance.maxSize 4096
/-! MR: fractions, their sizes, the common divisor by remainders. Plain mathematics. -/
namespace MR
def Sm (n : Nat) (q : Rat) : Prop := q.num.natAbs < 2 ^ n ∧ q.den < 2 ^ n
theorem Sm.mono {m n : Nat} {q : Rat} (h : Sm m q) (l : m ≤ n) : Sm n q :=
  ⟨Nat.lt_of_lt_of_le h.1 (Nat.pow_le_pow_right (by decide) l), Nat.lt_of_lt_of_le h.2 (Nat.pow_le_pow_right (by decide) l)⟩
theorem divInt_parts (a b : Int) (hb : 0 < b) : (Rat.divInt a b).num = a / ((Nat.gcd a.natAbs b.natAbs : Nat) : Int) ∧ (((Rat.divInt a b).den : Nat) : Int) = b / ((Nat.gcd a.natAbs b.natAbs : Nat) : Int) := by
  obtain ⟨n, rfl⟩ : ∃ n : Nat, b = (n : Int) := ⟨b.toNat, by omega⟩
  have hn : n ≠ 0 := by omega
  have e : (Rat.divInt a (n : Int)) = Rat.normalize a n hn := by
    rw [Rat.normalize_eq_mkRat]
    rfl
  rw [e, Rat.normalize_eq]
  simp only [Int.natAbs_natCast]
  refine ⟨trivial, ?_⟩
  rw [Int.natCast_ediv]
theorem lowest_eq (a b : Int) (hb : 0 < b) : a.fdiv ((Nat.gcd a.natAbs b.natAbs : Nat) : Int) = (Rat.divInt a b).num ∧ b.fdiv ((Nat.gcd a.natAbs b.natAbs : Nat) : Int) = (((Rat.divInt a b).den : Nat) : Int) := by
  obtain ⟨h1, h2⟩ := divInt_parts a b hb
  rw [h1, h2, Int.fdiv_eq_ediv_of_nonneg _ (Int.natCast_nonneg _), Int.fdiv_eq_ediv_of_nonneg _ (Int.natCast_nonneg _)]
  exact ⟨rfl, rfl⟩
theorem sm_divInt {a b : Int} {n : Nat} (ha : a.natAbs < 2 ^ n) (h0 : 0 < b) (hb : b.natAbs < 2 ^ n) : Sm n (Rat.divInt a b) := by
  obtain ⟨h1, h2⟩ := divInt_parts a b h0
  constructor
  · rw [h1, Int.natAbs_ediv_of_dvd]
    · exact Nat.lt_of_le_of_lt (Nat.div_le_self _ _) ha
    · exact Int.ofNat_dvd_left.mpr (Nat.gcd_dvd_left _ _)
  · have : ((Rat.divInt a b).den : Int).natAbs < 2 ^ n := by
      rw [h2, Int.natAbs_ediv_of_dvd]
      · exact Nat.lt_of_le_of_lt (Nat.div_le_self _ _) hb
      · exact Int.ofNat_dvd_left.mpr (Nat.gcd_dvd_right _ _)
    simpa using this
theorem mul_eq (p q : Rat) : p * q = Rat.divInt (p.num * q.num) ((p.den : Int) * (q.den : Int)) := by
  conv => lhs; rw [← Rat.num_divInt_den p, ← Rat.num_divInt_den q]
  rw [Rat.divInt_mul_divInt]
theorem add_eq (p q : Rat) : p + q = Rat.divInt (p.num * (q.den : Int) + q.num * (p.den : Int)) ((p.den : Int) * (q.den : Int)) := by
  conv => lhs; rw [← Rat.num_divInt_den p, ← Rat.num_divInt_den q]
  rw [Rat.divInt_add_divInt _ _ (by have := p.den_nz; omega) (by have := q.den_nz; omega)]
theorem den_pos (p : Rat) : 0 < (p.den : Int) := by have := p.den_nz; omega
theorem natAbs_mul_lt {x y : Int} {m n : Nat} (hx : x.natAbs < 2 ^ m) (hy : y.natAbs < 2 ^ n) : (x * y).natAbs < 2 ^ (m + n) := by
  rw [Int.natAbs_mul, Nat.pow_add]
  exact Nat.mul_lt_mul'' hx hy
theorem natAbs_add_lt {x y : Int} {n : Nat} (hx : x.natAbs < 2 ^ n) (hy : y.natAbs < 2 ^ n) : (x + y).natAbs < 2 ^ (n + 1) := by
  rw [Nat.pow_succ]
  omega
theorem Sm.mul {m n : Nat} {p q : Rat} (hp : Sm m p) (hq : Sm n q) : Sm (m + n) (p * q) := by
  rw [mul_eq]
  refine sm_divInt (natAbs_mul_lt hp.1 hq.1) (Int.mul_pos (den_pos p) (den_pos q)) ?_
  exact natAbs_mul_lt (x := (p.den : Int)) (y := (q.den : Int)) (by simpa using hp.2) (by simpa using hq.2)
theorem Sm.add {m n : Nat} {p q : Rat} (hp : Sm m p) (hq : Sm n q) : Sm (m + n + 1) (p + q) := by
  rw [add_eq]
  have h1 := natAbs_mul_lt (y := (q.den : Int)) hp.1 (by simpa using hq.2)
  have h2 := natAbs_mul_lt (y := (p.den : Int)) hq.1 (by simpa using hp.2)
  rw [Nat.add_comm n m] at h2
  refine sm_divInt (natAbs_add_lt h1 h2) (Int.mul_pos (den_pos p) (den_pos q)) ?_
  have := natAbs_mul_lt (x := (p.den : Int)) (y := (q.den : Int)) (by simpa using hp.2) (by simpa using hq.2)
  exact Nat.lt_of_lt_of_le this (Nat.pow_le_pow_right (by decide) (by omega))
theorem div_eq (p q : Rat) (hq : 0 < q.num) : p / q = Rat.divInt (p.num * (q.den : Int)) ((p.den : Int) * q.num) := by
  rw [Rat.div_def, Rat.inv_def]
  conv => lhs; rw [← Rat.num_divInt_den p]
  rw [Rat.divInt_mul_divInt]
theorem Sm.div {m n : Nat} {p q : Rat} (hp : Sm m p) (hq : Sm n q) (h : 0 < q.num) : Sm (m + n) (p / q) := by
  rw [div_eq p q h]
  refine sm_divInt (natAbs_mul_lt (y := (q.den : Int)) hp.1 (by simpa using hq.2)) (Int.mul_pos (den_pos p) h) ?_
  exact natAbs_mul_lt (x := (p.den : Int)) (by simpa using hp.2) hq.1
theorem sm_zero {n : Nat} : Sm (n + 1) 0 := ⟨by show 0 < 2 ^ (n + 1); exact Nat.pow_pos (by decide), by show 1 < 2 ^ (n + 1); rw [Nat.pow_succ]; have : 0 < 2 ^ n := Nat.pow_pos (by decide); omega⟩
theorem sm_sum {n : Nat} : ∀ (qs : List Rat) , (∀ q ∈ qs, Sm n q) → Sm ((n + 1) * qs.length + 1) qs.sum
  | [], _ => by simpa using sm_zero (n := 0)
  | q :: qs, h => by
    rw [List.sum_cons, List.length_cons]
    have h1 := h q List.mem_cons_self
    have h2 := sm_sum qs fun x hx => h x (List.mem_cons_of_mem _ hx)
    exact (h1.add h2).mono (by rw [Nat.mul_add]; omega)
theorem foldl_sum (qs : List Rat) (a : Rat) : qs.foldl (· + ·) a = a + qs.sum := by
  induction qs generalizing a with
  | nil => simp [Rat.add_zero]
  | cons q qs ih => rw [List.foldl_cons, ih, List.sum_cons, Rat.add_assoc]
end MR

/-! Mx: tables as lists of fractions, common bottoms, sums of parts. Plain mathematics. -/
namespace MR
theorem mul_den (q : Rat) : q * (q.den : Rat) = (q.num : Rat) := by
  have h : Rat.divInt q.num q.den = q := Rat.num_divInt_den q
  rw [Rat.divInt_eq_div] at h
  have h0 : (((q.den : Nat) : Int) : Rat) ≠ 0 := by
    have := q.den_nz
    intro e
    rw [Rat.intCast_natCast] at e
    exact this (Rat.natCast_inj.mp e)
  rw [Rat.intCast_natCast] at h h0
  generalize (q.den : Rat) = x at *
  generalize (q.num : Rat) = y at *
  rw [← h]
  grind
def Cm (D : Nat) (q : Rat) : Prop := ∃ k : Int, q * (D : Rat) = (k : Rat)
theorem cm_den {D : Nat} {q : Rat} (h : Cm D q) : q.den ∣ D := by
  obtain ⟨k, h⟩ := h
  have e : q * (q.den : Rat) = (q.num : Rat) := mul_den q
  have h2 : (q.num : Rat) * ((D : Int) : Rat) = (k : Rat) * ((q.den : Int) : Rat) := by
    rw [Rat.intCast_natCast, Rat.intCast_natCast]
    grind
  rw [← Rat.intCast_mul, ← Rat.intCast_mul, Rat.intCast_inj] at h2
  have h3 : q.den ∣ q.num.natAbs * D := by
    have : (q.den : Int) ∣ q.num * (D : Int) := ⟨k, by rw [h2]; exact Int.mul_comm _ _⟩
    have := Int.natAbs_dvd_natAbs.mpr this
    rw [Int.natAbs_mul] at this
    exact this
  exact (Nat.Coprime.dvd_of_dvd_mul_left q.reduced.symm h3)
theorem cm_int (D : Nat) (k : Int) : Cm D (k : Rat) := ⟨k * D, by rw [Rat.intCast_mul, Rat.intCast_natCast]⟩
theorem Cm.add {D : Nat} {p q : Rat} (hp : Cm D p) (hq : Cm D q) : Cm D (p + q) := by
  obtain ⟨k, hk⟩ := hp
  obtain ⟨l, hl⟩ := hq
  exact ⟨k + l, by rw [Rat.intCast_add]; grind⟩
theorem Cm.sub {D : Nat} {p q : Rat} (hp : Cm D p) (hq : Cm D q) : Cm D (p - q) := by
  obtain ⟨k, hk⟩ := hp
  obtain ⟨l, hl⟩ := hq
  exact ⟨k - l, by rw [Rat.intCast_sub]; grind⟩
theorem Cm.mul {D E : Nat} {p q : Rat} (hp : Cm D p) (hq : Cm E q) : Cm (D * E) (p * q) := by
  obtain ⟨k, hk⟩ := hp
  obtain ⟨l, hl⟩ := hq
  exact ⟨k * l, by rw [Rat.intCast_mul, Rat.natCast_mul]; grind⟩
theorem Cm.dvd {D E : Nat} {p : Rat} (hp : Cm D p) (h : D ∣ E) : Cm E p := by
  obtain ⟨k, hk⟩ := hp
  obtain ⟨c, rfl⟩ := h
  exact ⟨k * c, by rw [Rat.intCast_mul, Rat.natCast_mul, Rat.intCast_natCast]; grind⟩
theorem Cm.sum {D : Nat} : ∀ {qs : List Rat}, (∀ q ∈ qs, Cm D q) → Cm D qs.sum
  | [], _ => cm_int D 0
  | q :: qs, h => by
    rw [List.sum_cons]
    exact (h q List.mem_cons_self).add (Cm.sum fun x hx => h x (List.mem_cons_of_mem _ hx))
theorem Cm.sm {D n : Nat} {q : Rat} (h : Cm D q) (hD : 0 < D) (hn : D < 2 ^ n) {m : Nat} (h0 : 0 ≤ q) (h1 : q < (2 ^ m : Nat)) : Sm (n + m) q := by
  have hd : q.den ≤ D := Nat.le_of_dvd hD (cm_den h)
  have hm : 0 < 2 ^ m := Nat.pow_pos (by decide)
  have hl : q.den < 2 ^ n := Nat.lt_of_le_of_lt hd hn
  have hb : 2 ^ n ≤ 2 ^ (n + m) := Nat.pow_le_pow_right (by decide) (by omega)
  refine ⟨?_, Nat.lt_of_lt_of_le hl hb⟩
  have hp : 0 ≤ q.num := Rat.num_nonneg.mpr h0
  have := (Rat.lt_iff _ _).mp h1
  rw [Rat.num_natCast, Rat.den_natCast] at this
  have h2 : q.num < ((2 ^ m * q.den : Nat) : Int) := by
    rw [Int.natCast_mul]
    simpa using this
  have h3 : q.num.natAbs < 2 ^ m * q.den := by omega
  have h4 : 2 ^ m * q.den < 2 ^ m * 2 ^ n := Nat.mul_lt_mul_of_pos_left hl hm
  rw [Nat.pow_add, Nat.mul_comm (2 ^ n)]
  exact Nat.lt_trans h3 h4
/-! ### sums -/
theorem sum_nonneg : ∀ {qs : List Rat}, (∀ q ∈ qs, 0 ≤ q) → 0 ≤ qs.sum
  | [], _ => by decide
  | q :: qs, h => by
    rw [List.sum_cons]
    have h1 := h q List.mem_cons_self
    have h2 := sum_nonneg fun x hx => h x (List.mem_cons_of_mem _ hx)
    grind
theorem sub_sum {ps qs : List Rat} (s : List.Sublist ps qs) (h : ∀ q ∈ qs, 0 ≤ q) : ps.sum ≤ qs.sum := by
  induction s with
  | slnil => exact Rat.le_refl
  | cons a s ih =>
    rw [List.sum_cons]
    have h1 := h a List.mem_cons_self
    have h2 := ih fun x hx => h x (List.mem_cons_of_mem _ hx)
    grind
  | cons_cons a s ih =>
    rw [List.sum_cons, List.sum_cons]
    have h2 := ih fun x hx => h x (List.mem_cons_of_mem _ hx)
    grind
theorem mem_le_sum {qs : List Rat} {q : Rat} (hq : q ∈ qs) (h : ∀ q ∈ qs, 0 ≤ q) : q ≤ qs.sum := by
  have := sub_sum (List.singleton_sublist.mpr hq) h
  rw [List.sum_cons] at this
  have e : ([] : List Rat).sum = 0 := rfl
  rw [e] at this
  grind
/-- a list of parts whose sum is small, with a common bottom of n bits -/
structure Sb (n : Nat) (qs : List Rat) : Prop where
  pos : ∀ q ∈ qs, 0 ≤ q
  top : qs.sum < (2 ^ 40 : Nat)
  com : ∃ D : Nat, 0 < D ∧ D < 2 ^ n ∧ ∀ q ∈ qs, Cm D q
theorem Sb.mono {m n : Nat} {qs : List Rat} (h : Sb m qs) (l : m ≤ n) : Sb n qs :=
  ⟨h.pos, h.top, let ⟨D, h1, h2, h3⟩ := h.com; ⟨D, h1, Nat.lt_of_lt_of_le h2 (Nat.pow_le_pow_right (by decide) l), h3⟩⟩
theorem Sb.sub {n : Nat} {ps qs : List Rat} (h : Sb n qs) (s : List.Sublist ps qs) : Sb n ps :=
  ⟨fun q hq => h.pos q (s.subset hq), by have := sub_sum s h.pos; have := h.top; grind, let ⟨D, h1, h2, h3⟩ := h.com; ⟨D, h1, h2, fun q hq => h3 q (s.subset hq)⟩⟩
theorem Sb.sum_sm {n : Nat} {qs : List Rat} (h : Sb n qs) : Sm (n + 40) qs.sum := by
  obtain ⟨D, h1, h2, h3⟩ := h.com
  exact (Cm.sum h3).sm h1 h2 (sum_nonneg h.pos) h.top
theorem Sb.mem_sm {n : Nat} {qs : List Rat} (h : Sb n qs) {q : Rat} (hq : q ∈ qs) : Sm (n + 40) q := by
  obtain ⟨D, h1, h2, h3⟩ := h.com
  have := mem_le_sum hq h.pos
  have := h.top
  exact (h3 q hq).sm h1 h2 (h.pos q hq) (by grind)
/-- a table -/
structure Tab (n : Nat) (qs : List Rat) : Prop where
  ne : qs ≠ []
  len : qs.length ≤ 8
  pos : ∀ q ∈ qs, 0 ≤ q
  one : qs.sum = 1
  com : ∃ D : Nat, 0 < D ∧ D < 2 ^ n ∧ ∀ q ∈ qs, Cm D q
theorem Tab.mono {m n : Nat} {qs : List Rat} (h : Tab m qs) (l : m ≤ n) : Tab n qs :=
  ⟨h.ne, h.len, h.pos, h.one, let ⟨D, h1, h2, h3⟩ := h.com; ⟨D, h1, Nat.lt_of_lt_of_le h2 (Nat.pow_le_pow_right (by decide) l), h3⟩⟩
theorem Tab.sb {n : Nat} {qs : List Rat} (h : Tab n qs) : Sb n qs := ⟨h.pos, by rw [h.one]; exact Rat.lt_iff_le_and_ne.mpr ⟨by decide, by decide⟩, h.com⟩
theorem Tab.le1 {n : Nat} {qs : List Rat} (h : Tab n qs) {q : Rat} (hq : q ∈ qs) : q ≤ 1 := by
  have := mem_le_sum hq h.pos
  rw [h.one] at this
  exact this
theorem Tab.sm {n : Nat} {qs : List Rat} (h : Tab n qs) {q : Rat} (hq : q ∈ qs) : Sm (n + 1) q := by
  obtain ⟨D, h1, h2, h3⟩ := h.com
  have := h.le1 hq
  exact (h3 q hq).sm (m := 1) h1 h2 (h.pos q hq) (by
    have : (1 : Rat) < ((2 ^ 1 : Nat) : Rat) := Rat.lt_iff_le_and_ne.mpr ⟨by decide, by decide⟩
    grind)
/-! ### lots -/
structure Lot (many : Nat) (ns : List Nat) : Prop where
  asc : ns.Pairwise (· < ·)
  lt : ∀ n ∈ ns, n < many
  le : many ≤ 8
def lotQ (qs : List Rat) (ns : List Nat) : List Rat := ns.map fun i => qs.getD i 0
theorem lot_sub0 : ∀ (qs : List Rat) (a : Nat) (ns : List Nat), ns.Pairwise (· < ·) → (∀ n ∈ ns, a ≤ n ∧ n < a + qs.length) → (ns.map fun i => qs.getD (i - a) 0).Sublist qs
  | [], a, ns, _, h => by
    cases ns with
    | nil => exact .slnil
    | cons n ns => have := h n List.mem_cons_self; simp at this; omega
  | q :: qs, a, [], _, _ => List.nil_sublist _
  | q :: qs, a, n :: ns, hp, h => by
    have hn := h n List.mem_cons_self
    rw [List.pairwise_cons] at hp
    have step : ∀ ms : List Nat, ms.Pairwise (· < ·) → (∀ m ∈ ms, a + 1 ≤ m ∧ m < a + (qs.length + 1)) → (ms.map fun i => (q :: qs).getD (i - a) 0).Sublist qs := fun ms h1 h2 => by
      have ih := lot_sub0 qs (a + 1) ms h1 fun m hm => by have := h2 m hm; omega
      have e : (ms.map fun i => (q :: qs).getD (i - a) 0) = ms.map fun i => qs.getD (i - (a + 1)) 0 := by
        refine List.map_congr_left fun m hm => ?_
        have := h2 m hm
        rw [show m - a = (m - (a + 1)) + 1 by omega]
        rfl
      rw [e]; exact ih
    by_cases e : n = a
    · subst e
      have hs := step ns hp.2 fun m hm => by
        have h1 := hp.1 m hm
        have h2 := h m (List.mem_cons_of_mem _ hm)
        rw [List.length_cons] at h2
        omega
      rw [List.map_cons]
      have e0 : (q :: qs).getD (n - n) 0 = q := by rw [Nat.sub_self]; rfl
      rw [e0]
      exact .cons_cons _ hs
    · refine .cons _ (step (n :: ns) (List.pairwise_cons.mpr hp) fun m hm => ?_)
      have h2 := h m hm
      rw [List.length_cons] at h2
      rcases List.mem_cons.mp hm with rfl | hm
      · omega
      · have := hp.1 m hm; omega
theorem Lot.sub {qs : List Rat} {ns : List Nat} (h : Lot qs.length ns) : (lotQ qs ns).Sublist qs := by
  have := lot_sub0 qs 0 ns h.asc fun n hn => by have := h.lt n hn; omega
  simpa [lotQ] using this
theorem Lot.len {many : Nat} {ns : List Nat} (h : Lot many ns) : ns.length ≤ 8 := by
  have key : ∀ (ns : List Nat) (a : Nat), ns.Pairwise (· < ·) → (∀ n ∈ ns, a ≤ n ∧ n < 8) → ns.length ≤ 8 - a := by
    intro ns
    induction ns with
    | nil => intro a _ _; simp
    | cons n ns ih =>
      intro a hp h
      rw [List.pairwise_cons] at hp
      have h1 := h n List.mem_cons_self
      have := ih (n + 1) hp.2 fun m hm => by
        have h2 := hp.1 m hm
        have h3 := h m (List.mem_cons_of_mem _ hm)
        omega
      rw [List.length_cons]
      omega
  have := key ns 0 h.asc fun n hn => by have := h.lt n hn; have := h.le; omega
  omega
/-! ### renamed -/
def named (qs : List Rat) (ns : List Nat) (x : Nat) : List Rat := ((qs.zip ns).filter fun p => decide (p.2 = x)).map (·.1)
def maxN (ns : List Nat) : Nat := ns.foldr max 0
def ren (qs : List Rat) (ns : List Nat) : List Rat := (List.range (maxN ns + 1)).map fun x => (named qs ns x).sum
theorem named_sub (qs : List Rat) (ns : List Nat) (x : Nat) : (named qs ns x).Sublist qs := by
  unfold named
  refine List.Sublist.trans (List.filter_sublist.map _) ?_
  clear x
  induction qs generalizing ns with
  | nil => simp
  | cons q qs ih =>
    cases ns with
    | nil => simp
    | cons n ns => simpa using ih ns
theorem maxN_le {ns : List Nat} {m : Nat} (h : ∀ n ∈ ns, n ≤ m) : maxN ns ≤ m := by
  unfold maxN
  induction ns with
  | nil => simp
  | cons n ns ih =>
    have := h n List.mem_cons_self
    have := ih fun x hx => h x (List.mem_cons_of_mem _ hx)
    simp only [List.foldr_cons]
    omega
theorem le_maxN {ns : List Nat} {n : Nat} (h : n ∈ ns) : n ≤ maxN ns := by
  unfold maxN
  induction ns with
  | nil => cases h
  | cons m ns ih =>
    simp only [List.foldr_cons]
    rcases List.mem_cons.mp h with rfl | h
    · omega
    · have := ih h; omega
theorem maxN_mem {ns : List Nat} (h : ns ≠ []) : maxN ns ∈ ns := by
  induction ns with
  | nil => exact absurd rfl h
  | cons n ns ih =>
    by_cases e : ns = []
    · subst e; simp [maxN]
    · have := ih e
      show max n (maxN ns) ∈ _
      by_cases hl : n ≤ maxN ns
      · rw [Nat.max_eq_right hl]; exact List.mem_cons_of_mem _ this
      · rw [Nat.max_eq_left (by omega)]; exact List.mem_cons_self
/-- each item falls to one of the first n names -/
theorem sum_parts {α : Type} (f : α → Rat) (g : α → Nat) (n : Nat) : ∀ (l : List α), (∀ a ∈ l, g a < n) → ((List.range n).map fun x => ((l.filter fun a => decide (g a = x)).map f).sum).sum = (l.map f).sum
  | [], _ => by
    have : ∀ (m : List Nat), (m.map fun _ => (0 : Rat)).sum = 0 := fun m => by
      induction m with
      | nil => rfl
      | cons a m ih => rw [List.map_cons, List.sum_cons, ih]; exact Rat.zero_add 0
    exact this _
  | a :: l, h => by
    have ih := sum_parts f g n l fun b hb => h b (List.mem_cons_of_mem _ hb)
    have ha := h a List.mem_cons_self
    rw [List.map_cons, List.sum_cons, ← ih]
    have key : ∀ (m : List Nat), m.Nodup → ((m.map fun x => (((a :: l).filter fun a => decide (g a = x)).map f).sum).sum) = (if g a ∈ m then f a else 0) + (m.map fun x => ((l.filter fun a => decide (g a = x)).map f).sum).sum := fun m hm => by
      induction m with
      | nil =>
        show (0 : Rat) = 0 + 0
        exact (Rat.zero_add 0).symm
      | cons x m ihm =>
        rw [List.nodup_cons] at hm
        rw [List.map_cons, List.sum_cons, ihm hm.2, List.map_cons, List.sum_cons]
        by_cases e : g a = x
        · subst e
          rw [List.filter_cons, if_pos (by simp), if_neg hm.1, if_pos List.mem_cons_self, List.map_cons, List.sum_cons]
          grind
        · rw [List.filter_cons, if_neg (by simpa using e)]
          by_cases e2 : g a ∈ m
          · rw [if_pos e2, if_pos (List.mem_cons_of_mem _ e2)]
            grind
          · rw [if_neg e2, if_neg (by simp [e, e2])]
            grind
    rw [key _ List.nodup_range, if_pos (List.mem_range.mpr ha)]
theorem zip_fst {qs : List Rat} {ns : List Nat} (h : ns.length = qs.length) : (qs.zip ns).map (·.1) = qs := by
  rw [List.map_fst_zip (by omega)]
theorem ren_tab {n : Nat} {qs : List Rat} {ns : List Nat} (h : Tab n qs) (hl : ns.length = qs.length) (h7 : ∀ x ∈ ns, x ≤ 7) : Tab n (ren qs ns) := by
  have hp : ∀ x, ∀ q ∈ named qs ns x, 0 ≤ q := fun x q hq => h.pos q ((named_sub qs ns x).subset hq)
  refine ⟨?_, ?_, ?_, ?_, ?_⟩
  · unfold ren
    rw [List.range_succ]
    simp
  · unfold ren
    rw [List.length_map, List.length_range]
    have := maxN_le h7
    omega
  · intro q hq
    obtain ⟨x, _, rfl⟩ := List.mem_map.mp hq
    exact sum_nonneg (hp x)
  · have := sum_parts (fun p : Rat × Nat => p.1) (fun p => p.2) (maxN ns + 1) (qs.zip ns) fun p hp => by
      have : p.2 ∈ ns := (List.of_mem_zip (a := p.1) (b := p.2) hp).2
      have := le_maxN this
      omega
    rw [zip_fst hl, h.one] at this
    exact this
  · obtain ⟨D, h1, h2, h3⟩ := h.com
    refine ⟨D, h1, h2, fun q hq => ?_⟩
    obtain ⟨x, _, rfl⟩ := List.mem_map.mp hq
    exact Cm.sum fun q hq => h3 q ((named_sub qs ns x).subset hq)
/-! ### given -/
def numd {α : Type} : Nat → List α → List (Nat × α)
  | _, [] => []
  | i, x :: xs => (i, x) :: numd (i + 1) xs
theorem numd_length {α : Type} : ∀ (xs : List α) (i : Nat), (numd i xs).length = xs.length
  | [], _ => rfl
  | x :: xs, i => by simp [numd, numd_length xs]
theorem numd_mem {α : Type} : ∀ {xs : List α} {i : Nat} {p : Nat × α}, p ∈ numd i xs → p.2 ∈ xs ∧ i ≤ p.1 ∧ p.1 < i + xs.length
  | [], _, _, h => by simp [numd] at h
  | x :: xs, i, p, h => by
    rcases List.mem_cons.mp h with rfl | h
    · exact ⟨List.mem_cons_self, Nat.le_refl _, by simp⟩
    · obtain ⟨h1, h2, h3⟩ := numd_mem h
      exact ⟨List.mem_cons_of_mem _ h1, by omega, by rw [List.length_cons]; omega⟩
def given (qs : List Rat) (ns : List Nat) : List Rat := (numd 0 qs).map fun p => if p.1 ∈ ns then p.2 / (lotQ qs ns).sum else 0
theorem sum_div (W : Rat) : ∀ (l : List Rat), (l.map fun q => q / W).sum = l.sum / W
  | [] => by
    show (0 : Rat) = 0 / W
    rw [Rat.div_def, Rat.zero_mul]
  | q :: l => by
    rw [List.map_cons, List.sum_cons, List.sum_cons, sum_div W l, Rat.div_def, Rat.div_def, Rat.div_def, Rat.add_mul]
theorem lot_sum0 : ∀ (qs : List Rat) (a : Nat) (ns : List Nat), ns.Pairwise (· < ·) → (∀ n ∈ ns, a ≤ n ∧ n < a + qs.length) → ((numd a qs).map fun p => if p.1 ∈ ns then p.2 else 0).sum = (ns.map fun i => qs.getD (i - a) 0).sum
  | [], a, ns, _, h => by
    cases ns with
    | nil => rfl
    | cons n ns => have := h n List.mem_cons_self; simp at this; omega
  | q :: qs, a, ns, hp, h => by
    have tail : ∀ ms : List Nat, ms.Pairwise (· < ·) → (∀ m ∈ ms, a + 1 ≤ m ∧ m < a + (qs.length + 1)) → (∀ x, a + 1 ≤ x → (x ∈ ns ↔ x ∈ ms)) → ((numd (a + 1) qs).map fun p => if p.1 ∈ ns then p.2 else 0).sum = (ms.map fun i => (q :: qs).getD (i - a) 0).sum := fun ms h1 h2 h3 => by
      have ih := lot_sum0 qs (a + 1) ms h1 fun m hm => by have := h2 m hm; omega
      have e : (ms.map fun i => (q :: qs).getD (i - a) 0) = ms.map fun i => qs.getD (i - (a + 1)) 0 := by
        refine List.map_congr_left fun m hm => ?_
        have := h2 m hm
        rw [show m - a = (m - (a + 1)) + 1 by omega]
        rfl
      rw [e, ← ih]
      congr 1
      refine List.map_congr_left fun p hp => ?_
      have := numd_mem hp
      simp only [h3 p.1 this.2.1]
    show ((if a ∈ ns then q else 0) :: _).sum = _
    rw [List.sum_cons]
    cases ns with
    | nil =>
      rw [tail [] .nil (fun _ h => by cases h) fun x _ => Iff.rfl, if_neg (by simp)]
      exact Rat.zero_add _
    | cons n ns =>
      have hn := h n List.mem_cons_self
      rw [List.pairwise_cons] at hp
      have hb : ∀ m ∈ ns, a + 1 ≤ m ∧ m < a + (qs.length + 1) := fun m hm => by
        have h1 := hp.1 m hm
        have h2 := h m (List.mem_cons_of_mem _ hm)
        rw [List.length_cons] at h2
        omega
      by_cases e : n = a
      · subst e
        rw [tail ns hp.2 hb fun x hx => by simp; omega, if_pos List.mem_cons_self, List.map_cons, List.sum_cons]
        have e0 : (q :: qs).getD (n - n) 0 = q := by rw [Nat.sub_self]; rfl
        rw [e0]
      · rw [tail (n :: ns) (List.pairwise_cons.mpr hp) (fun m hm => by
            rcases List.mem_cons.mp hm with rfl | hm
            · rw [List.length_cons] at hn; omega
            · exact hb m hm) fun x _ => Iff.rfl, if_neg (fun z => by
            rcases List.mem_cons.mp z with z | z
            · exact e z.symm
            · have := hb a z; omega)]
        exact Rat.zero_add _
theorem lot_sum {qs : List Rat} {ns : List Nat} (h : Lot qs.length ns) : ((numd 0 qs).map fun p => if p.1 ∈ ns then p.2 else 0).sum = (lotQ qs ns).sum := by
  have := lot_sum0 qs 0 ns h.asc fun n hn => by have := h.lt n hn; omega
  rw [this]
  unfold lotQ
  simp
theorem div_self' {W : Rat} (h : W ≠ 0) : W / W = 1 := by
  rw [Rat.div_def]; exact Rat.mul_inv_cancel W h
theorem given_tab {n : Nat} {qs : List Rat} {ns : List Nat} (h : Tab n qs) (hl : Lot qs.length ns) (h0 : (lotQ qs ns).sum ≠ 0) : Tab n (given qs ns) := by
  have hp : 0 < (lotQ qs ns).sum := by
    have := sum_nonneg fun q hq => h.pos q (hl.sub.subset hq)
    grind
  have hle : (lotQ qs ns).sum ≤ 1 := by rw [← h.one]; exact sub_sum hl.sub h.pos
  have e : given qs ns = ((numd 0 qs).map fun p => if p.1 ∈ ns then p.2 else 0).map fun q => q / (lotQ qs ns).sum := by
    unfold given
    rw [List.map_map]
    refine List.map_congr_left fun p _ => ?_
    show _ = (if p.1 ∈ ns then p.2 else 0) / _
    by_cases z : p.1 ∈ ns
    · rw [if_pos z, if_pos z]
    · rw [if_neg z, if_neg z, Rat.div_def, Rat.zero_mul]
  generalize hW : (lotQ qs ns).sum = W at *
  refine ⟨?_, ?_, ?_, ?_, ?_⟩
  · intro z
    have := congrArg List.length z
    rw [e, List.length_map, List.length_map, numd_length] at this
    exact h.ne (List.length_eq_zero_iff.mp this)
  · rw [e, List.length_map, List.length_map, numd_length]; exact h.len
  · intro q hq
    rw [e] at hq
    obtain ⟨r, hr, rfl⟩ := List.mem_map.mp hq
    obtain ⟨p, hp', rfl⟩ := List.mem_map.mp hr
    have : 0 ≤ (if p.1 ∈ ns then p.2 else 0) := by
      split
      · exact h.pos _ (numd_mem hp').1
      · decide
    rw [Rat.div_def]
    exact Rat.mul_nonneg this (Rat.le_of_lt (Rat.inv_pos.mpr hp))
  · rw [e, sum_div, lot_sum hl, hW]
    exact div_self' h0
  · obtain ⟨D, h1, h2, h3⟩ := h.com
    have cw : Cm D W := by rw [← hW]; exact Cm.sum fun q hq => h3 q (hl.sub.subset hq)
    obtain ⟨k, hk⟩ := cw
    have hD : (0 : Rat) < (D : Rat) := Rat.natCast_pos.mpr h1
    have kp : (0 : Rat) < (k : Rat) := by rw [← hk]; exact Rat.mul_pos hp hD
    have kp' : 0 < k := Rat.intCast_pos.mp kp
    have kle : (k : Rat) ≤ ((D : Int) : Rat) := by
      rw [← hk, Rat.intCast_natCast]
      have := Rat.mul_le_mul_of_nonneg_right hle (Rat.le_of_lt hD)
      rw [Rat.one_mul] at this
      exact this
    have kle' : k ≤ (D : Int) := Rat.intCast_le_intCast.mp kle
    refine ⟨k.toNat, by omega, by omega, fun q hq => ?_⟩
    have ek : ((k.toNat : Nat) : Rat) = (k : Rat) := by
      rw [← Rat.intCast_natCast]
      congr 1
      omega
    rw [e] at hq
    obtain ⟨r, hr, rfl⟩ := List.mem_map.mp hq
    obtain ⟨p, hp', rfl⟩ := List.mem_map.mp hr
    have hc : Cm D (if p.1 ∈ ns then p.2 else 0) := by
      split
      · exact h3 _ (numd_mem hp').1
      · exact cm_int D 0
    obtain ⟨l, hl⟩ := hc
    refine ⟨l, ?_⟩
    rw [ek, ← hk, ← hl]
    generalize (if p.1 ∈ ns then p.2 else 0) = x
    have : x / W * W = x := by
      rw [Rat.div_def, Rat.mul_assoc, Rat.inv_mul_cancel W h0, Rat.mul_one]
    rw [← Rat.mul_assoc, this]
/-! ### mixed -/
theorem sum_add {α : Type} (f g : α → Rat) : ∀ (l : List α), (l.map fun a => f a + g a).sum = (l.map f).sum + (l.map g).sum
  | [] => (Rat.zero_add 0).symm
  | a :: l => by
    rw [List.map_cons, List.sum_cons, List.map_cons, List.sum_cons, List.map_cons, List.sum_cons, sum_add f g l]
    grind
theorem sum_zero {α : Type} : ∀ (l : List α), (l.map fun _ => (0 : Rat)).sum = 0
  | [] => rfl
  | a :: l => by rw [List.map_cons, List.sum_cons, sum_zero l]; exact Rat.zero_add 0
theorem sum_mulL {α : Type} (c : Rat) (f : α → Rat) : ∀ (l : List α), (l.map fun a => c * f a).sum = c * (l.map f).sum
  | [] => (Rat.mul_zero c).symm
  | a :: l => by
    rw [List.map_cons, List.sum_cons, List.map_cons, List.sum_cons, sum_mulL c f l]
    grind
theorem sum_swap {α β : Type} (F : α → β → Rat) (is : List β) : ∀ (l : List α), (is.map fun i => (l.map fun a => F a i).sum).sum = (l.map fun a => (is.map fun i => F a i).sum).sum
  | [] => sum_zero is
  | a :: l => by
    rw [List.map_cons, List.sum_cons, ← sum_swap F is l, ← sum_add]
    congr 1
theorem range_getD : ∀ (t : List Rat), ((List.range t.length).map fun i => t.getD i 0) = t := fun t => by
  apply List.ext_getElem
  · simp
  · intro i h1 h2
    simp
    rw [List.getElem?_eq_getElem h2]
    rfl
def mixc (qs : List Rat) (ts : List (List Rat)) (i : Nat) : List Rat := (qs.zip ts).map fun p => p.1 * p.2.getD i 0
def mix (qs : List Rat) (ts : List (List Rat)) (k : Nat) : List Rat := (List.range k).map fun i => (mixc qs ts i).sum
theorem common_all {n : Nat} : ∀ (ts : List (List Rat)), (∀ t ∈ ts, Tab n t) → ∃ D : Nat, 0 < D ∧ D < 2 ^ (n * ts.length + 1) ∧ ∀ t ∈ ts, ∀ q ∈ t, Cm D q
  | [], _ => ⟨1, by decide, by simp, fun _ h => by cases h⟩
  | t :: ts, h => by
    obtain ⟨D, h1, h2, h3⟩ := common_all ts fun x hx => h x (List.mem_cons_of_mem _ hx)
    obtain ⟨E, g1, g2, g3⟩ := (h t List.mem_cons_self).com
    refine ⟨E * D, Nat.mul_pos g1 h1, ?_, fun x hx q hq => ?_⟩
    · have := Nat.mul_lt_mul'' g2 h2
      rw [← Nat.pow_add] at this
      rw [List.length_cons, Nat.mul_add, Nat.mul_one]
      exact Nat.lt_of_lt_of_le this (Nat.pow_le_pow_right (by decide) (by omega))
    · rcases List.mem_cons.mp hx with rfl | hx
      · exact (g3 q hq).dvd ⟨D, rfl⟩
      · exact (h3 x hx q hq).dvd ⟨E, Nat.mul_comm _ _⟩
theorem getD_cases (t : List Rat) (i : Nat) : t.getD i 0 ∈ t ∨ t.getD i 0 = 0 := by
  by_cases h : i < t.length
  · left
    rw [List.getD_eq_getElem?_getD, List.getElem?_eq_getElem h]
    exact List.getElem_mem h
  · right
    rw [List.getD_eq_getElem?_getD, List.getElem?_eq_none (by omega)]
    rfl
structure Mixes (m n k : Nat) (qs : List Rat) (ts : List (List Rat)) : Prop where
  tab : Tab m qs
  tabs : ∀ t ∈ ts, Tab n t
  len : ts.length = qs.length
  wid : ∀ t ∈ ts, t.length = k
theorem Mixes.le8 {m n k : Nat} {qs : List Rat} {ts : List (List Rat)} (h : Mixes m n k qs ts) : ts.length ≤ 8 := by rw [h.len]; exact h.tab.len
theorem Mixes.comL {m n k : Nat} {qs : List Rat} {ts : List (List Rat)} (h : Mixes m n k qs ts) : ∃ D : Nat, 0 < D ∧ D < 2 ^ (m + (n * ts.length + 1)) ∧ ∀ i, ∀ q ∈ mixc qs ts i, Cm D q := by
  obtain ⟨D, h1, h2, h3⟩ := common_all ts h.tabs
  obtain ⟨E, g1, g2, g3⟩ := h.tab.com
  refine ⟨E * D, Nat.mul_pos g1 h1, ?_, fun i q hq => ?_⟩
  · have := Nat.mul_lt_mul'' g2 h2
    rw [← Nat.pow_add] at this
    exact this
  · obtain ⟨p, hp, rfl⟩ := List.mem_map.mp hq
    have := List.of_mem_zip (a := p.1) (b := p.2) hp
    refine (g3 _ this.1).mul ?_
    rcases getD_cases p.2 i with z | z
    · exact h3 _ this.2 _ z
    · rw [z]; exact cm_int D 0
theorem Mixes.com {m n k : Nat} {qs : List Rat} {ts : List (List Rat)} (h : Mixes m n k qs ts) : ∃ D : Nat, 0 < D ∧ D < 2 ^ (m + (n * 8 + 1)) ∧ ∀ i, ∀ q ∈ mixc qs ts i, Cm D q := by
  obtain ⟨D, h1, h2, h3⟩ := h.comL
  have l8 := Nat.mul_le_mul_left n h.le8
  exact ⟨D, h1, Nat.lt_of_lt_of_le h2 (Nat.pow_le_pow_right (by decide) (by omega)), h3⟩
theorem Mixes.pos {m n k : Nat} {qs : List Rat} {ts : List (List Rat)} (h : Mixes m n k qs ts) (i : Nat) : ∀ q ∈ mixc qs ts i, 0 ≤ q := fun q hq => by
  obtain ⟨p, hp, rfl⟩ := List.mem_map.mp hq
  have := List.of_mem_zip (a := p.1) (b := p.2) hp
  refine Rat.mul_nonneg (h.tab.pos _ this.1) ?_
  rcases getD_cases p.2 i with z | z
  · exact (h.tabs _ this.2).pos _ z
  · rw [z]; decide
theorem Mixes.one {m n k : Nat} {qs : List Rat} {ts : List (List Rat)} (h : Mixes m n k qs ts) : (mix qs ts k).sum = 1 := by
  unfold mix mixc
  rw [sum_swap (fun (p : Rat × List Rat) i => p.1 * p.2.getD i 0)]
  rw [← h.tab.one]
  conv => rhs; rw [← zip_fst (qs := qs) (ns := List.replicate qs.length 0) (by simp)]
  have : ∀ (qs : List Rat) (ts : List (List Rat)), ts.length = qs.length → (∀ t ∈ ts, t.sum = 1 ∧ t.length = k) → ((qs.zip ts).map fun a => ((List.range k).map fun i => a.1 * a.2.getD i 0).sum) = (qs.zip (List.replicate qs.length 0)).map (·.1) := by
    intro qs
    induction qs with
    | nil => intro ts _ _; rfl
    | cons q qs ih =>
      intro ts hl ht
      cases ts with
      | nil => cases hl
      | cons t ts =>
        have h1 := ht t List.mem_cons_self
        simp only [List.zip_cons_cons, List.map_cons, List.length_cons, List.replicate_succ]
        rw [ih ts (by simpa using hl) fun x hx => ht x (List.mem_cons_of_mem _ hx), sum_mulL, ← h1.2, range_getD, h1.1, Rat.mul_one]
  rw [this qs ts h.len fun t ht => ⟨(h.tabs t ht).one, h.wid t ht⟩]
theorem Mixes.k8 {m n k : Nat} {qs : List Rat} {ts : List (List Rat)} (h : Mixes m n k qs ts) : 0 < k ∧ k ≤ 8 := by
  cases ts with
  | nil => have := h.len; exact absurd (List.length_eq_zero_iff.mp this.symm) h.tab.ne
  | cons t ts =>
    have h1 := h.tabs t List.mem_cons_self
    have h2 := h.wid t List.mem_cons_self
    rw [← h2]
    exact ⟨List.length_pos_iff.mpr h1.ne, h1.len⟩
theorem Mixes.res {m n k : Nat} {qs : List Rat} {ts : List (List Rat)} (h : Mixes m n k qs ts) : Tab (m + (n * 8 + 1)) (mix qs ts k) := by
  obtain ⟨D, h1, h2, h3⟩ := h.com
  have k8 := h.k8
  refine ⟨?_, ?_, ?_, h.one, D, h1, h2, ?_⟩
  · intro z
    have := congrArg List.length z
    unfold mix at this
    rw [List.length_map, List.length_range] at this
    simp at this; omega
  · unfold mix; rw [List.length_map, List.length_range]; exact k8.2
  · intro q hq
    obtain ⟨i, _, rfl⟩ := List.mem_map.mp hq
    exact sum_nonneg (h.pos i)
  · intro q hq
    obtain ⟨i, _, rfl⟩ := List.mem_map.mp hq
    exact Cm.sum (h3 i)
theorem Mixes.sb {m n k : Nat} {qs : List Rat} {ts : List (List Rat)} (h : Mixes m n k qs ts) {i : Nat} (hi : i < k) : Sb (m + (n * 8 + 1)) (mixc qs ts i) := by
  obtain ⟨D, h1, h2, h3⟩ := h.com
  refine ⟨h.pos i, ?_, D, h1, h2, h3 i⟩
  have : (mixc qs ts i).sum ∈ mix qs ts k := List.mem_map.mpr ⟨i, List.mem_range.mpr hi, rfl⟩
  have := h.res.le1 this
  have : (1 : Rat) < ((2 ^ 40 : Nat) : Rat) := Rat.lt_iff_le_and_ne.mpr ⟨by decide, by decide⟩
  grind
/-! ### beside -/
def bes (qs rs : List Rat) : List Rat := qs.flatMap fun q => rs.map fun r => q * r
theorem sum_append (l m : List Rat) : (l ++ m).sum = l.sum + m.sum := by
  induction l with
  | nil => exact (Rat.zero_add _).symm
  | cons a l ih => rw [List.cons_append, List.sum_cons, List.sum_cons, ih, Rat.add_assoc]
theorem bes_sum (rs : List Rat) : ∀ qs : List Rat, (bes qs rs).sum = qs.sum * rs.sum
  | [] => (Rat.zero_mul _).symm
  | q :: qs => by
    show ((rs.map fun r => q * r) ++ bes qs rs).sum = _
    rw [sum_append, bes_sum rs qs, List.sum_cons, Rat.add_mul]
    have := sum_mulL q (fun r => r) rs
    rw [List.map_id'] at this
    rw [this]
theorem bes_length (rs : List Rat) : ∀ qs : List Rat, (bes qs rs).length = qs.length * rs.length
  | [] => by simp [bes]
  | q :: qs => by
    show ((rs.map fun r => q * r) ++ bes qs rs).length = _
    rw [List.length_append, List.length_map, bes_length rs qs, List.length_cons, Nat.add_mul, Nat.one_mul, Nat.add_comm]
theorem bes_tab {m n : Nat} {qs rs : List Rat} (h : Tab m qs) (g : Tab n rs) (l8 : qs.length * rs.length ≤ 8) : Tab (m + n) (bes qs rs) := by
  obtain ⟨D, h1, h2, h3⟩ := h.com
  obtain ⟨E, g1, g2, g3⟩ := g.com
  have mem : ∀ x ∈ bes qs rs, ∃ q ∈ qs, ∃ r ∈ rs, x = q * r := fun x hx => by
    obtain ⟨q, hq, hx⟩ := List.mem_flatMap.mp hx
    obtain ⟨r, hr, rfl⟩ := List.mem_map.mp hx
    exact ⟨q, hq, r, hr, rfl⟩
  refine ⟨?_, ?_, ?_, ?_, D * E, Nat.mul_pos h1 g1, ?_, ?_⟩
  · intro z
    have := congrArg List.length z
    rw [bes_length] at this
    have a := List.length_pos_iff.mpr h.ne
    have b := List.length_pos_iff.mpr g.ne
    have := Nat.mul_pos a b
    simp only [List.length_nil] at *
    omega
  · rw [bes_length]; exact l8
  · intro x hx
    obtain ⟨q, hq, r, hr, rfl⟩ := mem x hx
    exact Rat.mul_nonneg (h.pos q hq) (g.pos r hr)
  · rw [bes_sum, h.one, g.one]; exact Rat.mul_one 1
  · rw [Nat.pow_add]; exact Nat.mul_lt_mul'' h2 g2
  · intro x hx
    obtain ⟨q, hq, r, hr, rfl⟩ := mem x hx
    exact (h3 q hq).mul (g3 r hr)
theorem num_pos {q : Rat} (h : 0 < q) : 0 < q.num := by
  have h1 := Rat.num_nonneg.mpr (Rat.le_of_lt h)
  have h2 : q.num ≠ 0 := by
    intro e
    have := Rat.num_eq_zero.mp e
    subst this
    exact absurd h (by decide)
  omega
/-! ### remainders: each step halves -/
def Euc (i x y : Nat) : Prop := x * y < 2 ^ (min 3980 (3981 - i)) ∧ (i = 0 ∨ y < x)
theorem euc_start {a b : Nat} (ha : a < 2 ^ 1990) (hb : b < 2 ^ 1990) : Euc 0 a b := by
  refine ⟨?_, .inl rfl⟩
  have h := Nat.mul_lt_mul'' ha hb
  rw [← Nat.pow_add] at h
  exact Nat.lt_of_lt_of_le h (Nat.pow_le_pow_right (by decide) (by decide))
theorem euc_step {i x y : Nat} (h : Euc i x y) (h0 : y ≠ 0) : Euc (i + 1) y (x % y) := by
  have hm : x % y < y := Nat.mod_lt _ (by omega)
  refine ⟨?_, .inr hm⟩
  obtain ⟨h1, h2⟩ := h
  by_cases hxy : x < y
  · have i0 : i = 0 := by omega
    subst i0
    rw [Nat.mod_eq_of_lt hxy, Nat.mul_comm]
    exact h1
  · have hd := Nat.div_add_mod x y
    have hq : 1 ≤ x / y := (Nat.one_le_div_iff (by omega)).mpr (by omega)
    have h3 : y * 1 ≤ y * (x / y) := Nat.mul_le_mul_left y hq
    have h4 : 2 * (x % y) ≤ x := by omega
    have h5 : 2 * (y * (x % y)) ≤ x * y := by
      have := Nat.mul_le_mul_left y h4
      rw [Nat.mul_left_comm, Nat.mul_comm y x] at this
      exact this
    by_cases hi : i < 3981
    · rw [show min 3980 (3981 - (i + 1)) = 3980 - i by omega]
      have h6 : 2 ^ (min 3980 (3981 - i)) ≤ 2 ^ (3980 - i + 1) := Nat.pow_le_pow_right (by decide) (by omega)
      rw [Nat.pow_succ] at h6
      omega
    · rw [show min 3980 (3981 - (i + 1)) = 0 by omega]
      rw [show min 3980 (3981 - i) = 0 by omega] at h1
      omega
theorem euc_end {x y : Nat} (h : Euc 4000 x y) : y = 0 := by
  obtain ⟨h1, h2⟩ := h
  rw [show min 3980 (3981 - 4000) = 0 from rfl] at h1
  have h3 : x * y = 0 := by omega
  rcases Nat.mul_eq_zero.mp h3 with z | z
  · omega
  · exact z
theorem sum_step {t b : Int} {q : Rat} (hb : 0 < b) : Rat.divInt (t * (q.den : Int) + q.num * b) (b * (q.den : Int)) = Rat.divInt t b + q := by
  conv => rhs; rw [← Rat.num_divInt_den q]
  rw [Rat.divInt_add_divInt _ _ (by omega) (by have := q.den_nz; omega)]
/-! ### tables of parts -/
structure Parts (n : Nat) (b : Int) (ps : List Int) : Prop where
  len : ps.length = n
  pos : ∀ p ∈ ps, 0 ≤ p
  le : ∀ p ∈ ps, p ≤ b
  ex : ∃ p ∈ ps, 0 < p
theorem isum_le {b : Int} : ∀ (ps : List Int), (∀ p ∈ ps, p ≤ b) → ps.sum ≤ ps.length * b
  | [], _ => by simp
  | p :: ps, h => by
    have h1 := h p List.mem_cons_self
    have h2 := isum_le ps fun x hx => h x (List.mem_cons_of_mem _ hx)
    rw [List.sum_cons, List.length_cons, Int.natCast_add, Int.add_mul]
    omega
theorem isum_pos : ∀ (ps : List Int), (∀ p ∈ ps, 0 ≤ p) → 0 ≤ ps.sum ∧ ∀ q ∈ ps, q ≤ ps.sum
  | [], _ => by simp
  | p :: ps, h => by
    have h1 := h p List.mem_cons_self
    obtain ⟨h2, h3⟩ := isum_pos ps fun x hx => h x (List.mem_cons_of_mem _ hx)
    rw [List.sum_cons]
    refine ⟨by omega, fun q hq => ?_⟩
    rcases List.mem_cons.mp hq with rfl | hq
    · omega
    · have := h3 q hq; omega
theorem rsum_map (W : Int) : ∀ (ps : List Int), (ps.map fun p => Rat.divInt p W).sum = (ps.sum : Rat) / (W : Rat)
  | [] => by
    show (0 : Rat) = ((0 : Int) : Rat) / (W : Rat)
    rw [Rat.div_def]
    exact (Rat.zero_mul _).symm
  | p :: ps => by
    rw [List.map_cons, List.sum_cons, List.sum_cons, rsum_map W ps, Rat.divInt_eq_div, Rat.intCast_add, Rat.div_def, Rat.div_def, Rat.div_def, Rat.add_mul]
def ptab (ps : List Int) : List Rat := ps.map fun p => Rat.divInt p ps.sum
theorem Parts.sum {n : Nat} {b : Int} {ps : List Int} (h : Parts n b ps) : 0 < ps.sum ∧ ps.sum ≤ n * b := by
  obtain ⟨q, hq, h0⟩ := h.ex
  have h1 := (isum_pos ps h.pos).2 q hq
  have h2 := isum_le ps h.le
  rw [h.len] at h2
  exact ⟨by omega, h2⟩
theorem Parts.tab {n : Nat} {b : Int} {ps : List Int} (h : Parts n b ps) (hn : n ≤ 8) (hb : b ≤ 1000000000100) : Tab 44 (ptab ps) := by
  obtain ⟨h0, h1⟩ := h.sum
  obtain ⟨q, hq, _⟩ := h.ex
  have hW : ((ps.sum : Int) : Rat) ≠ 0 := by
    intro e
    have := Rat.intCast_inj.mp (show ((ps.sum : Int) : Rat) = ((0 : Int) : Rat) from e)
    omega
  have hWp : (0 : Rat) < ((ps.sum : Int) : Rat) := Rat.intCast_pos.mpr h0
  refine ⟨?_, ?_, ?_, ?_, ps.sum.toNat, by omega, ?_, ?_⟩
  · intro e
    have := congrArg List.length e
    unfold ptab at this
    rw [List.length_map] at this
    rw [List.length_eq_zero_iff.mp this] at hq
    cases hq
  · unfold ptab; rw [List.length_map, h.len]; exact hn
  · intro x hx
    obtain ⟨p, hp, rfl⟩ := List.mem_map.mp hx
    rw [Rat.divInt_eq_div, Rat.div_def]
    exact Rat.mul_nonneg (by have := h.pos p hp; exact_mod_cast this) (Rat.le_of_lt (Rat.inv_pos.mpr hWp))
  · unfold ptab
    rw [rsum_map]
    exact div_self' hW
  · have hb0 : 0 ≤ b := by have := h.le q hq; have := h.pos q hq; omega
    have : (n : Int) * b ≤ 8 * 1000000000100 := Int.mul_le_mul (by omega) hb hb0 (by decide)
    omega
  · intro x hx
    obtain ⟨p, hp, rfl⟩ := List.mem_map.mp hx
    refine ⟨p, ?_⟩
    have e : ((ps.sum.toNat : Nat) : Rat) = ((ps.sum : Int) : Rat) := by
      rw [← Rat.intCast_natCast]
      congr 1
      omega
    rw [e, Rat.divInt_eq_div, Rat.div_def, Rat.mul_assoc, Rat.inv_mul_cancel _ hW, Rat.mul_one]
theorem Mixes.resL {m n k : Nat} {qs : List Rat} {ts : List (List Rat)} (h : Mixes m n k qs ts) : Tab (m + (n * ts.length + 1)) (mix qs ts k) := by
  obtain ⟨D, h1, h2, h3⟩ := h.comL
  have r := h.res
  refine ⟨r.ne, r.len, r.pos, r.one, D, h1, h2, ?_⟩
  intro q hq
  obtain ⟨i, _, rfl⟩ := List.mem_map.mp hq
  exact Cm.sum (h3 i)
end MR

/-! My: what the laws of tables say, of lists of fractions. -/
namespace MR
/-! ### sums over ranges -/
def rs (k : Nat) (F : Nat → Rat) : Rat := ((List.range k).map F).sum
theorem rs_zero (F : Nat → Rat) : rs 0 F = 0 := rfl
theorem rs_succ (k : Nat) (F : Nat → Rat) : rs (k + 1) F = rs k F + F k := by
  unfold rs
  rw [List.range_succ, List.map_append, sum_append]
  show _ = _
  rw [List.map_cons, List.map_nil, List.sum_cons]
  show _ + (F k + 0) = _
  rw [Rat.add_zero]
theorem rs_congr {k : Nat} {F G : Nat → Rat} (h : ∀ i, i < k → F i = G i) : rs k F = rs k G := by
  unfold rs
  congr 1
  exact List.map_congr_left fun i hi => h i (List.mem_range.mp hi)
theorem rs_add (k : Nat) (F G : Nat → Rat) : rs k (fun i => F i + G i) = rs k F + rs k G := sum_add F G _
theorem rs_const0 (k : Nat) : rs k (fun _ => 0) = 0 := sum_zero _
theorem rs_mul (k : Nat) (c : Rat) (F : Nat → Rat) : rs k (fun i => c * F i) = c * rs k F := sum_mulL c F _
theorem rs_swap (k l : Nat) (F : Nat → Nat → Rat) : rs k (fun i => rs l fun j => F i j) = rs l fun j => rs k fun i => F i j := by
  unfold rs
  exact sum_swap (fun j i => F i j) (List.range k) (List.range l)
theorem rs_split (k l : Nat) (F : Nat → Rat) : rs (k + l) F = rs k F + rs l fun i => F (k + i) := by
  induction l with
  | zero => rw [Nat.add_zero, rs_zero, Rat.add_zero]
  | succ l ih => rw [Nat.add_succ, rs_succ, ih, rs_succ, Rat.add_assoc]
/-- one of a range -/
theorem rs_one {k x : Nat} (h : x < k) (F : Nat → Rat) : rs k (fun i => if i = x then F i else 0) = F x := by
  induction k with
  | zero => omega
  | succ k ih =>
    rw [rs_succ]
    by_cases e : x = k
    · subst e
      rw [if_pos rfl]
      have : rs x (fun i => if i = x then F i else 0) = rs x fun _ => 0 := rs_congr fun i hi => by rw [if_neg (by omega)]
      rw [this, rs_const0, Rat.zero_add]
    · rw [ih (by omega), if_neg (Ne.symm e), Rat.add_zero]
/-- pairs of a quotient and a rest -/
theorem rs_pairs (b : Nat) (hb : 0 < b) (F : Nat → Nat → Rat) : ∀ a : Nat, rs (a * b) (fun t => F (t / b) (t % b)) = rs a fun i => rs b fun j => F i j
  | 0 => by rw [Nat.zero_mul]; rfl
  | a + 1 => by
    rw [Nat.succ_mul, rs_split, rs_pairs b hb F a, rs_succ]
    congr 1
    refine rs_congr fun i hi => ?_
    have h1 : (a * b + i) / b = a := by
      rw [Nat.mul_comm, Nat.mul_add_div hb, Nat.div_eq_of_lt hi, Nat.add_zero]
    have h2 : (a * b + i) % b = i := by
      rw [Nat.mul_comm, Nat.mul_add_mod, Nat.mod_eq_of_lt hi]
    rw [h1, h2]
/-! ### lists as functions of their places -/
theorem as_range (qs : List Rat) : (List.range qs.length).map (fun i => qs.getD i 0) = qs := range_getD qs
theorem sum_rs (qs : List Rat) : qs.sum = rs qs.length fun i => qs.getD i 0 := by
  unfold rs; rw [as_range]
theorem getD_map_range {k i : Nat} (F : Nat → Rat) (h : i < k) : ((List.range k).map F).getD i 0 = F i := by
  rw [List.getD_eq_getElem?_getD, List.getElem?_map, List.getElem?_range h]
  rfl
theorem sum_ite {α : Type} (p : α → Bool) (f : α → Rat) : ∀ l : List α, ((l.filter p).map f).sum = (l.map fun a => if p a = true then f a else 0).sum
  | [] => rfl
  | a :: l => by
    rw [List.filter_cons, List.map_cons, List.sum_cons, ← sum_ite p f l]
    by_cases h : p a = true
    · rw [if_pos h, if_pos h, List.map_cons, List.sum_cons]
    · rw [if_neg h, if_neg h, Rat.zero_add]
theorem nat_as_range (ns : List Nat) : (List.range ns.length).map (fun i => ns.getD i 0) = ns := by
  apply List.ext_getElem
  · simp
  · intro i h1 h2
    simp
    rw [List.getElem?_eq_getElem h2]
    rfl
theorem zip_range {qs : List Rat} {ns : List Nat} (h : ns.length = qs.length) : qs.zip ns = (List.range qs.length).map fun i => (qs.getD i 0, ns.getD i 0) := by
  conv => lhs; rw [← as_range qs, ← nat_as_range ns, h]
  rw [List.zip_map']
theorem named_sum {qs : List Rat} {ns : List Nat} (h : ns.length = qs.length) (x : Nat) : (named qs ns x).sum = rs qs.length fun i => if ns.getD i 0 = x then qs.getD i 0 else 0 := by
  unfold named
  rw [sum_ite, zip_range h, List.map_map]
  unfold rs
  congr 1
  refine List.map_congr_left fun i _ => ?_
  simp
theorem getD_mem {ns : List Nat} {i : Nat} (h : i < ns.length) : ns.getD i 0 ∈ ns := by
  rw [List.getD_eq_getElem?_getD, List.getElem?_eq_getElem h]
  exact List.getElem_mem h
theorem ren_getD {qs : List Rat} {ns : List Nat} (h : ns.length = qs.length) {x : Nat} (hx : x ≤ maxN ns) : (ren qs ns).getD x 0 = rs qs.length fun i => if ns.getD i 0 = x then qs.getD i 0 else 0 := by
  unfold ren
  rw [getD_map_range _ (by omega), named_sum h]
theorem ren_length (qs : List Rat) (ns : List Nat) : (ren qs ns).length = maxN ns + 1 := by unfold ren; simp
/-- renamed twice -/
theorem ren_ren {qs : List Rat} {ns ls : List Nat} (h : ns.length = qs.length) (hl : ls.length = (ren qs ns).length) :
    ren (ren qs ns) ls = ren qs (ns.map fun n => ls.getD n 0) ++ List.replicate (maxN ls - maxN (ns.map fun n => ls.getD n 0)) 0 := by
  have hb : (ns.map fun n => ls.getD n 0).length = qs.length := by rw [List.length_map]; exact h
  have hle : maxN (ns.map fun n => ls.getD n 0) ≤ maxN ls := maxN_le fun x hx => by
    obtain ⟨n, hn, rfl⟩ := List.mem_map.mp hx
    refine le_maxN (getD_mem ?_)
    rw [hl, ren_length]
    have := le_maxN hn
    omega
  have key : ∀ x, (named (ren qs ns) ls x).sum = (named qs (ns.map fun n => ls.getD n 0) x).sum := fun x => by
    rw [named_sum hl, named_sum hb, ren_length]
    have e1 : rs (maxN ns + 1) (fun y => if ls.getD y 0 = x then (ren qs ns).getD y 0 else 0) = rs (maxN ns + 1) fun y => rs qs.length fun i => if ns.getD i 0 = y then (if ls.getD y 0 = x then qs.getD i 0 else 0) else 0 := by
      refine rs_congr fun y hy => ?_
      rw [ren_getD h (by omega)]
      by_cases e : ls.getD y 0 = x
      · simp only [e, if_true]
      · rw [if_neg e]
        have : rs qs.length (fun i => if ns.getD i 0 = y then (if ls.getD y 0 = x then qs.getD i 0 else 0) else 0) = rs qs.length fun _ => 0 := rs_congr fun i _ => by rw [if_neg e]; split <;> rfl
        rw [this, rs_const0]
    rw [e1, rs_swap]
    refine rs_congr fun i hi => ?_
    have hi' : i < ns.length := by omega
    have hn := le_maxN (getD_mem hi')
    have e2 : (fun y => if ns.getD i 0 = y then (if ls.getD y 0 = x then qs.getD i 0 else 0) else 0) = fun y => if y = ns.getD i 0 then (if ls.getD y 0 = x then qs.getD i 0 else 0) else 0 := by
      funext y
      by_cases e : ns.getD i 0 = y
      · rw [if_pos e, if_pos e.symm]
      · rw [if_neg e, if_neg (Ne.symm e)]
    rw [e2, rs_one (by omega)]
    have e3 : (ns.map fun n => ls.getD n 0).getD i 0 = ls.getD (ns.getD i 0) 0 := by
      rw [List.getD_eq_getElem?_getD, List.getElem?_map, List.getElem?_eq_getElem hi', List.getD_eq_getElem?_getD (l := ns), List.getElem?_eq_getElem hi']
      rfl
    rw [e3]
  generalize hB : (ns.map fun n => ls.getD n 0) = bs at *
  unfold ren
  have e4 : maxN ls + 1 = (maxN bs + 1) + (maxN ls - maxN bs) := by omega
  have e5 : List.range (maxN ls + 1) = List.range (maxN bs + 1) ++ (List.range (maxN ls - maxN bs)).map fun i => maxN bs + 1 + i := by
    rw [e4, List.range_add]
  rw [e5, List.map_append, List.map_map]
  congr 1
  · refine List.map_congr_left fun x _ => ?_
    exact key x
  · have : ∀ i, (named ((List.range (maxN ns + 1)).map fun x => (named qs ns x).sum) ls (maxN bs + 1 + i)).sum = 0 := fun i => by
      have := key (maxN bs + 1 + i)
      unfold ren at this
      rw [this, named_sum hb]
      have : rs qs.length (fun j => if bs.getD j 0 = maxN bs + 1 + i then qs.getD j 0 else 0) = rs qs.length fun _ => 0 := rs_congr fun j hj => by
        have := le_maxN (getD_mem (ns := bs) (i := j) (by omega))
        rw [if_neg (by omega)]
      rw [this, rs_const0]
    rw [List.eq_replicate_iff]
    refine ⟨by simp, fun x hx => ?_⟩
    obtain ⟨i, _, rfl⟩ := List.mem_map.mp hx
    exact this i
theorem ren_zero {qs : List Rat} (hne : qs ≠ []) : ren qs (List.replicate qs.length 0) = [qs.sum] := by
  have hl : (List.replicate qs.length 0).length = qs.length := by simp
  have hm : maxN (List.replicate qs.length 0) = 0 := by
    have := maxN_le (ns := List.replicate qs.length 0) (m := 0) fun x hx => by rw [(List.mem_replicate.mp hx).2]; exact Nat.le_refl _
    omega
  unfold ren
  rw [hm]
  show [(named qs (List.replicate qs.length 0) 0).sum] = _
  rw [named_sum hl, sum_rs]
  congr 1
  refine rs_congr fun i hi => ?_
  rw [if_pos]
  rw [List.getD_eq_getElem?_getD, List.getElem?_replicate]
  split <;> rfl
theorem maxN_range {n : Nat} (h : 0 < n) : maxN (List.range n) = n - 1 := by
  have h1 := maxN_le (ns := List.range n) (m := n - 1) fun x hx => by have := List.mem_range.mp hx; omega
  have h2 := le_maxN (ns := List.range n) (n := n - 1) (List.mem_range.mpr (by omega))
  omega
theorem ren_range {qs : List Rat} (hne : qs ≠ []) : ren qs (List.range qs.length) = qs := by
  have hp := List.length_pos_iff.mpr hne
  have hl : (List.range qs.length).length = qs.length := by simp
  unfold ren
  rw [maxN_range hp, show qs.length - 1 + 1 = qs.length by omega]
  conv => rhs; rw [← as_range qs]
  refine List.map_congr_left fun x hx => ?_
  have hx' := List.mem_range.mp hx
  rw [named_sum hl]
  have : rs qs.length (fun i => if (List.range qs.length).getD i 0 = x then qs.getD i 0 else 0) = rs qs.length fun i => if i = x then qs.getD i 0 else 0 := rs_congr fun i hi => by
    have e : (List.range qs.length).getD i 0 = i := by
      rw [List.getD_eq_getElem?_getD, List.getElem?_range hi]; rfl
    rw [e]
  rw [this, rs_one hx']
/-! ### given a lot and the rest -/
theorem numd_getD : ∀ (qs : List Rat) (a i : Nat), i < qs.length → (numd a qs)[i]? = some (a + i, qs.getD i 0)
  | [], _, _, h => by simp at h
  | q :: qs, a, 0, _ => by simp [numd]
  | q :: qs, a, i + 1, h => by
    have := numd_getD qs (a + 1) i (by simpa using h)
    simp only [numd, List.getElem?_cons_succ, this, List.getD_cons_succ]
    congr 2
    omega
theorem numd_range (qs : List Rat) : numd 0 qs = (List.range qs.length).map fun i => (i, qs.getD i 0) := by
  apply List.ext_getElem?
  intro i
  by_cases h : i < qs.length
  · rw [numd_getD qs 0 i h, List.getElem?_map, List.getElem?_range h, Nat.zero_add]; rfl
  · rw [List.getElem?_eq_none (by rw [numd_length]; omega), List.getElem?_eq_none (by simp; omega)]
theorem lotQ_rs {qs : List Rat} {ns : List Nat} (h : Lot qs.length ns) : (lotQ qs ns).sum = rs qs.length fun i => if i ∈ ns then qs.getD i 0 else 0 := by
  rw [← lot_sum h, numd_range, List.map_map]
  rfl
theorem given_getD {qs : List Rat} {ns : List Nat} {i : Nat} (hi : i < qs.length) : (given qs ns).getD i 0 = if i ∈ ns then qs.getD i 0 / (lotQ qs ns).sum else 0 := by
  unfold given
  rw [numd_range, List.map_map, getD_map_range _ hi]
  rfl
theorem given_length (qs : List Rat) (ns : List Nat) : (given qs ns).length = qs.length := by
  unfold given; rw [List.length_map, numd_length]
def restOf (n : Nat) (ns : List Nat) : List Nat := (List.range n).filter fun i => !decide (i ∈ ns)
theorem rest_lot {n : Nat} {ns : List Nat} (h : n ≤ 8) : Lot n (restOf n ns) :=
  ⟨List.pairwise_lt_range.filter _, fun x hx => List.mem_range.mp (List.mem_filter.mp hx).1, h⟩
theorem mem_rest {n i : Nat} {ns : List Nat} (h : i < n) : i ∈ restOf n ns ↔ i ∉ ns := by
  unfold restOf
  rw [List.mem_filter]
  simp [h]
theorem rest_sum {qs : List Rat} {ns : List Nat} (h : Lot qs.length ns) : (lotQ qs ns).sum + (lotQ qs (restOf qs.length ns)).sum = qs.sum := by
  rw [lotQ_rs h, lotQ_rs (rest_lot h.le), sum_rs, ← rs_add]
  refine rs_congr fun i hi => ?_
  by_cases e : i ∈ ns
  · rw [if_pos e, if_neg (by rw [mem_rest hi]; simpa using e), Rat.add_zero]
  · rw [if_neg e, if_pos ((mem_rest hi).mpr e), Rat.zero_add]
theorem mix_getD {qs : List Rat} {ts : List (List Rat)} {k i : Nat} (hi : i < k) : (mix qs ts k).getD i 0 = (mixc qs ts i).sum := by
  unfold mix; rw [getD_map_range _ hi]
theorem mix_length (qs : List Rat) (ts : List (List Rat)) (k : Nat) : (mix qs ts k).length = k := by unfold mix; simp
theorem ext_getD {qs rs : List Rat} (hl : qs.length = rs.length) (h : ∀ i, i < qs.length → qs.getD i 0 = rs.getD i 0) : qs = rs := by
  rw [← as_range qs, ← as_range rs, ← hl]
  exact List.map_congr_left fun i hi => h i (List.mem_range.mp hi)
theorem mixc_two (a b : Rat) (s t : List Rat) (i : Nat) : (mixc [a, b] [s, t] i).sum = a * s.getD i 0 + b * t.getD i 0 := by
  show (a * s.getD i 0 + (b * t.getD i 0 + 0)) = _
  rw [Rat.add_zero]
theorem mix_given {qs : List Rat} {ns : List Nat} (h : Lot qs.length ns) (h0 : (lotQ qs ns).sum ≠ 0) (h1 : (lotQ qs (restOf qs.length ns)).sum ≠ 0) :
    mix [(lotQ qs ns).sum, (lotQ qs (restOf qs.length ns)).sum] [given qs ns, given qs (restOf qs.length ns)] qs.length = qs := by
  refine ext_getD (mix_length _ _ _) fun i hi => ?_
  rw [mix_length] at hi
  rw [mix_getD hi, mixc_two, given_getD hi, given_getD hi]
  by_cases e : i ∈ ns
  · rw [if_pos e, if_neg (by rw [mem_rest hi]; simpa using e)]
    generalize (lotQ qs ns).sum = W at *
    have : W * (qs.getD i 0 / W) = qs.getD i 0 := by rw [Rat.div_def, Rat.mul_comm, Rat.mul_assoc, Rat.inv_mul_cancel W h0, Rat.mul_one]
    rw [this, Rat.mul_zero, Rat.add_zero]
  · rw [if_neg e, if_pos ((mem_rest hi).mpr e)]
    generalize (lotQ qs (restOf qs.length ns)).sum = W at *
    have : W * (qs.getD i 0 / W) = qs.getD i 0 := by rw [Rat.div_def, Rat.mul_comm, Rat.mul_assoc, Rat.inv_mul_cancel W h1, Rat.mul_one]
    rw [this, Rat.mul_zero, Rat.zero_add]
/-- two chances -/
theorem two_tab {n : Nat} {qs : List Rat} {ns : List Nat} (h : Tab n qs) (hl : Lot qs.length ns) : Tab n [(lotQ qs ns).sum, (lotQ qs (restOf qs.length ns)).sum] := by
  have hr := rest_lot (n := qs.length) (ns := ns) hl.le
  obtain ⟨D, h1, h2, h3⟩ := h.com
  refine ⟨by simp, by simp, fun q hq => ?_, ?_, D, h1, h2, fun q hq => ?_⟩
  · rcases List.mem_cons.mp hq with rfl | hq
    · exact sum_nonneg fun q hq => h.pos q (hl.sub.subset hq)
    · rw [List.mem_singleton.mp hq]
      exact sum_nonneg fun q hq => h.pos q (hr.sub.subset hq)
  · have := rest_sum hl
    rw [h.one] at this
    rw [← this]
    show _ + (_ + 0) = _
    rw [Rat.add_zero]
  · rcases List.mem_cons.mp hq with rfl | hq
    · exact Cm.sum fun q hq => h3 q (hl.sub.subset hq)
    · rw [List.mem_singleton.mp hq]
      exact Cm.sum fun q hq => h3 q (hr.sub.subset hq)
/-! ### mixed, in parts -/
theorem zipR {α : Type} (d : α) (qs : List Rat) (ts : List α) (h : ts.length = qs.length) : qs.zip ts = (List.range qs.length).map fun i => (qs.getD i 0, ts.getD i d) := by
  have e : ts = (List.range qs.length).map fun i => ts.getD i d := by
    apply List.ext_getElem
    · simp [h]
    · intro i h1 h2
      simp
      rw [List.getElem?_eq_getElem h1]
      rfl
  conv => lhs; rw [← as_range qs, e]
  rw [List.zip_map']
theorem mixc_rs {qs : List Rat} {ts : List (List Rat)} (h : ts.length = qs.length) (i : Nat) : (mixc qs ts i).sum = rs qs.length fun j => qs.getD j 0 * (ts.getD j []).getD i 0 := by
  unfold mixc
  rw [zipR [] qs ts h, List.map_map]
  rfl
/-- a mixing table renamed mixes with its tables put together -/
theorem ren_mix {qs : List Rat} {ts : List (List Rat)} {k : Nat} {ns : List Nat} (h : ts.length = qs.length) (hw : ∀ t ∈ ts, t.length = k) (hn : ns.length = k) :
    ren (mix qs ts k) ns = mix qs (ts.map fun t => ren t ns) (maxN ns + 1) := by
  have hm : ns.length = (mix qs ts k).length := by rw [mix_length]; exact hn
  refine ext_getD (by rw [ren_length, mix_length]) fun x hx => ?_
  rw [ren_length] at hx
  rw [ren_getD hm (by omega), mix_getD hx, mixc_rs (by rw [List.length_map]; exact h), mix_length]
  have e1 : rs k (fun i => if ns.getD i 0 = x then (mix qs ts k).getD i 0 else 0) = rs k fun i => rs qs.length fun j => if ns.getD i 0 = x then qs.getD j 0 * (ts.getD j []).getD i 0 else 0 := rs_congr fun i hi => by
    rw [mix_getD hi, mixc_rs h]
    by_cases e : ns.getD i 0 = x
    · simp only [e, if_true]
    · simp only [e, if_false]
      rw [rs_const0]
  rw [e1, rs_swap]
  refine rs_congr fun j hj => ?_
  have hj' : j < ts.length := by omega
  have e2 : (ts.map fun t => ren t ns).getD j [] = ren (ts.getD j []) ns := by
    rw [List.getD_eq_getElem?_getD, List.getElem?_map, List.getElem?_eq_getElem hj', List.getD_eq_getElem?_getD, List.getElem?_eq_getElem hj']
    rfl
  have hk : (ts.getD j []).length = k := hw _ (by
    rw [List.getD_eq_getElem?_getD, List.getElem?_eq_getElem hj']
    exact List.getElem_mem hj')
  rw [e2, ren_getD (by rw [hn, hk]) (by omega), ← rs_mul, hk]
  refine rs_congr fun i _ => ?_
  by_cases e : ns.getD i 0 = x
  · simp only [e, if_true]
  · simp only [e, if_false]
    rw [Rat.mul_zero]
/-- the first two put together -/
def mergedN (n : Nat) : List Nat := 0 :: 0 :: (List.range (n - 2)).map fun i => i + 1
theorem mergedN_ren {q0 q1 : Rat} {qs : List Rat} : ren (q0 :: q1 :: qs) (mergedN (qs.length + 2)) = (q0 + q1) :: qs := by
  have hl : (mergedN (qs.length + 2)).length = (q0 :: q1 :: qs).length := by simp [mergedN]
  have hm : maxN (mergedN (qs.length + 2)) = qs.length := by
    have h1 := maxN_le (ns := mergedN (qs.length + 2)) (m := qs.length) fun x hx => by
      simp only [mergedN, List.mem_cons, List.mem_map, List.mem_range] at hx
      rcases hx with rfl | rfl | ⟨i, hi, rfl⟩
      · omega
      · omega
      · omega
    have h2 : qs.length ∈ mergedN (qs.length + 2) := by
      cases qs with
      | nil => simp [mergedN]
      | cons a l =>
        simp only [mergedN, List.mem_cons, List.mem_map, List.mem_range, List.length_cons]
        exact .inr (.inr ⟨l.length, by omega, rfl⟩)
    have := le_maxN h2
    omega
  refine ext_getD (by rw [ren_length, hm]; simp) fun x hx => ?_
  rw [ren_length, hm] at hx
  rw [ren_getD hl (by omega)]
  have e2 : ∀ F : Nat → Rat, rs (qs.length + 2) F = F 0 + F 1 + rs qs.length fun i => F (i + 2) := fun F => by
    rw [Nat.add_comm, rs_split]
    congr 1
    · show rs 2 F = _
      rw [rs_succ, rs_succ, rs_zero, Rat.zero_add]
    · exact rs_congr fun i _ => by rw [Nat.add_comm]
  rw [show (q0 :: q1 :: qs).length = qs.length + 2 from rfl, e2]
  have e3 : (mergedN (qs.length + 2)).getD 0 0 = 0 := rfl
  have e4 : (mergedN (qs.length + 2)).getD 1 0 = 0 := rfl
  have e5 : ∀ i, i < qs.length → (mergedN (qs.length + 2)).getD (i + 2) 0 = i + 1 := fun i hi => by
    show ((List.range (qs.length + 2 - 2)).map fun i => i + 1).getD i 0 = _
    rw [List.getD_eq_getElem?_getD, List.getElem?_map, List.getElem?_range (by omega)]
    rfl
  rw [e3, e4]
  cases x with
  | zero =>
    have : (rs qs.length fun i => if (mergedN (qs.length + 2)).getD (i + 2) 0 = 0 then (q0 :: q1 :: qs).getD (i + 2) 0 else 0) = rs qs.length fun _ => 0 := rs_congr fun i hi => by rw [e5 i hi, if_neg (by omega)]
    rw [this, rs_const0, Rat.add_zero]
    rfl
  | succ x =>
    rw [if_neg (by omega), if_neg (by omega)]
    have : (rs qs.length fun i => if (mergedN (qs.length + 2)).getD (i + 2) 0 = x + 1 then (q0 :: q1 :: qs).getD (i + 2) 0 else 0) = rs qs.length fun i => if i = x then qs.getD i 0 else 0 := rs_congr fun i hi => by
      rw [e5 i hi]
      by_cases e : i = x
      · rw [if_pos (by omega), if_pos e]; rfl
      · rw [if_neg (by omega), if_neg e]
    rw [this, rs_one (by omega)]
    show 0 + 0 + qs.getD x 0 = qs.getD x 0
    rw [Rat.add_zero, Rat.zero_add]
/-! ### beside -/
theorem bes_range {qs rr : List Rat} (hb : 0 < rr.length) : bes qs rr = (List.range (qs.length * rr.length)).map fun t => qs.getD (t / rr.length) 0 * rr.getD (t % rr.length) 0 := by
  induction qs with
  | nil => simp [bes]
  | cons q qs ih =>
    show (rr.map fun r => q * r) ++ bes qs rr = _
    rw [ih, List.length_cons, Nat.succ_mul, Nat.add_comm (qs.length * rr.length), List.range_add, List.map_append]
    congr 1
    · conv => lhs; rw [← as_range rr]
      rw [List.map_map]
      refine List.map_congr_left fun i hi => ?_
      have hi' := List.mem_range.mp hi
      show q * rr.getD i 0 = _
      rw [Nat.div_eq_of_lt hi', Nat.mod_eq_of_lt hi']
      rfl
    · rw [List.map_map]
      refine List.map_congr_left fun i hi => ?_
      show _ = (q :: qs).getD ((rr.length + i) / rr.length) 0 * rr.getD ((rr.length + i) % rr.length) 0
      have h1 : (rr.length + i) / rr.length = i / rr.length + 1 := by rw [Nat.add_comm, Nat.add_div_right _ hb]
      have h2 : (rr.length + i) % rr.length = i % rr.length := by rw [Nat.add_mod_left]
      rw [h1, h2]
      rfl
theorem bes_getD {qs rr : List Rat} {t : Nat} (ht : t < qs.length * rr.length) : (bes qs rr).getD t 0 = qs.getD (t / rr.length) 0 * rr.getD (t % rr.length) 0 := by
  have hb : 0 < rr.length := by
    rcases Nat.eq_zero_or_pos rr.length with h | h
    · rw [h] at ht; simp at ht
    · exact h
  rw [bes_range hb, getD_map_range _ ht]
def fstP (a b : Nat) : List Nat := (List.range (a * b)).map fun t => t / b
def sndP (a b : Nat) : List Nat := (List.range (a * b)).map fun t => t % b
theorem fstP_getD {a b t : Nat} (h : t < a * b) : (fstP a b).getD t 0 = t / b := by
  unfold fstP
  rw [List.getD_eq_getElem?_getD, List.getElem?_map, List.getElem?_range h]; rfl
theorem sndP_getD {a b t : Nat} (h : t < a * b) : (sndP a b).getD t 0 = t % b := by
  unfold sndP
  rw [List.getD_eq_getElem?_getD, List.getElem?_map, List.getElem?_range h]; rfl
theorem maxN_fst {a b : Nat} (ha : 0 < a) (hb : 0 < b) : maxN (fstP a b) = a - 1 := by
  have h1 := maxN_le (ns := fstP a b) (m := a - 1) fun x hx => by
    obtain ⟨t, ht, rfl⟩ := List.mem_map.mp hx
    have := (Nat.div_lt_iff_lt_mul hb).mpr (List.mem_range.mp ht)
    omega
  have h2 : a - 1 ∈ fstP a b := List.mem_map.mpr ⟨(a - 1) * b, List.mem_range.mpr (Nat.mul_lt_mul_of_pos_right (by omega) hb), Nat.mul_div_cancel _ hb⟩
  have := le_maxN h2
  omega
theorem maxN_snd {a b : Nat} (ha : 0 < a) (hb : 0 < b) : maxN (sndP a b) = b - 1 := by
  have h1 := maxN_le (ns := sndP a b) (m := b - 1) fun x hx => by
    obtain ⟨t, ht, rfl⟩ := List.mem_map.mp hx
    have := Nat.mod_lt t hb
    omega
  have h2 : b - 1 ∈ sndP a b := List.mem_map.mpr ⟨b - 1, List.mem_range.mpr (by have := Nat.mul_le_mul_right b ha; omega), Nat.mod_eq_of_lt (by omega)⟩
  have := le_maxN h2
  omega
theorem ren_fst {qs rr : List Rat} (hq : qs ≠ []) (hr : rr ≠ []) (h1 : rr.sum = 1) : ren (bes qs rr) (fstP qs.length rr.length) = qs := by
  have ha := List.length_pos_iff.mpr hq
  have hb := List.length_pos_iff.mpr hr
  have hl : (fstP qs.length rr.length).length = (bes qs rr).length := by rw [bes_length]; simp [fstP]
  have hm := maxN_fst ha hb
  refine ext_getD (by rw [ren_length, hm]; omega) fun x hx => ?_
  rw [ren_length, hm] at hx
  rw [ren_getD hl (by omega), bes_length]
  have e1 : rs (qs.length * rr.length) (fun t => if (fstP qs.length rr.length).getD t 0 = x then (bes qs rr).getD t 0 else 0) = rs (qs.length * rr.length) fun t => (fun i j => if i = x then qs.getD i 0 * rr.getD j 0 else 0) (t / rr.length) (t % rr.length) := rs_congr fun t ht => by
    rw [fstP_getD ht, bes_getD ht]
  rw [e1, rs_pairs rr.length hb (fun i j => if i = x then qs.getD i 0 * rr.getD j 0 else 0)]
  have e2 : (rs qs.length fun i => rs rr.length fun j => if i = x then qs.getD i 0 * rr.getD j 0 else 0) = rs qs.length fun i => if i = x then qs.getD i 0 else 0 := rs_congr fun i _ => by
    by_cases e : i = x
    · simp only [e, if_true]
      rw [rs_mul, ← sum_rs, h1, Rat.mul_one]
    · simp only [e, if_false]
      rw [rs_const0]
  rw [e2, rs_one (by omega)]
theorem ren_snd {qs rr : List Rat} (hq : qs ≠ []) (hr : rr ≠ []) (h1 : qs.sum = 1) : ren (bes qs rr) (sndP qs.length rr.length) = rr := by
  have ha := List.length_pos_iff.mpr hq
  have hb := List.length_pos_iff.mpr hr
  have hl : (sndP qs.length rr.length).length = (bes qs rr).length := by rw [bes_length]; simp [sndP]
  have hm := maxN_snd ha hb
  refine ext_getD (by rw [ren_length, hm]; omega) fun x hx => ?_
  rw [ren_length, hm] at hx
  rw [ren_getD hl (by omega), bes_length]
  have e1 : rs (qs.length * rr.length) (fun t => if (sndP qs.length rr.length).getD t 0 = x then (bes qs rr).getD t 0 else 0) = rs (qs.length * rr.length) fun t => (fun i j => if j = x then rr.getD j 0 * qs.getD i 0 else 0) (t / rr.length) (t % rr.length) := rs_congr fun t ht => by
    rw [sndP_getD ht, bes_getD ht, Rat.mul_comm]
  rw [e1, rs_pairs rr.length hb (fun i j => if j = x then rr.getD j 0 * qs.getD i 0 else 0), rs_swap]
  have e2 : (rs rr.length fun j => rs qs.length fun i => if j = x then rr.getD j 0 * qs.getD i 0 else 0) = rs rr.length fun i => if i = x then rr.getD i 0 else 0 := rs_congr fun i _ => by
    by_cases e : i = x
    · simp only [e, if_true]
      rw [rs_mul, ← sum_rs, h1, Rat.mul_one]
    · simp only [e, if_false]
      rw [rs_const0]
  rw [e2, rs_one (by omega)]
/-- a lot of pairs -/
def pairsOf (a b : Nat) (ls ms : List Nat) : List Nat := (List.range (a * b)).filter fun t => decide (t / b ∈ ls) && decide (t % b ∈ ms)
theorem pairs_lot {a b : Nat} {ls ms : List Nat} (h : a * b ≤ 8) : Lot (a * b) (pairsOf a b ls ms) :=
  ⟨List.pairwise_lt_range.filter _, fun x hx => List.mem_range.mp (List.mem_filter.mp hx).1, h⟩
theorem mem_pairs {a b t : Nat} {ls ms : List Nat} (h : t < a * b) : t ∈ pairsOf a b ls ms ↔ (t / b ∈ ls ∧ t % b ∈ ms) := by
  unfold pairsOf
  rw [List.mem_filter]
  simp [h]
theorem pairs_sum {qs rr : List Rat} {ls ms : List Nat} (hl : Lot qs.length ls) (hm : Lot rr.length ms) (h8 : qs.length * rr.length ≤ 8) :
    (lotQ (bes qs rr) (pairsOf qs.length rr.length ls ms)).sum = (lotQ qs ls).sum * (lotQ rr ms).sum := by
  have hp : Lot (bes qs rr).length (pairsOf qs.length rr.length ls ms) := by rw [bes_length]; exact pairs_lot h8
  rw [lotQ_rs hp, lotQ_rs hl, lotQ_rs hm, bes_length]
  rcases Nat.eq_zero_or_pos rr.length with hb | hb
  · rw [hb, Nat.mul_zero, rs_zero, rs_zero, Rat.mul_zero]
  have e1 : (rs (qs.length * rr.length) fun t => if t ∈ pairsOf qs.length rr.length ls ms then (bes qs rr).getD t 0 else 0) = rs (qs.length * rr.length) fun t => (fun i j => (if i ∈ ls then qs.getD i 0 else 0) * (if j ∈ ms then rr.getD j 0 else 0)) (t / rr.length) (t % rr.length) := rs_congr fun t ht => by
    rw [bes_getD ht]
    simp only [mem_pairs ht]
    by_cases e1 : t / rr.length ∈ ls <;> by_cases e2 : t % rr.length ∈ ms <;> simp only [e1, e2, and_self, and_true, and_false, if_true, if_false, Rat.mul_zero, Rat.zero_mul]
  rw [e1, rs_pairs rr.length hb (fun i j => (if i ∈ ls then qs.getD i 0 else 0) * (if j ∈ ms then rr.getD j 0 else 0))]
  have e2 : (rs qs.length fun i => rs rr.length fun j => (if i ∈ ls then qs.getD i 0 else 0) * (if j ∈ ms then rr.getD j 0 else 0)) = rs qs.length fun i => (rs rr.length fun j => if j ∈ ms then rr.getD j 0 else 0) * (if i ∈ ls then qs.getD i 0 else 0) := rs_congr fun i _ => by
    rw [rs_mul, Rat.mul_comm]
  rw [e2, rs_mul, Rat.mul_comm]
theorem given_pairs {qs rr : List Rat} {ls ms : List Nat} (hl : Lot qs.length ls) (hm : Lot rr.length ms) (h8 : qs.length * rr.length ≤ 8) :
    given (bes qs rr) (pairsOf qs.length rr.length ls ms) = bes (given qs ls) (given rr ms) := by
  refine ext_getD (by rw [given_length, bes_length, bes_length, given_length, given_length]) fun t ht => ?_
  rw [given_length, bes_length] at ht
  have hb : 0 < rr.length := by
    rcases Nat.eq_zero_or_pos rr.length with h | h
    · rw [h] at ht; simp at ht
    · exact h
  have h1 : t / rr.length < qs.length := (Nat.div_lt_iff_lt_mul hb).mpr ht
  have h2 : t % rr.length < rr.length := Nat.mod_lt _ hb
  rw [given_getD (by rw [bes_length]; exact ht), pairs_sum hl hm h8, bes_getD ht, bes_getD (by rw [given_length, given_length]; exact ht), given_length, given_getD h1, given_getD h2]
  simp only [mem_pairs ht]
  by_cases e1 : t / rr.length ∈ ls <;> by_cases e2 : t % rr.length ∈ ms <;> simp only [e1, e2, and_self, and_true, and_false, if_true, if_false, Rat.mul_zero, Rat.zero_mul]
  generalize (lotQ qs ls).sum = x
  generalize (lotQ rr ms).sum = y
  by_cases hx : x = 0
  · subst hx
    rw [Rat.zero_mul, Rat.div_def, Rat.div_def, Rat.inv_zero, Rat.mul_zero, Rat.mul_zero, Rat.zero_mul]
  by_cases hy : y = 0
  · subst hy
    rw [Rat.mul_zero, Rat.div_def, Rat.div_def (_) 0, Rat.inv_zero, Rat.mul_zero, Rat.mul_zero, Rat.mul_zero]
  grind
theorem one_tab : Tab 3 [(1 : Rat)] := ⟨by simp, by simp, fun q hq => by rw [List.mem_singleton.mp hq]; decide, Rat.add_zero 1, 1, by decide, by decide, fun q hq => by rw [List.mem_singleton.mp hq]; exact cm_int 1 1⟩
theorem lot01 {n : Nat} (h : 2 ≤ n) (h8 : n ≤ 8) : Lot n [0, 1] :=
  ⟨by simp, fun x hx => by simp at hx; omega, h8⟩
theorem lotQ01 (q0 q1 : Rat) (qs : List Rat) : (lotQ (q0 :: q1 :: qs) [0, 1]).sum = q0 + q1 := by
  show q0 + (q1 + 0) = _
  rw [Rat.add_zero]
theorem given_take2 (q0 q1 : Rat) (qs : List Rat) : (given (q0 :: q1 :: qs) [0, 1]).take 2 = [q0 / (q0 + q1), q1 / (q0 + q1)] := by
  unfold given
  rw [lotQ01]
  rfl
theorem pair_tab {n : Nat} {q0 q1 : Rat} {qs : List Rat} (h : Tab n (q0 :: q1 :: qs)) (h0 : q0 + q1 ≠ 0) : Tab n [q0 / (q0 + q1), q1 / (q0 + q1)] := by
  have hl : Lot (q0 :: q1 :: qs).length [0, 1] := lot01 (by simp) h.len
  have hg := given_tab h hl (by rw [lotQ01]; exact h0)
  have ht := given_take2 q0 q1 qs
  have mem : ∀ x ∈ [q0 / (q0 + q1), q1 / (q0 + q1)], x ∈ given (q0 :: q1 :: qs) [0, 1] := fun x hx => by
    rw [← ht] at hx
    exact List.mem_of_mem_take hx
  obtain ⟨D, h1, h2, h3⟩ := hg.com
  refine ⟨by simp, by simp, fun x hx => hg.pos x (mem x hx), ?_, D, h1, h2, fun x hx => h3 x (mem x hx)⟩
  show q0 / (q0 + q1) + (q1 / (q0 + q1) + 0) = 1
  rw [Rat.add_zero, Rat.div_def, Rat.div_def, ← Rat.add_mul]
  exact Rat.mul_inv_cancel _ h0
theorem mixc_cons (a : Rat) (t : List Rat) (qs : List Rat) (ts : List (List Rat)) (i : Nat) : (mixc (a :: qs) (t :: ts) i).sum = a * t.getD i 0 + (mixc qs ts i).sum := rfl
theorem merge_mix {q0 q1 : Rat} {qs : List Rat} {t0 t1 : List Rat} {ts : List (List Rat)} {k : Nat} (h0 : q0 + q1 ≠ 0) :
    mix ((q0 + q1) :: qs) (mix [q0 / (q0 + q1), q1 / (q0 + q1)] [t0, t1] k :: ts) k = mix (q0 :: q1 :: qs) (t0 :: t1 :: ts) k := by
  refine ext_getD (by rw [mix_length, mix_length]) fun i hi => ?_
  rw [mix_length] at hi
  rw [mix_getD hi, mix_getD hi, mixc_cons, mixc_cons, mixc_cons, mix_getD hi, mixc_two]
  have e : ∀ q x : Rat, (q0 + q1) * (q / (q0 + q1) * x) = q * x := fun q x => by
    rw [Rat.div_def]
    have : (q0 + q1) * (q * (q0 + q1)⁻¹ * x) = (q0 + q1) * (q0 + q1)⁻¹ * (q * x) := by
      generalize (q0 + q1)⁻¹ = y
      generalize q0 + q1 = z
      grind
    rw [this, Rat.mul_inv_cancel _ h0, Rat.one_mul]
  rw [Rat.mul_add, e, e, Rat.add_assoc]
theorem mix_one {t : List Rat} {k : Nat} (h : t.length = k) : mix [1] [t] k = t := by
  refine ext_getD (by rw [mix_length, h]) fun i hi => ?_
  rw [mix_length] at hi
  rw [mix_getD hi, mixc_cons]
  show 1 * t.getD i 0 + 0 = _
  rw [Rat.one_mul, Rat.add_zero]
theorem Mixes.ren {m n k : Nat} {qs : List Rat} {ts : List (List Rat)} (h : Mixes m n k qs ts) {ls : List Nat} (hl : ls.length = k) (h7 : ∀ x ∈ ls, x ≤ 7) : Mixes m n (maxN ls + 1) qs (ts.map fun t => ren t ls) := by
  refine ⟨h.tab, fun t ht => ?_, by rw [List.length_map]; exact h.len, fun t ht => ?_⟩
  · obtain ⟨u, hu, rfl⟩ := List.mem_map.mp ht
    exact ren_tab (h.tabs u hu) (by rw [hl, h.wid u hu]) h7
  · obtain ⟨u, hu, rfl⟩ := List.mem_map.mp ht
    exact ren_length _ _
end MR

/-! Mz: distances of tables. Plain mathematics. -/
namespace MR
def rab (q : Rat) : Rat := if q < 0 then -q else q
theorem rab_nonneg (q : Rat) : 0 ≤ rab q := by unfold rab; split <;> grind
theorem rab_zero {q : Rat} : rab q = 0 ↔ q = 0 := by unfold rab; split <;> grind
theorem rab_ge (q : Rat) : q ≤ rab q ∧ -q ≤ rab q := by unfold rab; split <;> grind
theorem rab_le {q x : Rat} (h1 : q ≤ x) (h2 : -q ≤ x) : rab q ≤ x := by unfold rab; split <;> grind
theorem rab_neg (q : Rat) : rab (-q) = rab q := by unfold rab; split <;> split <;> grind
theorem rab_add (p q : Rat) : rab (p + q) ≤ rab p + rab q := by
  have h1 := rab_ge p
  have h2 := rab_ge q
  exact rab_le (by grind) (by grind)
theorem rab_mul {c q : Rat} (h : 0 ≤ c) : rab (c * q) = c * rab q := by
  unfold rab
  by_cases hq : q < 0
  · rw [if_pos hq]
    by_cases hc : c = 0
    · subst hc; simp
    · have : c * q < 0 := by
        have h1 : 0 < c := by grind
        have h2 : 0 < -q := by grind
        have := Rat.mul_pos h1 h2
        grind
      rw [if_pos this]; grind
  · rw [if_neg hq]
    have : 0 ≤ c * q := Rat.mul_nonneg h (by grind)
    rw [if_neg (by grind)]
theorem rab_num (q : Rat) : (rab q).num = (if q.num < 0 then -q.num else q.num) ∧ (rab q).den = q.den := by
  unfold rab
  have h := Rat.num_nonneg (q := q)
  by_cases hq : q < 0
  · have : q.num < 0 := by
      have : ¬ 0 ≤ q.num := fun z => by have := h.mp z; grind
      omega
    rw [if_pos hq, if_pos this]
    exact ⟨Rat.neg_num q, Rat.neg_den q⟩
  · have : ¬ q.num < 0 := by
      have := h.mpr (by grind)
      omega
    rw [if_neg hq, if_neg this]
    exact ⟨rfl, rfl⟩
theorem sub_eq (p q : Rat) : p - q = Rat.divInt (p.num * (q.den : Int) - q.num * (p.den : Int)) ((p.den : Int) * (q.den : Int)) := by
  have e : p - q = p + (-q) := by grind
  rw [e, add_eq, Rat.neg_num, Rat.neg_den]
  congr 1
  rw [Int.neg_mul]
  omega
theorem rab_divInt (a b : Int) (hb : 0 < b) : Rat.divInt (if a < 0 then -a else a) b = rab (Rat.divInt a b) := by
  have hbr : (0 : Rat) < (b : Rat) := Rat.intCast_pos.mpr hb
  have hinv := Rat.inv_pos.mpr hbr
  unfold rab
  rw [Rat.divInt_eq_div, Rat.divInt_eq_div, Rat.div_def, Rat.div_def]
  by_cases ha : a < 0
  · have h1 : (a : Rat) < 0 := by exact_mod_cast ha
    have : (a : Rat) * (b : Rat)⁻¹ < 0 := by
      have := Rat.mul_pos (show 0 < -(a : Rat) by grind) hinv
      grind
    rw [if_pos ha, if_pos this, Rat.intCast_neg]
    grind
  · have h1 : (0 : Rat) ≤ (a : Rat) := by exact_mod_cast (show 0 ≤ a by omega)
    have := Rat.mul_nonneg h1 (Rat.le_of_lt hinv)
    rw [if_neg ha, if_neg (by grind)]
theorem lt_cross (p q : Rat) : (q.num * (p.den : Int) < p.num * (q.den : Int)) ↔ q < p := (Rat.lt_iff q p).symm
/-! ### distances -/
def dls (a b : List Rat) : List Rat := (a.zip b).map fun p => rab (p.1 - p.2)
def dist (a b : List Rat) : Rat := (dls a b).sum / 2
def d2 (a b : List Rat) : Rat := rs a.length fun i => rab (a.getD i 0 - b.getD i 0)
theorem dls_sum {a b : List Rat} (h : b.length = a.length) : (dls a b).sum = d2 a b := by
  unfold dls d2
  rw [zipR 0 a b h, List.map_map]
  rfl
theorem rs_le {k : Nat} {F G : Nat → Rat} (h : ∀ i, i < k → F i ≤ G i) : rs k F ≤ rs k G := by
  induction k with
  | zero => exact Rat.le_refl
  | succ k ih =>
    rw [rs_succ, rs_succ]
    have h1 := ih fun i hi => h i (by omega)
    have h2 := h k (by omega)
    grind
theorem rs_nonneg {k : Nat} {F : Nat → Rat} (h : ∀ i, i < k → 0 ≤ F i) : 0 ≤ rs k F := by
  have := rs_le (F := fun _ => 0) (G := F) h
  rw [rs_const0] at this
  exact this
theorem rs_eq0 {k : Nat} {F : Nat → Rat} (h : ∀ i, i < k → 0 ≤ F i) (h0 : rs k F = 0) : ∀ i, i < k → F i = 0 := by
  induction k with
  | zero => intro i hi; omega
  | succ k ih =>
    rw [rs_succ] at h0
    have h1 := rs_nonneg fun i (hi : i < k) => h i (by omega)
    have h2 := h k (by omega)
    intro i hi
    by_cases e : i = k
    · subst e; grind
    · exact ih (fun j hj => h j (by omega)) (by grind) i (by omega)
theorem d2_nonneg (a b : List Rat) : 0 ≤ d2 a b := rs_nonneg fun i _ => rab_nonneg _
theorem half_le {x y : Rat} (h : x ≤ y) : x / 2 ≤ y / 2 := by
  rw [Rat.div_def, Rat.div_def]
  exact Rat.mul_le_mul_of_nonneg_right h (Rat.le_of_lt (Rat.inv_pos.mpr (by decide)))
theorem d2_eq {a b : List Rat} (h : b.length = a.length) : d2 a b = 0 ↔ a = b := by
  constructor
  · intro h0
    have := rs_eq0 (fun i _ => rab_nonneg _) h0
    refine ext_getD h.symm fun i hi => ?_
    have := rab_zero.mp (this i hi)
    grind
  · rintro rfl
    have : d2 a a = rs a.length fun _ => 0 := rs_congr fun i _ => rab_zero.mpr (by grind)
    rw [this, rs_const0]
theorem d2_tri {a b c : List Rat} (h1 : b.length = a.length) (h2 : c.length = a.length) : d2 a b ≤ d2 a c + d2 c b := by
  unfold d2
  rw [h2, ← rs_add]
  refine rs_le fun i _ => ?_
  have := rab_add (a.getD i 0 - c.getD i 0) (c.getD i 0 - b.getD i 0)
  have e : a.getD i 0 - c.getD i 0 + (c.getD i 0 - b.getD i 0) = a.getD i 0 - b.getD i 0 := by grind
  rw [e] at this
  exact this
theorem d2_sym {a b : List Rat} (h : b.length = a.length) : d2 a b = d2 b a := by
  unfold d2
  rw [h]
  refine rs_congr fun i _ => ?_
  rw [← rab_neg]
  congr 1
  grind
theorem getD_nonneg {n : Nat} {a : List Rat} (h : Tab n a) (i : Nat) : 0 ≤ a.getD i 0 := by
  rcases getD_cases a i with z | z
  · exact h.pos _ z
  · rw [z]; decide
theorem d2_le2 {m n : Nat} {a b : List Rat} (h : b.length = a.length) (ha : Tab m a) (hb : Tab n b) : d2 a b ≤ 2 := by
  have h1 : d2 a b ≤ rs a.length fun i => a.getD i 0 + b.getD i 0 := rs_le fun i _ => by
    have := getD_nonneg ha i
    have := getD_nonneg hb i
    exact rab_le (by grind) (by grind)
  rw [rs_add, ← sum_rs, ← h, ← sum_rs, ha.one, hb.one] at h1
  grind
/-- the places where the first one is more -/
def more (a b : List Rat) : List Nat := (List.range a.length).filter fun i => decide (b.getD i 0 < a.getD i 0)
theorem more_lot {a b : List Rat} (h : a.length ≤ 8) : Lot a.length (more a b) :=
  ⟨List.pairwise_lt_range.filter _, fun x hx => List.mem_range.mp (List.mem_filter.mp hx).1, h⟩
theorem mem_more {a b : List Rat} {i : Nat} (h : i < a.length) : i ∈ more a b ↔ b.getD i 0 < a.getD i 0 := by
  unfold more
  rw [List.mem_filter]
  simp [h]
theorem lot_diff {a b : List Rat} {ns : List Nat} (h : b.length = a.length) (hl : Lot a.length ns) : (lotQ a ns).sum - (lotQ b ns).sum = rs a.length fun i => if i ∈ ns then a.getD i 0 - b.getD i 0 else 0 := by
  have hl2 : Lot b.length ns := by rw [h]; exact hl
  rw [lotQ_rs hl, lotQ_rs hl2, h]
  have : rs a.length (fun i => if i ∈ ns then a.getD i 0 else 0) = rs a.length (fun i => if i ∈ ns then a.getD i 0 - b.getD i 0 else 0) + rs a.length fun i => if i ∈ ns then b.getD i 0 else 0 := by
    rw [← rs_add]
    refine rs_congr fun i _ => ?_
    split <;> grind
  rw [this]
  grind
theorem diff_zero {m n : Nat} {a b : List Rat} (h : b.length = a.length) (ha : Tab m a) (hb : Tab n b) : rs a.length (fun i => a.getD i 0 - b.getD i 0) = 0 := by
  have e : rs a.length (fun i => a.getD i 0) = rs a.length (fun i => a.getD i 0 - b.getD i 0) + rs a.length fun i => b.getD i 0 := by
    rw [← rs_add]
    exact rs_congr fun i _ => by grind
  have e1 := sum_rs a
  have e2 := sum_rs b
  rw [h] at e2
  rw [← e1, ← e2, ha.one, hb.one] at e
  grind
theorem lot_far {m n : Nat} {a b : List Rat} {ns : List Nat} (h : b.length = a.length) (ha : Tab m a) (hb : Tab n b) (hl : Lot a.length ns) : 2 * rab ((lotQ a ns).sum - (lotQ b ns).sum) ≤ d2 a b := by
  rw [lot_diff h hl]
  have hz := diff_zero h ha hb
  generalize hx : (rs a.length fun i => if i ∈ ns then a.getD i 0 - b.getD i 0 else 0) = x
  have hy : rs a.length (fun i => if i ∈ ns then 0 else a.getD i 0 - b.getD i 0) = -x := by
    have : rs a.length (fun i => a.getD i 0 - b.getD i 0) = x + rs a.length fun i => if i ∈ ns then 0 else a.getD i 0 - b.getD i 0 := by
      rw [← hx, ← rs_add]
      refine rs_congr fun i _ => ?_
      split <;> grind
    rw [hz] at this
    grind
  have h1 : x - -x ≤ d2 a b := by
    rw [← hy, ← hx]
    have : rs a.length (fun i => if i ∈ ns then a.getD i 0 - b.getD i 0 else 0) ≤ rs a.length (fun i => rab (a.getD i 0 - b.getD i 0)) + rs a.length fun i => if i ∈ ns then 0 else a.getD i 0 - b.getD i 0 := by
      rw [← rs_add]
      refine rs_le fun i _ => ?_
      have := rab_ge (a.getD i 0 - b.getD i 0)
      split <;> grind
    unfold d2
    grind
  have h2 : -x - x ≤ d2 a b := by
    have : (0 : Rat) ≤ rs a.length (fun i => rab (a.getD i 0 - b.getD i 0)) + (x - -x) := by
      conv => rhs; rw [← hy, ← hx]
      have e : ∀ p q r : Rat, p + (q - r) = p + (q + (-1) * r) := fun p q r => by grind
      rw [e, ← rs_mul, ← rs_add, ← rs_add]
      refine rs_nonneg fun i _ => ?_
      have := rab_ge (a.getD i 0 - b.getD i 0)
      split <;> grind
    unfold d2
    grind
  have := rab_le (q := x) (x := d2 a b / 2) (by grind) (by grind)
  grind
theorem more_far {m n : Nat} {a b : List Rat} (h : b.length = a.length) (ha : Tab m a) (hb : Tab n b) : (lotQ a (more a b)).sum - (lotQ b (more a b)).sum = d2 a b / 2 := by
  rw [lot_diff h (more_lot ha.len)]
  have hz := diff_zero h ha hb
  have e : d2 a b = 2 * (rs a.length fun i => if i ∈ more a b then a.getD i 0 - b.getD i 0 else 0) + (-1) * rs a.length fun i => a.getD i 0 - b.getD i 0 := by
    unfold d2
    rw [← rs_mul, ← rs_mul, ← rs_add]
    refine rs_congr fun i hi => ?_
    simp only [mem_more hi]
    unfold rab
    split <;> split <;> grind
  rw [e, hz]
  grind
/-! ### distances of made tables -/
theorem d2_ren {a b : List Rat} {ns : List Nat} (h : b.length = a.length) (hn : ns.length = a.length) : d2 (ren a ns) (ren b ns) ≤ d2 a b := by
  have hb : ns.length = b.length := by rw [h]; exact hn
  unfold d2
  rw [ren_length]
  have e1 : rs (maxN ns + 1) (fun x => rab ((ren a ns).getD x 0 - (ren b ns).getD x 0)) ≤ rs (maxN ns + 1) fun x => rs a.length fun i => if ns.getD i 0 = x then rab (a.getD i 0 - b.getD i 0) else 0 := rs_le fun x hx => by
    rw [ren_getD hn (by omega), ren_getD hb (by omega), h]
    generalize a.length = k
    induction k with
    | zero =>
      rw [rs_zero, rs_zero, rs_zero]
      unfold rab
      split <;> grind
    | succ k ih =>
      rw [rs_succ, rs_succ, rs_succ]
      by_cases e : ns.getD k 0 = x
      · rw [if_pos e, if_pos e, if_pos e]
        have := rab_add (rs k (fun i => if ns.getD i 0 = x then a.getD i 0 else 0) - rs k (fun i => if ns.getD i 0 = x then b.getD i 0 else 0)) (a.getD k 0 - b.getD k 0)
        have e2 : rs k (fun i => if ns.getD i 0 = x then a.getD i 0 else 0) - rs k (fun i => if ns.getD i 0 = x then b.getD i 0 else 0) + (a.getD k 0 - b.getD k 0) = rs k (fun i => if ns.getD i 0 = x then a.getD i 0 else 0) + a.getD k 0 - (rs k (fun i => if ns.getD i 0 = x then b.getD i 0 else 0) + b.getD k 0) := by grind
        rw [e2] at this
        grind
      · rw [if_neg e, if_neg e, if_neg e, Rat.add_zero, Rat.add_zero, Rat.add_zero]
        exact ih
  rw [rs_swap] at e1
  have e3 : (rs a.length fun i => rs (maxN ns + 1) fun x => if ns.getD i 0 = x then rab (a.getD i 0 - b.getD i 0) else 0) = rs a.length fun i => rab (a.getD i 0 - b.getD i 0) := rs_congr fun i hi => by
    have hm := le_maxN (getD_mem (ns := ns) (i := i) (by omega))
    have : (fun x => if ns.getD i 0 = x then rab (a.getD i 0 - b.getD i 0) else 0) = fun x => if x = ns.getD i 0 then rab (a.getD i 0 - b.getD i 0) else 0 := by
      funext x
      by_cases e : ns.getD i 0 = x
      · rw [if_pos e, if_pos e.symm]
      · rw [if_neg e, if_neg (Ne.symm e)]
    rw [this, rs_one (by omega)]
  rw [e3] at e1
  exact e1
theorem d2_mix {a b c : List Rat} {k : Nat} (ha : a.length = k) (hb : b.length = k) (hc : c.length = k) : d2 (mix [1 / 2, 1 / 2] [a, c] k) (mix [1 / 2, 1 / 2] [b, c] k) = d2 a b / 2 := by
  unfold d2
  rw [mix_length, ha]
  have e : rs k (fun i => rab ((mix [1 / 2, 1 / 2] [a, c] k).getD i 0 - (mix [1 / 2, 1 / 2] [b, c] k).getD i 0)) = rs k fun i => (1 / 2) * rab (a.getD i 0 - b.getD i 0) := rs_congr fun i hi => by
    rw [mix_getD hi, mix_getD hi, mixc_two, mixc_two, ← rab_mul (by grind)]
    congr 1
    grind
  rw [e, rs_mul]
  grind
theorem d2_bes {a b : List Rat} (h : b.length = a.length) : d2 (bes a [1 / 2, 1 / 2]) (bes b [1 / 2, 1 / 2]) = d2 a b := by
  have hl : ([1 / 2, 1 / 2] : List Rat).length = 2 := rfl
  unfold d2
  rw [bes_length, hl]
  have e : rs (a.length * 2) (fun t => rab ((bes a [1 / 2, 1 / 2]).getD t 0 - (bes b [1 / 2, 1 / 2]).getD t 0)) = rs (a.length * 2) fun t => (fun i j => (1 / 2) * rab (a.getD i 0 - b.getD i 0)) (t / 2) (t % 2) := rs_congr fun t ht => by
    rw [bes_getD (by rw [hl]; exact ht), bes_getD (by rw [hl, h]; exact ht), hl]
    have h2 : ([1 / 2, 1 / 2] : List Rat).getD (t % 2) 0 = 1 / 2 := by
      have : t % 2 = 0 ∨ t % 2 = 1 := by omega
      rcases this with z | z <;> rw [z] <;> rfl
    show _ = 1 / 2 * rab (a.getD (t / 2) 0 - b.getD (t / 2) 0)
    rw [h2, ← rab_mul (by grind)]
    congr 1
    grind
  rw [e, rs_pairs 2 (by decide) (fun i j => (1 / 2) * rab (a.getD i 0 - b.getD i 0))]
  refine rs_congr fun i _ => ?_
  rw [rs_succ, rs_succ, rs_zero]
  grind
theorem Cm.rab {D : Nat} {q : Rat} (h : Cm D q) : Cm D (MR.rab q) := by
  unfold MR.rab
  split
  · obtain ⟨k, hk⟩ := h
    exact ⟨-k, by rw [Rat.intCast_neg]; grind⟩
  · exact h
theorem dls_com {m n : Nat} {a b : List Rat} (ha : Tab m a) (hb : Tab n b) : ∃ D : Nat, 0 < D ∧ D < 2 ^ (m + n) ∧ ∀ q ∈ dls a b, Cm D q := by
  obtain ⟨D, h1, h2, h3⟩ := ha.com
  obtain ⟨E, g1, g2, g3⟩ := hb.com
  refine ⟨D * E, Nat.mul_pos h1 g1, by rw [Nat.pow_add]; exact Nat.mul_lt_mul'' h2 g2, fun q hq => ?_⟩
  obtain ⟨p, hp, rfl⟩ := List.mem_map.mp hq
  have := List.of_mem_zip (a := p.1) (b := p.2) hp
  exact (((h3 _ this.1).dvd ⟨E, rfl⟩).sub ((g3 _ this.2).dvd ⟨D, Nat.mul_comm _ _⟩)).rab
theorem two_lt : (2 : Rat) < ((2 ^ 40 : Nat) : Rat) := Rat.lt_iff_le_and_ne.mpr ⟨by decide, by decide⟩
theorem dls_sb {m n : Nat} {a b : List Rat} (hl : b.length = a.length) (ha : Tab m a) (hb : Tab n b) : Sb (m + n) (dls a b) := by
  refine ⟨fun q hq => ?_, ?_, dls_com ha hb⟩
  · obtain ⟨p, hp, rfl⟩ := List.mem_map.mp hq
    exact rab_nonneg _
  · rw [dls_sum hl]
    have h1 := d2_le2 hl ha hb
    have h2 := two_lt
    grind
theorem Cm.half {D : Nat} {q : Rat} (h : Cm D q) : Cm (D * 2) (q / 2) := by
  obtain ⟨k, hk⟩ := h
  exact ⟨k, by rw [Rat.natCast_mul, ← hk]; grind⟩
theorem dist_sm {m n : Nat} {a b : List Rat} (hl : b.length = a.length) (ha : Tab m a) (hb : Tab n b) : Sm (m + n + 2) (d2 a b / 2) := by
  obtain ⟨D, h1, h2, h3⟩ := dls_com ha hb
  have hc : Cm D (d2 a b) := by rw [← dls_sum hl]; exact Cm.sum h3
  have h4 := d2_le2 hl ha hb
  have h5 := d2_nonneg a b
  have e : D * 2 < 2 ^ (m + n + 1) := by rw [Nat.pow_succ]; omega
  have h6 : (1 : Rat) < ((2 ^ 1 : Nat) : Rat) := Rat.lt_iff_le_and_ne.mpr ⟨by decide, by decide⟩
  exact (Cm.half hc).sm (m := 1) (by omega) e (by grind) (by grind)
theorem sub_sm {m n : Nat} {p q : Rat} (hp : Sm m p) (hq : Sm n q) : Sm (m + n + 1) (rab (p - q)) := by
  have h : Sm (m + n + 1) (p - q) := by
    rw [sub_eq]
    have h1 := natAbs_mul_lt (y := (q.den : Int)) hp.1 (by simpa using hq.2)
    have h2 := natAbs_mul_lt (y := (p.den : Int)) hq.1 (by simpa using hp.2)
    rw [Nat.add_comm n m] at h2
    have h3 : (p.num * (q.den : Int) - q.num * (p.den : Int)).natAbs < 2 ^ (m + n + 1) := by
      rw [Nat.pow_succ]; omega
    refine sm_divInt h3 (Int.mul_pos (den_pos p) (den_pos q)) ?_
    exact Nat.lt_of_lt_of_le (natAbs_mul_lt (x := (p.den : Int)) (y := (q.den : Int)) (by simpa using hp.2) (by simpa using hq.2)) (Nat.pow_le_pow_right (by decide) (by omega))
  obtain ⟨e1, e2⟩ := rab_num (p - q)
  refine ⟨?_, by rw [e2]; exact h.2⟩
  rw [e1]
  have := h.1
  split <;> omega
theorem half_divInt (q : Rat) : Rat.divInt q.num (2 * (q.den : Int)) = q / 2 := by
  have h2 : (((2 : Rat)).num : Int) = 2 := rfl
  have := div_eq q 2 (by decide)
  rw [this]
  have h3 : ((2 : Rat).den : Int) = 1 := rfl
  rw [h2, h3, Int.mul_one, Int.mul_comm]
theorem rev_tab {n : Nat} {a : List Rat} (h : Tab n a) : Tab n a.reverse := by
  have hs : ∀ l : List Rat, l.reverse.sum = l.sum := fun l => by
    induction l with
    | nil => rfl
    | cons x l ih =>
      rw [List.reverse_cons, sum_append, ih, List.sum_cons]
      show _ + (x + 0) = _
      grind
  refine ⟨by simpa using h.ne, by rw [List.length_reverse]; exact h.len, fun q hq => h.pos q (List.mem_reverse.mp hq), by rw [hs, h.one], ?_⟩
  obtain ⟨D, h1, h2, h3⟩ := h.com
  exact ⟨D, h1, h2, fun q hq => h3 q (List.mem_reverse.mp hq)⟩
theorem half_tab : Tab 2 [(1 : Rat) / 2, 1 / 2] := by
  refine ⟨by simp, by simp, fun q hq => ?_, ?_, 2, by decide, by decide, fun q hq => ?_⟩
  · have : q = 1 / 2 := by simp at hq; grind
    subst this
    have : (0 : Rat) ≤ 1 / 2 := by decide +kernel
    exact this
  · show (1 : Rat) / 2 + (1 / 2 + 0) = 1
    grind
  · have : q = 1 / 2 := by simp at hq; grind
    subst this
    exact ⟨1, by show (1 : Rat) / 2 * ((2 : Nat) : Rat) = ((1 : Int) : Rat); have : ((2 : Nat) : Rat) = 2 := rfl; have h2 : ((1 : Int) : Rat) = 1 := rfl; rw [this, h2]; grind⟩
theorem part_tab : Tab 20 [(1 : Rat) / 1000000, 999999 / 1000000] := by
  refine ⟨by simp, by simp, fun q hq => ?_, ?_, 1000000, by decide, by decide, fun q hq => ?_⟩
  · rcases List.mem_cons.mp hq with rfl | hq
    · decide +kernel
    · rw [List.mem_singleton.mp hq]; decide +kernel
  · show (1 : Rat) / 1000000 + (999999 / 1000000 + 0) = 1
    grind
  · have e : ((1000000 : Nat) : Rat) = 1000000 := rfl
    rcases List.mem_cons.mp hq with rfl | hq
    · exact ⟨1, by rw [e]; have h2 : ((1 : Int) : Rat) = 1 := rfl; rw [h2]; grind⟩
    · rw [List.mem_singleton.mp hq]
      exact ⟨999999, by rw [e]; have h2 : ((999999 : Int) : Rat) = 999999 := rfl; rw [h2]; grind⟩
theorem sub_sm' {m n : Nat} {p q : Rat} (hp : Sm m p) (hq : Sm n q) : Sm (m + n + 1) (p - q) := by
  rw [sub_eq]
  have h1 := natAbs_mul_lt (y := (q.den : Int)) hp.1 (by simpa using hq.2)
  have h2 := natAbs_mul_lt (y := (p.den : Int)) hq.1 (by simpa using hp.2)
  rw [Nat.add_comm n m] at h2
  have h3 : (p.num * (q.den : Int) - q.num * (p.den : Int)).natAbs < 2 ^ (m + n + 1) := by
    rw [Nat.pow_succ]; omega
  refine sm_divInt h3 (Int.mul_pos (den_pos p) (den_pos q)) ?_
  exact Nat.lt_of_lt_of_le (natAbs_mul_lt (x := (p.den : Int)) (y := (q.den : Int)) (by simpa using hp.2) (by simpa using hq.2)) (Nat.pow_le_pow_right (by decide) (by omega))
theorem two_sum (p q : Rat) : ([p, q] : List Rat).sum = p + q := by
  show p + (q + 0) = _
  rw [Rat.add_zero]
end MR

/-! Fig: figures in base two by long division: rests, digits, the round. -/
namespace MR
def rst (a b : Nat) : Nat → Nat
  | 0 => a % b
  | j + 1 => 2 * rst a b j % b
def dgt (a b j : Nat) : Nat := 2 * rst a b j / b
structure Ends (f : Nat → Nat) (m s : Nat) : Prop where
  lt : s < m
  eq : f m = f s
  inj : ∀ i j, i < j → j < m → f i ≠ f j
def val2 (l : List Nat) : Nat := l.foldl (fun x d => 2 * x + d) 0
theorem val2_from : ∀ (l : List Nat) (x : Nat), l.foldl (fun x d => 2 * x + d) x = x * 2 ^ l.length + val2 l
  | [], x => by simp [val2]
  | d :: l, x => by
    have h1 := val2_from l (2 * x + d)
    have h2 := val2_from l (2 * 0 + d)
    unfold val2
    rw [List.foldl_cons, List.foldl_cons, h1, h2, List.length_cons, Nat.pow_succ]
    simp only [Nat.mul_zero, Nat.zero_add, Nat.add_mul]
    rw [show 2 * x * 2 ^ l.length = x * (2 ^ l.length * 2) by rw [Nat.mul_comm 2 x, Nat.mul_assoc, Nat.mul_comm 2]]
    omega
theorem val2_append (l r : List Nat) : val2 (l ++ r) = val2 l * 2 ^ r.length + val2 r := by
  unfold val2
  rw [List.foldl_append, val2_from r]
  rfl
theorem val2_one (d : Nat) : val2 [d] = d := by simp [val2]
theorem val2_lt : ∀ (l : List Nat), (∀ x ∈ l, x < 2) → val2 l < 2 ^ l.length
  | [], _ => by simp [val2]
  | d :: l, h => by
    have h1 := val2_lt l fun x hx => h x (List.mem_cons_of_mem _ hx)
    have h2 := h d (List.mem_cons_self ..)
    rw [show d :: l = [d] ++ l from rfl, val2_append, val2_one, List.length_append, Nat.pow_add]
    have : d * 2 ^ l.length ≤ 1 * 2 ^ l.length := Nat.mul_le_mul_right _ (by omega)
    show _ < 2 * 2 ^ l.length
    omega
/-! rests -/
section
variable {a b : Nat}
theorem rst_lt (hb : 0 < b) : ∀ j, rst a b j < b
  | 0 => Nat.mod_lt _ hb
  | _ + 1 => Nat.mod_lt _ hb
theorem rst_pow : ∀ j, rst a b j = a * 2 ^ j % b
  | 0 => by simp [rst]
  | j + 1 => by
    show 2 * rst a b j % b = _
    rw [rst_pow j, Nat.pow_succ, Nat.mul_mod, Nat.mod_mod, ← Nat.mul_mod, Nat.mul_comm 2, Nat.mul_assoc]
theorem dgt_eq (j : Nat) : 2 * rst a b j = b * dgt a b j + rst a b (j + 1) := (Nat.div_add_mod _ _).symm
theorem dgt_lt (hb : 0 < b) (j : Nat) : dgt a b j < 2 := by
  unfold dgt
  have := rst_lt (a := a) hb j
  exact Nat.div_lt_of_lt_mul (by omega)
/-- the digits from j on -/
def digs (a b j n : Nat) : List Nat := (List.range n).map fun i => dgt a b (j + i)
theorem digs_length (a b j n : Nat) : (digs a b j n).length = n := by simp [digs]
theorem digs_succ (a b j n : Nat) : digs a b j (n + 1) = digs a b j n ++ [dgt a b (j + n)] := by
  unfold digs
  rw [List.range_succ, List.map_append]
  rfl
theorem rst_digs (j : Nat) : ∀ n, 2 ^ n * rst a b j = b * val2 (digs a b j n) + rst a b (j + n)
  | 0 => by simp [digs, val2]
  | n + 1 => by
    have h := rst_digs j n
    have e := dgt_eq (a := a) (b := b) (j + n)
    rw [digs_succ, val2_append, val2_one, Nat.pow_succ]
    show _ = b * (val2 (digs a b j n) * 2 + dgt a b (j + n)) + rst a b (j + n + 1)
    rw [Nat.mul_add, show 2 ^ n * 2 * rst a b j = 2 * (2 ^ n * rst a b j) by rw [Nat.mul_comm (2 ^ n) 2, Nat.mul_assoc], h, ← Nat.mul_assoc b]
    omega
theorem rst_step {i j : Nat} (h : rst a b i = rst a b j) : ∀ n, rst a b (i + n) = rst a b (j + n)
  | 0 => h
  | n + 1 => by
    show 2 * rst a b (i + n) % b = 2 * rst a b (j + n) % b
    rw [rst_step h n]
theorem dgt_step {i j : Nat} (h : rst a b i = rst a b j) (n : Nat) : dgt a b (i + n) = dgt a b (j + n) := by
  unfold dgt
  rw [rst_step h n]
theorem Ends.uniq {f : Nat → Nat} {m s m' s' : Nat} (h : Ends f m s) (h' : Ends f m' s') : m = m' ∧ s = s' := by
  have e : m = m' := by
    rcases Nat.lt_trichotomy m m' with c | c | c
    · exact absurd h.eq.symm (h'.inj _ _ h.lt c)
    · exact c
    · exact absurd h'.eq.symm (h.inj _ _ h'.lt c)
  subst e
  refine ⟨rfl, ?_⟩
  have q : f s = f s' := h.eq.symm.trans h'.eq
  rcases Nat.lt_trichotomy s s' with c | c | c
  · exact absurd q (h.inj _ _ c h'.lt)
  · exact c
  · exact absurd q.symm (h.inj _ _ c h.lt)
theorem per {m s : Nat} (h : Ends (rst a b) m s) (n : Nat) : rst a b (s + n + (m - s)) = rst a b (s + n) := by
  have := rst_step h.eq n
  have := h.lt
  rw [show s + n + (m - s) = m + n by omega]
  assumption
theorem perN {m s : Nat} (h : Ends (rst a b) m s) (n : Nat) : ∀ k, rst a b (s + n + (m - s) * k) = rst a b (s + n)
  | 0 => by simp
  | k + 1 => by
    rw [← perN h n k, Nat.add_assoc s n ((m - s) * k), ← per h (n + (m - s) * k), Nat.mul_succ]
    congr 1
    omega
theorem per_mod {m s : Nat} (h : Ends (rst a b) m s) (n : Nat) : rst a b (s + n) = rst a b (s + n % (m - s)) := by
  rw [← perN h (n % (m - s)) (n / (m - s)), Nat.add_assoc, Nat.mod_add_div]
theorem dper_mod {m s : Nat} (h : Ends (rst a b) m s) (n : Nat) : dgt a b (s + n) = dgt a b (s + n % (m - s)) := by
  unfold dgt
  rw [per_mod h]
theorem rst_zero {j : Nat} (h : rst a b j = 0) : ∀ n, rst a b (j + n) = 0
  | 0 => h
  | n + 1 => by
    show 2 * rst a b (j + n) % b = 0
    rw [rst_zero h n]
    simp
theorem nz {m s : Nat} (h : Ends (rst a b) m s) (h0 : rst a b s ≠ 0) (j : Nat) : rst a b j ≠ 0 := fun e => by
  have h1 := perN h 0 j
  have h2 : j ≤ (m - s) * j := Nat.le_mul_of_pos_left _ (by have := h.lt; omega)
  have h3 := rst_zero e (s + 0 + (m - s) * j - j)
  rw [show j + (s + 0 + (m - s) * j - j) = s + 0 + (m - s) * j by omega, h1] at h3
  exact h0 h3
end
/-! the figures -/
structure Fg (a b W : Nat) (A C : List Nat) : Prop where
  pos : 0 < b
  whole : W = a / b
  ends : ∃ m s, Ends (rst a b) m s ∧ A = digs a b 0 s ∧ C = if rst a b s = 0 then [] else digs a b s (m - s)
theorem Fg.uniq {a b W W' : Nat} {A C A' C' : List Nat} (h : Fg a b W A C) (h' : Fg a b W' A' C') : W = W' ∧ A = A' ∧ C = C' := by
  obtain ⟨_, w, m, s, e, ea, ec⟩ := h
  obtain ⟨_, w', m', s', e', ea', ec'⟩ := h'
  obtain ⟨q1, q2⟩ := e.uniq e'
  subst q1; subst q2
  exact ⟨w.trans w'.symm, ea.trans ea'.symm, ec.trans ec'.symm⟩
theorem digs_get {a b j n i : Nat} (h : i < n) : (digs a b j n)[i]? = some (dgt a b (j + i)) := by
  unfold digs
  rw [List.getElem?_map, List.getElem?_range h]
  rfl
theorem digs_bits {a b j n : Nat} (hb : 0 < b) : ∀ x ∈ digs a b j n, x < 2 := by
  intro x hx
  obtain ⟨i, _, rfl⟩ := List.mem_map.mp hx
  exact dgt_lt hb _
theorem digs_last {a b j n : Nat} : (digs a b j (n + 1)).getLast? = some (dgt a b (j + n)) := by
  rw [digs_succ]
  simp
theorem Fg.bitsA {a b W : Nat} {A C : List Nat} (h : Fg a b W A C) : ∀ x ∈ A, x < 2 := by
  obtain ⟨hb, w, m, s, e, rfl, ec⟩ := h
  exact digs_bits hb
theorem Fg.bitsC {a b W : Nat} {A C : List Nat} (h : Fg a b W A C) : ∀ x ∈ C, x < 2 := by
  obtain ⟨hb, w, m, s, e, ea, rfl⟩ := h
  split
  · simp
  · exact digs_bits hb
/-- not told by fewer digits -/
def Short (C : List Nat) : Prop := ∀ k, 1 ≤ k → k < C.length → C.length % k = 0 → C.drop k ≠ C.take (C.length - k)
theorem mulk {p k : Nat} (h0 : 0 < k) (h : p % k = 0) (hk : k < p) : ∃ q, p - k = k * q := ⟨p / k - 1, by
  have := Nat.div_add_mod p k
  rw [h] at this
  rw [Nat.mul_sub, Nat.mul_one]
  omega⟩
theorem Fg.short {a b W : Nat} {A C : List Nat} (h : Fg a b W A C) : Short C := by
  obtain ⟨hb, w, m, s, e, ea, rfl⟩ := h
  split
  · intro k h1 h2
    simp at h2
  · intro k h1 h2 h3 h4
    rw [digs_length] at h2 h3 h4
    have hlt := e.lt
    let d : Nat → Nat := fun i => dgt a b (s + i)
    have hd : ∀ i, i < m - s - k → d (i + k) = d i := fun i hi => by
      have := congrArg (fun l => l[i]?) h4
      simp only [List.getElem?_drop, List.getElem?_take, if_pos hi] at this
      rw [digs_get (by omega), digs_get (by omega)] at this
      have := Option.some.inj this
      show dgt a b (s + (i + k)) = dgt a b (s + i)
      rw [← this, Nat.add_comm i k]
    have hp : ∀ i, d (i + (m - s)) = d i := fun i => by
      show dgt a b (s + (i + (m - s))) = dgt a b (s + i)
      have := per e i
      unfold dgt
      rw [← Nat.add_assoc, this]
    obtain ⟨q, hq⟩ := mulk h1 h3 h2
    have hm : ∀ n t, t < k → n ≤ q → d (t + k * n) = d t := by
      intro n
      induction n with
      | zero => intro t _ _; simp
      | succ n ih =>
        intro t ht hn
        rw [← ih t ht (by omega), Nat.mul_succ, ← Nat.add_assoc]
        refine hd _ ?_
        rw [hq]
        have : k * (n + 1) ≤ k * q := Nat.mul_le_mul_left _ hn
        rw [Nat.mul_succ] at this
        omega
    have hall : ∀ i, i < m - s → d (k + i) = d i := fun i hi => by
      by_cases c : i < m - s - k
      · rw [Nat.add_comm]; exact hd i c
      · have e1 : i = (i - (m - s - k)) + k * q := by omega
        have e2 : k + i = (i - (m - s - k)) + (m - s) := by omega
        rw [e2, hp]
        have := hm q (i - (m - s - k)) (by omega) (Nat.le_refl _)
        rw [← e1] at this
        exact this.symm
    have ed : digs a b (s + k) (m - s) = digs a b s (m - s) := by
      unfold digs
      refine List.map_congr_left fun i hi => ?_
      have := hall i (List.mem_range.mp hi)
      show dgt a b (s + k + i) = dgt a b (s + i)
      rw [Nat.add_assoc]
      exact this
    have r1 := rst_digs (a := a) (b := b) (s + k) (m - s)
    have r2 := rst_digs (a := a) (b := b) s (m - s)
    rw [ed, per e k] at r1
    rw [show s + (m - s) = m by omega, e.eq] at r2
    have h2p : 2 ≤ 2 ^ (m - s) := by
      have : 2 ^ 1 ≤ 2 ^ (m - s) := Nat.pow_le_pow_right (by decide) (by omega)
      simpa using this
    have r : rst a b (s + k) = rst a b s := by
      obtain ⟨z, hz⟩ : ∃ z, 2 ^ (m - s) = z + 2 := ⟨2 ^ (m - s) - 2, by omega⟩
      rw [hz] at r1 r2
      have r3 : (z + 1) * rst a b (s + k) = (z + 1) * rst a b s := by
        rw [show z + 2 = (z + 1) + 1 from rfl, Nat.add_mul, Nat.one_mul] at r1 r2
        omega
      exact Nat.eq_of_mul_eq_mul_left (by omega) r3
    exact e.inj s (s + k) (by omega) (by omega) r.symm
theorem Fg.okA {a b W : Nat} {A C : List Nat} (h : Fg a b W A C) (hC : C = []) : A = [] ∨ A.getLast? = some 1 := by
  obtain ⟨hb, w, m, s, e, rfl, ec⟩ := h
  have hlt := e.lt
  have h0 : rst a b s = 0 := by
    rw [hC] at ec
    split at ec
    · assumption
    · have := congrArg List.length ec
      rw [digs_length] at this
      simp at this
      omega
  cases s with
  | zero => left; rfl
  | succ t =>
    right
    rw [digs_last, Nat.zero_add]
    have hn := e.inj t (t + 1) (by omega) hlt
    rw [h0] at hn
    have e2 := dgt_eq (a := a) (b := b) t
    rw [h0] at e2
    have l := dgt_lt (a := a) hb t
    have : dgt a b t ≠ 0 := fun z => by rw [z] at e2; omega
    congr 1
    omega
theorem Fg.okC {a b W : Nat} {A C : List Nat} (h : Fg a b W A C) (hC : C ≠ []) : C ≠ [0] ∧ C ≠ [1] ∧ (A = [] ∨ A.getLast? ≠ C.getLast?) := by
  obtain ⟨hb, w, m, s, e, rfl, ec⟩ := h
  have hlt := e.lt
  have h0 : rst a b s ≠ 0 := fun z => by rw [if_pos z] at ec; exact hC ec
  rw [if_neg h0] at ec
  have one : ∀ x, C = [x] → m = s + 1 ∧ dgt a b s = x := fun x hx => by
    rw [hx] at ec
    have hl := congrArg List.length ec
    rw [digs_length] at hl
    simp at hl
    have e2 : m = s + 1 := by omega
    subst e2
    rw [show s + 1 - s = 1 by omega] at ec
    have : digs a b s 1 = [dgt a b s] := rfl
    rw [this] at ec
    exact ⟨rfl, (List.cons.inj ec).1.symm⟩
  have e2 := dgt_eq (a := a) (b := b) s
  refine ⟨fun z => ?_, fun z => ?_, ?_⟩
  · obtain ⟨rfl, hx⟩ := one 0 z
    rw [hx, e.eq] at e2
    omega
  · obtain ⟨rfl, hx⟩ := one 1 z
    rw [hx, e.eq] at e2
    have := rst_lt (a := a) hb s
    omega
  · cases s with
    | zero => left; rfl
    | succ t =>
      right
      obtain ⟨n, hn⟩ : ∃ n, m - (t + 1) = n + 1 := ⟨m - (t + 1) - 1, by omega⟩
      rw [ec, hn, digs_last, digs_last, Nat.zero_add]
      intro z
      have z := Option.some.inj z
      have e3 := dgt_eq (a := a) (b := b) t
      have e4 := dgt_eq (a := a) (b := b) (t + 1 + n)
      rw [show t + 1 + n + 1 = m by omega, e.eq] at e4
      rw [z] at e3
      exact e.inj t (t + 1 + n) (by omega) (by omega) (by omega)
theorem Fg.back0 {a b W : Nat} {A C : List Nat} (h : Fg a b W A C) (hC : C = []) : (W * 2 ^ A.length + val2 A) * b = a * 2 ^ A.length := by
  obtain ⟨hb, rfl, m, s, e, rfl, ec⟩ := h
  have hlt := e.lt
  have h0 : rst a b s = 0 := by
    rw [hC] at ec
    split at ec
    · assumption
    · have := congrArg List.length ec
      rw [digs_length] at this
      simp at this
      omega
  have r := rst_digs (a := a) (b := b) 0 s
  rw [Nat.zero_add, h0, Nat.add_zero] at r
  rw [digs_length, Nat.add_mul, Nat.mul_comm (val2 _) b, ← r]
  have : rst a b 0 = a % b := rfl
  rw [this]
  have q := Nat.div_add_mod a b
  conv => rhs; rw [← q, Nat.add_mul]
  rw [Nat.mul_comm (2 ^ s) (a % b), Nat.mul_right_comm, Nat.mul_comm (a / b) b]
theorem Fg.back1 {a b W : Nat} {A C : List Nat} (h : Fg a b W A C) (hC : C ≠ []) : ((W * 2 ^ A.length + val2 A) * (2 ^ C.length - 1) + val2 C) * b = a * (2 ^ A.length * (2 ^ C.length - 1)) := by
  obtain ⟨hb, rfl, m, s, e, rfl, ec⟩ := h
  have hlt := e.lt
  have h0 : rst a b s ≠ 0 := fun z => by rw [if_pos z] at ec; exact hC ec
  rw [if_neg h0] at ec
  subst ec
  have r := rst_digs (a := a) (b := b) 0 s
  have r2 := rst_digs (a := a) (b := b) s (m - s)
  rw [Nat.zero_add] at r
  rw [show s + (m - s) = m by omega, e.eq] at r2
  rw [digs_length, digs_length]
  have hP : 1 ≤ 2 ^ (m - s) := Nat.one_le_two_pow
  obtain ⟨z, hz⟩ : ∃ z, 2 ^ (m - s) = z + 1 := ⟨2 ^ (m - s) - 1, by omega⟩
  rw [hz, Nat.add_mul, Nat.one_mul] at r2
  rw [hz, Nat.add_sub_cancel]
  have r3 : z * rst a b s = b * val2 (digs a b s (m - s)) := by omega
  have q := Nat.div_add_mod a b
  have : rst a b 0 = a % b := rfl
  rw [this] at r
  generalize val2 (digs a b s (m - s)) = vc at *
  generalize val2 (digs a b 0 s) = va at *
  generalize hS : 2 ^ s = S at *
  generalize hR : rst a b s = R at *
  have e1 : (((a / b) * S + va) * z + vc) * b = ((a / b) * S + va) * z * b + b * vc := by rw [Nat.add_mul, Nat.mul_comm vc b]
  have e2 : a * (S * z) = (b * (a / b) + a % b) * (S * z) := by rw [q]
  rw [e1, e2, ← r3, Nat.add_mul (b * (a / b))]
  have e3 : (a % b) * (S * z) = (S * (a % b)) * z := by rw [← Nat.mul_assoc, Nat.mul_comm (a % b) S]
  rw [e3, r, Nat.add_mul, Nat.add_mul, Nat.add_mul]
  rw [show (a / b) * S * z * b = b * (a / b) * (S * z) by rw [Nat.mul_comm _ b, Nat.mul_assoc, ← Nat.mul_assoc b], show va * z * b = b * va * z by rw [Nat.mul_comm _ b, Nat.mul_assoc], Nat.mul_comm z R]
  omega
/-- the digit that figures tell -/
def toldD (A C : List Nat) (k : Nat) : Nat := if k ≤ A.length then A.getD (k - 1) 0 else if C = [] then 0 else C.getD ((k - A.length - 1) % C.length) 0
theorem Fg.digit {a b W : Nat} {A C : List Nat} (h : Fg a b W A C) {k : Nat} (hk : 1 ≤ k) : toldD A C k = dgt a b (k - 1) := by
  obtain ⟨hb, rfl, m, s, e, rfl, ec⟩ := h
  have hlt := e.lt
  unfold toldD
  rw [digs_length]
  by_cases c : k ≤ s
  · rw [if_pos c, List.getD_eq_getElem?_getD, digs_get (by omega), Nat.zero_add]
    rfl
  · rw [if_neg c]
    by_cases h0 : rst a b s = 0
    · rw [if_pos h0] at ec
      rw [if_pos ec]
      have := rst_zero h0 (k - 1 - s)
      rw [show s + (k - 1 - s) = k - 1 by omega] at this
      unfold dgt
      rw [this]
      simp
    · rw [if_neg h0] at ec
      have hl : C.length = m - s := by rw [ec, digs_length]
      have hne : C ≠ [] := fun z => by rw [z] at hl; simp at hl; omega
      rw [if_neg hne, List.getD_eq_getElem?_getD, hl]
      rw [ec, digs_get (Nat.mod_lt _ (by omega))]
      show dgt a b (s + (k - s - 1) % (m - s)) = _
      rw [← dper_mod e]
      congr 1
      omega
theorem Fg.plus {a b W : Nat} {A C : List Nat} (h : Fg a b W A C) (n : Nat) : Fg (a + n * b) b (W + n) A C := by
  obtain ⟨hb, rfl, m, s, e, rfl, ec⟩ := h
  have hr : ∀ j, rst (a + n * b) b j = rst a b j := fun j => by
    induction j with
    | zero => show (a + n * b) % b = a % b; rw [Nat.add_mul_mod_self_right]
    | succ j ih => show 2 * _ % b = 2 * _ % b; rw [ih]
  have hd : ∀ j, dgt (a + n * b) b j = dgt a b j := fun j => by unfold dgt; rw [hr]
  refine ⟨hb, by rw [Nat.add_mul_div_right _ _ hb], m, s, ⟨e.lt, by rw [hr, hr]; exact e.eq, fun i j h1 h2 => by rw [hr, hr]; exact e.inj i j h1 h2⟩, ?_, ?_⟩
  · unfold digs; exact List.map_congr_left fun i _ => (hd _).symm
  · rw [ec, hr]
    split
    · rfl
    · unfold digs; exact List.map_congr_left fun i _ => (hd _).symm
theorem Fg.scale {a b W : Nat} {A C : List Nat} {g : Nat} (hg : 0 < g) : Fg (g * a) (g * b) W A C ↔ Fg a b W A C := by
  have hr : ∀ j, rst (g * a) (g * b) j = g * rst a b j := fun j => by
    induction j with
    | zero => exact Nat.mul_mod_mul_left ..
    | succ j ih => show 2 * _ % _ = _; rw [ih, ← Nat.mul_assoc, Nat.mul_comm 2 g, Nat.mul_assoc, Nat.mul_mod_mul_left]; rfl
  have hd : ∀ j, dgt (g * a) (g * b) j = dgt a b j := fun j => by
    unfold dgt; rw [hr, ← Nat.mul_assoc, Nat.mul_comm 2 g, Nat.mul_assoc, Nat.mul_div_mul_left _ _ hg]
  have hD : ∀ j n, digs (g * a) (g * b) j n = digs a b j n := fun j n => by unfold digs; exact List.map_congr_left fun i _ => hd _
  have hz : ∀ j, (rst (g * a) (g * b) j = 0) ↔ rst a b j = 0 := fun j => by
    rw [hr, Nat.mul_eq_zero]; omega
  have hE : ∀ m s, Ends (rst (g * a) (g * b)) m s ↔ Ends (rst a b) m s := fun m s => by
    constructor
    · intro e
      refine ⟨e.lt, ?_, fun i j h1 h2 q => e.inj i j h1 h2 (by rw [hr, hr, q])⟩
      have := e.eq
      rw [hr, hr] at this
      exact Nat.eq_of_mul_eq_mul_left hg this
    · intro e
      refine ⟨e.lt, by rw [hr, hr, e.eq], fun i j h1 h2 q => e.inj i j h1 h2 ?_⟩
      rw [hr, hr] at q
      exact Nat.eq_of_mul_eq_mul_left hg q
  constructor
  · rintro ⟨hb, w, m, s, e, ea, ec⟩
    refine ⟨Nat.pos_of_mul_pos_left hb, by rw [w, Nat.mul_div_mul_left _ _ hg], m, s, (hE m s).mp e, by rw [ea, hD], ?_⟩
    rw [ec, hD]
    by_cases c : rst a b s = 0
    · rw [if_pos c, if_pos ((hz s).mpr c)]
    · rw [if_neg c, if_neg fun q => c ((hz s).mp q)]
  · rintro ⟨hb, w, m, s, e, ea, ec⟩
    refine ⟨Nat.mul_pos hg hb, by rw [w, Nat.mul_div_mul_left _ _ hg], m, s, (hE m s).mpr e, by rw [ea, hD], ?_⟩
    rw [ec, hD]
    by_cases c : rst a b s = 0
    · rw [if_pos c, if_pos ((hz s).mpr c)]
    · rw [if_neg c, if_neg fun q => c ((hz s).mp q)]
end MR

/-! Fih: figures doubled, turned, drawn; no more rests than the bottom tells. -/
namespace MR
theorem digs_cons (a b j n : Nat) : digs a b j (n + 1) = dgt a b j :: digs a b (j + 1) n := by
  unfold digs
  rw [List.range_succ_eq_map, List.map_cons, List.map_map]
  congr 1
  refine List.map_congr_left fun i _ => ?_
  show dgt a b (j + (i + 1)) = dgt a b (j + 1 + i)
  congr 1
  omega
theorem digs_add (a b j n : Nat) : ∀ k, digs a b j (n + k) = digs a b j n ++ digs a b (j + n) k
  | 0 => by simp [digs]
  | k + 1 => by
    rw [← Nat.add_assoc, digs_succ, digs_add a b j n k, digs_succ, List.append_assoc, Nat.add_assoc]
section
variable {a b W : Nat} {A C : List Nat}
theorem Fg.double (h : Fg a b W A C) : Fg (2 * a) b (2 * W + toldD A C 1) (A.drop 1) (if A ≠ [] then C else C.drop 1 ++ C.take 1) := by
  rw [h.digit (Nat.le_refl 1)]
  obtain ⟨hb, rfl, m, s, e, rfl, ec⟩ := h
  have hlt := e.lt
  have hr : ∀ j, rst (2 * a) b j = rst a b (j + 1) := fun j => by
    induction j with
    | zero => show 2 * a % b = 2 * (a % b) % b; rw [Nat.mul_mod_mod]
    | succ j ih => show 2 * rst (2 * a) b j % b = 2 * rst a b (j + 1) % b; rw [ih]
  have hd : ∀ j, dgt (2 * a) b j = dgt a b (j + 1) := fun j => by unfold dgt; rw [hr]
  have hD : ∀ j n, digs (2 * a) b j n = digs a b (j + 1) n := fun j n => by
    unfold digs
    refine List.map_congr_left fun i _ => ?_
    rw [hd]
    exact congrArg _ (by omega)
  have hw : 2 * a / b = 2 * (a / b) + dgt a b (1 - 1) := by
    have q := Nat.div_add_mod a b
    have e2 := dgt_eq (a := a) (b := b) 0
    have e3 : rst a b 0 = a % b := rfl
    rw [e3] at e2
    have l := rst_lt (a := a) hb 1
    have q2 : 2 * a = b * (2 * (a / b) + dgt a b 0) + rst a b 1 := by
      have e4 : rst a b (0 + 1) = rst a b 1 := rfl
      rw [Nat.mul_add, show b * (2 * (a / b)) = 2 * (b * (a / b)) by rw [← Nat.mul_assoc, Nat.mul_comm b 2, Nat.mul_assoc]]
      omega
    rw [q2, Nat.mul_add_div hb, Nat.div_eq_of_lt l]
    rfl
  refine ⟨hb, hw.symm, ?_⟩
  cases s with
  | succ t =>
    refine ⟨m - 1, t, ⟨by omega, ?_, fun i j h1 h2 => by rw [hr, hr]; exact e.inj _ _ (by omega) (by omega)⟩, ?_, ?_⟩
    · rw [hr, hr, show m - 1 + 1 = m by omega]; exact e.eq
    · rw [digs_cons, hD]; rfl
    · have : digs a b 0 (t + 1) ≠ [] := by rw [digs_cons]; simp
      rw [if_pos this, ec, hr, hD, show m - 1 - t = m - (t + 1) by omega]
  | zero =>
    have hn : ¬ digs a b 0 0 ≠ [] := by simp [digs]
    rw [if_neg hn]
    have e1 : rst a b (m + 1) = rst a b 1 := by
      have := rst_step e.eq 1
      simpa using this
    refine ⟨m, 0, ⟨hlt, by rw [hr, hr]; exact e1, fun i j h1 h2 => ?_⟩, rfl, ?_⟩
    · rw [hr, hr]
      by_cases c : j + 1 < m
      · exact e.inj _ _ (by omega) c
      · have : j + 1 = m := by omega
        rw [this, e.eq]
        exact fun z => e.inj 0 (i + 1) (by omega) (by omega) z.symm
    · rw [hr]
      by_cases h0 : rst a b 0 = 0
      · rw [if_pos h0] at ec
        rw [if_pos (rst_zero h0 1), ec]
        rfl
      · have h1 : rst a b (0 + 1) ≠ 0 := nz e h0 _
        rw [if_neg h0] at ec
        rw [if_neg h1, ec, hD]
        obtain ⟨n, hn⟩ : ∃ n, m - 0 = n + 1 := ⟨m - 1, by omega⟩
        rw [hn, digs_cons, digs_succ]
        show _ ++ [dgt a b 0] = _ ++ [dgt a b (0 + 1 + n)]
        have : 0 + 1 + n = m := by omega
        rw [this]
        unfold dgt
        rw [e.eq]
        rfl
theorem Fg.turn (h : Fg a b W A C) (h1 : a < b) (hC : C ≠ []) : Fg (b - a) b 0 (A.map fun d => 1 - d) (C.map fun d => 1 - d) := by
  obtain ⟨hb, rfl, m, s, e, rfl, ec⟩ := h
  have hlt := e.lt
  have h0 : rst a b s ≠ 0 := fun z => by rw [if_pos z] at ec; exact hC ec
  rw [if_neg h0] at ec
  have hz := nz e h0
  have ha : rst a b 0 = a := Nat.mod_eq_of_lt h1
  have ha0 := hz 0
  rw [ha] at ha0
  have hstep : ∀ j, 2 * (b - rst a b j) = b * (1 - dgt a b j) + (b - rst a b (j + 1)) := fun j => by
    have e2 := dgt_eq (a := a) (b := b) j
    have l1 := rst_lt (a := a) hb j
    have l2 := rst_lt (a := a) hb (j + 1)
    have l3 := dgt_lt (a := a) hb j
    have : dgt a b j = 0 ∨ dgt a b j = 1 := by omega
    rcases this with c | c <;> rw [c] at e2 ⊢ <;> omega
  have hr : ∀ j, rst (b - a) b j = b - rst a b j := fun j => by
    induction j with
    | zero => rw [ha]; exact Nat.mod_eq_of_lt (by omega)
    | succ j ih =>
      show 2 * _ % b = _
      rw [ih, hstep, Nat.mul_add_mod, Nat.mod_eq_of_lt]
      have := hz (j + 1)
      omega
  have hd : ∀ j, dgt (b - a) b j = 1 - dgt a b j := fun j => by
    unfold dgt
    rw [hr, hstep, Nat.mul_add_div hb, Nat.div_eq_of_lt]
    · rfl
    · have := hz (j + 1)
      omega
  have hD : ∀ j n, digs (b - a) b j n = (digs a b j n).map fun d => 1 - d := fun j n => by
    unfold digs
    rw [List.map_map]
    exact List.map_congr_left fun i _ => hd _
  refine ⟨hb, (Nat.div_eq_of_lt (by omega)).symm, m, s, ⟨hlt, by rw [hr, hr, e.eq], fun i j q1 q2 q => ?_⟩, (hD _ _).symm, ?_⟩
  · rw [hr, hr] at q
    have l1 := rst_lt (a := a) hb i
    have l2 := rst_lt (a := a) hb j
    exact e.inj i j q1 q2 (by omega)
  · rw [hr, if_neg (by have := rst_lt (a := a) hb s; omega), hD, ec]
end
/-! ### figures told by a walk along digits -/
def walk2 (b : Nat) : Nat → List Nat → List Nat → Option (List Nat × Nat)
  | r, [], acc => some (acc, r)
  | r, d :: ds, acc => if acc.contains r || (2 * r / b != d) then none else walk2 b (2 * r % b) ds (acc ++ [r])
theorem walk2_ok {a b : Nat} : ∀ (ds acc L : List Nat) (j r r' : Nat), r = rst a b j → acc.length = j → (∀ i, i < j → acc[i]? = some (rst a b i)) → (∀ i k, i < k → k < j → rst a b i ≠ rst a b k) →
    walk2 b r ds acc = some (L, r') → ds = digs a b j ds.length ∧ r' = rst a b (j + ds.length) ∧ (∀ i k, i < k → k < j + ds.length → rst a b i ≠ rst a b k) ∧ ∀ i, i < j + ds.length → L[i]? = some (rst a b i)
  | [], acc, L, j, r, r', hr, hl, hg, hi, h => by
    cases h
    exact ⟨rfl, hr, hi, hg⟩
  | d :: ds, acc, L, j, r, r', hr, hl, hg, hi, h => by
    unfold walk2 at h
    split at h
    · cases h
    · rename_i c
      simp only [Bool.or_eq_true, not_or, Bool.not_eq_true, bne_eq_false_iff_eq] at c
      obtain ⟨c1, c2⟩ := c
      have c3 : ∀ i, i < j → rst a b i ≠ rst a b j := fun i hij q => by
        have hm : rst a b i ∈ acc := List.mem_of_getElem? (hg i hij)
        rw [q, ← hr] at hm
        have : acc.contains r = true := List.contains_iff_mem.mpr hm
        rw [this] at c1
        cases c1
      have := walk2_ok ds (acc ++ [r]) L (j + 1) (2 * r % b) r' (by rw [hr]; rfl) (by simp [hl]) (fun i hi' => ?_) (fun i k h1 h2 => ?_) h
      · obtain ⟨q1, q2, q3, q4⟩ := this
        refine ⟨?_, by rw [q2, List.length_cons]; congr 1; omega, fun i k h1 h2 => q3 i k h1 (by rw [List.length_cons] at h2; omega), fun i hi' => q4 i (by rw [List.length_cons] at hi'; omega)⟩
        rw [List.length_cons, digs_cons, ← q1, ← c2, hr]
        rfl
      · by_cases e : i < j
        · rw [List.getElem?_append_left (by omega)]
          exact hg i e
        · have : i = j := by omega
          subst this
          rw [List.getElem?_append_right (by omega), hl, Nat.sub_self, ← hr]
          rfl
      · by_cases e : k < j
        · exact hi i k h1 e
        · have : k = j := by omega
          subst this
          exact c3 i h1
def drwA (A C : List Nat) : Nat := if C = [] then val2 A else val2 A * (2 ^ C.length - 1) + val2 C
def drwB (A C : List Nat) : Nat := if C = [] then 2 ^ A.length else 2 ^ A.length * (2 ^ C.length - 1)
def chk2 (A C : List Nat) : Bool :=
  let a := drwA A C
  let b := drwB A C
  decide (a < b) && match walk2 b a (A ++ (if C = [] then [0] else C)) [] with
  | some (L, r) => (L[A.length]? == some r) && ((r == 0) == (C == []))
  | none => false
theorem chk2_ok {A C : List Nat} (h : chk2 A C = true) : Fg (drwA A C) (drwB A C) 0 A C := by
  unfold chk2 at h
  simp only [Bool.and_eq_true, decide_eq_true_eq] at h
  obtain ⟨h1, h2⟩ := h
  split at h2
  · rename_i L r hw
    simp only [Bool.and_eq_true, beq_iff_eq] at h2
    obtain ⟨h3, h4⟩ := h2
    generalize drwA A C = a at *
    generalize drwB A C = b at *
    have ha : a = rst a b 0 := (Nat.mod_eq_of_lt h1).symm
    obtain ⟨q1, q2, q3, q4⟩ := walk2_ok _ [] L 0 a r ha rfl (fun i hi => by omega) (fun i k _ hk => by omega) hw
    rw [Nat.zero_add] at q2 q3 q4
    rw [List.length_append] at q1 q2 q3 q4
    rw [digs_add, Nat.zero_add] at q1
    obtain ⟨w1, w2⟩ := List.append_inj q1 (digs_length ..).symm
    have hX : 1 ≤ (if C = [] then [0] else C).length := by
      split
      · simp
      · rename_i c
        exact List.length_pos_iff.mpr c
    have hs : rst a b A.length = r := by
      have := q4 A.length (by omega)
      rw [h3] at this
      exact (Option.some.inj this).symm
    refine ⟨by omega, (Nat.div_eq_of_lt h1).symm, A.length + (if C = [] then [0] else C).length, A.length, ⟨by omega, by rw [← q2, hs], fun i j q q' => q3 i j q q'⟩, w1, ?_⟩
    rw [hs]
    by_cases c : C = []
    · subst c
      simp at h4
      rw [if_pos h4]
    · rw [if_neg c] at w2 ⊢
      have : ¬ r = 0 := fun z => by
        subst z
        have : (C == []) = false := by
          cases C with
          | nil => exact absurd rfl c
          | cons x y => rfl
        rw [this] at h4
        simp at h4
      rw [if_neg this, show A.length + C.length - A.length = C.length by omega]
      exact w2
  · cases h2
/-! ### the test of figures, as both tell it -/
def shortB (C : List Nat) : Bool := !((List.range' 1 (C.length - 1)).map fun k => C.length % k == 0 && C.drop k == C.take (C.length - k)).any id
def figB (A C : List Nat) : Bool := A.all (· < 2) && C.all (· < 2) && (if C = [] then A = [] || A.getLast? == some 1 else shortB C && C != [0] && C != [1] && (A = [] || A.getLast? != C.getLast?))
theorem Fg.figB {a b W : Nat} {A C : List Nat} (h : Fg a b W A C) : figB A C = true := by
  unfold MR.figB
  have h1 : A.all (· < 2) = true := by simpa using h.bitsA
  have h2 : C.all (· < 2) = true := by simpa using h.bitsC
  rw [h1, h2]
  by_cases c : C = []
  · rw [if_pos c]
    rcases h.okA c with e | e <;> simp [e]
  · rw [if_neg c]
    obtain ⟨c1, c2, c3⟩ := h.okC c
    have c4 : shortB C = true := by
      unfold shortB
      rw [Bool.not_eq_true', ← Bool.not_eq_true]
      intro z
      obtain ⟨x, hx, hx2⟩ := List.any_eq_true.mp z
      obtain ⟨k, hk, rfl⟩ := List.mem_map.mp hx
      simp only [id, Bool.and_eq_true, beq_iff_eq] at hx2
      rw [List.mem_range'_1] at hk
      exact h.short k hk.1 (by omega) hx2.1 hx2.2
    rw [c4]
    rcases c3 with e | e <;> simp [e, c1, c2]
/-! ### no more rests than the bottom tells -/
theorem nodup_len : ∀ (b : Nat) (l : List Nat), l.Nodup → (∀ x ∈ l, x < b) → l.length ≤ b
  | 0, l, _, h => by
    cases l with
    | nil => simp
    | cons x l => exact absurd (h x (List.mem_cons_self ..)) (by omega)
  | b + 1, l, hn, h => by
    have := nodup_len b (l.erase b) (hn.erase b) fun x hx => by
      have h1 := h x (List.mem_of_mem_erase hx)
      have h2 : x ≠ b := fun z => by subst z; exact hn.not_mem_erase hx
      omega
    rw [List.length_erase] at this
    split at this <;> omega
theorem few_rests {a b j : Nat} (hb : 0 < b) (h : ∀ i k, i < k → k < j → rst a b i ≠ rst a b k) : j ≤ b := by
  have := nodup_len b ((List.range j).map (rst a b)) (by
    rw [List.nodup_iff_pairwise_ne, List.pairwise_map, List.pairwise_iff_getElem]
    intro i k h1 h2 h3
    rw [List.getElem_range, List.getElem_range]
    simp at h2
    exact h i k h3 h2) fun x hx => by
    obtain ⟨i, _, rfl⟩ := List.mem_map.mp hx
    exact rst_lt hb i
  simpa using this
end MR

/-! Fij: figures and fractions. -/
namespace MR
def frQ (W : Nat) (A C : List Nat) : Rat :=
  if C = [] then Rat.divInt ((W : Int) * 2 ^ A.length + (val2 A : Nat)) (2 ^ A.length) else
    Rat.divInt ((W : Int) * 2 ^ A.length + (val2 A : Nat)) (2 ^ A.length) + Rat.divInt ((val2 C : Nat) : Int) (2 ^ A.length * (2 ^ C.length - 1))
def frL (W : Nat) (A C : List Nat) : Rat :=
  if C = [] then Rat.divInt ((W : Int) * 2 ^ A.length + (val2 A : Nat)) (2 ^ A.length) else
    Rat.divInt (((W : Int) * 2 ^ A.length + (val2 A : Nat)) * (2 ^ C.length - 1) + (val2 C : Nat)) (2 ^ A.length * (2 ^ C.length - 1))
theorem p2pos (n : Nat) : (0 : Int) < 2 ^ n := Int.pow_pos (by decide)
theorem p2one {C : List Nat} (h : C ≠ []) : (0 : Int) < 2 ^ C.length - 1 := by
  have h1 := List.length_pos_iff.mpr h
  obtain ⟨n, hn⟩ : ∃ n, C.length = n + 1 := ⟨C.length - 1, by omega⟩
  rw [hn, Int.pow_succ]
  have := p2pos n
  omega
theorem frQ_L (W : Nat) (A C : List Nat) : frQ W A C = frL W A C := by
  unfold frQ frL
  by_cases c : C = []
  · rw [if_pos c, if_pos c]
  · rw [if_neg c, if_neg c]
    have h1 := p2pos A.length
    have h2 := p2one c
    have h3 : (2 ^ A.length * (2 ^ C.length - 1) : Int) ≠ 0 := by
      have := Int.mul_pos h1 h2
      omega
    rw [Rat.divInt_add_divInt _ _ (by omega) h3, Rat.divInt_eq_divInt_iff (by
      have := Int.mul_pos h1 (Int.mul_pos h1 h2)
      omega) h3]
    generalize ((W : Int) * 2 ^ A.length + (val2 A : Nat)) = x
    generalize ((val2 C : Nat) : Int) = v
    generalize ((2 : Int) ^ C.length - 1) = z
    generalize ((2 : Int) ^ A.length) = s
    grind
theorem cast2 (n : Nat) : ((2 ^ n : Nat) : Int) = 2 ^ n := by norm_cast
theorem cast2m {n : Nat} : ((2 ^ n - 1 : Nat) : Int) = 2 ^ n - 1 := by
  have : 1 ≤ 2 ^ n := Nat.one_le_two_pow
  rw [Int.natCast_sub this, cast2]
  rfl
theorem Fg.frQ {a b W : Nat} {A C : List Nat} (h : Fg a b W A C) : MR.frQ W A C = Rat.divInt (a : Int) (b : Int) := by
  have hb := h.pos
  rw [frQ_L]
  unfold frL
  by_cases c : C = []
  · rw [if_pos c, Rat.divInt_eq_divInt_iff (by have := p2pos A.length; omega) (by omega)]
    have := h.back0 c
    have := congrArg (fun n : Nat => (n : Int)) this
    simpa using this
  · rw [if_neg c, Rat.divInt_eq_divInt_iff (by have := Int.mul_pos (p2pos A.length) (p2one c); omega) (by omega)]
    have := h.back1 c
    have := congrArg (fun n : Nat => (n : Int)) this
    simp only [Int.natCast_mul, Int.natCast_add, cast2, cast2m] at this
    exact this
def FgQ (q : Rat) (W : Nat) (A C : List Nat) : Prop := Fg q.num.toNat q.den W A C
theorem FgQ.frQ {q : Rat} {W : Nat} {A C : List Nat} (h : FgQ q W A C) (h0 : 0 ≤ q) : MR.frQ W A C = q := by
  rw [Fg.frQ h, Int.toNat_of_nonneg (Rat.num_nonneg.mpr h0), Rat.num_divInt_den]
theorem fgq {x y W : Nat} {A C : List Nat} (hy : 0 < y) : FgQ (Rat.divInt (x : Int) (y : Int)) W A C ↔ Fg x y W A C := by
  obtain ⟨e1, e2⟩ := divInt_parts (x : Int) (y : Int) (by omega)
  rw [Int.natAbs_natCast, Int.natAbs_natCast] at e1 e2
  have hg : 0 < Nat.gcd x y := Nat.gcd_pos_of_pos_right _ hy
  obtain ⟨u, hu⟩ := Nat.gcd_dvd_left x y
  obtain ⟨v, hv⟩ := Nat.gcd_dvd_right x y
  generalize Nat.gcd x y = g at *
  have e3 : ((Rat.divInt (x : Int) (y : Int)).num).toNat = u := by
    rw [e1, hu, ← Int.natCast_ediv, Int.toNat_natCast, Nat.mul_div_cancel_left _ hg]
  have e4 : (Rat.divInt (x : Int) (y : Int)).den = v := by
    have : (((Rat.divInt (x : Int) (y : Int)).den : Nat) : Int) = (v : Nat) := by
      rw [e2, hv, ← Int.natCast_ediv, Nat.mul_div_cancel_left _ hg]
    omega
  unfold FgQ
  rw [e3, e4]
  conv => rhs; rw [hu, hv]
  exact (Fg.scale hg).symm
/-- all rows of at most four bits -/
def rows2 : Nat → List (List Nat)
  | 0 => [[]]
  | n + 1 => [] :: (rows2 n).flatMap fun l => [0 :: l, 1 :: l]
theorem rows2_mem : ∀ (n : Nat) (l : List Nat), (∀ x ∈ l, x < 2) → l.length ≤ n → l ∈ rows2 n
  | 0, [], _, _ => by simp [rows2]
  | 0, _ :: _, _, h => by simp at h
  | n + 1, [], _, _ => by simp [rows2]
  | n + 1, d :: l, h, hl => by
    have h1 := rows2_mem n l (fun x hx => h x (List.mem_cons_of_mem _ hx)) (by simpa using hl)
    have h2 := h d List.mem_cons_self
    refine List.mem_cons_of_mem _ (List.mem_flatMap.mpr ⟨l, h1, ?_⟩)
    have : d = 0 ∨ d = 1 := by omega
    rcases this with rfl | rfl <;> simp
theorem chk_all : ((rows2 4).all fun A => (rows2 4).all fun C => !figB A C || chk2 A C) = true := by decide +kernel
theorem drawn_fg {A C : List Nat} (hA : ∀ x ∈ A, x < 2) (hC : ∀ x ∈ C, x < 2) (h1 : A.length ≤ 4) (h2 : C.length ≤ 4) (h : figB A C = true) (W : Nat) : FgQ (frQ W A C) W A C := by
  have := List.all_eq_true.mp (List.all_eq_true.mp chk_all A (rows2_mem 4 A hA h1)) C (rows2_mem 4 C hC h2)
  rw [h] at this
  have := (chk2_ok (by simpa using this)).plus W
  rw [Nat.zero_add] at this
  have hp := this.pos
  rw [frQ_L]
  unfold frL
  have e : (if C = [] then Rat.divInt ((W : Int) * 2 ^ A.length + (val2 A : Nat)) (2 ^ A.length) else Rat.divInt (((W : Int) * 2 ^ A.length + (val2 A : Nat)) * (2 ^ C.length - 1) + (val2 C : Nat)) (2 ^ A.length * (2 ^ C.length - 1))) = Rat.divInt ((drwA A C + W * drwB A C : Nat) : Int) (drwB A C : Int) := by
    unfold drwA drwB
    by_cases c : C = []
    · simp only [if_pos c, Int.natCast_add, Int.natCast_mul, cast2]
      congr 1
      omega
    · simp only [if_neg c, Int.natCast_add, Int.natCast_mul, cast2, cast2m]
      congr 1
      generalize ((2 : Int) ^ C.length - 1) = z
      generalize ((2 : Int) ^ A.length) = s
      grind
  rw [e, fgq hp]
  exact this
/-! ### the law's own test of figures -/
def singB (C : List Nat) : Bool := (((List.range' 1 (C.length - 1)).filter fun k => C.length % k == 0).filter fun k => (List.replicate (C.length / k) (C.take k)).flatten == C) == []
def oneB (C : List Nat) : Bool := match C with | [] => false | x :: l => l.all (· == x)
theorem oneB_len {C : List Nat} {ms : List Int} (hn : ms.Nodup) (hm : ∀ k : Int, k ∈ ms ↔ k ∈ C.map fun (n : Nat) => (n : Int)) : decide (((ms.length : Nat) : Int) = 1) = oneB C := by
  rw [Bool.eq_iff_iff, decide_eq_true_eq]
  constructor
  · intro h
    match ms, h with
    | [m], _ =>
      cases C with
      | nil => have := (hm m).mp (by simp); simp at this
      | cons x l =>
        show l.all (· == x) = true
        rw [List.all_eq_true]
        intro y hy
        have h1 := (hm (x : Int)).mpr (by simp)
        have h2 := (hm (y : Int)).mpr (List.mem_map.mpr ⟨y, List.mem_cons_of_mem _ hy, rfl⟩)
        rw [List.mem_singleton] at h1 h2
        rw [beq_iff_eq]
        omega
    | [], h => simp at h
    | _ :: _ :: _, h => simp at h; omega
  · intro h
    cases C with
    | nil => cases h
    | cons x l =>
      have h : l.all (· == x) = true := h
      rw [List.all_eq_true] at h
      have hall : ∀ k ∈ ms, k = (x : Int) := fun k hk => by
        obtain ⟨y, hy, rfl⟩ := List.mem_map.mp ((hm k).mp hk)
        rcases List.mem_cons.mp hy with rfl | hy
        · rfl
        · have := h y hy
          rw [beq_iff_eq] at this
          subst this
          rfl
      have hx := (hm (x : Int)).mpr (by simp)
      match ms, hn, hall, hx with
      | [], _, _, hx => simp at hx
      | [_], _, _, _ => rfl
      | a :: b :: r, hn, hall, _ =>
        have e1 := hall a (by simp)
        have e2 := hall b (by simp)
        rw [List.nodup_cons] at hn
        exact absurd (by rw [e1, e2]; simp) hn.1
def lawB (A C : List Nat) : Bool := A.all (· < 2) && C.all (· < 2) && (if C = [] then A = [] || A.getLast? == some 1 else !(oneB C || !singB C) && (A = [] || A.getLast? != C.getLast?))
theorem lawB_all : ((rows2 4).all fun A => (rows2 4).all fun C => lawB A C == figB A C) = true := by decide +kernel
theorem lawB_figB {A C : List Nat} (hA : ∀ x ∈ A, x < 2) (hC : ∀ x ∈ C, x < 2) (h1 : A.length ≤ 4) (h2 : C.length ≤ 4) : lawB A C = figB A C := by
  have := List.all_eq_true.mp (List.all_eq_true.mp lawB_all A (rows2_mem 4 A hA h1)) C (rows2_mem 4 C hC h2)
  exact beq_iff_eq.mp this
theorem dgt_div {r b : Nat} (hb : 0 < b) : (2 * (Rat.divInt (r : Int) (b : Int)).num).fdiv ((Rat.divInt (r : Int) (b : Int)).den : Int) = ((2 * r / b : Nat) : Int) := by
  obtain ⟨e1, e2⟩ := divInt_parts (r : Int) (b : Int) (by omega)
  rw [Int.natAbs_natCast, Int.natAbs_natCast] at e1 e2
  have hg : 0 < Nat.gcd r b := Nat.gcd_pos_of_pos_right _ hb
  obtain ⟨u, hu⟩ := Nat.gcd_dvd_left r b
  obtain ⟨v, hv⟩ := Nat.gcd_dvd_right r b
  generalize Nat.gcd r b = g at *
  rw [e1, e2, Int.fdiv_eq_ediv_of_nonneg _ (by rw [hv]; exact Int.ediv_nonneg (by omega) (by omega))]
  conv => lhs; rw [hu, hv]
  conv => rhs; rw [hu, hv]
  rw [← Int.natCast_ediv, ← Int.natCast_ediv, Nat.mul_div_cancel_left _ hg, Nat.mul_div_cancel_left _ hg, show 2 * (g * u) = g * (2 * u) by rw [← Nat.mul_assoc, Nat.mul_comm 2 g, Nat.mul_assoc], Nat.mul_div_mul_left _ _ hg]
  rw [Int.natCast_ediv, Int.natCast_mul]
  rfl
theorem int_divInt (n : Int) : ((n : Int) : Rat) = Rat.divInt n 1 := by
  have := Rat.num_divInt_den ((n : Int) : Rat)
  exact this.symm
theorem rest_next {r r' d b : Nat} (hb : 0 < b) (h : 2 * r = b * d + r') : ((2 : Int) : Rat) * Rat.divInt (r : Int) (b : Int) - ((d : Int) : Rat) = Rat.divInt (r' : Int) (b : Int) := by
  have h2 : (2 : Int) * r = b * d + r' := by omega
  rw [show ((2 : Int) : Rat) = Rat.divInt 2 1 from rfl, show ((d : Int) : Rat) = Rat.divInt (d : Int) 1 from (int_divInt _)]
  rw [Rat.divInt_mul_divInt, Rat.divInt_sub_divInt _ _ (by omega) (by omega), Rat.divInt_eq_divInt_iff (by omega) (by omega)]
  grind
theorem mul_two_fr {q : Rat} (h0 : 0 ≤ q) : ((2 : Int) : Rat) * q = Rat.divInt ((2 * q.num.toNat : Nat) : Int) (q.den : Int) := by
  have hn : q.num = ((q.num.toNat : Nat) : Int) := (Int.toNat_of_nonneg (Rat.num_nonneg.mpr h0)).symm
  conv => lhs; rw [← Rat.num_divInt_den q, hn]
  rw [show ((2 : Int) : Rat) = Rat.divInt 2 1 from rfl, Rat.divInt_mul_divInt, Int.one_mul, Int.natCast_mul]
  rfl
theorem add_int_fr {q : Rat} (h0 : 0 ≤ q) (n : Nat) : q + ((n : Int) : Rat) = Rat.divInt ((q.num.toNat + n * q.den : Nat) : Int) (q.den : Int) := by
  have hn : q.num = ((q.num.toNat : Nat) : Int) := (Int.toNat_of_nonneg (Rat.num_nonneg.mpr h0)).symm
  have hd := q.den_pos
  conv => lhs; rw [← Rat.num_divInt_den q, hn]
  rw [show ((n : Int) : Rat) = Rat.divInt (n : Int) 1 from (int_divInt _), Rat.divInt_add_divInt _ _ (by omega) (by omega), Rat.divInt_eq_divInt_iff (by omega) (by omega), Int.natCast_add, Int.natCast_mul]
  grind
theorem one_sub_fr {q : Rat} (h0 : 0 ≤ q) (h1 : q.num.toNat < q.den) : ((1 : Int) : Rat) - q = Rat.divInt ((q.den - q.num.toNat : Nat) : Int) (q.den : Int) := by
  have hn : q.num = ((q.num.toNat : Nat) : Int) := (Int.toNat_of_nonneg (Rat.num_nonneg.mpr h0)).symm
  have hd := q.den_pos
  conv => lhs; rw [← Rat.num_divInt_den q, hn]
  rw [show ((1 : Int) : Rat) = Rat.divInt 1 1 from rfl, Rat.divInt_sub_divInt _ _ (by omega) (by omega), Rat.divInt_eq_divInt_iff (by omega) (by omega), Int.natCast_sub (by omega)]
  grind
theorem FgQ.plus {q : Rat} {W : Nat} {A C : List Nat} (h : FgQ q W A C) (h0 : 0 ≤ q) (n : Nat) : FgQ (q + ((n : Int) : Rat)) (W + n) A C := by
  rw [add_int_fr h0, fgq q.den_pos]
  exact Fg.plus h n
theorem FgQ.double {q : Rat} {W : Nat} {A C : List Nat} (h : FgQ q W A C) (h0 : 0 ≤ q) : FgQ (((2 : Int) : Rat) * q) (2 * W + toldD A C 1) (A.drop 1) (if A ≠ [] then C else C.drop 1 ++ C.take 1) := by
  rw [mul_two_fr h0, fgq q.den_pos]
  exact Fg.double h
theorem FgQ.turn {q : Rat} {A C : List Nat} (h : FgQ q 0 A C) (h0 : 0 ≤ q) (hC : C ≠ []) : FgQ (((1 : Int) : Rat) - q) 0 (A.map fun d => 1 - d) (C.map fun d => 1 - d) := by
  have h1 : q.num.toNat < q.den := by
    have := h.whole
    have hd := q.den_pos
    rcases Nat.lt_or_ge q.num.toNat q.den with c | c
    · exact c
    · have := Nat.div_pos c hd
      omega
  rw [one_sub_fr h0 h1, fgq q.den_pos]
  exact Fg.turn h h1 hC
theorem den_le {x : Int} {y : Nat} (h : 0 < y) : (Rat.divInt x (y : Int)).den ≤ y := by
  obtain ⟨e1, e2⟩ := divInt_parts x (y : Int) (by omega)
  have : ((Rat.divInt x (y : Int)).den : Int) ≤ y := by
    rw [e2]
    exact Int.ediv_le_self _ (by omega)
  omega
end MR

/-! Mc: coin machines: runs, rows counted, tails. Plain mathematics. -/
namespace MR
inductive Sd where
  | toss (a b : Nat) | out (i : Nat)
  deriving DecidableEq, Inhabited
abbrev Mch := List Sd
def Sd.ok (n many : Nat) : Sd → Prop
  | .toss a b => a < many ∧ b < many
  | .out i => i < n
structure MacOk (n : Nat) (S : Mch) : Prop where
  n1 : 1 ≤ n
  n8 : n ≤ 8
  ne : S ≠ []
  all : ∀ s ∈ S, s.ok n S.length
def at' (S : Mch) (s : Nat) : Sd := S.getD s (.out 0)
def isOut : Sd → Bool | .out _ => true | _ => false
def fols : Sd → List Nat | .toss a b => [a, b] | .out _ => []
theorem at_mem {S : Mch} {s : Nat} (h : s < S.length) : at' S s ∈ S := by
  unfold at'
  rw [List.getD_eq_getElem?_getD, List.getElem?_eq_getElem h]
  exact List.getElem_mem h
theorem at_get {S : Mch} {s : Nat} (h : s < S.length) : S[s]? = some (at' S s) := by
  unfold at'
  rw [List.getD_eq_getElem?_getD, List.getElem?_eq_getElem h]
  rfl
theorem fol_lt {n : Nat} {S : Mch} (h : MacOk n S) {s : Nat} (hs : s < S.length) : ∀ a ∈ fols (at' S s), a < S.length := by
  have := h.all _ (at_mem hs)
  cases e : at' S s with
  | toss a b =>
    rw [e] at this
    intro x hx
    simp only [fols, List.mem_cons, List.not_mem_nil, or_false] at hx
    rcases hx with rfl | rfl
    · exact this.1
    · exact this.2
  | out i => intro x hx; simp [fols] at hx
/-- where bits lead, and how many of them are taken -/
def led (S : Mch) : Nat → List Nat → Nat × Nat
  | s, [] => (s, 0)
  | s, b :: bs => match at' S s with
    | .out _ => (s, 0)
    | .toss x y => let r := led S (if b = 0 then x else y) bs; (r.1, r.2 + 1)
def runR (S : Mch) (s : Nat) (bs : List Nat) : Option (Nat × Nat) := match at' S (led S s bs).1 with
  | .out i => some (i, (led S s bs).2)
  | .toss _ _ => none
/-- how many rows of k bits end at i, from s -/
def endN (S : Mch) (i : Nat) : Nat → Nat → Nat
  | 0, s => match at' S s with | .out j => if j = i then 1 else 0 | _ => 0
  | k + 1, s => match at' S s with | .toss a b => endN S i k a + endN S i k b | _ => 0
/-- how many rows of k bits go on, from s -/
def goN (S : Mch) : Nat → Nat → Nat
  | 0, s => match at' S s with | .out _ => 0 | _ => 1
  | k + 1, s => match at' S s with | .toss a b => goN S k a + goN S k b | _ => 0
/-! ### rows told by a list of standings and numbers -/
abbrev Rows := List (Nat × Nat)
def Rows.keys (r : Rows) : List Nat := r.map (·.1)
def wgt (g : Nat → Nat) (r : Rows) : Nat := (r.map fun p => p.2 * g p.1).sum
def bmp (r : Rows) (a m : Nat) : Rows := if (r.any fun p => p.1 == a) = true then r.map fun p => if p.1 = a then (p.1, p.2 + m) else p else r ++ [(a, m)]
def ledOn (S : Mch) (r : Rows) : Rows := r.foldl (fun f p => (fols (at' S p.1)).foldl (fun f a => bmp f a p.2) f) []
theorem wgt_nil (g : Nat → Nat) : wgt g [] = 0 := rfl
theorem wgt_cons (g : Nat → Nat) (p : Nat × Nat) (r : Rows) : wgt g (p :: r) = p.2 * g p.1 + wgt g r := by unfold wgt; rw [List.map_cons, List.sum_cons]
theorem wgt_append (g : Nat → Nat) (r r' : Rows) : wgt g (r ++ r') = wgt g r + wgt g r' := by unfold wgt; rw [List.map_append, List.sum_append_nat]
theorem wgt_upd (g : Nat → Nat) (a m : Nat) : ∀ (r : Rows), r.keys.Nodup → a ∈ r.keys → wgt g (r.map fun p => if p.1 = a then (p.1, p.2 + m) else p) = wgt g r + m * g a
  | [], _, h => by simp [Rows.keys] at h
  | p :: r, hn, h => by
    unfold Rows.keys at hn h
    rw [List.map_cons, List.nodup_cons] at hn
    rw [List.map_cons, wgt_cons, wgt_cons]
    by_cases e : p.1 = a
    · have hno : (r.map fun p => if p.1 = a then (p.1, p.2 + m) else p) = r := by
        conv => rhs; rw [← List.map_id r]
        refine List.map_congr_left fun q hq => ?_
        have : q.1 ≠ a := fun z => hn.1 (List.mem_map.mpr ⟨q, hq, by rw [z, e]⟩)
        simp [this]
      rw [hno, if_pos e, Nat.add_mul, e]
      omega
    · rw [if_neg e, wgt_upd g a m r hn.2 (by
        rw [List.map_cons] at h
        exact (List.mem_cons.mp h).resolve_left (fun z => e z.symm))]
      omega
theorem bmp_nodup {r : Rows} {a m : Nat} (h : r.keys.Nodup) : (bmp r a m).keys.Nodup := by
  unfold bmp
  split
  · have : Rows.keys (r.map fun p => if p.1 = a then (p.1, p.2 + m) else p) = r.keys := by
      unfold Rows.keys
      rw [List.map_map]
      refine List.map_congr_left fun p _ => ?_
      show (if p.1 = a then (p.1, p.2 + m) else p).1 = p.1
      split <;> rfl
    rw [this]; exact h
  · rename_i c
    have hc : a ∉ r.keys := fun z => by
      obtain ⟨p, hp, e⟩ := List.mem_map.mp z
      exact c (List.any_eq_true.mpr ⟨p, hp, by simpa using e⟩)
    unfold Rows.keys at *
    rw [List.map_append, List.nodup_append]
    refine ⟨h, by simp, fun x hx y hy => ?_⟩
    have : y = a := by simpa using hy
    rintro rfl
    exact hc (this ▸ hx)
theorem bmp_wgt (g : Nat → Nat) {r : Rows} {a m : Nat} (h : r.keys.Nodup) : wgt g (bmp r a m) = wgt g r + m * g a := by
  unfold bmp
  split
  · rename_i c
    obtain ⟨p, hp, e⟩ := List.any_eq_true.mp c
    exact wgt_upd g a m r h (List.mem_map.mpr ⟨p, hp, by simpa using e⟩)
  · simp only [wgt_append, wgt_cons, wgt_nil]
    omega
theorem bmp_keys {r : Rows} {a m x : Nat} (h : x ∈ (bmp r a m).keys) : x ∈ r.keys ∨ x = a := by
  unfold bmp at h
  split at h
  · left
    unfold Rows.keys at *
    rw [List.map_map] at h
    obtain ⟨p, hp, rfl⟩ := List.mem_map.mp h
    refine List.mem_map.mpr ⟨p, hp, ?_⟩
    show p.1 = (if p.1 = a then (p.1, p.2 + m) else p).1
    split <;> rfl
  · unfold Rows.keys at *
    rw [List.map_append] at h
    rcases List.mem_append.mp h with h | h
    · exact .inl h
    · exact .inr (by simpa using h)
theorem bmps_ok (m : Nat) : ∀ (l : List Nat) (r : Rows), r.keys.Nodup → (l.foldl (fun f a => bmp f a m) r).keys.Nodup ∧ (∀ g, wgt g (l.foldl (fun f a => bmp f a m) r) = wgt g r + m * (l.map g).sum) ∧ ∀ x ∈ (l.foldl (fun f a => bmp f a m) r).keys, x ∈ r.keys ∨ x ∈ l
  | [], r, h => ⟨h, fun g => by simp, fun x hx => .inl hx⟩
  | a :: l, r, h => by
    obtain ⟨h1, h2, h3⟩ := bmps_ok m l (bmp r a m) (bmp_nodup h)
    refine ⟨h1, fun g => ?_, fun x hx => ?_⟩
    · show wgt g (l.foldl _ (bmp r a m)) = _
      rw [h2, bmp_wgt g h, List.map_cons, List.sum_cons, Nat.mul_add]
      omega
    · rcases h3 x hx with z | z
      · rcases bmp_keys z with z | rfl
        · exact .inl z
        · exact .inr List.mem_cons_self
      · exact .inr (List.mem_cons_of_mem _ z)
def sumF (S : Mch) (g : Nat → Nat) (s : Nat) : Nat := ((fols (at' S s)).map g).sum
theorem ledOn_go (S : Mch) : ∀ (r f : Rows), f.keys.Nodup → (r.foldl (fun f p => (fols (at' S p.1)).foldl (fun f a => bmp f a p.2) f) f).keys.Nodup ∧
    (∀ g, wgt g (r.foldl (fun f p => (fols (at' S p.1)).foldl (fun f a => bmp f a p.2) f) f) = wgt g f + wgt (sumF S g) r) ∧
    ∀ x ∈ (r.foldl (fun f p => (fols (at' S p.1)).foldl (fun f a => bmp f a p.2) f) f).keys, x ∈ f.keys ∨ ∃ s ∈ r.keys, x ∈ fols (at' S s)
  | [], f, h => ⟨h, fun g => by simp [wgt], fun x hx => .inl hx⟩
  | p :: r, f, h => by
    obtain ⟨b1, b2, b3⟩ := bmps_ok p.2 (fols (at' S p.1)) f h
    obtain ⟨h1, h2, h3⟩ := ledOn_go S r _ b1
    refine ⟨h1, fun g => ?_, fun x hx => ?_⟩
    · rw [List.foldl_cons, h2, b2, wgt_cons]
      unfold sumF
      omega
    · rcases h3 x hx with z | ⟨s, hs, z⟩
      · rcases b3 x z with z | z
        · exact .inl z
        · exact .inr ⟨p.1, List.mem_cons_self, z⟩
      · exact .inr ⟨s, List.mem_cons_of_mem _ hs, z⟩
structure RowsOk (S : Mch) (r : Rows) : Prop where
  nd : r.keys.Nodup
  lt : ∀ x ∈ r.keys, x < S.length
theorem ledOn_ok {n : Nat} {S : Mch} (hM : MacOk n S) {r : Rows} (h : RowsOk S r) : RowsOk S (ledOn S r) := by
  obtain ⟨h1, h2, h3⟩ := ledOn_go S r [] (by simp [Rows.keys])
  refine ⟨h1, fun x hx => ?_⟩
  rcases h3 x hx with z | ⟨s, hs, z⟩
  · simp [Rows.keys] at z
  · exact fol_lt hM (h.lt s hs) x z
theorem ledOn_wgt (S : Mch) (r : Rows) (g : Nat → Nat) : wgt g (ledOn S r) = wgt (sumF S g) r := by
  obtain ⟨h1, h2, h3⟩ := ledOn_go S r [] (by simp [Rows.keys])
  have := h2 g
  rw [wgt_nil, Nat.zero_add] at this
  exact this
def rowsAt (S : Mch) : Nat → Rows
  | 0 => [(0, 1)]
  | k + 1 => ledOn S (rowsAt S k)
theorem rowsAt_ok {n : Nat} {S : Mch} (hM : MacOk n S) : ∀ k, RowsOk S (rowsAt S k)
  | 0 => ⟨by simp [rowsAt, Rows.keys], fun x hx => by
      have : x = 0 := by simpa [rowsAt, Rows.keys] using hx
      subst this
      exact List.length_pos_iff.mpr hM.ne⟩
  | k + 1 => ledOn_ok hM (rowsAt_ok hM k)
theorem sumF_end (S : Mch) (i k s : Nat) : sumF S (endN S i k) s = endN S i (k + 1) s := by
  unfold sumF
  show _ = (match at' S s with | .toss a b => endN S i k a + endN S i k b | _ => 0)
  cases at' S s <;> simp [fols]
theorem sumF_go (S : Mch) (k s : Nat) : sumF S (goN S k) s = goN S (k + 1) s := by
  unfold sumF
  show _ = (match at' S s with | .toss a b => goN S k a + goN S k b | _ => 0)
  cases at' S s <;> simp [fols]
theorem rowsAt_wgt (S : Mch) (g : Nat → Nat → Nat) (hg : ∀ k s, sumF S (g k) s = g (k + 1) s) : ∀ k j, wgt (g j) (rowsAt S k) = g (j + k) 0
  | 0, j => by simp [rowsAt, wgt]
  | k + 1, j => by
    show wgt (g j) (ledOn S (rowsAt S k)) = _
    rw [ledOn_wgt, show sumF S (g j) = g (j + 1) from funext fun s => hg j s, rowsAt_wgt S g hg k (j + 1)]
    congr 1
    omega
theorem rows_end (S : Mch) (i k : Nat) : wgt (endN S i 0) (rowsAt S k) = endN S i k 0 := by
  have := rowsAt_wgt S (endN S i) (sumF_end S i) k 0
  rwa [Nat.zero_add] at this
theorem rows_go (S : Mch) (k : Nat) : wgt (goN S 0) (rowsAt S k) = goN S k 0 := by
  have := rowsAt_wgt S (goN S) (sumF_go S) k 0
  rwa [Nat.zero_add] at this
/-- the chances within t bits, in 2 ^ t-th parts -/
def topsN (S : Mch) (i : Nat) : Nat → Nat
  | 0 => endN S i 0 0
  | t + 1 => 2 * topsN S i t + endN S i (t + 1) 0
theorem mc_sum2 (f g : Nat → Nat) : ∀ l : List Nat, (l.map fun i => f i + g i).sum = (l.map f).sum + (l.map g).sum
  | [] => rfl
  | a :: l => by
    simp only [List.map_cons, List.sum_cons, mc_sum2 f g l]
    omega
theorem mc_sumd (f g : Nat → Nat) : ∀ l : List Nat, (l.map fun i => 2 * f i + g i).sum = 2 * (l.map f).sum + (l.map g).sum
  | [] => rfl
  | a :: l => by
    simp only [List.map_cons, List.sum_cons, mc_sumd f g l]
    omega
theorem mc_sum1 (j : Nat) : ∀ n : Nat, ((List.range n).map fun i => if j = i then 1 else 0).sum = if j < n then 1 else 0
  | 0 => by simp
  | n + 1 => by
    rw [List.range_succ, List.map_append, List.sum_append_nat, mc_sum1 j n]
    by_cases c : j < n
    · have : j ≠ n := by omega
      have c2 : j < n + 1 := by omega
      simp [c, c2, this]
    · by_cases d : j = n
      · subst d; simp
      · have c2 : ¬ j < n + 1 := by omega
        simp [c, c2, d]
theorem mc_sum0 (l : List Nat) : (l.map fun _ => 0).sum = 0 := by
  induction l with
  | nil => rfl
  | cons a l ih => simp [ih]
def allN (S : Mch) (n k s : Nat) : Nat := ((List.range n).map fun i => endN S i k s).sum + goN S k s
theorem all_zero {n : Nat} {S : Mch} (hM : MacOk n S) {s : Nat} (hs : s < S.length) : allN S n 0 s = 1 := by
  unfold allN
  have := hM.all _ (at_mem hs)
  cases e : at' S s with
  | toss a b =>
    have e1 : ∀ i, endN S i 0 s = 0 := fun i => by unfold endN; rw [e]
    have e2 : goN S 0 s = 1 := by unfold goN; rw [e]
    rw [List.map_congr_left (g := fun _ => 0) fun i _ => e1 i, mc_sum0, e2]
  | out j =>
    rw [e] at this
    have e1 : ∀ i, endN S i 0 s = if j = i then 1 else 0 := fun i => by unfold endN; rw [e]
    have e2 : goN S 0 s = 0 := by unfold goN; rw [e]
    rw [List.map_congr_left (g := fun i => if j = i then 1 else 0) fun i _ => e1 i, mc_sum1, e2, if_pos (show j < n from this)]
theorem all_succ {n : Nat} {S : Mch} (k s : Nat) : allN S n (k + 1) s = match at' S s with | .toss a b => allN S n k a + allN S n k b | _ => 0 := by
  unfold allN
  cases e : at' S s with
  | toss a b =>
    have e1 : ∀ i, endN S i (k + 1) s = endN S i k a + endN S i k b := fun i => by
      show (match at' S s with | .toss a b => endN S i k a + endN S i k b | _ => 0) = _
      rw [e]
    have e2 : goN S (k + 1) s = goN S k a + goN S k b := by
      show (match at' S s with | .toss a b => goN S k a + goN S k b | _ => 0) = _
      rw [e]
    rw [List.map_congr_left (g := fun i => endN S i k a + endN S i k b) fun i _ => e1 i, mc_sum2, e2]
    simp only
    omega
  | out j =>
    have e1 : ∀ i, endN S i (k + 1) s = 0 := fun i => by
      show (match at' S s with | .toss a b => endN S i k a + endN S i k b | _ => 0) = _
      rw [e]
    have e2 : goN S (k + 1) s = 0 := by
      show (match at' S s with | .toss a b => goN S k a + goN S k b | _ => 0) = _
      rw [e]
    rw [List.map_congr_left (g := fun _ => 0) fun i _ => e1 i, mc_sum0, e2]
theorem end_go {n : Nat} {S : Mch} (hM : MacOk n S) : ∀ (k s : Nat), s < S.length → allN S n (k + 1) s = 2 * goN S k s
  | k, s, hs => by
    rw [all_succ]
    have hf := fol_lt hM hs
    cases e : at' S s with
    | out j =>
      have : goN S k s = 0 := by cases k <;> (unfold goN; rw [e])
      rw [this]
    | toss a b =>
      rw [e] at hf
      have ha := hf a (by simp [fols])
      have hb := hf b (by simp [fols])
      cases k with
      | zero =>
        have : goN S 0 s = 1 := by unfold goN; rw [e]
        simp only [all_zero hM ha, all_zero hM hb, this]
      | succ k =>
        have : goN S (k + 1) s = goN S k a + goN S k b := by
          show (match at' S s with | .toss a b => goN S k a + goN S k b | _ => 0) = _
          rw [e]
        simp only [end_go hM k a ha, end_go hM k b hb, this]
        omega
theorem tops_all {n : Nat} {S : Mch} (hM : MacOk n S) : ∀ t, ((List.range n).map fun i => topsN S i t).sum + goN S t 0 = 2 ^ t
  | 0 => all_zero hM (List.length_pos_iff.mpr hM.ne)
  | t + 1 => by
    have h1 := tops_all hM t
    have h2 := end_go hM t 0 (List.length_pos_iff.mpr hM.ne)
    unfold allN at h2
    show ((List.range n).map fun i => 2 * topsN S i t + endN S i (t + 1) 0).sum + _ = _
    rw [mc_sumd, Nat.pow_succ]
    omega
theorem endN_le (S : Mch) (i : Nat) : ∀ k s, endN S i k s ≤ 2 ^ k
  | 0, s => by
    unfold endN
    split
    · split <;> decide
    · decide
  | k + 1, s => by
    show (match at' S s with | .toss a b => endN S i k a + endN S i k b | _ => 0) ≤ _
    rw [Nat.pow_succ]
    split
    · rename_i a b _
      have h1 := endN_le S i k a
      have h2 := endN_le S i k b
      show endN S i k a + endN S i k b ≤ _
      omega
    · omega
/-! ### all rows of bits; two machines behind one bit; machines turned -/
def bitRows : Nat → List (List Nat)
  | 0 => [[]]
  | k + 1 => (bitRows k).flatMap fun l => [l ++ [0], l ++ [1]]
def Sd.map (f : Nat → Nat) : Sd → Sd
  | .toss a b => .toss (f a) (f b)
  | .out i => .out i
def both (S T : Mch) : Mch := .toss 1 (1 + S.length) :: (S.map (Sd.map (· + 1)) ++ T.map (Sd.map (· + (1 + S.length))))
end MR

/-! Md: runs cut short, rows counted one by one, machines turned, machines put together. -/
namespace MR
theorem runR_out {S : Mch} {s i : Nat} (h : at' S s = .out i) (bs : List Nat) : runR S s bs = some (i, 0) := by
  have : led S s bs = (s, 0) := by
    cases bs with
    | nil => rfl
    | cons b bs => show (match at' S s with | .out _ => (s, 0) | .toss x y => _) = _; rw [h]
  unfold runR
  rw [this]
  simp only [h]
theorem runR_nil {S : Mch} {s x y : Nat} (h : at' S s = .toss x y) : runR S s [] = none := by
  unfold runR
  rw [show led S s [] = (s, 0) from rfl]
  simp only [h]
theorem runR_cons {S : Mch} {s x y : Nat} (h : at' S s = .toss x y) (b : Nat) (bs : List Nat) : runR S s (b :: bs) = (runR S (if b = 0 then x else y) bs).map fun p => (p.1, p.2 + 1) := by
  have e : led S s (b :: bs) = ((led S (if b = 0 then x else y) bs).1, (led S (if b = 0 then x else y) bs).2 + 1) := by
    show (match at' S s with | .out _ => (s, 0) | .toss x y => _) = _
    rw [h]
  unfold runR
  rw [e]
  simp only
  cases at' S (led S (if b = 0 then x else y) bs).1 <;> rfl
theorem run_take {S : Mch} {i : Nat} : ∀ (bs : List Nat) (s k : Nat), runR S s bs = some (i, k) → k ≤ bs.length ∧ runR S s (bs.take k) = some (i, k) ∧ (0 < k → runR S s (bs.take (k - 1)) = none)
  | bs, s, k, h => by
    cases c : at' S s with
    | out j =>
      rw [runR_out c] at h
      have h := Option.some.inj h
      rw [Prod.mk.injEq] at h
      obtain ⟨rfl, rfl⟩ := h
      exact ⟨Nat.zero_le _, runR_out c _, fun z => by omega⟩
    | toss x y =>
      cases bs with
      | nil => rw [runR_nil c] at h; cases h
      | cons b bs =>
        rw [runR_cons c] at h
        cases e : runR S (if b = 0 then x else y) bs with
        | none => rw [e] at h; cases h
        | some p =>
          rw [e] at h
          have h := Option.some.inj h
          rw [Prod.mk.injEq] at h
          obtain ⟨h1, h2⟩ := h
          obtain ⟨q1, q2, q3⟩ := run_take (i := p.1) bs (if b = 0 then x else y) p.2 (by rw [e])
          have hk : k = p.2 + 1 := h2.symm
          subst hk
          rw [h1] at q2
          refine ⟨by rw [List.length_cons]; omega, ?_, fun _ => ?_⟩
          · rw [List.take_succ_cons, runR_cons c, q2]
            rfl
          · rw [Nat.add_sub_cancel]
            cases e2 : p.2 with
            | zero => rw [List.take_zero]; exact runR_nil c
            | succ j =>
              have := q3 (by omega)
              rw [e2, Nat.add_sub_cancel] at this
              rw [List.take_succ_cons, runR_cons c, this]
              rfl
theorem bitRows_perm : ∀ k, List.Perm (bitRows (k + 1)) ((bitRows k).map (0 :: ·) ++ (bitRows k).map (1 :: ·))
  | 0 => by decide
  | k + 1 => by
    have h := (bitRows_perm k).flatMap_right fun l => [l ++ [0], l ++ [1]]
    have e : ∀ (d : Nat) (L : List (List Nat)), (L.map (d :: ·)).flatMap (fun l => [l ++ [0], l ++ [1]]) = (L.flatMap fun l => [l ++ [0], l ++ [1]]).map (d :: ·) := fun d L => by
      induction L with
      | nil => rfl
      | cons a L ih => rw [List.map_cons, List.flatMap_cons, List.flatMap_cons, List.map_append, ih]; rfl
    rw [List.flatMap_append, e, e] at h
    exact h
def cntR (S : Mch) (i k s : Nat) : Nat := ((bitRows k).filter fun b => runR S s b == some (i, k)).length
theorem cnt_end (S : Mch) (i : Nat) : ∀ k s, cntR S i k s = endN S i k s
  | 0, s => by
    unfold cntR
    show (([[]] : List (List Nat)).filter fun b => runR S s b == some (i, 0)).length = _
    unfold endN
    cases c : at' S s with
    | out j =>
      rw [List.filter_cons, runR_out c]
      by_cases h : j = i
      · subst h; simp
      · simp [h]
    | toss x y =>
      rw [List.filter_cons, runR_nil c]
      simp
  | k + 1, s => by
    have hp := ((bitRows_perm k).filter fun b => runR S s b == some (i, k + 1)).length_eq
    have hu : cntR S i (k + 1) s = ((bitRows (k + 1)).filter fun b => runR S s b == some (i, k + 1)).length := rfl
    rw [hu, hp, List.filter_append, List.length_append, List.filter_map, List.filter_map, List.length_map, List.length_map]
    show _ = (match at' S s with | .toss a b => endN S i k a + endN S i k b | _ => 0)
    cases c : at' S s with
    | out j =>
      have e : ∀ d : Nat, ((fun b => runR S s b == some (i, k + 1)) ∘ fun x => d :: x) = fun _ => false := fun d => by
        funext b
        simp only [Function.comp, runR_out c]
        rw [beq_eq_false_iff_ne]
        intro h
        have := Option.some.inj h
        rw [Prod.mk.injEq] at this
        omega
      rw [e, e]
      simp
    | toss x y =>
      have e : ∀ (d t : Nat), (if d = 0 then x else y) = t → ((fun b => runR S s b == some (i, k + 1)) ∘ fun x => d :: x) = fun b => runR S t b == some (i, k) := fun d t ht => by
        funext b
        simp only [Function.comp, runR_cons c, ht]
        cases runR S t b with
        | none => rfl
        | some p =>
          rw [Bool.eq_iff_iff, beq_iff_eq, beq_iff_eq]
          simp only [Option.map_some, Option.some.injEq]
          rw [Prod.ext_iff, Prod.ext_iff]
          simp
      rw [e 0 x (by simp), e 1 y (by simp)]
      exact congr (congrArg _ (cnt_end S i k x)) (cnt_end S i k y)
theorem run_bnd {n : Nat} {S : Mch} (hM : MacOk n S) : ∀ {bs : List Nat} {s : Nat} {p : Nat × Nat}, s < S.length → runR S s bs = some p → p.1 < n ∧ p.2 ≤ bs.length
  | bs, s, p, hs, h => by
    have hf := fol_lt hM hs
    have ha := hM.all _ (at_mem hs)
    cases c : at' S s with
    | out j =>
      rw [c] at ha
      rw [runR_out c] at h
      have h := Option.some.inj h
      subst h
      exact ⟨ha, Nat.zero_le _⟩
    | toss x y =>
      rw [c] at hf
      cases bs with
      | nil => rw [runR_nil c] at h; cases h
      | cons b bs =>
        rw [runR_cons c] at h
        cases e : runR S (if b = 0 then x else y) bs with
        | none => rw [e] at h; cases h
        | some q =>
          rw [e] at h
          have h := Option.some.inj h
          subst h
          obtain ⟨h1, h2⟩ := run_bnd hM (bs := bs) (s := if b = 0 then x else y) (by split; exact hf x (by simp [fols]); exact hf y (by simp [fols])) e
          exact ⟨h1, by rw [List.length_cons]; show q.2 + 1 ≤ _; omega⟩
/-! ### turned -/
structure Iso (S T : Mch) (f : Nat → Nat) : Prop where
  at_ : ∀ s, s < S.length → at' T (f s) = (at' S s).map f
theorem iso_end {n : Nat} {S T : Mch} {f : Nat → Nat} (hM : MacOk n S) (h : Iso S T f) (i : Nat) : ∀ k s, s < S.length → endN T i k (f s) = endN S i k s
  | 0, s, hs => by
    unfold endN
    rw [h.at_ s hs]
    cases at' S s <;> rfl
  | k + 1, s, hs => by
    show (match at' T (f s) with | .toss a b => endN T i k a + endN T i k b | _ => 0) = (match at' S s with | .toss a b => endN S i k a + endN S i k b | _ => 0)
    have hf := fol_lt hM hs
    rw [h.at_ s hs]
    cases c : at' S s with
    | out j => rfl
    | toss x y =>
      rw [c] at hf
      show endN T i k (f x) + endN T i k (f y) = endN S i k x + endN S i k y
      rw [iso_end hM h i k x (hf x (by simp [fols])), iso_end hM h i k y (hf y (by simp [fols]))]
theorem iso_run {n : Nat} {S T : Mch} {f : Nat → Nat} (hM : MacOk n S) (h : Iso S T f) : ∀ (bs : List Nat) (s : Nat), s < S.length → runR T (f s) bs = runR S s bs
  | bs, s, hs => by
    have hf := fol_lt hM hs
    have ha := h.at_ s hs
    cases c : at' S s with
    | out j =>
      rw [c] at ha
      rw [runR_out c, runR_out (i := j) ha]
    | toss x y =>
      rw [c] at ha hf
      cases bs with
      | nil => rw [runR_nil c, runR_nil (x := f x) (y := f y) ha]
      | cons b bs =>
        rw [runR_cons c, runR_cons (x := f x) (y := f y) ha]
        have e : (if b = 0 then f x else f y) = f (if b = 0 then x else y) := by split <;> rfl
        rw [e, iso_run hM h bs _ (by split; exact hf x (by simp [fols]); exact hf y (by simp [fols]))]
theorem iso_tops {n : Nat} {S T : Mch} {f : Nat → Nat} (hM : MacOk n S) (h : Iso S T f) (h0 : f 0 = 0) (i : Nat) : ∀ t, topsN T i t = topsN S i t
  | 0 => by
    have := iso_end hM h i 0 0 (List.length_pos_iff.mpr hM.ne)
    rw [h0] at this
    exact this
  | t + 1 => by
    have := iso_end hM h i (t + 1) 0 (List.length_pos_iff.mpr hM.ne)
    rw [h0] at this
    show 2 * topsN T i t + endN T i (t + 1) 0 = 2 * topsN S i t + endN S i (t + 1) 0
    rw [iso_tops hM h h0 i t, this]
def turnM (S : Mch) (O : List Nat) : Mch := O.map fun a => (at' S a).map fun x => O.idxOf x
theorem turn_iso {n : Nat} {S : Mch} {O : List Nat} (hM : MacOk n S) (hO : List.Perm O (List.range S.length)) : MacOk n (turnM S O) ∧ (turnM S O).length = S.length ∧ Iso S (turnM S O) fun x => O.idxOf x := by
  have hl : O.length = S.length := by rw [hO.length_eq, List.length_range]
  have hm : ∀ s, s < S.length → s ∈ O := fun s hs => hO.mem_iff.mpr (List.mem_range.mpr hs)
  have hT : (turnM S O).length = S.length := by unfold turnM; rw [List.length_map, hl]
  have h0 := List.length_pos_iff.mpr hM.ne
  refine ⟨⟨hM.n1, hM.n8, fun h => by rw [h] at hT; simp at hT; omega, fun z hz => ?_⟩, hT, ⟨fun s hs => ?_⟩⟩
  · rw [hT]
    unfold turnM at hz
    obtain ⟨a, ha, rfl⟩ := List.mem_map.mp hz
    have has : a < S.length := List.mem_range.mp (hO.mem_iff.mp ha)
    have := hM.all _ (at_mem has)
    cases c : at' S a with
    | out j => rw [c] at this; exact this
    | toss x y =>
      rw [c] at this
      exact ⟨by rw [← hl]; exact List.idxOf_lt_length_iff.mpr (hm x this.1), by rw [← hl]; exact List.idxOf_lt_length_iff.mpr (hm y this.2)⟩
  · have hi : O.idxOf s < O.length := List.idxOf_lt_length_iff.mpr (hm s hs)
    have : (turnM S O)[O.idxOf s]? = some ((at' S s).map fun x => O.idxOf x) := by
      unfold turnM
      rw [List.getElem?_map, List.getElem?_eq_getElem hi, List.getElem_idxOf]
      rfl
    show (turnM S O).getD (O.idxOf s) (.out 0) = _
    rw [List.getD_eq_getElem?_getD, this]
    rfl
/-! ### put together -/
theorem both_one (S T : Mch) : Iso S (both S T) (· + 1) := ⟨fun s hs => by
  have : (both S T)[s + 1]? = some ((at' S s).map (· + 1)) := by
    show (S.map (Sd.map (· + 1)) ++ T.map (Sd.map (· + (1 + S.length))))[s]? = _
    rw [List.getElem?_append_left (by simpa using hs), List.getElem?_map, at_get hs]
    rfl
  show (both S T).getD (s + 1) (.out 0) = _
  rw [List.getD_eq_getElem?_getD, this]
  rfl⟩
theorem both_two (S T : Mch) : Iso T (both S T) (· + (1 + S.length)) := ⟨fun s hs => by
  have : (both S T)[s + (1 + S.length)]? = some ((at' T s).map (· + (1 + S.length))) := by
    rw [show s + (1 + S.length) = (S.length + s) + 1 by omega]
    show (S.map (Sd.map (· + 1)) ++ T.map (Sd.map (· + (1 + S.length))))[S.length + s]? = _
    rw [List.getElem?_append_right (by simp), List.length_map, Nat.add_sub_cancel_left, List.getElem?_map, at_get hs]
    rfl
  show (both S T).getD (s + (1 + S.length)) (.out 0) = _
  rw [List.getD_eq_getElem?_getD, this]
  rfl⟩
theorem both_end {n m : Nat} {S T : Mch} (hS : MacOk n S) (hT : MacOk m T) (i k : Nat) : endN (both S T) i (k + 1) 0 = endN S i k 0 + endN T i k 0 := by
  have h1 := iso_end hS (both_one S T) i k 0 (List.length_pos_iff.mpr hS.ne)
  have h2 := iso_end hT (both_two S T) i k 0 (List.length_pos_iff.mpr hT.ne)
  show endN (both S T) i k 1 + endN (both S T) i k (1 + S.length) = _
  rw [Nat.zero_add] at h1 h2
  rw [h1, h2]
theorem both_run {m : Nat} {S T : Mch} (hT : MacOk m T) (bs : List Nat) : runR (both S T) 0 (1 :: bs) = (runR T 0 bs).map fun p => (p.1, p.2 + 1) := by
  have h2 := iso_run hT (both_two S T) bs 0 (List.length_pos_iff.mpr hT.ne)
  rw [Nat.zero_add] at h2
  rw [runR_cons (x := 1) (y := 1 + S.length) rfl, if_neg (by decide), h2]
theorem end_big {n : Nat} {S : Mch} (hM : MacOk n S) {i : Nat} (hi : n ≤ i) : ∀ k s, s < S.length → endN S i k s = 0
  | 0, s, hs => by
    have := hM.all _ (at_mem hs)
    unfold endN
    cases c : at' S s with
    | toss x y => rfl
    | out j =>
      rw [c] at this
      have hj : j < n := this
      show (if j = i then 1 else 0) = 0
      rw [if_neg (by omega)]
  | k + 1, s, hs => by
    have hf := fol_lt hM hs
    show (match at' S s with | .toss a b => endN S i k a + endN S i k b | _ => 0) = 0
    cases c : at' S s with
    | out j => rfl
    | toss x y =>
      rw [c] at hf
      show endN S i k x + endN S i k y = 0
      rw [end_big hM hi k x (hf x (by simp [fols])), end_big hM hi k y (hf y (by simp [fols]))]
theorem both_ok {n m : Nat} {S T : Mch} (hS : MacOk n S) (hT : MacOk m T) : MacOk (max n m) (both S T) := by
  have l1 := List.length_pos_iff.mpr hS.ne
  have l2 := List.length_pos_iff.mpr hT.ne
  have hl : (both S T).length = 1 + S.length + T.length := by unfold both; simp; omega
  have := hS.n1
  have := hS.n8
  have := hT.n8
  refine ⟨by omega, by omega, by unfold both; simp, fun s hs => ?_⟩
  rw [hl]
  unfold both at hs
  rcases List.mem_cons.mp hs with rfl | hs
  · exact ⟨by omega, by omega⟩
  · rcases List.mem_append.mp hs with hs | hs
    · obtain ⟨z, hz, rfl⟩ := List.mem_map.mp hs
      have := hS.all z hz
      cases z with
      | toss x y => exact ⟨by show x + 1 < _; have := this.1; omega, by show y + 1 < _; have := this.2; omega⟩
      | out j => show j < _; have h : j < n := this; omega
    · obtain ⟨z, hz, rfl⟩ := List.mem_map.mp hs
      have := hT.all z hz
      cases z with
      | toss x y => exact ⟨by show x + (1 + S.length) < _; have := this.1; omega, by show y + (1 + S.length) < _; have := this.2; omega⟩
      | out j => show j < _; have h : j < m := this; omega
end MR

/-! Fx: a layer of plain values over the hand layer: readings as transformers over plain data. -/
namespace Fx
open PySem PySem.Spec PyProof.Rows L2

/-- plain values: numbers, texts, tuples, lists that nobody changes any more, and names of things that change -/
inductive PV where
  | non | bl (b : Bool) | int (i : Int) | str (x : Str) | ty (n : String)
  | tup (xs : List PV) | lst (xs : List PV) | kl (xs : List PV) | mr (n : Nat)

/-- what changes: lists and dicts, by their numbers in the store -/
inductive MO where
  | lst (xs : List PV) | dk (kvs : List (Key × PV)) | fd (o : Obj) (ws : List (Key × V)) (kvs : List (Key × PV))
abbrev Store := List MO
abbrev PEnv := List (Option PV)

/-- where the things of the store stand; what is being made -/
structure Wd where
  am : List Addr
  ban : List Addr

def hp0 : Hp := fun _ => none
section
variable (K : PySem.W.Frag) (d : Wd) (H : Hp)
def TupAt (a : Addr) (vs : List V) : Prop := (Rd H a (.tup vs) ∧ a ∉ d.am) ∨ SqT K hp0 a vs
def LstAt (a : Addr) (vs : List V) : Prop := H a = some (.lst vs) ∧ a ∉ d.am ∧ a ∉ d.ban
/-- a list that is only read: the script, a list of the module -/
def KlAt (a : Addr) (vs : List V) : Prop := (Rd H a (.lst vs) ∧ a ∉ d.am ∧ a ∉ d.ban) ∨ SqL K hp0 a vs
mutual
inductive RV : PV → V → Prop
  | non : RV .non .non
  | bl (b : Bool) : RV (.bl b) (.bl b)
  | int (i : Int) : RV (.int i) (.int i)
  | str (x : Str) : RV (.str x) (.str x)
  | ty (n : String) : RV (.ty n) (.ty n)
  | tup {xs : List PV} {a : Addr} {vs : List V} : TupAt K d H a vs → RVs xs vs → RV (.tup xs) (.ref a)
  | lst {xs : List PV} {a : Addr} {vs : List V} : LstAt d H a vs → RVs xs vs → RV (.lst xs) (.ref a)
  | kl {xs : List PV} {a : Addr} {vs : List V} : KlAt K d H a vs → RVs xs vs → RV (.kl xs) (.ref a)
  | mr {n : Nat} {a : Addr} : d.am[n]? = some a → RV (.mr n) (.ref a)
inductive RVs : List PV → List V → Prop
  | nil : RVs [] []
  | cons {x : PV} {v : V} {xs : List PV} {vs : List V} : RV x v → RVs xs vs → RVs (x :: xs) (v :: vs)
end
def MOK (a : Addr) : MO → Prop
  | .lst xs => ∃ vs, H a = some (.lst vs) ∧ RVs K d H xs vs
  | .dk kvs => ∃ vs, H a = some (.dK vs) ∧ vs.map (·.1) = kvs.map (·.1) ∧ RVs K d H (kvs.map (·.2)) (vs.map (·.2))
  | .fd o vs kvs => H a = some (.frz o (.dK vs)) ∧ vs.map (·.1) = kvs.map (·.1) ∧ RVs K d H (kvs.map (·.2)) (vs.map (·.2))
structure WOk (μ : Store) : Prop where
  len : d.am.length = μ.length
  nd : d.am.Nodup
  ob : ∀ (i : Nat) (a : Addr) (m : MO), d.am[i]? = some a → μ[i]? = some m → MOK K d H a m
  ban : ∀ b ∈ d.ban, H b ≠ none ∧ b ∉ d.am
def REnv (ρ : PEnv) (σ : L2.St) : Prop := ρ.length = σ.length ∧ ∀ (i : Nat) x, ρ[i]? = some (some x) → ∃ v, σ[i]? = some (some v) ∧ RV K d H x v
end

structure Ext (d : Wd) (H : Hp) (d' : Wd) (H' : Hp) : Prop where
  am : ∃ ex, d'.am = d.am ++ ex ∧ ∀ p ∈ ex, H p = none ∧ p ∉ d.am
  ban : d'.ban = d.ban
  keep : ∀ b o, H b = some o → b ∉ d.am → H' b = some o

section
variable {K : PySem.W.Frag} {d d' d'' : Wd} {H H' H'' : Hp} {a : Addr} {vs : List V} {μ : Store}
theorem Ext.refl : Ext d H d H := ⟨⟨[], by simp, fun p hp => by simp at hp⟩, rfl, fun _ _ e _ => e⟩
theorem Ext.mem (e : Ext d H d' H') (h : a ∈ d.am) : a ∈ d'.am := by
  obtain ⟨ex, q, _⟩ := e.am
  rw [q]; exact List.mem_append_left _ h
theorem Ext.at (e : Ext d H d' H') {n : Nat} (h : d.am[n]? = some a) : d'.am[n]? = some a := by
  obtain ⟨ex, q, _⟩ := e.am
  rw [q, List.getElem?_append_left]
  · exact h
  · exact (List.getElem?_eq_some_iff.mp h).1
theorem Ext.nmem (e : Ext d H d' H') (h : a ∉ d.am) (t : H a ≠ none) : a ∉ d'.am := by
  obtain ⟨ex, q, f⟩ := e.am
  rw [q]
  intro z
  rcases List.mem_append.mp z with z | z
  · exact h z
  · exact t (f a z).1
theorem Ext.trans (e : Ext d H d' H') (f : Ext d' H' d'' H'') : Ext d H d'' H'' := by
  refine ⟨?_, f.ban.trans e.ban, fun b o h n => f.keep b o (e.keep b o h n) (e.nmem n (by rw [h]; simp))⟩
  obtain ⟨x1, q1, f1⟩ := e.am
  obtain ⟨x2, q2, f2⟩ := f.am
  refine ⟨x1 ++ x2, by rw [q2, q1, List.append_assoc], fun p hp => ?_⟩
  rcases List.mem_append.mp hp with hp | hp
  · exact f1 p hp
  · obtain ⟨n1, n2⟩ := f2 p hp
    have n3 : p ∉ d.am := fun z => n2 (e.mem z)
    refine ⟨?_, n3⟩
    cases q : H p with
    | none => rfl
    | some o => rw [e.keep p o q n3] at n1; cases n1
theorem Rd.ne {u : HO} (r : Rd H a u) : H a ≠ none := by
  rcases r with r | ⟨o, r⟩ <;> rw [r] <;> simp
theorem Ext.rd (e : Ext d H d' H') {u : HO} (r : Rd H a u) (n : a ∉ d.am) : Rd H' a u := by
  rcases r with r | ⟨o, r⟩
  · exact .inl (e.keep _ _ r n)
  · exact .inr ⟨o, e.keep _ _ r n⟩
theorem Ext.tupAt (e : Ext d H d' H') (h : TupAt K d H a vs) : TupAt K d' H' a vs := by
  rcases h with ⟨r, n⟩ | h
  · exact .inl ⟨e.rd r n, e.nmem n (Rd.ne r)⟩
  · exact .inr h
theorem Ext.lstAt (e : Ext d H d' H') (h : LstAt d H a vs) : LstAt d' H' a vs := by
  obtain ⟨r, n, b⟩ := h
  exact ⟨e.keep _ _ r n, e.nmem n (by rw [r]; simp), by rw [e.ban]; exact b⟩
theorem Ext.klAt (e : Ext d H d' H') (h : KlAt K d H a vs) : KlAt K d' H' a vs := by
  rcases h with ⟨r, n, b⟩ | h
  · exact .inl ⟨e.rd r n, e.nmem n (Rd.ne r), by rw [e.ban]; exact b⟩
  · exact .inr h
mutual
theorem RV.mono (e : Ext d H d' H') : ∀ {x : PV} {v : V}, RV K d H x v → RV K d' H' x v
  | _, _, .non => .non
  | _, _, .bl b => .bl b
  | _, _, .int i => .int i
  | _, _, .str x => .str x
  | _, _, .ty n => .ty n
  | _, _, .tup h r => .tup (e.tupAt h) (RVs.mono e r)
  | _, _, .lst h r => .lst (e.lstAt h) (RVs.mono e r)
  | _, _, .kl h r => .kl (e.klAt h) (RVs.mono e r)
  | _, _, .mr h => .mr (e.at h)
theorem RVs.mono (e : Ext d H d' H') : ∀ {xs : List PV} {vs : List V}, RVs K d H xs vs → RVs K d' H' xs vs
  | _, _, .nil => .nil
  | _, _, .cons r t => .cons (RV.mono e r) (RVs.mono e t)
end
theorem SqT.of0 (h : SqT K hp0 a vs) : SqT K H a vs := by
  rcases h with (h | ⟨o, h⟩) | h
  · cases h
  · cases h
  · exact .inr h
theorem SqL.of0 (h : SqL K hp0 a vs) : SqL K H a vs := by
  rcases h with (h | ⟨o, h⟩) | h
  · cases h
  · cases h
  · exact .inr h
theorem TupAt.sq (h : TupAt K d H a vs) : SqT K H a vs := by
  rcases h with ⟨r, n⟩ | h
  · exact .inl r
  · exact SqT.of0 h
theorem LstAt.sq (h : LstAt d H a vs) : SqL K H a vs := .of h.1
theorem KlAt.sq (h : KlAt K d H a vs) : SqL K H a vs := by
  rcases h with ⟨r, n⟩ | h
  · exact .inl r
  · exact SqL.of0 h
theorem RVs.length : ∀ {xs : List PV} {vs : List V}, RVs K d H xs vs → xs.length = vs.length
  | _, _, .nil => rfl
  | _, _, .cons _ t => by rw [List.length_cons, List.length_cons, RVs.length t]
theorem RVs.get : ∀ {xs : List PV} {vs : List V} {i : Nat} {x : PV}, RVs K d H xs vs → xs[i]? = some x → ∃ v, vs[i]? = some v ∧ RV K d H x v
  | _, _, _, _, .nil, h => by simp at h
  | _, _, 0, _, .cons r _, h => by
    simp at h; subst h; exact ⟨_, rfl, r⟩
  | _, _, i + 1, _, .cons _ t, h => by
    obtain ⟨v, e, r⟩ := RVs.get (i := i) t (by simpa using h)
    exact ⟨v, by simpa using e, r⟩
theorem RVs.getr : ∀ {xs : List PV} {vs : List V} {i : Nat} {v : V}, RVs K d H xs vs → vs[i]? = some v → ∃ x, xs[i]? = some x ∧ RV K d H x v
  | _, _, _, _, .nil, h => by simp at h
  | _, _, 0, _, .cons r _, h => by
    simp at h; subst h; exact ⟨_, rfl, r⟩
  | _, _, i + 1, _, .cons _ t, h => by
    obtain ⟨v, e, r⟩ := RVs.getr (i := i) t (by simpa using h)
    exact ⟨v, by simpa using e, r⟩
theorem RVs.append : ∀ {xs ys : List PV} {vs us : List V}, RVs K d H xs vs → RVs K d H ys us → RVs K d H (xs ++ ys) (vs ++ us)
  | _, _, _, _, .nil, h => h
  | _, _, _, _, .cons r t, h => .cons r (RVs.append t h)
theorem RVs.drop : ∀ {xs : List PV} {vs : List V} (n : Nat), RVs K d H xs vs → RVs K d H (xs.drop n) (vs.drop n)
  | _, _, 0, h => h
  | _, _, _ + 1, .nil => .nil
  | _, _, n + 1, .cons _ t => RVs.drop n t
theorem RVs.take : ∀ {xs : List PV} {vs : List V} (n : Nat), RVs K d H xs vs → RVs K d H (xs.take n) (vs.take n)
  | _, _, 0, h => .nil
  | _, _, _ + 1, .nil => .nil
  | _, _, n + 1, .cons r t => .cons r (RVs.take n t)
theorem RVs.rev : ∀ {xs : List PV} {vs : List V}, RVs K d H xs vs → RVs K d H xs.reverse vs.reverse
  | _, _, .nil => .nil
  | _, _, .cons r t => by
    rw [List.reverse_cons, List.reverse_cons]
    exact (RVs.rev t).append (.cons r .nil)
theorem RVs.set {x : PV} {v : V} (r : RV K d H x v) : ∀ {xs : List PV} {vs : List V} (i : Nat), RVs K d H xs vs → RVs K d H (xs.set i x) (vs.set i v)
  | _, _, _, .nil => .nil
  | _, _, 0, .cons _ t => .cons r t
  | _, _, i + 1, .cons q t => .cons q (RVs.set r i t)
theorem RVs.ints : ∀ {ns : List Int} {vs : List V}, RVs K d H (ns.map PV.int) vs → vs = ns.map V.int
  | [], _, .nil => rfl
  | n :: ns, _, .cons (.int _) t => by rw [RVs.ints t]; rfl
theorem RVs.bools : ∀ {bs : List Bool} {vs : List V}, RVs K d H (bs.map PV.bl) vs → vs = bs.map V.bl
  | [], _, .nil => rfl
  | n :: ns, _, .cons (.bl _) t => by rw [RVs.bools t]; rfl
theorem RVs.of_ints : ∀ (ns : List Int), RVs K d H (ns.map PV.int) (ns.map V.int)
  | [] => .nil
  | n :: ns => .cons (.int n) (RVs.of_ints ns)
theorem REnv.mono (e : Ext d H d' H') {ρ : PEnv} {σ : L2.St} (h : REnv K d H ρ σ) : REnv K d' H' ρ σ :=
  ⟨h.1, fun i x q => let ⟨v, a, b⟩ := h.2 i x q; ⟨v, a, b.mono e⟩⟩
theorem REnv.set {ρ : PEnv} {σ : L2.St} (h : REnv K d H ρ σ) {x : PV} {v : V} (r : RV K d H x v) (i : Nat) : REnv K d H (ρ.set i (some x)) (σ.set i (some v)) := by
  refine ⟨by rw [List.length_set, List.length_set]; exact h.1, fun j y q => ?_⟩
  rw [List.getElem?_set] at q ⊢
  by_cases hij : i = j
  · subst hij
    by_cases hl : i < ρ.length
    · rw [if_pos rfl, if_pos hl] at q
      simp at q; subst q
      exact ⟨v, by rw [if_pos rfl, if_pos (by rw [← h.1]; exact hl)], r⟩
    · rw [if_pos rfl, if_neg hl] at q; cases q
  · rw [if_neg hij] at q ⊢
    exact h.2 j y q
theorem REnv.unset {ρ : PEnv} {σ : L2.St} (h : REnv K d H ρ σ) (i : Nat) : REnv K d H (ρ.set i none) (σ.set i none) := by
  refine ⟨by rw [List.length_set, List.length_set]; exact h.1, fun j y q => ?_⟩
  rw [List.getElem?_set] at q ⊢
  by_cases hij : i = j
  · subst hij
    rw [if_pos rfl] at q
    split at q <;> cases q
  · rw [if_neg hij] at q ⊢
    exact h.2 j y q
/-- a new thing that is not in the store -/
theorem WOk.notin (w : WOk K d H μ) (h : H a = none) : a ∉ d.am := fun z => by
  obtain ⟨i, hi, e⟩ := List.getElem_of_mem z
  have e1 : d.am[i]? = some a := by rw [List.getElem?_eq_getElem hi, e]
  have hj : i < μ.length := by rw [← w.len]; exact hi
  have q := w.ob i a μ[i] e1 (List.getElem?_eq_getElem hj)
  cases m : μ[i] with
  | lst xs => rw [m] at q; obtain ⟨vs, q, _⟩ := q; rw [h] at q; cases q
  | dk kvs => rw [m] at q; obtain ⟨vs, q, _⟩ := q; rw [h] at q; cases q
  | fd o ws kvs => rw [m] at q; obtain ⟨q, _⟩ := q; rw [h] at q; cases q
theorem WOk.notban (w : WOk K d H μ) (h : H a = none) : a ∉ d.ban := fun z => (w.ban a z).1 h
theorem MOK.mono (e : Ext d H d' H') {m : MO} (hk : H' a = H a) (h : MOK K d H a m) : MOK K d' H' a m := by
  cases m with
  | lst xs => obtain ⟨vs, q, r⟩ := h; exact ⟨vs, by rw [hk]; exact q, r.mono e⟩
  | dk kvs => obtain ⟨vs, q, r1, r2⟩ := h; exact ⟨vs, by rw [hk]; exact q, r1, r2.mono e⟩
  | fd o ws kvs => obtain ⟨q, r1, r2⟩ := h; exact ⟨by rw [hk]; exact q, r1, r2.mono e⟩
/-- a thing is laid that is not in the store -/
theorem Ext.lay {o : HO} (w : WOk K d H μ) (h : H a = none) : Ext d H d (upd H a o) :=
  ⟨⟨[], by simp, fun p hp => by simp at hp⟩, rfl, fun b u e _ => by rw [upd_ne (ne_of_none e h)]; exact e⟩
theorem WOk.lay {o : HO} (w : WOk K d H μ) (h : H a = none) : WOk K d (upd H a o) μ := by
  have e : Ext d H d (upd H a o) := Ext.lay w h
  refine ⟨w.len, w.nd, fun i b m h1 h2 => ?_, fun b hb => ?_⟩
  · have hne : b ≠ a := by
      rintro rfl
      exact w.notin h (List.mem_of_getElem? h1)
    exact (w.ob i b m h1 h2).mono e (upd_ne hne)
  · obtain ⟨x, y⟩ := w.ban b hb
    refine ⟨?_, y⟩
    have hne : b ≠ a := by rintro rfl; exact x h
    rw [upd_ne hne]; exact x
/-- a new thing in the store -/
def Wd.push (d : Wd) (a : Addr) : Wd := ⟨d.am ++ [a], d.ban⟩
theorem Ext.push {o : HO} (w : WOk K d H μ) (h : H a = none) : Ext d H (d.push a) (upd H a o) :=
  ⟨⟨[a], rfl, fun p hp => by
    have : p = a := by simpa using hp
    subst this; exact ⟨h, w.notin h⟩⟩, rfl, fun b u e _ => by rw [upd_ne (ne_of_none e h)]; exact e⟩
theorem WOk.push {o : HO} {m : MO} (w : WOk K d H μ) (h : H a = none) (hm : MOK K (d.push a) (upd H a o) a m) : WOk K (d.push a) (upd H a o) (μ ++ [m]) := by
  have e : Ext d H (d.push a) (upd H a o) := Ext.push w h
  have na := w.notin h
  refine ⟨by simp [Wd.push, w.len], ?_, fun i b m' h1 h2 => ?_, fun b hb => ?_⟩
  · show (d.am ++ [a]).Nodup
    rw [List.nodup_append]
    exact ⟨w.nd, by simp, fun x hx y hy => by
      have : y = a := by simpa using hy
      subst this; rintro rfl; exact na hx⟩
  · replace h1 : (d.am ++ [a])[i]? = some b := h1
    by_cases hi : i < d.am.length
    · rw [List.getElem?_append_left hi] at h1
      rw [List.getElem?_append_left (by rw [← w.len]; exact hi)] at h2
      have hne : b ≠ a := by rintro rfl; exact na (List.mem_of_getElem? h1)
      exact (w.ob i b m' h1 h2).mono e (upd_ne hne)
    · have hi2 : i = d.am.length := by
        have := (List.getElem?_eq_some_iff.mp h1).1
        simp at this; omega
      subst hi2
      rw [List.getElem?_append_right (Nat.le_refl _)] at h1
      rw [w.len, List.getElem?_append_right (Nat.le_refl _)] at h2
      simp at h1 h2
      subst h1; subst h2
      exact hm
  · obtain ⟨x, y⟩ := w.ban b hb
    have hne : b ≠ a := by rintro rfl; exact x h
    exact ⟨by rw [upd_ne hne]; exact x, fun z => (List.mem_append.mp z).elim y (by simpa using hne)⟩
/-- a thing of the store changes -/
theorem Ext.chg {o : HO} (h : a ∈ d.am) : Ext d H d (upd H a o) :=
  ⟨⟨[], by simp, fun p hp => by simp at hp⟩, rfl, fun b u e n => by
    have hne : b ≠ a := by rintro rfl; exact n h
    rw [upd_ne hne]; exact e⟩
theorem WOk.chg {o : HO} {m : MO} {n : Nat} (w : WOk K d H μ) (h : d.am[n]? = some a) (hm : MOK K d (upd H a o) a m) : WOk K d (upd H a o) (μ.set n m) := by
  have ha : a ∈ d.am := List.mem_of_getElem? h
  have e : Ext d H d (upd H a o) := Ext.chg ha
  refine ⟨by rw [List.length_set]; exact w.len, w.nd, fun i b m' h1 h2 => ?_, fun b hb => ?_⟩
  · rw [List.getElem?_set] at h2
    by_cases hin : n = i
    · subst hin
      rw [h] at h1; cases h1
      rw [if_pos rfl] at h2
      split at h2
      · cases h2; exact hm
      · cases h2
    · rw [if_neg hin] at h2
      have hne : b ≠ a := by
        rintro rfl
        have z1 := List.getElem?_eq_some_iff.mp h
        have z2 := List.getElem?_eq_some_iff.mp h1
        obtain ⟨l1, z1⟩ := z1
        obtain ⟨l2, z2⟩ := z2
        exact hin ((List.getElem_inj w.nd).mp (z1.trans z2.symm))
      exact (w.ob i b m' h1 h2).mono e (upd_ne hne)
  · obtain ⟨x, y⟩ := w.ban b hb
    have hne : b ≠ a := by rintro rfl; exact y ha
    exact ⟨by rw [upd_ne hne]; exact x, y⟩
end
end Fx

/-! Fx2: readings of the hand layer as transformers over plain values. -/
namespace Fx
open PySem PySem.Spec PyProof.Rows L2

abbrev ME := PEnv → Store → (PV → Store → Prop) → Prop
abbrev MT := PEnv → Store → (Bool → Store → Prop) → Prop
abbrev MA := PEnv → Store → (List PV → Store → Prop) → Prop
structure MEnds where
  nx : PEnv → Store → Prop
  rt : PV → Store → Prop
  bk : PEnv → Store → Prop := fun _ _ => False
  ct : PEnv → Store → Prop := fun _ _ => False
abbrev MS := MEnds → PEnv → Store → Prop
abbrev MG := PV → PEnv → Store → (PEnv → Store → Prop) → Prop
abbrev MGs := List PV → PEnv → Store → (PEnv → Store → Prop) → Prop
abbrev MI := PEnv → Store → (List PV → Store → Prop) → Prop
abbrev MO2 := PV → PV → Store → (PV → Store → Prop) → Prop
abbrev MB := List PV → Store → (PV → Store → Prop) → Prop

section
variable (K : PySem.W.Frag)
class FE (t : TE) (m : outParam ME) : Prop where
  run : ∀ (d : Wd) (σ : L2.St) (H : Hp) (ρ : PEnv) (μ : Store) (P : PV → Store → Prop) (Q : VK), WOk K d H μ → REnv K d H ρ σ → m ρ μ P →
    (∀ d' H' μ' x v, Ext d H d' H' → WOk K d' H' μ' → RV K d' H' x v → P x μ' → Q v H') → t σ H Q
class FT (t : TT) (m : outParam MT) : Prop where
  run : ∀ (d : Wd) (σ : L2.St) (H : Hp) (ρ : PEnv) (μ : Store) (P : Bool → Store → Prop) (Q : Bool → Hp → Prop), WOk K d H μ → REnv K d H ρ σ → m ρ μ P →
    (∀ d' H' μ' b, Ext d H d' H' → WOk K d' H' μ' → P b μ' → Q b H') → t σ H Q
class FA (t : TA) (m : outParam MA) : Prop where
  run : ∀ (d : Wd) (σ : L2.St) (H : Hp) (ρ : PEnv) (μ : Store) (P : List PV → Store → Prop) (Q : List V → Hp → Prop), WOk K d H μ → REnv K d H ρ σ → m ρ μ P →
    (∀ d' H' μ' xs vs, Ext d H d' H' → WOk K d' H' μ' → RVs K d' H' xs vs → P xs μ' → Q vs H') → t σ H Q
structure Lk (d : Wd) (H : Hp) (P : MEnds) (D : Ends) : Prop where
  nx : ∀ d' σ' H' ρ' μ', Ext d H d' H' → WOk K d' H' μ' → REnv K d' H' ρ' σ' → P.nx ρ' μ' → D.nx σ' H'
  rt : ∀ d' H' μ' x v, Ext d H d' H' → WOk K d' H' μ' → RV K d' H' x v → P.rt x μ' → D.rt v H'
  bk : ∀ d' σ' H' ρ' μ', Ext d H d' H' → WOk K d' H' μ' → REnv K d' H' ρ' σ' → P.bk ρ' μ' → D.bk σ' H'
  ct : ∀ d' σ' H' ρ' μ', Ext d H d' H' → WOk K d' H' μ' → REnv K d' H' ρ' σ' → P.ct ρ' μ' → D.ct σ' H'
class FS (t : TS) (m : outParam MS) : Prop where
  run : ∀ (d : Wd) (σ : L2.St) (H : Hp) (ρ : PEnv) (μ : Store) (P : MEnds) (D : Ends), WOk K d H μ → REnv K d H ρ σ → m P ρ μ → Lk K d H P D → t D σ H
class FG (t : TG) (m : outParam MG) (sl : outParam (List Nat)) : Prop where
  run : ∀ (d : Wd) (σ : L2.St) (H : Hp) (ρ : PEnv) (μ : Store) (x : PV) (v : V) (P : PEnv → Store → Prop) (Q : L2.St → Hp → Prop), WOk K d H μ → REnv K d H ρ σ → RV K d H x v → m x ρ μ P →
    (∀ d' σ' H' ρ' μ', Ext d H d' H' → WOk K d' H' μ' → REnv K d' H' ρ' σ' → σ'.length = σ.length → (∀ i, i ∉ sl → σ'[i]? = σ[i]?) → P ρ' μ' → Q σ' H') → t v σ H Q
class FGs (t : TGs) (m : outParam MGs) (sl : outParam (List Nat)) : Prop where
  run : ∀ (d : Wd) (σ : L2.St) (H : Hp) (ρ : PEnv) (μ : Store) (xs : List PV) (vs : List V) (P : PEnv → Store → Prop) (Q : L2.St → Hp → Prop), WOk K d H μ → REnv K d H ρ σ → RVs K d H xs vs → m xs ρ μ P →
    (∀ d' σ' H' ρ' μ', Ext d H d' H' → WOk K d' H' μ' → REnv K d' H' ρ' σ' → σ'.length = σ.length → (∀ i, i ∉ sl → σ'[i]? = σ[i]?) → P ρ' μ' → Q σ' H') → t vs σ H Q
/-- the same world, perhaps with more that is being made -/
def Bars (d d' : Wd) (H : Hp) : Prop := d'.am = d.am ∧ ∀ b ∈ d'.ban, b ∈ d.ban ∨ H b = none
/-- what is walked: its items -/
def ItOk (d0 : Wd) (H0 : Hp) (J : It) (xs : List PV) : Prop :=
  ∀ d1 d H μ, Bars d0 d1 H0 → Ext d1 H0 d H → WOk K d H μ → (∀ (i : Nat) x, xs[i]? = some x → J.go i H ∧ ∀ v H', J.yld i H v H' → Ext d H d H' ∧ WOk K d H' μ ∧ RV K d H' x v) ∧ (∀ i, xs.length ≤ i → J.stop i H)
class FI (t : TI) (m : outParam MI) : Prop where
  run : ∀ (d : Wd) (σ : L2.St) (H : Hp) (ρ : PEnv) (μ : Store) (P : List PV → Store → Prop) (R : It → Hp → Prop), WOk K d H μ → REnv K d H ρ σ → m ρ μ P →
    (∀ d' H' μ' J xs, Ext d H d' H' → WOk K d' H' μ' → ItOk K d' H' J xs → P xs μ' → R J H') → t σ H R
/-- an operator by values -/
class F2 (r : R2) (p : outParam MO2) : Prop where
  run : ∀ (d : Wd) (H : Hp) (μ : Store) (x y : PV) (v u : V) (P : PV → Store → Prop) (Q : VK), WOk K d H μ → RV K d H x v → RV K d H y u → p x y μ P →
    (∀ d' H' μ' z w, Ext d H d' H' → WOk K d' H' μ' → RV K d' H' z w → P z μ' → Q w H') → r v u H Q
class F1 (r : V → Hp → VK → Prop) (p : outParam (PV → Store → (PV → Store → Prop) → Prop)) : Prop where
  run : ∀ (d : Wd) (H : Hp) (μ : Store) (x : PV) (v : V) (P : PV → Store → Prop) (Q : VK), WOk K d H μ → RV K d H x v → p x μ P →
    (∀ d' H' μ' z w, Ext d H d' H' → WOk K d' H' μ' → RV K d' H' z w → P z μ' → Q w H') → r v H Q
/-- a call of a built-in by values -/
class FB (r : List V → Hp → VK → Prop) (p : outParam MB) : Prop where
  run : ∀ (d : Wd) (H : Hp) (μ : Store) (xs : List PV) (vs : List V) (P : PV → Store → Prop) (Q : VK), WOk K d H μ → RVs K d H xs vs → p xs μ P →
    (∀ d' H' μ' z w, Ext d H d' H' → WOk K d' H' μ' → RV K d' H' z w → P z μ' → Q w H') → r vs H Q
/-- a method by values -/
class FM (r : V → List V → Hp → VK → Prop) (p : outParam (PV → List PV → Store → (PV → Store → Prop) → Prop)) : Prop where
  run : ∀ (d : Wd) (H : Hp) (μ : Store) (x : PV) (v : V) (xs : List PV) (vs : List V) (P : PV → Store → Prop) (Q : VK), WOk K d H μ → RV K d H x v → RVs K d H xs vs → p x xs μ P →
    (∀ d' H' μ' z w, Ext d H d' H' → WOk K d' H' μ' → RV K d' H' z w → P z μ' → Q w H') → r v vs H Q
end

section
variable {K : PySem.W.Frag}
theorem Lk.mono {d d1 : Wd} {H H1 : Hp} {P : MEnds} {D : Ends} (e : Ext d H d1 H1) (l : Lk K d H P D) : Lk K d1 H1 P D :=
  ⟨fun _ _ _ _ _ f => l.nx _ _ _ _ _ (e.trans f), fun _ _ _ _ _ f => l.rt _ _ _ _ _ (e.trans f), fun _ _ _ _ _ f => l.bk _ _ _ _ _ (e.trans f), fun _ _ _ _ _ f => l.ct _ _ _ _ _ (e.trans f)⟩

/-! ### names and constants -/
def mVar (i : Nat) : ME := fun ρ μ P => match ρ[i]? with | some (some x) => P x μ | _ => False
def mC (x : PV) : ME := fun _ μ P => P x μ
class CV (v : V) (x : outParam PV) : Prop where
  rv : ∀ K d H, RV K d H x v
instance : CV .non .non := ⟨fun _ _ _ => .non⟩
instance {b} : CV (.bl b) (.bl b) := ⟨fun _ _ _ => .bl b⟩
instance {b} : CV (.int b) (.int b) := ⟨fun _ _ _ => .int b⟩
instance {b} : CV (.str b) (.str b) := ⟨fun _ _ _ => .str b⟩
instance {b} : CV (.ty b) (.ty b) := ⟨fun _ _ _ => .ty b⟩
instance {i} : FE K (tVar i) (mVar i) := ⟨fun d σ H ρ μ P Q w e h k => by
  unfold mVar at h
  split at h
  · rename_i x hx
    obtain ⟨v, hv, r⟩ := e.2 i x hx
    exact ⟨v, hv, k d H μ x v .refl w r h⟩
  · exact h.elim⟩
instance {v x} [c : CV v x] : FE K (tC v) (mC x) := ⟨fun d σ H ρ μ P Q w e h k => k d H μ x v .refl w (c.rv _ _ _) h⟩

/-! ### operators -/
def mOp (p : MO2) (a b : ME) : ME := fun ρ μ P => a ρ μ fun x μ1 => b ρ μ1 fun y μ2 => p x y μ2 P
instance {r p ta tb ma mb} [h : F2 K r p] [ha : FE K ta ma] [hb : FE K tb mb] : FE K (tOp r ta tb) (mOp p ma mb) := ⟨fun d σ H ρ μ P Q w e q k => by
  refine ha.run d σ H ρ μ _ _ w e q fun d1 H1 μ1 x v e1 w1 r1 q1 => ?_
  refine hb.run d1 σ H1 ρ μ1 _ _ w1 (e.mono e1) q1 fun d2 H2 μ2 y u e2 w2 r2 q2 => ?_
  exact h.run d2 H2 μ2 x y v u P Q w2 (r1.mono e2) r2 q2 fun d3 H3 μ3 z w' e3 w3 r3 q3 => k d3 H3 μ3 z w' ((e1.trans e2).trans e3) w3 r3 q3⟩
def mUn (p : PV → Store → (PV → Store → Prop) → Prop) (a : ME) : ME := fun ρ μ P => a ρ μ fun x μ1 => p x μ1 P
instance {r p ta ma} [h : F1 K r p] [ha : FE K ta ma] : FE K (tUn r ta) (mUn p ma) := ⟨fun d σ H ρ μ P Q w e q k => by
  refine ha.run d σ H ρ μ _ _ w e q fun d1 H1 μ1 x v e1 w1 r1 q1 => ?_
  exact h.run d1 H1 μ1 x v P Q w1 r1 q1 fun d3 H3 μ3 z w' e3 w3 r3 q3 => k d3 H3 μ3 z w' (e1.trans e3) w3 r3 q3⟩

def pI (C : Int → Int → Prop) (g : Int → Int → PV) : MO2 := fun x y μ P => match x, y with | .int i, .int j => C i j ∧ P (g i j) μ | _, _ => False
def pI0 (g : Int → Int → PV) : MO2 := fun x y μ P => match x, y with | .int i, .int j => P (g i j) μ | _, _ => False
theorem pI_run {C : Int → Int → Prop} {g : Int → Int → PV} {x y : PV} {μ : Store} {P : PV → Store → Prop} (h : pI C g x y μ P) : ∃ i j, x = .int i ∧ y = .int j ∧ C i j ∧ P (g i j) μ := by
  cases x <;> cases y <;> first | exact h.elim | exact ⟨_, _, rfl, rfl, h.1, h.2⟩
theorem pI0_run {g : Int → Int → PV} {x y : PV} {μ : Store} {P : PV → Store → Prop} (h : pI0 g x y μ P) : ∃ i j, x = .int i ∧ y = .int j ∧ P (g i j) μ := by
  cases x <;> cases y <;> first | exact h.elim | exact ⟨_, _, rfl, rfl, h⟩
instance {C : Int → Int → Prop} {f : Int → Int → Int} : F2 K (rI C fun i j => .int (f i j)) (pI C fun i j => .int (f i j)) := ⟨fun d H μ x y v u P Q w r1 r2 q k => by
  obtain ⟨i, j, rfl, rfl, c, q⟩ := pI_run q
  cases r1; cases r2
  exact ⟨i, j, rfl, rfl, c, k d H μ _ _ .refl w (.int _) q⟩⟩
instance {f : Int → Int → Int} : F2 K (rI0 fun i j => .int (f i j)) (pI0 fun i j => .int (f i j)) := ⟨fun d H μ x y v u P Q w r1 r2 q k => by
  obtain ⟨i, j, rfl, rfl, q⟩ := pI0_run q
  cases r1; cases r2
  exact ⟨i, j, rfl, rfl, k d H μ _ _ .refl w (.int _) q⟩⟩
instance {C : Int → Int → Prop} {f : Int → Int → Bool} : F2 K (rI C fun i j => .bl (f i j)) (pI C fun i j => .bl (f i j)) := ⟨fun d H μ x y v u P Q w r1 r2 q k => by
  obtain ⟨i, j, rfl, rfl, c, q⟩ := pI_run q
  cases r1; cases r2
  exact ⟨i, j, rfl, rfl, c, k d H μ _ _ .refl w (.bl _) q⟩⟩
instance {f : Int → Int → Bool} : F2 K (rI0 fun i j => .bl (f i j)) (pI0 fun i j => .bl (f i j)) := ⟨fun d H μ x y v u P Q w r1 r2 q k => by
  obtain ⟨i, j, rfl, rfl, q⟩ := pI0_run q
  cases r1; cases r2
  exact ⟨i, j, rfl, rfl, k d H μ _ _ .refl w (.bl _) q⟩⟩
def pU (g : Int → PV) : PV → Store → (PV → Store → Prop) → Prop := fun x μ P => match x with | .int i => P (g i) μ | _ => False
instance {f : Int → Int} : F1 K (rU fun i => .int (f i)) (pU fun i => .int (f i)) := ⟨fun d H μ x v P Q w r1 q k => by
  cases x <;> try exact q.elim
  cases r1
  exact ⟨_, rfl, k d H μ _ _ .refl w (.int _) q⟩⟩

/-! ### tests -/
def mTest (m : ME) : MT := fun ρ μ P => m ρ μ fun x μ1 => match x with | .bl b => P b μ1 | _ => False
instance {t m} [h : FE K t m] : FT K (tTest t) (mTest m) := ⟨fun d σ H ρ μ P Q w e q k => by
  refine h.run d σ H ρ μ _ _ w e q fun d1 H1 μ1 x v e1 w1 r1 q1 => ?_
  cases x <;> try exact q1.elim
  cases r1
  exact ⟨_, rfl, k d1 H1 μ1 _ e1 w1 q1⟩⟩
instance {t m} [h : FE K t m] : FT K (tB t) (mTest m) := ⟨fun d σ H ρ μ P Q w e q k => by
  refine h.run d σ H ρ μ _ _ w e q fun d1 H1 μ1 x v e1 w1 r1 q1 => ?_
  cases x <;> try exact q1.elim
  cases r1
  exact ⟨_, rfl, k d1 H1 μ1 _ e1 w1 q1⟩⟩
def mAnd (a b : MT) : MT := fun ρ μ P => a ρ μ fun c μ1 => if c = true then b ρ μ1 P else P false μ1
def mOr (a b : MT) : MT := fun ρ μ P => a ρ μ fun c μ1 => if c = true then P true μ1 else b ρ μ1 P
def mNot (a : MT) : MT := fun ρ μ P => a ρ μ fun c μ1 => P (!c) μ1
def mYes : MT := fun _ μ P => P true μ
instance {a b ma mb} [ha : FT K a ma] [hb : FT K b mb] : FT K (tAnd a b) (mAnd ma mb) := ⟨fun d σ H ρ μ P Q w e q k => by
  refine ha.run d σ H ρ μ _ _ w e q fun d1 H1 μ1 c e1 w1 q1 => ?_
  cases c
  · rw [if_neg (by simp)] at q1 ⊢
    exact k d1 H1 μ1 _ e1 w1 q1
  · rw [if_pos rfl] at q1 ⊢
    exact hb.run d1 σ H1 ρ μ1 _ _ w1 (e.mono e1) q1 fun d2 H2 μ2 b e2 w2 q2 => k d2 H2 μ2 b (e1.trans e2) w2 q2⟩
instance {a b ma mb} [ha : FT K a ma] [hb : FT K b mb] : FT K (tOr a b) (mOr ma mb) := ⟨fun d σ H ρ μ P Q w e q k => by
  refine ha.run d σ H ρ μ _ _ w e q fun d1 H1 μ1 c e1 w1 q1 => ?_
  cases c
  · rw [if_neg (by simp)] at q1 ⊢
    exact hb.run d1 σ H1 ρ μ1 _ _ w1 (e.mono e1) q1 fun d2 H2 μ2 b e2 w2 q2 => k d2 H2 μ2 b (e1.trans e2) w2 q2
  · rw [if_pos rfl] at q1 ⊢
    exact k d1 H1 μ1 _ e1 w1 q1⟩
instance {a ma} [ha : FT K a ma] : FT K (tNot a) (mNot ma) := ⟨fun d σ H ρ μ P Q w e q k =>
  ha.run d σ H ρ μ _ _ w e q fun d1 H1 μ1 c e1 w1 q1 => k d1 H1 μ1 _ e1 w1 q1⟩
instance : FT K tYes mYes := ⟨fun d σ H ρ μ P Q w e q k => k d H μ _ .refl w q⟩
def mAndV (a b : ME) : ME := fun ρ μ P => a ρ μ fun x μ1 => match x with | .bl c => if c = true then b ρ μ1 P else P (.bl false) μ1 | _ => False
def mOrV (a b : ME) : ME := fun ρ μ P => a ρ μ fun x μ1 => match x with | .bl c => if c = true then P (.bl true) μ1 else b ρ μ1 P | _ => False
def mNotV (a : ME) : ME := fun ρ μ P => a ρ μ fun x μ1 => match x with | .bl c => P (.bl (!c)) μ1 | _ => False
instance {a b ma mb} [ha : FE K a ma] [hb : FE K b mb] : FE K (tAndV a b) (mAndV ma mb) := ⟨fun d σ H ρ μ P Q w e q k => by
  refine ha.run d σ H ρ μ _ _ w e q fun d1 H1 μ1 x v e1 w1 r1 q1 => ?_
  cases x <;> try exact q1.elim
  rename_i c
  cases r1
  refine ⟨c, rfl, ?_⟩
  cases c
  · exact k d1 H1 μ1 _ _ e1 w1 (.bl _) q1
  · exact hb.run d1 σ H1 ρ μ1 _ _ w1 (e.mono e1) q1 fun d2 H2 μ2 y u e2 w2 r2 q2 => k d2 H2 μ2 y u (e1.trans e2) w2 r2 q2⟩
instance {a b ma mb} [ha : FE K a ma] [hb : FE K b mb] : FE K (tOrV a b) (mOrV ma mb) := ⟨fun d σ H ρ μ P Q w e q k => by
  refine ha.run d σ H ρ μ _ _ w e q fun d1 H1 μ1 x v e1 w1 r1 q1 => ?_
  cases x <;> try exact q1.elim
  rename_i c
  cases r1
  refine ⟨c, rfl, ?_⟩
  cases c
  · exact hb.run d1 σ H1 ρ μ1 _ _ w1 (e.mono e1) q1 fun d2 H2 μ2 y u e2 w2 r2 q2 => k d2 H2 μ2 y u (e1.trans e2) w2 r2 q2
  · exact k d1 H1 μ1 _ _ e1 w1 (.bl _) q1⟩
instance {a ma} [ha : FE K a ma] : FE K (tNotV a) (mNotV ma) := ⟨fun d σ H ρ μ P Q w e q k => by
  refine ha.run d σ H ρ μ _ _ w e q fun d1 H1 μ1 x v e1 w1 r1 q1 => ?_
  cases x <;> try exact q1.elim
  cases r1
  exact ⟨_, rfl, k d1 H1 μ1 _ _ e1 w1 (.bl _) q1⟩⟩
def mIf (c : MT) (a b : ME) : ME := fun ρ μ P => c ρ μ fun x μ1 => if x = true then a ρ μ1 P else b ρ μ1 P
instance {t a b mt ma mb} [ht : FT K t mt] [ha : FE K a ma] [hb : FE K b mb] : FE K (tIf t a b) (mIf mt ma mb) := ⟨fun d σ H ρ μ P Q w e q k => by
  refine ht.run d σ H ρ μ _ _ w e q fun d1 H1 μ1 c e1 w1 q1 => ?_
  cases c
  · exact hb.run d1 σ H1 ρ μ1 _ _ w1 (e.mono e1) q1 fun d2 H2 μ2 y u e2 w2 r2 q2 => k d2 H2 μ2 y u (e1.trans e2) w2 r2 q2
  · exact ha.run d1 σ H1 ρ μ1 _ _ w1 (e.mono e1) q1 fun d2 H2 μ2 y u e2 w2 r2 q2 => k d2 H2 μ2 y u (e1.trans e2) w2 r2 q2⟩
def mChain (p q : MO2) (a b c : ME) : ME := fun ρ μ P => a ρ μ fun x μ1 => b ρ μ1 fun y μ2 => p x y μ2 fun z μ3 => match z with | .bl k => if k = true then c ρ μ3 fun w μ4 => q y w μ4 P else P (.bl false) μ3 | _ => False
instance {r r' p q ta tb tc ma mb mc} [h : F2 K r p] [h' : F2 K r' q] [ha : FE K ta ma] [hb : FE K tb mb] [hc : FE K tc mc] : FE K (tChain r r' ta tb tc) (mChain p q ma mb mc) := ⟨fun d σ H ρ μ P Q w e q k => by
  refine ha.run d σ H ρ μ _ _ w e q fun d1 H1 μ1 x v e1 w1 r1 q1 => ?_
  refine hb.run d1 σ H1 ρ μ1 _ _ w1 (e.mono e1) q1 fun d2 H2 μ2 y u e2 w2 r2 q2 => ?_
  refine h.run d2 H2 μ2 x y v u _ _ w2 (r1.mono e2) r2 q2 fun d3 H3 μ3 z w' e3 w3 r3 q3 => ?_
  cases z <;> try exact q3.elim
  rename_i c
  cases r3
  refine ⟨c, rfl, ?_⟩
  cases c
  · exact k d3 H3 μ3 _ _ ((e1.trans e2).trans e3) w3 (.bl _) q3
  · refine hc.run d3 σ H3 ρ μ3 _ _ w3 (e.mono ((e1.trans e2).trans e3)) q3 fun d4 H4 μ4 y' u' e4 w4 r4 q4 => ?_
    exact h'.run d4 H4 μ4 y y' u u' P Q w4 (r2.mono (e3.trans e4)) r4 q4 fun d5 H5 μ5 z w' e5 w5 r5 q5 => k d5 H5 μ5 z w' ((((e1.trans e2).trans e3).trans e4).trans e5) w5 r5 q5⟩

/-! ### arguments, displays -/
def mNil : MA := fun _ μ P => P [] μ
def mCons (a : ME) (r : MA) : MA := fun ρ μ P => a ρ μ fun x μ1 => r ρ μ1 fun xs μ2 => P (x :: xs) μ2
instance : FA K tNil mNil := ⟨fun d σ H ρ μ P Q w e q k => k d H μ [] [] .refl w .nil q⟩
instance {a ma t m} [ha : FE K a ma] [ht : FA K t m] : FA K (tCons a t) (mCons ma m) := ⟨fun d σ H ρ μ P Q w e q k => by
  refine ha.run d σ H ρ μ _ _ w e q fun d1 H1 μ1 x v e1 w1 r1 q1 => ?_
  exact ht.run d1 σ H1 ρ μ1 _ _ w1 (e.mono e1) q1 fun d2 H2 μ2 xs vs e2 w2 r2 q2 => k d2 H2 μ2 _ _ (e1.trans e2) w2 (.cons (r1.mono e2) r2) q2⟩
def lim : Nat := 1000000
theorem lim_le : lim ≤ sizeLine := by rw [sizeLine_eq]; decide
theorem lim_lt {n : Nat} (h : n ≤ lim) : n ≤ sizeLine := Nat.le_trans h lim_le
theorem lim_lt' {n : Nat} (h : n ≤ lim) : n < sizeLine := Nat.lt_of_le_of_lt h (by rw [sizeLine_eq]; decide)
def mTup (t : MA) : ME := fun ρ μ P => t ρ μ fun xs μ1 => xs.length ≤ lim ∧ P (.tup xs) μ1
def mLst (t : MA) : ME := fun ρ μ P => t ρ μ fun xs μ1 => xs.length ≤ lim ∧ P (.lst xs) μ1
def mLstM (t : MA) : ME := fun ρ μ P => t ρ μ fun xs μ1 => xs.length ≤ lim ∧ P (.mr μ1.length) (μ1 ++ [.lst xs])
theorem lay_tup {d : Wd} {H : Hp} {μ : Store} {xs : List PV} {vs : List V} {p : Addr} (w : WOk K d H μ) (r : RVs K d H xs vs) (h : H p = none) : RV K d (upd H p (.tup vs)) (.tup xs) (.ref p) :=
  .tup (.inl ⟨.inl upd_same, w.notin h⟩) (r.mono (Ext.lay w h))
theorem lay_lst {d : Wd} {H : Hp} {μ : Store} {xs : List PV} {vs : List V} {p : Addr} (w : WOk K d H μ) (r : RVs K d H xs vs) (h : H p = none) : RV K d (upd H p (.lst vs)) (.lst xs) (.ref p) :=
  .lst ⟨upd_same, w.notin h, w.notban h⟩ (r.mono (Ext.lay w h))
theorem lay_mr {d : Wd} {H : Hp} {μ : Store} {p : Addr} {o : HO} (w : WOk K d H μ) : RV K (d.push p) (upd H p o) (.mr μ.length) (.ref p) := by
  refine .mr ?_
  show (d.am ++ [p])[μ.length]? = some p
  rw [← w.len, List.getElem?_append_right (Nat.le_refl _)]
  simp
/-- a list display whose list is changed later -/
def tLstM (t : TA) : TE := tLst t
instance {t m} [h : FA K t m] : FE K (tTup t) (mTup m) := ⟨fun d σ H ρ μ P Q w e q k => by
  refine h.run d σ H ρ μ _ _ w e q fun d1 H1 μ1 xs vs e1 w1 r1 ⟨z, q1⟩ => ⟨by rw [← r1.length]; exact lim_lt z, fun p hp => ?_⟩
  exact k d1 _ μ1 _ _ (e1.trans (Ext.lay w1 hp)) (w1.lay hp) (lay_tup w1 r1 hp) q1⟩
instance {t m} [h : FA K t m] : FE K (tLst t) (mLst m) := ⟨fun d σ H ρ μ P Q w e q k => by
  refine h.run d σ H ρ μ _ _ w e q fun d1 H1 μ1 xs vs e1 w1 r1 ⟨z, q1⟩ => ⟨by rw [← r1.length]; exact lim_lt z, fun p hp => ?_⟩
  exact k d1 _ μ1 _ _ (e1.trans (Ext.lay w1 hp)) (w1.lay hp) (lay_lst w1 r1 hp) q1⟩
instance {t m} [h : FA K t m] : FE K (tLstM t) (mLstM m) := ⟨fun d σ H ρ μ P Q w e q k => by
  refine h.run d σ H ρ μ _ _ w e q fun d1 H1 μ1 xs vs e1 w1 r1 ⟨z, q1⟩ => ⟨by rw [← r1.length]; exact lim_lt z, fun p hp => ?_⟩
  have ee := Ext.push (o := .lst vs) w1 hp
  exact k (d1.push p) _ _ _ _ (e1.trans ee) (w1.push (m := .lst xs) hp ⟨vs, upd_same, r1.mono ee⟩) (lay_mr w1) q1⟩

/-! ### statements -/
def mNext : MS := fun P ρ μ => P.nx ρ μ
def mSeq (a b : MS) : MS := fun P ρ μ => a { P with nx := b P } ρ μ
instance : FS K tNext mNext := ⟨fun d σ H ρ μ P D w e q l => l.nx d σ H ρ μ .refl w e q⟩
instance {a b ma mb} [ha : FS K a ma] [hb : FS K b mb] : FS K (tSeq a b) (mSeq ma mb) := ⟨fun d σ H ρ μ P D w e q l =>
  ha.run d σ H ρ μ _ _ w e q ⟨fun d1 σ1 H1 ρ1 μ1 e1 w1 r1 q1 => hb.run d1 σ1 H1 ρ1 μ1 P D w1 r1 q1 (l.mono e1), l.rt, l.bk, l.ct⟩⟩
def mBreak : MS := fun P ρ μ => P.bk ρ μ
def mCont : MS := fun P ρ μ => P.ct ρ μ
instance : FS K tBreak mBreak := ⟨fun d σ H ρ μ P D w e q l => l.bk d σ H ρ μ .refl w e q⟩
instance : FS K tCont mCont := ⟨fun d σ H ρ μ P D w e q l => l.ct d σ H ρ μ .refl w e q⟩
def mDrop (m : ME) : MS := fun P ρ μ => m ρ μ fun _ μ1 => P.nx ρ μ1
instance {t m} [h : FE K t m] : FS K (tDrop t) (mDrop m) := ⟨fun d σ H ρ μ P D w e q l =>
  h.run d σ H ρ μ _ _ w e q fun d1 H1 μ1 x v e1 w1 r1 q1 => l.nx d1 σ H1 ρ μ1 e1 w1 (e.mono e1) q1⟩
def mRet (m : ME) : MS := fun P ρ μ => m ρ μ P.rt
instance {t m} [h : FE K t m] : FS K (tRet t) (mRet m) := ⟨fun d σ H ρ μ P D w e q l =>
  h.run d σ H ρ μ _ _ w e q fun d1 H1 μ1 x v e1 w1 r1 q1 => l.rt d1 H1 μ1 x v e1 w1 r1 q1⟩
def mRetN : MS := fun P ρ μ => P.rt .non μ
instance : FS K tRetN mRetN := ⟨fun d σ H ρ μ P D w e q l => l.rt d H μ .non .non .refl w .non q⟩
def mIfS (c : MT) (a b : MS) : MS := fun P ρ μ => c ρ μ fun x μ1 => if x = true then a P ρ μ1 else b P ρ μ1
instance {c a b mc ma mb} [hc : FT K c mc] [ha : FS K a ma] [hb : FS K b mb] : FS K (tIfS c a b) (mIfS mc ma mb) := ⟨fun d σ H ρ μ P D w e q l => by
  refine hc.run d σ H ρ μ _ _ w e q fun d1 H1 μ1 x e1 w1 q1 => ?_
  cases x
  · exact hb.run d1 σ H1 ρ μ1 P D w1 (e.mono e1) q1 (l.mono e1)
  · exact ha.run d1 σ H1 ρ μ1 P D w1 (e.mono e1) q1 (l.mono e1)⟩
def mNever : MS := fun _ _ _ => False
instance : FS K tNever mNever := ⟨fun d σ H ρ μ P D w e q l => q⟩
def mName (i : Nat) : MG := fun x ρ μ P => P (ρ.set i (some x)) μ
instance {i} : FG K (gName i) (mName i) [i] := ⟨fun d σ H ρ μ x v P Q w e r q k =>
  k d _ H _ μ .refl w (e.set r i) (by rw [List.length_set]) (fun j hj => by rw [List.getElem?_set_ne (by intro z; subst z; simp at hj)]) q⟩
def mGNil : MGs := fun xs ρ μ P => match xs with | [] => P ρ μ | _ => False
def mGCons (a : MG) (b : MGs) : MGs := fun xs ρ μ P => match xs with | x :: r => a x ρ μ fun ρ1 μ1 => b r ρ1 μ1 P | _ => False
instance : FGs K gNil mGNil [] := ⟨fun d σ H ρ μ xs vs P Q w e r q k => by
  cases xs
  · cases r; exact ⟨rfl, k d σ H ρ μ .refl w e rfl (fun _ _ => rfl) q⟩
  · exact q.elim⟩
instance {t m s u n s'} [h : FG K t m s] [h' : FGs K u n s'] : FGs K (gCons t u) (mGCons m n) (s ++ s') := ⟨fun d σ H ρ μ xs vs P Q w e r q k => by
  cases xs
  · exact q.elim
  · cases r with
    | cons r1 r2 =>
      refine ⟨_, _, rfl, h.run d σ H ρ μ _ _ _ _ w e r1 q fun d1 σ1 H1 ρ1 μ1 e1 w1 ee1 l1 u1 q1 => ?_⟩
      refine h'.run d1 σ1 H1 ρ1 μ1 _ _ _ _ w1 ee1 (r2.mono e1) q1 fun d2 σ2 H2 ρ2 μ2 e2 w2 ee2 l2 u2 q2 => ?_
      exact k d2 σ2 H2 ρ2 μ2 (e1.trans e2) w2 ee2 (l2.trans l1) (fun i hi => (u2 i fun z => hi (List.mem_append_right _ z)).trans (u1 i fun z => hi (List.mem_append_left _ z))) q2⟩
def mGTup (n : Nat) (t : MGs) : MG := fun x ρ μ P => match x with | .tup xs => xs.length = n ∧ t xs ρ μ P | _ => False
instance {n t m s} [h : FGs K t m s] : FG K (gTup K n t) (mGTup n m) s := ⟨fun d σ H ρ μ x v P Q w e r q k => by
  cases x <;> try exact q.elim
  cases r with
  | tup ha hr => exact ⟨_, _, rfl, ha.sq, by rw [← hr.length]; exact q.1, h.run d σ H ρ μ _ _ _ _ w e hr q.2 k⟩⟩
def mAsg (m : ME) (g : MG) : MS := fun P ρ μ => m ρ μ fun x μ1 => g x ρ μ1 P.nx
instance {t m g n s} [h : FE K t m] [h' : FG K g n s] : FS K (tAsg t g) (mAsg m n) := ⟨fun d σ H ρ μ P D w e q l => by
  refine h.run d σ H ρ μ _ _ w e q fun d1 H1 μ1 x v e1 w1 r1 q1 => ?_
  exact h'.run d1 σ H1 ρ μ1 x v _ _ w1 (e.mono e1) r1 q1 fun d2 σ2 H2 ρ2 μ2 e2 w2 ee2 _ _ q2 => l.nx d2 σ2 H2 ρ2 μ2 (e1.trans e2) w2 ee2 q2⟩
def mPar (i j : Nat) (t : MA) : MS := fun P ρ μ => t ρ μ fun xs μ1 => match xs with | [x, y] => P.nx ((ρ.set i (some x)).set j (some y)) μ1 | _ => False
instance {i j t m} [h : FA K t m] : FS K (tPar i j t) (mPar i j m) := ⟨fun d σ H ρ μ P D w e q l => by
  refine h.run d σ H ρ μ _ _ w e q fun d1 H1 μ1 xs vs e1 w1 r1 q1 => ?_
  match xs, r1, q1 with
  | [x, y], .cons (v := v) a (.cons (v := u) b .nil), q1 => exact ⟨v, u, rfl, l.nx d1 _ H1 _ μ1 e1 w1 (((e.mono e1).set a i).set b j) q1⟩⟩
def mPar3 (i j k : Nat) (t : MA) : MS := fun P ρ μ => t ρ μ fun xs μ1 => match xs with | [x, y, z] => P.nx (((ρ.set i (some x)).set j (some y)).set k (some z)) μ1 | _ => False
instance {i j k t m} [h : FA K t m] : FS K (tPar3 i j k t) (mPar3 i j k m) := ⟨fun d σ H ρ μ P D w e q l => by
  refine h.run d σ H ρ μ _ _ w e q fun d1 H1 μ1 xs vs e1 w1 r1 q1 => ?_
  match xs, r1, q1 with
  | [x, y, z], .cons (v := v) a (.cons (v := u) b (.cons (v := t) c .nil)), q1 => exact ⟨v, u, t, rfl, l.nx d1 _ H1 _ μ1 e1 w1 ((((e.mono e1).set a i).set b j).set c k) q1⟩⟩
def mAsg2 (m : ME) (g h : MG) : MS := fun P ρ μ => m ρ μ fun x μ1 => g x ρ μ1 fun ρ1 μ2 => h x ρ1 μ2 P.nx
instance {t m g n s g' n' s'} [h : FE K t m] [h1 : FG K g n s] [h2 : FG K g' n' s'] : FS K (tAsg2 t g g') (mAsg2 m n n') := ⟨fun d σ H ρ μ P D w e q l => by
  refine h.run d σ H ρ μ _ _ w e q fun d1 H1 μ1 x v e1 w1 r1 q1 => ?_
  refine h1.run d1 σ H1 ρ μ1 x v _ _ w1 (e.mono e1) r1 q1 fun d2 σ2 H2 ρ2 μ2 e2 w2 ee2 _ _ q2 => ?_
  exact h2.run d2 σ2 H2 ρ2 μ2 x v _ _ w2 ee2 (r1.mono e2) q2 fun d3 σ3 H3 ρ3 μ3 e3 w3 ee3 _ _ q3 => l.nx d3 σ3 H3 ρ3 μ3 ((e1.trans e2).trans e3) w3 ee3 q3⟩
end
end Fx

/-! Fx3: loops, comprehensions, what is walked. -/
namespace Fx
open PySem PySem.Spec PyProof.Rows L2
section
variable {K : PySem.W.Frag} {d d' : Wd} {H H' : Hp} {a : Addr} {vs : List V} {μ : Store}
theorem Bars.refl : Bars d d H := ⟨rfl, fun _ h => .inl h⟩
mutual
theorem RV.bars (b : Bars d d' H) : ∀ {x : PV} {v : V}, RV K d H x v → RV K d' H x v
  | _, _, .non => .non
  | _, _, .bl b => .bl b
  | _, _, .int i => .int i
  | _, _, .str x => .str x
  | _, _, .ty n => .ty n
  | _, _, .tup h r => .tup (h.imp (fun z => ⟨z.1, by rw [b.1]; exact z.2⟩) id) (RVs.bars b r)
  | _, _, .lst h r => .lst ⟨h.1, by rw [b.1]; exact h.2.1, fun q => (b.2 _ q).elim h.2.2 (by rw [h.1]; simp)⟩ (RVs.bars b r)
  | _, _, .kl h r => .kl (h.imp (fun z => ⟨z.1, by rw [b.1]; exact z.2.1, fun q => (b.2 _ q).elim z.2.2 (Rd.ne z.1)⟩) id) (RVs.bars b r)
  | _, _, .mr h => .mr (by rw [b.1]; exact h)
theorem RVs.bars (b : Bars d d' H) : ∀ {xs : List PV} {vs : List V}, RVs K d H xs vs → RVs K d' H xs vs
  | _, _, .nil => .nil
  | _, _, .cons r t => .cons (RV.bars b r) (RVs.bars b t)
end
theorem no_tup {D : Addr} {as : List V} (h : H D = some (.lst as)) : ∀ ts, ¬ Rd H D (.tup ts) := fun ts z => by
  rcases z with q | ⟨o, q⟩ <;> rw [h] at q <;> cases q
theorem no_tupK {D : Addr} {as : List (Key × V)} (h : H D = some (.dK as)) : ∀ ts, ¬ Rd H D (.tup ts) := fun ts z => by
  rcases z with q | ⟨o, q⟩ <;> rw [h] at q <;> cases q
/-- the thing D that is being made (or a thing of the store) changes -/
theorem Rd_upd {u o : HO} {D : Addr} (r : Rd H a u) (h : a ≠ D) : Rd (upd H D o) a u := by
  rcases r with r | ⟨o', r⟩
  · exact .inl (by rw [upd_ne h]; exact r)
  · exact .inr ⟨o', by rw [upd_ne h]; exact r⟩
mutual
theorem RV.made {D : Addr} {o : HO} (hb : D ∈ d.ban) (hD : ∀ ts, ¬ Rd H D (.tup ts)) : ∀ {x : PV} {v : V}, RV K d H x v → RV K d (upd H D o) x v
  | _, _, .non => .non
  | _, _, .bl b => .bl b
  | _, _, .int i => .int i
  | _, _, .str x => .str x
  | _, _, .ty n => .ty n
  | _, _, .tup h r => .tup (h.imp (fun z => ⟨Rd_upd z.1 (by rintro rfl; exact hD _ z.1), z.2⟩) id) (RVs.made hb hD r)
  | _, _, .lst h r => .lst ⟨by rw [upd_ne (by rintro rfl; exact h.2.2 hb)]; exact h.1, h.2⟩ (RVs.made hb hD r)
  | _, _, .kl h r => .kl (h.imp (fun z => ⟨Rd_upd z.1 (by rintro rfl; exact z.2.2 hb), z.2⟩) id) (RVs.made hb hD r)
  | _, _, .mr h => .mr h
theorem RVs.made {D : Addr} {o : HO} (hb : D ∈ d.ban) (hD : ∀ ts, ¬ Rd H D (.tup ts)) : ∀ {xs : List PV} {vs : List V}, RVs K d H xs vs → RVs K d (upd H D o) xs vs
  | _, _, .nil => .nil
  | _, _, .cons r t => .cons (RV.made hb hD r) (RVs.made hb hD t)
end
theorem MOK.made {D : Addr} {o : HO} (hb : D ∈ d.ban) (hD : ∀ ts, ¬ Rd H D (.tup ts)) (hne : a ≠ D) {m : MO} (h : MOK K d H a m) : MOK K d (upd H D o) a m := by
  cases m with
  | lst xs => obtain ⟨vs, q, r⟩ := h; exact ⟨vs, by rw [upd_ne hne]; exact q, r.made hb hD⟩
  | dk kvs => obtain ⟨vs, q, r1, r2⟩ := h; exact ⟨vs, by rw [upd_ne hne]; exact q, r1, r2.made hb hD⟩
  | fd o ws kvs => obtain ⟨q, r1, r2⟩ := h; exact ⟨by rw [upd_ne hne]; exact q, r1, r2.made hb hD⟩
theorem WOk.made {D : Addr} {o : HO} (w : WOk K d H μ) (hb : D ∈ d.ban) (hD : ∀ ts, ¬ Rd H D (.tup ts)) : WOk K d (upd H D o) μ := by
  refine ⟨w.len, w.nd, fun i b m h1 h2 => ?_, fun b hb' => ?_⟩
  · have hne : b ≠ D := by
      rintro rfl
      exact (w.ban _ hb).2 (List.mem_of_getElem? h1)
    exact (w.ob i b m h1 h2).made hb hD hne
  · obtain ⟨x, y⟩ := w.ban b hb'
    refine ⟨?_, y⟩
    by_cases hne : b = D
    · subst hne; rw [upd_same]; simp
    · rw [upd_ne hne]; exact x
mutual
/-- what is made comes into the store -/
theorem RV.pushed {D : Addr} (hb : D ∈ d.ban) (hD : ∀ ts, ¬ Rd H D (.tup ts)) {bn : List Addr} (hs : ∀ b ∈ bn, b ∈ d.ban) : ∀ {x : PV} {v : V}, RV K d H x v → RV K ⟨d.am ++ [D], bn⟩ H x v
  | _, _, .non => .non
  | _, _, .bl b => .bl b
  | _, _, .int i => .int i
  | _, _, .str x => .str x
  | _, _, .ty n => .ty n
  | _, _, .tup h r => .tup (h.imp (fun z => ⟨z.1, fun q => (List.mem_append.mp q).elim z.2 (fun q => by
      have e := List.mem_singleton.mp q
      subst e
      exact hD _ z.1)⟩) id) (RVs.pushed hb hD hs r)
  | _, _, .lst h r => .lst ⟨h.1, fun q => (List.mem_append.mp q).elim h.2.1 (fun q => by
      have e := List.mem_singleton.mp q
      subst e
      exact h.2.2 hb), fun q => h.2.2 (hs _ q)⟩ (RVs.pushed hb hD hs r)
  | _, _, .kl h r => .kl (h.imp (fun z => ⟨z.1, fun q => (List.mem_append.mp q).elim z.2.1 (fun q => by
      have e := List.mem_singleton.mp q
      subst e
      exact z.2.2 hb), fun q => z.2.2 (hs _ q)⟩) id) (RVs.pushed hb hD hs r)
  | _, _, .mr h => .mr (by
      show (d.am ++ [D])[_]? = _
      rw [List.getElem?_append_left (List.getElem?_eq_some_iff.mp h).1]; exact h)
theorem RVs.pushed {D : Addr} (hb : D ∈ d.ban) (hD : ∀ ts, ¬ Rd H D (.tup ts)) {bn : List Addr} (hs : ∀ b ∈ bn, b ∈ d.ban) : ∀ {xs : List PV} {vs : List V}, RVs K d H xs vs → RVs K ⟨d.am ++ [D], bn⟩ H xs vs
  | _, _, .nil => .nil
  | _, _, .cons r t => .cons (RV.pushed hb hD hs r) (RVs.pushed hb hD hs t)
end
mutual
theorem RV.less {bn : List Addr} (hs : ∀ b ∈ bn, b ∈ d.ban) : ∀ {x : PV} {v : V}, RV K d H x v → RV K ⟨d.am, bn⟩ H x v
  | _, _, .non => .non
  | _, _, .bl b => .bl b
  | _, _, .int i => .int i
  | _, _, .str x => .str x
  | _, _, .ty n => .ty n
  | _, _, .tup h r => .tup h (RVs.less hs r)
  | _, _, .lst h r => .lst ⟨h.1, h.2.1, fun q => h.2.2 (hs _ q)⟩ (RVs.less hs r)
  | _, _, .kl h r => .kl (h.imp (fun z => ⟨z.1, z.2.1, fun q => z.2.2 (hs _ q)⟩) id) (RVs.less hs r)
  | _, _, .mr h => .mr h
theorem RVs.less {bn : List Addr} (hs : ∀ b ∈ bn, b ∈ d.ban) : ∀ {xs : List PV} {vs : List V}, RVs K d H xs vs → RVs K ⟨d.am, bn⟩ H xs vs
  | _, _, .nil => .nil
  | _, _, .cons r t => .cons (RV.less hs r) (RVs.less hs t)
end
theorem MOK.less {bn : List Addr} (hs : ∀ b ∈ bn, b ∈ d.ban) {m : MO} (h : MOK K d H a m) : MOK K ⟨d.am, bn⟩ H a m := by
  cases m with
  | lst xs => obtain ⟨vs, q, r⟩ := h; exact ⟨vs, q, r.less hs⟩
  | dk kvs => obtain ⟨vs, q, r1, r2⟩ := h; exact ⟨vs, q, r1, r2.less hs⟩
  | fd o ws kvs => obtain ⟨q, r1, r2⟩ := h; exact ⟨q, r1, r2.less hs⟩
theorem WOk.less {bn : List Addr} (w : WOk K d H μ) (hs : ∀ b ∈ bn, b ∈ d.ban) : WOk K ⟨d.am, bn⟩ H μ :=
  ⟨w.len, w.nd, fun i b m h1 h2 => (w.ob i b m h1 h2).less hs, fun b hb => w.ban b (hs b hb)⟩
theorem MOK.pushed {D : Addr} (hb : D ∈ d.ban) (hD : ∀ ts, ¬ Rd H D (.tup ts)) {bn : List Addr} (hs : ∀ b ∈ bn, b ∈ d.ban) {m : MO} (h : MOK K d H a m) : MOK K ⟨d.am ++ [D], bn⟩ H a m := by
  cases m with
  | lst xs => obtain ⟨vs, q, r⟩ := h; exact ⟨vs, q, r.pushed hb hD hs⟩
  | dk kvs => obtain ⟨vs, q, r1, r2⟩ := h; exact ⟨vs, q, r1, r2.pushed hb hD hs⟩
  | fd o ws kvs => obtain ⟨q, r1, r2⟩ := h; exact ⟨q, r1, r2.pushed hb hD hs⟩
theorem WOk.pushed {D : Addr} (w : WOk K d H μ) (hb : D ∈ d.ban) (hD : ∀ ts, ¬ Rd H D (.tup ts)) {bn : List Addr} (hs : ∀ b ∈ bn, b ∈ d.ban) (hn : D ∉ bn) {m : MO} (hm : MOK K ⟨d.am ++ [D], bn⟩ H D m) : WOk K ⟨d.am ++ [D], bn⟩ H (μ ++ [m]) := by
  have na := (w.ban D hb).2
  refine ⟨by simp [w.len], ?_, fun i b m' h1 h2 => ?_, fun b hb' => ?_⟩
  · show (d.am ++ [D]).Nodup
    rw [List.nodup_append]
    exact ⟨w.nd, by simp, fun x hx y hy => by
      have : y = D := by simpa using hy
      subst this; rintro rfl; exact na hx⟩
  · replace h1 : (d.am ++ [D])[i]? = some b := h1
    by_cases hi : i < d.am.length
    · rw [List.getElem?_append_left hi] at h1
      rw [List.getElem?_append_left (by rw [← w.len]; exact hi)] at h2
      exact (w.ob i b m' h1 h2).pushed hb hD hs
    · have hi2 : i = d.am.length := by
        have := (List.getElem?_eq_some_iff.mp h1).1
        simp at this; omega
      subst hi2
      rw [List.getElem?_append_right (Nat.le_refl _)] at h1
      rw [w.len, List.getElem?_append_right (Nat.le_refl _)] at h2
      simp at h1 h2
      subst h1; subst h2
      exact hm
  · obtain ⟨x, y⟩ := w.ban b (hs b hb')
    exact ⟨x, fun z => (List.mem_append.mp z).elim y (fun z => by
      have e : b = D := by simpa using z
      subst e; exact hn hb')⟩

/-! ### for -/
def mForL (g : MG) (b : MS) (P : MEnds) : List PV → PEnv → Store → Prop
  | [], ρ, μ => P.nx ρ μ
  | x :: xs, ρ, μ => g x ρ μ fun ρ1 μ1 => b { P with nx := mForL g b P xs, ct := mForL g b P xs, bk := P.nx } ρ1 μ1
def mFor (mi : MI) (g : MG) (b : MS) : MS := fun P ρ μ => mi ρ μ fun xs μ1 => mForL g b P xs ρ μ1
theorem drop_cons {α : Type} {xs : List α} {i : Nat} {x : α} (h : xs[i]? = some x) : xs.drop i = x :: xs.drop (i + 1) := by
  obtain ⟨hl, e⟩ := List.getElem?_eq_some_iff.mp h
  rw [List.drop_eq_getElem_cons hl, e]
instance {wi mi g mg s tb mb} [hi : FI K wi mi] [hg : FG K g mg s] [hb : FS K tb mb] : FS K (tFor wi g tb) (mFor mi mg mb) := ⟨fun d σ H ρ μ P D w e q l => by
  refine hi.run d σ H ρ μ _ _ w e q fun d1 H1 μ1 J xs e1 w1 it q1 => ?_
  refine ⟨fun i m σ' H' => ∃ d' ρ' μ', Ext d1 H1 d' H' ∧ WOk K d' H' μ' ∧ REnv K d' H' ρ' σ' ∧ i + m = xs.length ∧ mForL mg mb P (xs.drop i) ρ' μ', ⟨xs.length, d1, ρ, μ1, .refl, w1, e.mono e1, by omega, by simpa using q1⟩, fun i m σ' H' hW => ?_⟩
  obtain ⟨d2, ρ2, μ2, e2, w2, ee2, em, q2⟩ := hW
  obtain ⟨itg, its⟩ := it d1 d2 H' μ2 .refl e2 w2
  cases hx : xs[i]? with
  | none =>
    have hle : xs.length ≤ i := List.getElem?_eq_none_iff.mp hx
    rw [List.drop_of_length_le hle] at q2
    exact .inl ⟨its i hle, l.nx d2 σ' H' ρ2 μ2 (e1.trans e2) w2 ee2 q2⟩
  | some x =>
    have hlt : i < xs.length := (List.getElem?_eq_some_iff.mp hx).1
    rw [drop_cons hx] at q2
    obtain ⟨go, yl⟩ := itg i x hx
    refine .inr ⟨go, fun σ3 H3 => ∃ d' ρ' μ', Ext d1 H1 d' H3 ∧ WOk K d' H3 μ' ∧ REnv K d' H3 ρ' σ3 ∧ mForL mg mb P (xs.drop (i + 1)) ρ' μ', fun σ3 H3 hN => ?_, fun v H3 hy => ?_⟩
    · obtain ⟨d3, ρ3, μ3, a1, a2, a3, a4⟩ := hN
      exact ⟨m - 1, by omega, d3, ρ3, μ3, a1, a2, a3, by omega, a4⟩
    · obtain ⟨ey, wy, ry⟩ := yl v H3 hy
      refine hg.run d2 σ' H3 ρ2 μ2 x v _ _ wy (ee2.mono ey) ry q2 fun d4 σ4 H4 ρ4 μ4 e4 w4 ee4 _ _ q4 => ?_
      have E4 : Ext d H d4 H4 := ((e1.trans e2).trans ey).trans e4
      have E4' : Ext d1 H1 d4 H4 := (e2.trans ey).trans e4
      exact hb.run d4 σ4 H4 ρ4 μ4 _ _ w4 ee4 q4
        ⟨fun d5 σ5 H5 ρ5 μ5 e5 w5 ee5 q5 => ⟨d5, ρ5, μ5, E4'.trans e5, w5, ee5, q5⟩, fun d5 H5 μ5 x v e5 => l.rt d5 H5 μ5 x v (E4.trans e5),
         fun d5 σ5 H5 ρ5 μ5 e5 => l.nx d5 σ5 H5 ρ5 μ5 (E4.trans e5), fun d5 σ5 H5 ρ5 μ5 e5 w5 ee5 q5 => ⟨d5, ρ5, μ5, E4'.trans e5, w5, ee5, q5⟩⟩⟩

/-! ### while -/
def mWhile (c : MT) (b : MS) : MS := fun P ρ μ => ∃ W : Nat → PEnv → Store → Prop, (∃ n, W n ρ μ) ∧ ∀ n ρ μ, W n ρ μ →
  c ρ μ fun x μ1 => if x = true then b { P with nx := fun ρ' μ' => ∃ n', n' < n ∧ W n' ρ' μ', ct := fun ρ' μ' => ∃ n', n' < n ∧ W n' ρ' μ', bk := P.nx } ρ μ1 else P.nx ρ μ1
instance {tc mc tb mb} [hc : FT K tc mc] [hb : FS K tb mb] : FS K (tWhile tc tb) (mWhile mc mb) := ⟨fun d σ H ρ μ P D w e q l => by
  obtain ⟨W, ⟨n0, w0⟩, turn⟩ := q
  refine ⟨fun n σ' H' => ∃ d' ρ' μ', Ext d H d' H' ∧ WOk K d' H' μ' ∧ REnv K d' H' ρ' σ' ∧ W n ρ' μ', ⟨n0, d, ρ, μ, .refl, w, e, w0⟩, fun n σ' H' hW => ?_⟩
  obtain ⟨d1, ρ1, μ1, e1, w1, ee1, q1⟩ := hW
  refine hc.run d1 σ' H' ρ1 μ1 _ _ w1 ee1 (turn n ρ1 μ1 q1) fun d2 H2 μ2 x e2 w2 q2 => ?_
  have E2 : Ext d H d2 H2 := e1.trans e2
  cases x
  · exact l.nx d2 σ' H2 ρ1 μ2 E2 w2 (ee1.mono e2) q2
  · refine ⟨fun σ3 H3 => ∃ n', n' < n ∧ ∃ d' ρ' μ', Ext d H d' H3 ∧ WOk K d' H3 μ' ∧ REnv K d' H3 ρ' σ3 ∧ W n' ρ' μ', fun σ3 H3 h => h, ?_⟩
    exact hb.run d2 σ' H2 ρ1 μ2 _ _ w2 (ee1.mono e2) q2
      ⟨fun d5 σ5 H5 ρ5 μ5 e5 w5 ee5 ⟨n', hn, q5⟩ => ⟨n', hn, d5, ρ5, μ5, E2.trans e5, w5, ee5, q5⟩, fun d5 H5 μ5 x v e5 => l.rt d5 H5 μ5 x v (E2.trans e5),
       fun d5 σ5 H5 ρ5 μ5 e5 => l.nx d5 σ5 H5 ρ5 μ5 (E2.trans e5), fun d5 σ5 H5 ρ5 μ5 e5 w5 ee5 ⟨n', hn, q5⟩ => ⟨n', hn, d5, ρ5, μ5, E2.trans e5, w5, ee5, q5⟩⟩⟩

/-! ### comprehensions -/
def wipeP (ρ : PEnv) : List Nat → PEnv
  | [] => ρ
  | v :: vs => (wipeP ρ vs).set v none
theorem wipe_get (σ : L2.St) (i : Nat) : ∀ vs : List Nat, (wipe σ vs)[i]? = if i ∈ vs then (if i < σ.length then some none else none) else σ[i]?
  | [] => by simp [wipe]
  | v :: vs => by
    show ((wipe σ vs).set v none)[i]? = _
    rw [List.getElem?_set, wipe_get σ i vs, wipe_length]
    by_cases h : v = i
    · subst h
      rw [if_pos rfl, if_pos (List.mem_cons_self)]
    · rw [if_neg h]
      have e : (i ∈ v :: vs) = (i ∈ vs) := by
        simp [Ne.symm h]
      simp only [e]
theorem wipe_same {σ σ' : L2.St} {vs sl : List Nat} (hl : σ'.length = (wipe σ vs).length) (h : ∀ i, i ∉ sl → σ'[i]? = (wipe σ vs)[i]?) (hs : ∀ i ∈ sl, i ∈ vs) : wipe σ' vs = wipe σ vs := by
  rw [wipe_length] at hl
  apply List.ext_getElem?
  intro i
  rw [wipe_get, wipe_get, hl]
  by_cases hi : i ∈ vs
  · rw [if_pos hi, if_pos hi]
  · rw [if_neg hi, if_neg hi, h i (fun z => hi (hs i z)), wipe_get, if_neg hi]
theorem REnv.wipe {ρ : PEnv} {σ : L2.St} (e : REnv K d H ρ σ) : ∀ vs : List Nat, REnv K d H (wipeP ρ vs) (wipe σ vs)
  | [] => e
  | v :: vs => (REnv.wipe e vs).unset v
theorem REnv.bars {ρ : PEnv} {σ : L2.St} (b : Bars d d' H) (e : REnv K d H ρ σ) : REnv K d' H ρ σ :=
  ⟨e.1, fun i x q => let ⟨v, a, c⟩ := e.2 i x q; ⟨v, a, c.bars b⟩⟩
theorem WOk.barD {D : Addr} (w : WOk K d H μ) (h : H D = none) : WOk K ⟨d.am, D :: d.ban⟩ (upd H D (.lst [])) μ := by
  have b : Bars d ⟨d.am, D :: d.ban⟩ H := ⟨rfl, fun x q => (List.mem_cons.mp q).elim (fun z => .inr (by rw [z]; exact h)) .inl⟩
  refine ⟨w.len, w.nd, fun i a m h1 h2 => ?_, fun x hx => ?_⟩
  · have hm := w.ob i a m h1 h2
    have hne : a ≠ D := by rintro rfl; exact w.notin h (List.mem_of_getElem? h1)
    have e : Ext ⟨d.am, D :: d.ban⟩ H ⟨d.am, D :: d.ban⟩ (upd H D (.lst [])) := ⟨⟨[], by simp, fun p hp => by simp at hp⟩, rfl, fun b u e _ => by rw [upd_ne (ne_of_none e h)]; exact e⟩
    cases m with
    | lst xs => obtain ⟨vs, q, r⟩ := hm; exact ⟨vs, by rw [upd_ne hne]; exact q, (r.bars b).mono e⟩
    | dk kvs => obtain ⟨vs, q, r1, r2⟩ := hm; exact ⟨vs, by rw [upd_ne hne]; exact q, r1, (r2.bars b).mono e⟩
    | fd o ws kvs => obtain ⟨q, r1, r2⟩ := hm; exact ⟨by rw [upd_ne hne]; exact q, r1, (r2.bars b).mono e⟩
  · rcases List.mem_cons.mp hx with z | z
    · subst z
      exact ⟨by rw [upd_same]; simp, w.notin h⟩
    · obtain ⟨q1, q2⟩ := w.ban x z
      refine ⟨?_, q2⟩
      have hne : x ≠ D := by rintro rfl; exact q1 h
      rw [upd_ne hne]; exact q1

def mLcL (g : MG) (c : MT) (e : ME) (ρ0 : PEnv) (P : List PV → Store → Prop) : List PV → List PV → Store → Prop
  | [], acc, μ => P acc μ
  | x :: xs, acc, μ => g x ρ0 μ fun ρ1 μ1 => c ρ1 μ1 fun b μ2 => if b = true then e ρ1 μ2 fun y μ3 => mLcL g c e ρ0 P xs (acc ++ [y]) μ3 else mLcL g c e ρ0 P xs acc μ2

theorem lc_run {wi mi g mg s tt mt te me} {vs : List Nat} [hi : FI K wi mi] [hg : FG K g mg s] [hc : FT K tt mt] [he : FE K te me] {σ : L2.St} {ρ : PEnv} {P : List PV → Store → Prop} {Q : VK} (w : WOk K d H μ) (e : REnv K d H ρ σ) (hs : ∀ i ∈ s, i ∈ vs)
    (q : mi ρ μ fun xs μ1 => xs.length ≤ lim ∧ mLcL mg mt me (wipeP ρ vs) P xs [] μ1)
    (fin : ∀ (d1 : Wd) (H1 : Hp) (D : Addr) (dB : Wd) (H' : Hp) (μ' : Store) (acc : List PV) (avs : List V), Ext d H d1 H1 → H1 D = none → D ∉ d1.ban → Ext ⟨d1.am, D :: d1.ban⟩ H1 dB H' → WOk K dB H' μ' → H' D = some (.lst avs) → RVs K dB H' acc avs → P acc μ' → Q (.ref D) H') :
    tLc wi g tt te vs σ H Q := by
  refine hi.run d σ H ρ μ _ _ w e q fun d1 H1 μ1 J xs e1 w1 it ⟨hz, q1⟩ => ?_
  intro D hD
  have bD : Bars d1 ⟨d1.am, D :: d1.ban⟩ H1 := ⟨rfl, fun x q => (List.mem_cons.mp q).elim (fun z => .inr (by rw [z]; exact hD)) .inl⟩
  have envB : REnv K ⟨d1.am, D :: d1.ban⟩ H1 (wipeP ρ vs) (wipe σ vs) := ((e.mono e1).bars bD).wipe vs
  have lay0 : Ext ⟨d1.am, D :: d1.ban⟩ H1 ⟨d1.am, D :: d1.ban⟩ (upd H1 D (.lst [])) := ⟨⟨[], by simp, fun p hp => by simp at hp⟩, rfl, fun b u e _ => by rw [upd_ne (ne_of_none e hD)]; exact e⟩
  refine ⟨fun i m H' => ∃ dB μ' acc avs, Ext ⟨d1.am, D :: d1.ban⟩ H1 dB H' ∧ WOk K dB H' μ' ∧ H' D = some (.lst avs) ∧ RVs K dB H' acc avs ∧ i + m = xs.length ∧ acc.length ≤ i ∧ mLcL mg mt me (wipeP ρ vs) P (xs.drop i) acc μ',
    ⟨xs.length, _, μ1, [], [], lay0, w1.barD hD, upd_same, .nil, by omega, Nat.le_refl _, by simpa using q1⟩, fun i m H' hW => ?_⟩
  obtain ⟨dB, μ', acc, avs, eB, wB, hDv, rA, em, hal, q2⟩ := hW
  have hDban : D ∈ dB.ban := by rw [eB.ban]; exact List.mem_cons_self
  obtain ⟨itg, its⟩ := it _ dB H' μ' bD eB wB
  cases hx : xs[i]? with
  | none =>
    have hle : xs.length ≤ i := List.getElem?_eq_none_iff.mp hx
    rw [List.drop_of_length_le hle] at q2
    exact .inl ⟨its i hle, fin d1 H1 D dB H' μ' acc avs e1 hD (w1.notban hD) eB wB hDv rA q2⟩
  | some x =>
    have hlt : i < xs.length := (List.getElem?_eq_some_iff.mp hx).1
    rw [drop_cons hx] at q2
    obtain ⟨go, yl⟩ := itg i x hx
    refine .inr ⟨go, fun H3 => ∃ dB μ' acc avs, Ext ⟨d1.am, D :: d1.ban⟩ H1 dB H3 ∧ WOk K dB H3 μ' ∧ H3 D = some (.lst avs) ∧ RVs K dB H3 acc avs ∧ acc.length ≤ i + 1 ∧ mLcL mg mt me (wipeP ρ vs) P (xs.drop (i + 1)) acc μ', fun H3 hN => ?_, fun v H3 hy => ?_⟩
    · obtain ⟨a1, a2, a3, a4, a5, a6, a7, a8, a9, a10⟩ := hN
      exact ⟨m - 1, by omega, a1, a2, a3, a4, a5, a6, a7, a8, by omega, a9, a10⟩
    · obtain ⟨ey, wy, ry⟩ := yl v H3 hy
      refine hg.run dB (wipe σ vs) H3 (wipeP ρ vs) μ' x v _ _ wy (envB.mono (eB.trans ey)) ry q2 fun d4 σ4 H4 ρ4 μ4 e4 w4 ee4 hl4 hs4 q4 => ⟨wipe_same hl4 hs4 hs, ?_⟩
      refine hc.run d4 σ4 H4 ρ4 μ4 _ _ w4 ee4 q4 fun d5 H5 μ5 b e5 w5 q5 => ?_
      have nD : D ∉ dB.am := (wB.ban D hDban).2
      have E5 : Ext dB H' d5 H5 := (ey.trans e4).trans e5
      cases b
      · exact ⟨d5, μ5, acc, avs, eB.trans E5, w5, E5.keep _ _ hDv nD, rA.mono E5, by omega, q5⟩
      · refine he.run d5 σ4 H5 ρ4 μ5 _ _ w5 (ee4.mono e5) q5 fun d6 H6 μ6 y u e6 w6 r6 q6 => ?_
        have E6 : Ext dB H' d6 H6 := E5.trans e6
        have hD6 : H6 D = some (.lst avs) := E6.keep _ _ hDv nD
        have ban6 : D ∈ d6.ban := by rw [E6.ban]; exact hDban
        have rA6 := (rA.mono E6).append (.cons r6 .nil)
        refine ⟨avs, hD6, by rw [← rA.length]; exact lim_lt' (by omega), d6, μ6, acc ++ [y], avs ++ [u], ?_, w6.made ban6 (no_tup hD6), upd_same, rA6.made ban6 (no_tup hD6), by rw [List.length_append]; simp; omega, q6⟩
        have E7 := eB.trans E6
        exact ⟨E7.am, E7.ban, fun b o hb hn => by rw [upd_ne (ne_of_none hb hD)]; exact E7.keep b o hb hn⟩

/-- the made list as a value that stays -/
theorem lc_frozen {d1 dB : Wd} {H1 : Hp} {D : Addr} {acc : List PV} {avs : List V} (e1 : Ext d H d1 H1) (hD : H1 D = none) (hDn : D ∉ d1.ban) (eB : Ext ⟨d1.am, D :: d1.ban⟩ H1 dB H') (w : WOk K dB H' μ) (hv : H' D = some (.lst avs)) (r : RVs K dB H' acc avs) :
    Ext d H ⟨dB.am, d1.ban⟩ H' ∧ WOk K ⟨dB.am, d1.ban⟩ H' μ ∧ RV K ⟨dB.am, d1.ban⟩ H' (.lst acc) (.ref D) := by
  have hs : ∀ b ∈ d1.ban, b ∈ dB.ban := fun b hb => by rw [eB.ban]; exact List.mem_cons_of_mem _ hb
  have hb : D ∈ dB.ban := by rw [eB.ban]; exact List.mem_cons_self
  refine ⟨e1.trans ⟨eB.am, rfl, eB.keep⟩, w.less hs, .lst ⟨hv, (w.ban D hb).2, hDn⟩ (r.less hs)⟩
/-- the made list as a thing that changes -/
theorem lc_store {d1 dB : Wd} {H1 : Hp} {D : Addr} {acc : List PV} {avs : List V} (e1 : Ext d H d1 H1) (hD : H1 D = none) (hDn : D ∉ d1.ban) (eB : Ext ⟨d1.am, D :: d1.ban⟩ H1 dB H') (w : WOk K dB H' μ) (hv : H' D = some (.lst avs)) (r : RVs K dB H' acc avs) :
    Ext d H ⟨dB.am ++ [D], d1.ban⟩ H' ∧ WOk K ⟨dB.am ++ [D], d1.ban⟩ H' (μ ++ [.lst acc]) ∧ RV K ⟨dB.am ++ [D], d1.ban⟩ H' (.mr μ.length) (.ref D) := by
  have hs : ∀ b ∈ d1.ban, b ∈ dB.ban := fun b hb => by rw [eB.ban]; exact List.mem_cons_of_mem _ hb
  have hb : D ∈ dB.ban := by rw [eB.ban]; exact List.mem_cons_self
  have hn := (w.ban D hb).2
  have hm : MOK K ⟨dB.am ++ [D], d1.ban⟩ H' D (.lst acc) := ⟨avs, hv, r.pushed hb (no_tup hv) hs⟩
  refine ⟨e1.trans ⟨?_, rfl, eB.keep⟩, w.pushed hb (no_tup hv) hs hDn hm, .mr ?_⟩
  · obtain ⟨ex, q, f⟩ := eB.am
    refine ⟨ex ++ [D], by rw [q, List.append_assoc], fun p hp => ?_⟩
    rcases List.mem_append.mp hp with z | z
    · exact f p z
    · have e := List.mem_singleton.mp z
      subst e
      refine ⟨hD, fun z => hn ?_⟩
      rw [q]; exact List.mem_append_left _ z
  · show (dB.am ++ [D])[μ.length]? = some D
    rw [← w.len, List.getElem?_append_right (Nat.le_refl _)]
    simp
def mLc (mi : MI) (g : MG) (c : MT) (e : ME) (s vs : List Nat) : ME := fun ρ μ P => (∀ i ∈ s, i ∈ vs) ∧ mi ρ μ fun xs μ1 => xs.length ≤ lim ∧ mLcL g c e (wipeP ρ vs) (fun acc μ2 => P (.lst acc) μ2) xs [] μ1
def mLcM (mi : MI) (g : MG) (c : MT) (e : ME) (s vs : List Nat) : ME := fun ρ μ P => (∀ i ∈ s, i ∈ vs) ∧ mi ρ μ fun xs μ1 => xs.length ≤ lim ∧ mLcL g c e (wipeP ρ vs) (fun acc μ2 => P (.mr μ2.length) (μ2 ++ [.lst acc])) xs [] μ1
def tLcM (wi : TI) (g : TG) (tt : TT) (te : TE) (vs : List Nat) : TE := tLc wi g tt te vs
instance {wi mi g mg s tt mt te me vs} [hi : FI K wi mi] [hg : FG K g mg s] [hc : FT K tt mt] [he : FE K te me] : FE K (tLc wi g tt te vs) (mLc mi mg mt me s vs) := ⟨fun d σ H ρ μ P Q w e q k => by
  refine lc_run w e q.1 q.2 fun d1 H1 D dB H' μ' acc avs e1 hD hDn eB w' hv r p => ?_
  obtain ⟨x1, x2, x3⟩ := lc_frozen e1 hD hDn eB w' hv r
  exact k _ H' μ' _ _ x1 x2 x3 p⟩
instance {wi mi g mg s tt mt te me vs} [hi : FI K wi mi] [hg : FG K g mg s] [hc : FT K tt mt] [he : FE K te me] : FE K (tLcM wi g tt te vs) (mLcM mi mg mt me s vs) := ⟨fun d σ H ρ μ P Q w e q k => by
  refine lc_run w e q.1 q.2 fun d1 H1 D dB H' μ' acc avs e1 hD hDn eB w' hv r p => ?_
  obtain ⟨x1, x2, x3⟩ := lc_store e1 hD hDn eB w' hv r
  exact k _ H' _ _ _ x1 x2 x3 p⟩
end
end Fx

/-! Fx4: what is walked; built-ins by values. -/
namespace Fx
open PySem PySem.Spec PyProof.Rows L2 RZ

/-! ### iterators -/
/-- a list or a tuple -/
def iSeq (K : PySem.W.Frag) (tl : TE) : TI := fun σ H R => tl σ H fun x H1 => ∃ a, x = .ref a ∧ (((∃ xs, SqL K H1 a xs) ∧ R (Itl K a) H1) ∨ ((∃ xs, SqT K H1 a xs) ∧ R (Itt K a) H1))
theorem pi_seq {X : Cx} {tg l : Expr} {tl : TE} (hl : PE X l tl) : PI X tg l (iSeq X.K tl) := by
  refine ⟨fun pins s σ H R I h => thn (hl.run pins s σ H _ I h) fun v s1 hq => ?_⟩
  obtain ⟨x, H1, I1, r1, a, e, q⟩ := hq
  subst e
  cases r1
  have fr : ∀ b ∈ [s1.heap.objs.size], FpOk X pins H1 b := fun b hb => by
    have e := List.mem_singleton.mp hb
    subst e
    exact I1.fpOk (Nat.le_refl _) (I1.hok.fresh (Nat.le_refl _))
  rcases q with ⟨⟨xs, hq⟩, q⟩ | ⟨⟨xs, hq⟩, q⟩
  · obtain ⟨its, rv, p, hz⟩ := I1.list hq
    refine wpAny_pyIter_list p.isList ?_
    exact ⟨_, _, _, _, H1, rfl, I1.kept (t' := s1.toks) fun b o e => Heap.get?_push_of_some _ e, turn_list a _, ⟨_, Heap.get?_push_size _ rfl, rfl, rfl⟩, fr, q⟩
  · obtain ⟨its, rv, p, hz⟩ := I1.tuple hq
    refine wpAny_pyIter_tuple (show s1.heap.IsTuple a its.toArray from p) ?_
    exact ⟨_, _, _, _, H1, rfl, I1.kept (t' := s1.toks) fun b o e => Heap.get?_push_of_some _ e, turn_tuple a _, ⟨_, Heap.get?_push_size _ rfl, rfl, rfl⟩, fr, q⟩
section
variable {K : PySem.W.Frag} {d d' : Wd} {H H' : Hp} {a b : Addr} {vs us : List V} {xs ys : List PV} {μ : Store}
theorem it_tup (h : TupAt K d H a vs) (r : RVs K d H xs vs) : ItOk (K := K) d H (Itt K a) xs := fun d1 d2 H2 μ2 bb e w => by
  have h2 : TupAt K d2 H2 a vs := e.tupAt (h.imp (fun z => ⟨z.1, by rw [bb.1]; exact z.2⟩) id)
  have r2 : RVs K d2 H2 xs vs := (r.bars bb).mono e
  refine ⟨fun i x hx => ?_, fun i hi => ⟨vs, h2.sq, by rw [← r2.length]; exact hi⟩⟩
  obtain ⟨v, hv, rv⟩ := r2.get hx
  refine ⟨⟨vs, v, h2.sq, hv⟩, fun u H3 hy => ?_⟩
  obtain ⟨rfl, f⟩ := hy
  have e1 := f vs h2.sq
  rw [hv] at e1; cases e1
  exact ⟨.refl, w, rv⟩
theorem it_kl (h : KlAt K d H a vs) (r : RVs K d H xs vs) : ItOk (K := K) d H (Itl K a) xs := fun d1 d2 H2 μ2 bb e w => by
  have h2 : KlAt K d2 H2 a vs := e.klAt (h.imp (fun z => ⟨z.1, by rw [bb.1]; exact z.2.1, fun q => (bb.2 _ q).elim z.2.2 (Rd.ne z.1)⟩) id)
  have r2 : RVs K d2 H2 xs vs := (r.bars bb).mono e
  refine ⟨fun i x hx => ?_, fun i hi => ⟨vs, h2.sq, by rw [← r2.length]; exact hi⟩⟩
  obtain ⟨v, hv, rv⟩ := r2.get hx
  refine ⟨⟨vs, v, h2.sq, hv⟩, fun u H3 hy => ?_⟩
  obtain ⟨rfl, f⟩ := hy
  have e1 := f vs h2.sq
  rw [hv] at e1; cases e1
  exact ⟨.refl, w, rv⟩
theorem it_lst (h : LstAt d H a vs) (r : RVs K d H xs vs) : ItOk (K := K) d H (Itl K a) xs := it_kl (.inl ⟨.inl h.1, h.2⟩) r
def mSeqI (m : ME) : MI := fun ρ μ P => m ρ μ fun x μ1 => match x with | .tup xs => P xs μ1 | .lst xs => P xs μ1 | .kl xs => P xs μ1 | _ => False
instance {t m} [h : FE K t m] : FI K (iSeq K t) (mSeqI m) := ⟨fun d σ H ρ μ P R w e q k => by
  refine h.run d σ H ρ μ _ _ w e q fun d1 H1 μ1 x v e1 w1 r1 q1 => ?_
  cases x <;> try exact q1.elim
  · cases r1 with
    | tup ha hr => exact ⟨_, rfl, .inr ⟨⟨_, ha.sq⟩, k d1 H1 μ1 _ _ e1 w1 (it_tup ha hr) q1⟩⟩
  · cases r1 with
    | lst ha hr => exact ⟨_, rfl, .inl ⟨⟨_, ha.sq⟩, k d1 H1 μ1 _ _ e1 w1 (it_lst ha hr) q1⟩⟩
  · cases r1 with
    | kl ha hr => exact ⟨_, rfl, .inl ⟨⟨_, ha.sq⟩, k d1 H1 μ1 _ _ e1 w1 (it_kl ha hr) q1⟩⟩⟩
def rangeP (lo : Int) (n : Nat) : List PV := (List.range n).map fun i => .int (lo + (i : Nat))
theorem rangeP_get {lo : Int} {n i : Nat} {x : PV} (h : (rangeP lo n)[i]? = some x) : i < n ∧ x = .int (lo + (i : Nat)) := by
  unfold rangeP at h
  rw [List.getElem?_map] at h
  cases e : (List.range n)[i]? with
  | none => rw [e] at h; cases h
  | some j =>
    rw [e] at h; cases h
    obtain ⟨h1, h2⟩ := List.getElem?_eq_some_iff.mp e
    rw [List.length_range] at h1
    rw [List.getElem_range] at h2
    subst h2
    exact ⟨h1, rfl⟩
theorem it_rng (lo : Int) (n : Nat) : ItOk (K := K) d H (Itr lo n) (rangeP lo n) := fun d1 d2 H2 μ2 bb e w => by
  refine ⟨fun i x hx => ?_, fun i hi => show n ≤ i by simpa [rangeP] using hi⟩
  obtain ⟨h1, rfl⟩ := rangeP_get hx
  refine ⟨h1, fun u H3 hy => ?_⟩
  obtain ⟨rfl, rfl⟩ := hy
  exact ⟨.refl, w, .int _⟩
def mRng1 (m : MA) : MI := fun ρ μ P => m ρ μ fun xs μ1 => match xs with | [.int j] => (-1000000000000 ≤ j ∧ j ≤ 1000000000000) ∧ P (rangeP 0 j.toNat) μ1 | _ => False
def mRng2 (m : MA) : MI := fun ρ μ P => m ρ μ fun xs μ1 => match xs with | [.int i, .int j] => (-1000000000000 ≤ i ∧ i ≤ 1000000000000 ∧ -1000000000000 ≤ j ∧ j ≤ 1000000000000) ∧ P (rangeP i (j - i).toNat) μ1 | _ => False
instance {t m} [h : FA K t m] : FI K (iRng1 t) (mRng1 m) := ⟨fun d σ H ρ μ P R w e q k => by
  refine h.run d σ H ρ μ _ _ w e q fun d1 H1 μ1 xs vs e1 w1 r1 q1 => ?_
  match xs, r1, q1 with
  | [.int j], .cons (.int _) .nil, ⟨z, q1⟩ => exact ⟨j, rfl, by omega, by omega, k d1 H1 μ1 _ _ e1 w1 (it_rng 0 j.toNat) q1⟩⟩
instance {t m} [h : FA K t m] : FI K (iRng2 t) (mRng2 m) := ⟨fun d σ H ρ μ P R w e q k => by
  refine h.run d σ H ρ μ _ _ w e q fun d1 H1 μ1 xs vs e1 w1 r1 q1 => ?_
  match xs, r1, q1 with
  | [.int i, .int j], .cons (.int _) (.cons (.int _) .nil), ⟨z, q1⟩ => exact ⟨i, j, rfl, by omega, k d1 H1 μ1 _ _ e1 w1 (it_rng i (j - i).toNat) q1⟩⟩
def zipP : List PV → List PV → List PV
  | x :: xs, y :: ys => .tup [x, y] :: zipP xs ys
  | _, _ => []
theorem zipP_get : ∀ {xs ys : List PV} {i : Nat} {z : PV}, (zipP xs ys)[i]? = some z → ∃ x y, xs[i]? = some x ∧ ys[i]? = some y ∧ z = .tup [x, y]
  | [], _, _, _, h => by simp [zipP] at h
  | _ :: _, [], _, _, h => by simp [zipP] at h
  | x :: xs, y :: ys, 0, z, h => by
    simp [zipP] at h
    exact ⟨x, y, rfl, rfl, h.symm⟩
  | x :: xs, y :: ys, i + 1, z, h => by
    simp only [zipP, List.getElem?_cons_succ] at h
    obtain ⟨a, b, h1, h2, h3⟩ := zipP_get h
    exact ⟨a, b, by simpa using h1, by simpa using h2, h3⟩
theorem zipP_length : ∀ xs ys : List PV, (zipP xs ys).length = min xs.length ys.length
  | [], _ => by simp [zipP]
  | _ :: _, [] => by simp [zipP]
  | x :: xs, y :: ys => by simp [zipP, zipP_length xs ys]
theorem tup_pair {x y : PV} {v u : V} {T : Addr} (w : WOk K d H μ) (hT : H T = none) (rx : RV K d H x v) (ry : RV K d H y u) : Ext d H d (upd H T (.tup [v, u])) ∧ WOk K d (upd H T (.tup [v, u])) μ ∧ RV K d (upd H T (.tup [v, u])) (.tup [x, y]) (.ref T) :=
  ⟨Ext.lay w hT, w.lay hT, lay_tup w (.cons rx (.cons ry .nil)) hT⟩
theorem it_zipT (h : TupAt K d H a vs) (r : RVs K d H xs vs) (h' : TupAt K d H b us) (r' : RVs K d H ys us) : ItOk (K := K) d H (ItzT K a b) (zipP xs ys) := fun d1 d2 H2 μ2 bb e w => by
  have h2 : TupAt K d2 H2 a vs := e.tupAt (h.imp (fun z => ⟨z.1, by rw [bb.1]; exact z.2⟩) id)
  have r2 : RVs K d2 H2 xs vs := (r.bars bb).mono e
  have h2' : TupAt K d2 H2 b us := e.tupAt (h'.imp (fun z => ⟨z.1, by rw [bb.1]; exact z.2⟩) id)
  have r2' : RVs K d2 H2 ys us := (r'.bars bb).mono e
  refine ⟨fun i z hz => ?_, fun i hi => ⟨vs, us, h2.sq, h2'.sq, ?_⟩⟩
  · obtain ⟨x, y, hx, hy, rfl⟩ := zipP_get hz
    obtain ⟨v, hv, rv⟩ := r2.get hx
    obtain ⟨u, hu, ru⟩ := r2'.get hy
    refine ⟨⟨vs, us, v, u, h2.sq, h2'.sq, hv, hu⟩, fun t H3 hy => ?_⟩
    obtain ⟨T, x', y', rfl, hT, rfl, f, g⟩ := hy
    have e1 := f vs h2.sq
    have e2 := g us h2'.sq
    rw [hv] at e1; cases e1
    rw [hu] at e2; cases e2
    exact tup_pair w hT rv ru
  · rw [zipP_length] at hi
    rw [← r2.length, ← r2'.length]
    omega
theorem it_zipL (h : LstAt d H a vs) (r : RVs K d H xs vs) (h' : LstAt d H b us) (r' : RVs K d H ys us) : ItOk (K := K) d H (Itz K a b) (zipP xs ys) := fun d1 d2 H2 μ2 bb e w => by
  have bl : ∀ {c : Addr} {ws : List V}, LstAt d H c ws → LstAt d2 H2 c ws := fun h => e.lstAt ⟨h.1, by rw [bb.1]; exact h.2.1, fun q => (bb.2 _ q).elim h.2.2 (by rw [h.1]; simp)⟩
  have h2 := bl h
  have r2 : RVs K d2 H2 xs vs := (r.bars bb).mono e
  have h2' := bl h'
  have r2' : RVs K d2 H2 ys us := (r'.bars bb).mono e
  refine ⟨fun i z hz => ?_, fun i hi => ⟨vs, us, h2.sq, h2'.sq, ?_⟩⟩
  · obtain ⟨x, y, hx, hy, rfl⟩ := zipP_get hz
    obtain ⟨v, hv, rv⟩ := r2.get hx
    obtain ⟨u, hu, ru⟩ := r2'.get hy
    refine ⟨⟨vs, us, v, u, h2.sq, h2'.sq, hv, hu⟩, fun t H3 hy => ?_⟩
    obtain ⟨T, x', y', rfl, hT, rfl, f, g⟩ := hy
    have e1 := f vs h2.sq
    have e2 := g us h2'.sq
    rw [hv] at e1; cases e1
    rw [hu] at e2; cases e2
    exact tup_pair w hT rv ru
  · rw [zipP_length] at hi
    rw [← r2.length, ← r2'.length]
    omega
def mZip (m : MA) : MI := fun ρ μ P => m ρ μ fun zs μ1 => match zs with | [.tup xs, .tup ys] => P (zipP xs ys) μ1 | [.lst xs, .lst ys] => P (zipP xs ys) μ1 | _ => False
instance {t m} [h : FA K t m] : FI K (iZipA K t) (mZip m) := ⟨fun d σ H ρ μ P R w e q k => by
  refine h.run d σ H ρ μ _ _ w e q fun d1 H1 μ1 zs vs e1 w1 r1 q1 => ?_
  match zs, r1, q1 with
  | [.tup xs, .tup ys], .cons (.tup ha hr) (.cons (.tup ha' hr') .nil), q1 => exact ⟨_, _, _, _, rfl, .inr ⟨ha.sq, ha'.sq, k d1 H1 μ1 _ _ e1 w1 (it_zipT ha hr ha' hr') q1⟩⟩
  | [.lst xs, .lst ys], .cons (.lst ha hr) (.cons (.lst ha' hr') .nil), q1 => exact ⟨_, _, _, _, rfl, .inl ⟨ha.sq, ha'.sq, k d1 H1 μ1 _ _ e1 w1 (it_zipL ha hr ha' hr') q1⟩⟩⟩
end
end Fx

/-! Fx5: operators, built-ins and methods by plain values. -/
namespace Fx
open PySem PySem.Spec PyProof.Rows L2 RZ
section
variable {K : PySem.W.Frag} {d d' : Wd} {H H' : Hp} {a b : Addr} {vs us : List V} {xs ys : List PV} {μ : Store}
theorem WOk.obj (w : WOk K d H μ) {n : Nat} {m : MO} (h : d.am[n]? = some a) (hm : μ[n]? = some m) : MOK K d H a m := w.ob n a m h hm
theorem WOk.has (w : WOk K d H μ) {n : Nat} {m : MO} (hm : μ[n]? = some m) : ∃ a, d.am[n]? = some a := by
  have : n < d.am.length := by rw [w.len]; exact (List.getElem?_eq_some_iff.mp hm).1
  exact ⟨d.am[n], List.getElem?_eq_getElem this⟩
theorem RVs.atI {i : Int} {x : PV} (r : RVs K d H xs vs) (h : atI xs i = some x) : ∃ v, L2.atI vs i = some v ∧ RV K d H x v := by
  unfold L2.atI at h ⊢
  rw [← r.length]
  cases e : ixN xs.length i with
  | none => rw [e] at h; cases h
  | some j =>
    rw [e] at h
    exact r.get h
/-! ### xs[i] -/
/-- the items of a sequence -/
def itemsOf (x : PV) (μ : Store) : Option (List PV) := match x with
  | .tup xs => some xs
  | .lst xs => some xs
  | .kl xs => some xs
  | .mr n => match μ[n]? with | some (.lst xs) => some xs | _ => none
  | _ => none
def pIx : MO2 := fun x y μ P => match y with | .int i => (match itemsOf x μ with | some xs => (match atI xs i with | some v => P v μ | none => False) | none => False) | _ => False
theorem seq_of {x : PV} {v : V} (w : WOk K d H μ) (r : RV K d H x v) (h : itemsOf x μ = some xs) : ∃ a vs, v = .ref a ∧ RVs K d H xs vs ∧ (SqL K H a vs ∨ SqT K H a vs) := by
  cases r with
  | tup h1 h2 => cases h; exact ⟨_, _, rfl, h2, .inr h1.sq⟩
  | lst h1 h2 => cases h; exact ⟨_, _, rfl, h2, .inl h1.sq⟩
  | kl h1 h2 => cases h; exact ⟨_, _, rfl, h2, .inl h1.sq⟩
  | @mr n a h1 =>
    unfold itemsOf at h
    cases e : μ[n]? with
    | none => simp [e] at h
    | some m =>
      cases m with
      | lst zs =>
        simp [e] at h
        subst h
        obtain ⟨vs, q, r⟩ := w.obj h1 e
        exact ⟨_, _, rfl, r, .inl (.of q)⟩
      | dk _ => simp [e] at h
      | fd _ _ _ => simp [e] at h
  | _ => cases h
instance : F2 K (rIx K) pIx := ⟨fun d H μ x y v u P Q w r1 r2 q k => by
  unfold pIx at q
  cases y <;> try exact q.elim
  cases r2
  rename_i i
  cases e : itemsOf x μ with
  | none => rw [e] at q; exact q.elim
  | some xs =>
    rw [e] at q
    simp only at q
    obtain ⟨a, vs, rfl, rv, hq⟩ := seq_of w r1 e
    cases e2 : atI xs i with
    | none => rw [e2] at q; exact q.elim
    | some z =>
      rw [e2] at q
      obtain ⟨v', hv, rz⟩ := rv.atI e2
      have fin := k d H μ _ _ .refl w rz q
      rcases hq with hq | hq
      · exact .inl ⟨a, vs, i, v', rfl, rfl, hq, hv, fin⟩
      · exact .inr (.inl ⟨a, vs, i, v', rfl, rfl, hq, hv, fin⟩)⟩

/-! ### equality -/
def scalP : PV → PV → Option Bool
  | .int i, .int j => some (decide (i = j))
  | .bl i, .bl j => some (decide (i = j))
  | .str i, .str j => some (decide (i = j))
  | .non, .non => some true
  | .non, .int _ => some false | .int _, .non => some false | .non, .bl _ => some false | .bl _, .non => some false | .non, .str _ => some false | .str _, .non => some false
  | .int _, .str _ => some false | .str _, .int _ => some false | .bl _, .str _ => some false | .str _, .bl _ => some false
  | _, _ => none
mutual
def datP : PV → Option PyData
  | .non => some .none
  | .bl b => some (.bool b)
  | .int i => some (.int i)
  | .str x => some (.str x)
  | .tup xs => (datPs xs).map .tuple
  | .lst xs => (datPs xs).map .list
  | .ty _ => none
  | .kl _ => none
  | .mr _ => none
def datPs : List PV → Option (List PyData)
  | [] => some []
  | x :: xs => match datP x, datPs xs with | some d, some ds => some (d :: ds) | _, _ => none
end
mutual
theorem dat_dp : ∀ {x : PV} {v : V} {e : PyData}, RV K d H x v → datP x = some e → Dp K H v e
  | _, _, _, .non, h => by cases h; exact .non
  | _, _, _, .bl b, h => by cases h; exact .bl b
  | _, _, _, .int i, h => by cases h; exact .int i
  | _, _, _, .str x, h => by cases h; exact .str x
  | _, _, _, .ty n, h => by simp [datP] at h
  | .tup xs, _, _, .tup h1 r, h => by
    simp only [datP] at h
    cases e : datPs xs with
    | none => rw [e] at h; cases h
    | some ds => rw [e] at h; cases h; exact .tup h1.sq (dats_dp r e)
  | .lst xs, _, _, .lst h1 r, h => by
    simp only [datP] at h
    cases e : datPs xs with
    | none => rw [e] at h; cases h
    | some ds => rw [e] at h; cases h; exact .lst h1.sq (dats_dp r e)
  | _, _, _, .kl _ _, h => by simp [datP] at h
  | _, _, _, .mr n, h => by simp [datP] at h
theorem dats_dp : ∀ {xs : List PV} {vs : List V} {es : List PyData}, RVs K d H xs vs → datPs xs = some es → DpAll K H vs es
  | _, _, _, .nil, h => by simp [datPs] at h; subst h; exact .nil
  | x :: xs, _, _, .cons r t, h => by
    simp only [datPs] at h
    cases e1 : datP x with
    | none => rw [e1] at h; simp at h
    | some d1 =>
      cases e2 : datPs xs with
      | none => rw [e1, e2] at h; simp at h
      | some ds => rw [e1, e2] at h; simp at h; subst h; exact .cons (dat_dp r e1) (dats_dp t e2)
end
/-- the list of a thing that changes, as data -/
def frzP (x : PV) (μ : Store) : PV := match x with | .mr n => (match μ[n]? with | some (.lst xs) => .lst xs | _ => x) | _ => x
theorem frz_dp {x : PV} {v : V} {e : PyData} (w : WOk K d H μ) (r : RV K d H x v) (h : datP (frzP x μ) = some e) : Dp K H v e := by
  match x, r, h with
  | .mr n, .mr (a := a) h1, h =>
    unfold frzP at h
    cases q : μ[n]? with
    | none => simp [q, datP] at h
    | some m =>
      cases m with
      | dk _ => simp [q, datP] at h
      | fd _ _ _ => simp [q, datP] at h
      | lst zs =>
        simp only [q, datP] at h
        cases e : datPs zs with
        | none => rw [e] at h; cases h
        | some ds =>
          rw [e] at h; cases h
          obtain ⟨vs, q, r⟩ := w.obj h1 q
          exact .lst (.of q) (dats_dp r e)
  | .non, r, h => exact dat_dp r h
  | .bl _, r, h => exact dat_dp r h
  | .int _, r, h => exact dat_dp r h
  | .str _, r, h => exact dat_dp r h
  | .ty _, r, h => exact dat_dp r h
  | .tup _, r, h => exact dat_dp r h
  | .lst _, r, h => exact dat_dp r h
  | .kl _, r, h => exact dat_dp r h
def eqP (x y : PV) (μ : Store) : Option Bool := match scalP x y with
  | some b => some b
  | none => match datP (frzP x μ), datP (frzP y μ) with
    | some a, some b => if SeqAt.shaped a = true ∧ SeqAt.shaped b = true then some (PyData.eqv a b) else none
    | _, _ => none
def rEqX (K : PySem.W.Frag) : R2 := fun x y H Q => rEq x y H Q ∨ rEqD K x y H Q
def rNeX (K : PySem.W.Frag) : R2 := fun x y H Q => rNe x y H Q ∨ rNeD K x y H Q
theorem op_eqX {X : Cx} (hu : X.A.units + 64 < cLine) : OpR X (compareOp .Eq) (rEqX X.K) := fun pins s σ H x y v u Q I rx ry h =>
  h.elim (op_eq pins s σ H x y v u Q I rx ry) (op_eqD hu pins s σ H x y v u Q I rx ry)
theorem op_neX {X : Cx} (hu : X.A.units + 64 < cLine) : OpR X (compareOp .NotEq) (rNeX X.K) := fun pins s σ H x y v u Q I rx ry h =>
  h.elim (op_ne pins s σ H x y v u Q I rx ry) (op_neD hu pins s σ H x y v u Q I rx ry)
def pEq : MO2 := fun x y μ P => match eqP x y μ with | some b => P (.bl b) μ | none => False
def pNe : MO2 := fun x y μ P => match eqP x y μ with | some b => P (.bl (!b)) μ | none => False
theorem scal_rv {x y : PV} {v u : V} {c : Bool} (r1 : RV K d H x v) (r2 : RV K d H y u) (h : scalP x y = some c) : scal v u = true ∧ decide (v = u) = c := by
  cases r1 <;> cases r2 <;> simp [scalP] at h <;> subst h <;> simp [scal]
theorem eq_run {x y : PV} {v u : V} {c : Bool} (w : WOk K d H μ) (r1 : RV K d H x v) (r2 : RV K d H y u) (h : eqP x y μ = some c) :
    (scal v u = true ∧ decide (v = u) = c) ∨ ∃ a b, Dp K H v a ∧ Dp K H u b ∧ SeqAt.shaped a = true ∧ SeqAt.shaped b = true ∧ PyData.eqv a b = c := by
  unfold eqP at h
  cases e : scalP x y with
  | some c' => rw [e] at h; cases h; exact .inl (scal_rv r1 r2 e)
  | none =>
    rw [e] at h
    simp only at h
    cases e1 : datP (frzP x μ) with
    | none => rw [e1] at h; cases h
    | some a =>
      cases e2 : datP (frzP y μ) with
      | none => rw [e1, e2] at h; cases h
      | some b =>
        rw [e1, e2] at h
        simp only at h
        split at h
        · rename_i hs
          cases h
          exact .inr ⟨a, b, frz_dp w r1 e1, frz_dp w r2 e2, hs.1, hs.2, rfl⟩
        · cases h
instance : F2 K (rEqX K) pEq := ⟨fun d H μ x y v u P Q w r1 r2 q k => by
  unfold pEq at q
  cases e : eqP x y μ with
  | none => rw [e] at q; exact q.elim
  | some c =>
    rw [e] at q
    have fin := k d H μ _ _ .refl w (.bl c) q
    rcases eq_run w r1 r2 e with ⟨h1, h2⟩ | ⟨a, b, h1, h2, h3, h4, h5⟩
    · exact .inl ⟨h1, by rw [h2]; exact fin⟩
    · exact .inr ⟨a, b, h1, h2, h3, h4, by rw [h5]; exact fin⟩⟩
instance : F2 K (rNeX K) pNe := ⟨fun d H μ x y v u P Q w r1 r2 q k => by
  unfold pNe at q
  cases e : eqP x y μ with
  | none => rw [e] at q; exact q.elim
  | some c =>
    rw [e] at q
    have fin := k d H μ _ _ .refl w (.bl (!c)) q
    rcases eq_run w r1 r2 e with ⟨h1, h2⟩ | ⟨a, b, h1, h2, h3, h4, h5⟩
    · exact .inl ⟨h1, by rw [h2]; exact fin⟩
    · exact .inr ⟨a, b, h1, h2, h3, h4, by rw [h5]; exact fin⟩⟩
/-! ### x in xs, items that are no tuples -/
def flatP : PV → Bool
  | .non => true | .bl _ => true | .int _ => true | .str _ => true | _ => false
def eqFlat : PV → PV → Bool
  | .non, .non => true
  | .bl a, .bl b => a == b
  | .bl a, .int b => (if a then 1 else 0) == b
  | .int a, .bl b => a == (if b then 1 else 0)
  | .int a, .int b => a == b
  | .str a, .str b => a == b
  | _, _ => false
def inP (x : PV) (xs : List PV) : Bool := xs.any fun y => eqFlat y x
theorem flat_rv {x : PV} {v : V} (r : RV K d H x v) : flatP x = true → flatV v = true := by
  cases r <;> simp [flatP, flatV]
theorem flats_rv : ∀ {xs : List PV} {vs : List V}, RVs K d H xs vs → xs.all flatP = true → vs.all flatV = true
  | _, _, .nil, _ => rfl
  | _, _, .cons r t, h => by
    rw [List.all_cons, Bool.and_eq_true] at h ⊢
    exact ⟨flat_rv r h.1, flats_rv t h.2⟩
theorem eqFlat_rv {x y : PV} {v u : V} (r : RV K d H x v) (r' : RV K d H y u) (h : flatP x = true) (h' : flatP y = true) : eqV v u = eqFlat x y := by
  cases r <;> simp [flatP] at h <;> cases r' <;> simp [flatP] at h' <;> rfl
theorem in_rv {x : PV} {v : V} (r : RV K d H x v) (h : flatP x = true) : ∀ {xs : List PV} {vs : List V}, RVs K d H xs vs → xs.all flatP = true → inV v vs = inP x xs
  | _, _, .nil, _ => rfl
  | _, _, .cons r' t, h' => by
    rw [List.all_cons, Bool.and_eq_true] at h'
    show ((eqV _ v) || inV v _) = (eqFlat _ x || inP x _)
    rw [eqFlat_rv r' r h'.1 h, in_rv r h t h'.2]
def pIn (neg : Bool) : MO2 := fun x y μ P => match itemsOf y μ with | some xs => (flatP x = true ∧ xs.all flatP = true) ∧ P (.bl (if neg then !inP x xs else inP x xs)) μ | none => False
instance {neg} : F2 K (rIn K neg) (pIn neg) := ⟨fun d H μ x y v u P Q w r1 r2 q k => by
  unfold pIn at q
  cases e : itemsOf y μ with
  | none => rw [e] at q; exact q.elim
  | some xs =>
    rw [e] at q
    obtain ⟨⟨h1, h2⟩, q⟩ := q
    obtain ⟨a, vs, rfl, rv, hq⟩ := seq_of w r2 e
    refine ⟨a, vs, rfl, hq, flat_rv r1 h1, flats_rv rv h2, ?_⟩
    rw [in_rv r1 h1 rv h2]
    exact k d H μ _ _ .refl w (.bl _) q⟩
/-! ### is, for bools -/
def pIsB (neg : Bool) : MO2 := fun x y μ P => match x, y with | .bl a, .bl b => P (.bl (if neg then !decide (a = b) else decide (a = b))) μ | _, _ => False
instance : F2 K rIsB (pIsB false) := ⟨fun d H μ x y v u P Q w r1 r2 q k => by
  cases x <;> try exact q.elim
  cases y <;> try exact q.elim
  cases r1; cases r2
  exact ⟨_, _, rfl, rfl, k d H μ _ _ .refl w (.bl _) q⟩⟩
instance : F2 K rNotB (pIsB true) := ⟨fun d H μ x y v u P Q w r1 r2 q k => by
  cases x <;> try exact q.elim
  cases y <;> try exact q.elim
  cases r1; cases r2
  exact ⟨_, _, rfl, rfl, k d H μ _ _ .refl w (.bl _) q⟩⟩
/-! ### tuples joined -/
def pCatT : MO2 := fun x y μ P => match x, y with | .tup xs, .tup ys => xs.length + ys.length ≤ lim ∧ P (.tup (xs ++ ys)) μ | _, _ => False
instance : F2 K (rCatA K) pCatT := ⟨fun d H μ x y v u P Q w r1 r2 q k => by
  cases x <;> try exact q.elim
  cases y <;> try exact q.elim
  rename_i xs ys
  obtain ⟨z, q⟩ := q
  cases r1 with
  | @tup _ a vs h1 h2 =>
    cases r2 with
    | @tup _ b us h3 h4 =>
      refine ⟨a, b, vs, us, rfl, rfl, h1.sq, h3.sq, by rw [← h2.length, ← h4.length]; exact lim_lt z, fun e => ?_, fun e1 e2 => ?_, fun e1 e2 p hp => ?_⟩
      · subst e
        cases h2
        exact k d H μ _ _ .refl w (.tup h3 h4) (by simpa using q)
      · subst e2
        cases h4
        exact k d H μ _ _ .refl w (.tup h1 h2) (by simpa using q)
      · exact k d _ μ _ _ (Ext.lay w hp) (w.lay hp) (lay_tup w (h2.append h4) hp) q⟩
/-! ### slices -/
class FO (K : PySem.W.Frag) (t : TO) (m : outParam (PEnv → Store → (Option Int → Store → Prop) → Prop)) : Prop where
  run : ∀ (d : Wd) (σ : L2.St) (H : Hp) (ρ : PEnv) (μ : Store) (P : Option Int → Store → Prop) (Q : Option Int → Hp → Prop), WOk K d H μ → REnv K d H ρ σ → m ρ μ P →
    (∀ d' H' μ' o, Ext d H d' H' → WOk K d' H' μ' → P o μ' → Q o H') → t σ H Q
def mNoPart : PEnv → Store → (Option Int → Store → Prop) → Prop := fun _ μ P => P none μ
def mPart (m : ME) : PEnv → Store → (Option Int → Store → Prop) → Prop := fun ρ μ P => m ρ μ fun x μ1 => match x with | .int i => P (some i) μ1 | _ => False
instance : FO K tNoPart mNoPart := ⟨fun d σ H ρ μ P Q w e q k => k d H μ none .refl w q⟩
instance {t m} [h : FE K t m] : FO K (tPart t) (mPart m) := ⟨fun d σ H ρ μ P Q w e q k => by
  refine h.run d σ H ρ μ _ _ w e q fun d1 H1 μ1 x v e1 w1 r1 q1 => ?_
  cases x <;> try exact q1.elim
  cases r1
  exact ⟨_, rfl, k d1 H1 μ1 _ e1 w1 q1⟩⟩
def cutP (xs : List PV) (lo hi : Option Int) : List PV := (xs.drop (HT.sIx xs.length 0 lo)).take (HT.sIx xs.length xs.length hi - HT.sIx xs.length 0 lo)
theorem RVs.cut (r : RVs K d H xs vs) (lo hi : Option Int) : RVs K d H (cutP xs lo hi) (cutV vs lo hi) := by
  unfold cutP cutV
  rw [← r.length]
  exact (r.drop _).take _
theorem cut_whole {xs : List PV} {lo hi : Option Int} (h : HT.sIx xs.length 0 lo = 0 ∧ HT.sIx xs.length xs.length hi = xs.length) : cutP xs lo hi = xs := by
  unfold cutP
  rw [h.1, h.2]
  simp
def mSl (m : ME) (lo hi : PEnv → Store → (Option Int → Store → Prop) → Prop) : ME := fun ρ μ P => m ρ μ fun x μ1 => lo ρ μ1 fun l μ2 => hi ρ μ2 fun h μ3 => match x with | .tup xs => P (.tup (cutP xs l h)) μ3 | .lst xs => P (.lst (cutP xs l h)) μ3 | .kl xs => P (.lst (cutP xs l h)) μ3 | .mr n => (match μ3[n]? with | some (.lst xs) => P (.lst (cutP xs l h)) μ3 | _ => False) | _ => False
/-- a slice of a list or a tuple -/
def rSlX (K : PySem.W.Frag) : V → Option Int → Option Int → Hp → VK → Prop := fun x lo hi H Q => rSlL K x lo hi H Q ∨ rSlA K x lo hi H Q
theorem sl_any {X : Cx} : SlR X (rSlX X.K) := SlR.or sl_list sl_tupA
instance {t m lo hi ml mh} [h : FE K t m] [hl : FO K lo ml] [hh : FO K hi mh] : FE K (tSl (rSlX K) t lo hi) (mSl m ml mh) := ⟨fun d σ H ρ μ P Q w e q k => by
  refine h.run d σ H ρ μ _ _ w e q fun d1 H1 μ1 x v e1 w1 r1 q1 => ?_
  refine hl.run d1 σ H1 ρ μ1 _ _ w1 (e.mono e1) q1 fun d2 H2 μ2 l e2 w2 q2 => ?_
  refine hh.run d2 σ H2 ρ μ2 _ _ w2 (e.mono (e1.trans e2)) q2 fun d3 H3 μ3 h e3 w3 q3 => ?_
  have E3 := (e1.trans e2).trans e3
  have r3 := r1.mono (e2.trans e3)
  cases r3 with
  | @tup xs a vs h1 h2 =>
    refine .inr ⟨a, vs, rfl, h1.sq, fun z => ?_, fun z p hp => ?_⟩
    · have q3' : P (.tup (cutP xs l h)) μ3 := q3
      rw [cut_whole (by rw [h2.length]; exact z)] at q3'
      exact k d3 H3 μ3 _ _ E3 w3 (.tup h1 h2) q3'
    · exact k d3 _ μ3 _ _ (E3.trans (Ext.lay w3 hp)) (w3.lay hp) (lay_tup w3 (h2.cut l h) hp) q3
  | @lst xs a vs h1 h2 =>
    exact .inl ⟨a, vs, rfl, h1.sq, fun p hp => k d3 _ μ3 _ _ (E3.trans (Ext.lay w3 hp)) (w3.lay hp) (lay_lst w3 (h2.cut l h) hp) q3⟩
  | @kl xs a vs h1 h2 =>
    exact .inl ⟨a, vs, rfl, h1.sq, fun p hp => k d3 _ μ3 _ _ (E3.trans (Ext.lay w3 hp)) (w3.lay hp) (lay_lst w3 (h2.cut l h) hp) q3⟩
  | @mr n a h1 =>
    simp only at q3
    cases e4 : μ3[n]? with
    | none => rw [e4] at q3; exact q3.elim
    | some m =>
      cases m with
      | dk _ => rw [e4] at q3; exact q3.elim
      | fd _ _ _ => rw [e4] at q3; exact q3.elim
      | lst zs =>
        rw [e4] at q3
        obtain ⟨vs, q, r⟩ := w3.obj h1 e4
        exact .inl ⟨a, vs, rfl, .of q, fun p hp => k d3 _ μ3 _ _ (E3.trans (Ext.lay w3 hp)) (w3.lay hp) (lay_lst w3 (r.cut l h) hp) q3⟩
  | _ => exact q3.elim⟩
/-- xs[::-1] -/
def mRevL (m : ME) : ME := fun ρ μ P => m ρ μ fun x μ1 => match itemsOf x μ1 with | some xs => (match x with | .tup _ => False | _ => P (.lst xs.reverse) μ1) | none => False
def tRevLM (K : PySem.W.Frag) (te : TE) : TE := tRevL K te
def mRevLM (m : ME) : ME := fun ρ μ P => m ρ μ fun x μ1 => match itemsOf x μ1 with | some xs => (match x with | .tup _ => False | _ => P (.mr μ1.length) (μ1 ++ [.lst xs.reverse])) | none => False
theorem seqL_of {x : PV} {v : V} (w : WOk K d H μ) (r : RV K d H x v) (h : itemsOf x μ = some xs) (hx : ∀ ys, x ≠ .tup ys) : ∃ a vs, v = .ref a ∧ RVs K d H xs vs ∧ SqL K H a vs := by
  cases r with
  | tup h1 h2 => exact absurd rfl (hx _)
  | lst h1 h2 => cases h; exact ⟨_, _, rfl, h2, h1.sq⟩
  | kl h1 h2 => cases h; exact ⟨_, _, rfl, h2, h1.sq⟩
  | @mr n a h1 =>
    unfold itemsOf at h
    cases e : μ[n]? with
    | none => simp [e] at h
    | some m =>
      cases m with
      | lst zs =>
        simp [e] at h
        subst h
        obtain ⟨vs, q, r⟩ := w.obj h1 e
        exact ⟨_, _, rfl, r, .of q⟩
      | dk _ => simp [e] at h
      | fd _ _ _ => simp [e] at h
  | _ => cases h
instance {t m} [h : FE K t m] : FE K (tRevL K t) (mRevL m) := ⟨fun d σ H ρ μ P Q w e q k => by
  refine h.run d σ H ρ μ _ _ w e q fun d1 H1 μ1 x v e1 w1 r1 q1 => ?_
  cases e2 : itemsOf x μ1 with
  | none => rw [e2] at q1; exact q1.elim
  | some xs =>
    rw [e2] at q1
    simp only at q1
    have hx : ∀ ys, x ≠ .tup ys := by rintro ys rfl; exact q1
    obtain ⟨a, vs, rfl, rv, hq⟩ := seqL_of w1 r1 e2 hx
    refine ⟨a, vs, rfl, hq, fun p hp => ?_⟩
    refine k d1 _ μ1 _ _ (e1.trans (Ext.lay w1 hp)) (w1.lay hp) (lay_lst w1 rv.rev hp) ?_
    cases x <;> first | exact q1.elim | exact q1⟩
instance {t m} [h : FE K t m] : FE K (tRevLM K t) (mRevLM m) := ⟨fun d σ H ρ μ P Q w e q k => by
  refine h.run d σ H ρ μ _ _ w e q fun d1 H1 μ1 x v e1 w1 r1 q1 => ?_
  cases e2 : itemsOf x μ1 with
  | none => rw [e2] at q1; exact q1.elim
  | some xs =>
    rw [e2] at q1
    simp only at q1
    have hx : ∀ ys, x ≠ .tup ys := by rintro ys rfl; exact q1
    obtain ⟨a, vs, rfl, rv, hq⟩ := seqL_of w1 r1 e2 hx
    refine ⟨a, vs, rfl, hq, fun p hp => ?_⟩
    have ee := Ext.push (o := .lst vs.reverse) w1 hp
    refine k (d1.push p) _ _ _ _ (e1.trans ee) (w1.push (m := .lst xs.reverse) hp ⟨_, upd_same, rv.rev.mono ee⟩) (lay_mr w1) ?_
    cases x <;> first | exact q1.elim | exact q1⟩
end
end Fx

/-! Fx6: built-ins and methods by plain values. -/
namespace Fx
open PySem PySem.Spec PyProof.Rows L2 RZ
section
variable {K : PySem.W.Frag} {d d' : Wd} {H H' : Hp} {a b : Addr} {vs us : List V} {xs ys : List PV} {μ : Store}
def mCB (p : MB) (t : MA) : ME := fun ρ μ P => t ρ μ fun xs μ1 => p xs μ1 P
instance {r p t m} [h : FB K r p] [ht : FA K t m] : FE K (tCB r t) (mCB p m) := ⟨fun d σ H ρ μ P Q w e q k => by
  refine ht.run d σ H ρ μ _ _ w e q fun d1 H1 μ1 xs vs e1 w1 r1 q1 => ?_
  exact h.run d1 H1 μ1 xs vs P Q w1 r1 q1 fun d2 H2 μ2 z w' e2 => k d2 H2 μ2 z w' (e1.trans e2)⟩
/-! ### of numbers -/
def rAbs : List V → Hp → VK → Prop := fun xs H Q => ∃ i, xs = [.int i] ∧ Q (.int (if i < 0 then -i else i)) H
theorem cb_abs {X : Cx} : CallR X (.builtin "abs") rAbs := call_abs
def pAbs : MB := fun xs μ P => match xs with | [.int i] => P (.int (if i < 0 then -i else i)) μ | _ => False
instance : FB K rAbs pAbs := ⟨fun d H μ xs vs P Q w r q k => by
  match xs, r, q with
  | [.int i], .cons (.int _) .nil, q => exact ⟨i, rfl, k d H μ _ _ .refl w (.int _) q⟩⟩
def rMax2 : List V → Hp → VK → Prop := fun xs H Q => ∃ i j, xs = [.int i, .int j] ∧ Q (.int (if j > i then j else i)) H
theorem cb_max2 {X : Cx} (hc : X.calm = true) : CallR X (.builtin "max") rMax2 := call_max2 hc
def rMin2 : List V → Hp → VK → Prop := fun xs H Q => ∃ i j, xs = [.int i, .int j] ∧ Q (.int (if j < i then j else i)) H
theorem cb_min2 {X : Cx} (hc : X.calm = true) : CallR X (.builtin "min") rMin2 := call_min2 hc
def pMax2 : MB := fun xs μ P => match xs with | [.int i, .int j] => P (.int (if j > i then j else i)) μ | _ => False
def pMin2 : MB := fun xs μ P => match xs with | [.int i, .int j] => P (.int (if j < i then j else i)) μ | _ => False
instance : FB K rMax2 pMax2 := ⟨fun d H μ xs vs P Q w r q k => by
  match xs, r, q with
  | [.int i, .int j], .cons (.int _) (.cons (.int _) .nil), q => exact ⟨i, j, rfl, k d H μ _ _ .refl w (.int _) q⟩⟩
instance : FB K rMin2 pMin2 := ⟨fun d H μ xs vs P Q w r q k => by
  match xs, r, q with
  | [.int i, .int j], .cons (.int _) (.cons (.int _) .nil), q => exact ⟨i, j, rfl, k d H μ _ _ .refl w (.int _) q⟩⟩
def rInt1 : List V → Hp → VK → Prop := fun xs H Q => (∃ i, xs = [.int i] ∧ Q (.int i) H) ∨ ∃ k, xs = [.bl k] ∧ Q (.int (if k then 1 else 0)) H
theorem cb_int1 {X : Cx} : CallR X (.type "int") rInt1 := call_int1
def pInt1 : MB := fun xs μ P => match xs with | [.int i] => P (.int i) μ | [.bl k] => P (.int (if k then 1 else 0)) μ | _ => False
instance : FB K rInt1 pInt1 := ⟨fun d H μ xs vs P Q w r q k => by
  match xs, r, q with
  | [.int i], .cons (.int _) .nil, q => exact .inl ⟨i, rfl, k d H μ _ _ .refl w (.int _) q⟩
  | [.bl b], .cons (.bl _) .nil, q => exact .inr ⟨b, rfl, k d H μ _ _ .refl w (.int _) q⟩⟩
def pGcd : MB := fun xs μ P => match xs with | [.int a, .int b] => P (.int ((Nat.gcd a.natAbs b.natAbs : Nat) : Int)) μ | _ => False
instance : FB K rGcd pGcd := ⟨fun d H μ xs vs P Q w r q k => by
  match xs, r, q with
  | [.int i, .int j], .cons (.int _) (.cons (.int _) .nil), q => exact ⟨i, j, rfl, k d H μ _ _ .refl w (.int _) q⟩⟩
/-! ### of sequences -/
def rLen (K : PySem.W.Frag) : List V → Hp → VK → Prop := fun xs H Q => ∃ x n, xs = [x] ∧ LenV K x H n ∧ Q (.int n) H
theorem cb_len {X : Cx} : CallR X (.builtin "len") (rLen X.K) := call_len
def pLen : MB := fun xs μ P => match xs with | [x] => (match itemsOf x μ with | some ys => P (.int (ys.length : Nat)) μ | none => False) | _ => False
instance : FB K (rLen K) pLen := ⟨fun d H μ xs vs P Q w r q k => by
  match xs, r, q with
  | [x], .cons r .nil, q =>
    unfold pLen at q
    simp only at q
    cases e : itemsOf x μ with
    | none => rw [e] at q; exact q.elim
    | some ys =>
      rw [e] at q
      obtain ⟨a, vs, rfl, rv, hq⟩ := seq_of w r e
      refine ⟨_, ys.length, rfl, ?_, k d H μ _ _ .refl w (.int _) q⟩
      rw [rv.length]
      exact hq.imp (fun h => ⟨vs, h, rfl⟩) (fun h => ⟨vs, h, rfl⟩)⟩
theorem RVs.ints_of : ∀ {xs : List PV} {vs : List V}, RVs K d H xs vs → ∀ {ns : List Int}, xs = ns.map PV.int → vs = ns.map V.int := fun r ns e => by
  subst e; exact RVs.ints r
def intsP : List PV → Option (List Int)
  | [] => some []
  | .int i :: xs => (intsP xs).map (i :: ·)
  | _ => none
theorem intsP_of : ∀ {xs : List PV} {ns : List Int}, intsP xs = some ns → xs = ns.map PV.int
  | [], ns, h => by cases h; rfl
  | x :: xs, ns, h => by
    cases x <;> simp [intsP] at h
    obtain ⟨ms, e, rfl⟩ := h
    rw [intsP_of e]; rfl
theorem intsP_map : ∀ (ns : List Int), intsP (ns.map PV.int) = some ns
  | [] => rfl
  | n :: ns => by simp [intsP, intsP_map ns]
def pSum : MB := fun xs μ P => match xs with | [x] => (match x with | .tup _ => False | _ => match itemsOf x μ with | some ys => (match intsP ys with | some ns => P (.int ns.sum) μ | none => False) | none => False) | _ => False
instance : FB K (rSum K) pSum := ⟨fun d H μ xs vs P Q w r q k => by
  match xs, r, q with
  | [x], .cons r .nil, q =>
    have hx : ∀ ys, x ≠ .tup ys := by rintro ys rfl; exact q
    cases e : itemsOf x μ with
    | none => cases x <;> simp [pSum, e] at q
    | some ys =>
      have q' : (match intsP ys with | some ns => P (.int ns.sum) μ | none => False) := by
        cases x <;> first | exact q.elim | (simp only [pSum, e] at q; exact q)
      obtain ⟨a, vs, rfl, rv, hq⟩ := seqL_of w r e hx
      cases e2 : intsP ys with
      | none => rw [e2] at q'; exact q'.elim
      | some ns =>
        rw [e2] at q'
        have ev := RVs.ints_of rv (intsP_of e2)
        subst ev
        exact ⟨a, ns, rfl, hq, k d H μ _ _ .refl w (.int _) q'⟩⟩
/-- the greatest of a list or tuple of numbers -/
def maxP : List Int → Int
  | [] => 0
  | n :: ns => ns.foldl (fun a y => if a < y then y else a) n
def minP : List Int → Int
  | [] => 0
  | n :: ns => ns.foldl (fun a y => if y < a then y else a) n
theorem fold_max : ∀ (ns : List Int) (a : Int), (a ≤ ns.foldl (fun a y => if a < y then y else a) a) ∧ (∀ y ∈ ns, y ≤ ns.foldl (fun a y => if a < y then y else a) a) ∧ (ns.foldl (fun a y => if a < y then y else a) a = a ∨ ns.foldl (fun a y => if a < y then y else a) a ∈ ns)
  | [], a => by simp
  | n :: ns, a => by
    rw [List.foldl_cons]
    obtain ⟨h1, h2, h3⟩ := fold_max ns (if a < n then n else a)
    refine ⟨?_, fun y hy => ?_, ?_⟩
    · by_cases h : a < n
      · rw [if_pos h] at h1 ⊢; omega
      · rw [if_neg h] at h1 ⊢; exact h1
    · rcases List.mem_cons.mp hy with rfl | hy
      · by_cases h : a < y
        · rw [if_pos h] at h1 ⊢; exact h1
        · rw [if_neg h] at h1 ⊢; omega
      · exact h2 y hy
    · by_cases h : a < n
      · rw [if_pos h] at h3 ⊢
        rcases h3 with h3 | h3
        · exact .inr (by rw [h3]; exact List.mem_cons_self)
        · exact .inr (List.mem_cons_of_mem _ h3)
      · rw [if_neg h] at h3 ⊢
        exact h3.imp id (List.mem_cons_of_mem _)
theorem maxP_mem {ns : List Int} (h : ns ≠ []) : maxP ns ∈ ns := by
  cases ns with
  | nil => exact absurd rfl h
  | cons n ns =>
    rcases (fold_max ns n).2.2 with e | e
    · show ns.foldl _ n ∈ _; rw [e]; exact List.mem_cons_self
    · exact List.mem_cons_of_mem _ e
theorem maxP_le {ns : List Int} {y : Int} (h : y ∈ ns) : y ≤ maxP ns := by
  cases ns with
  | nil => cases h
  | cons n ns =>
    rcases List.mem_cons.mp h with rfl | h
    · exact (fold_max ns y).1
    · exact (fold_max ns n).2.1 y h
theorem maxP_uniq {ns : List Int} {m : Int} (h1 : m ∈ ns) (h2 : ∀ y, y ∈ ns → y ≤ m) : m = maxP ns := by
  have h3 := maxP_le h1
  have h4 := h2 _ (maxP_mem (by intro e; rw [e] at h1; cases h1))
  omega
def rMaxS (K : PySem.W.Frag) : List V → Hp → VK → Prop := fun vs H Q => rMax K vs H Q ∨ ∃ (a : Addr) (ns : List Int), vs = [V.ref a] ∧ SqT K H a (ns.map V.int) ∧ 0 < ns.length ∧ Q (.int (maxP ns)) H
theorem holdAll_ints {h : Heap} : ∀ {us : List Value} {ns : List Int}, IntsAre us ns → PySem.W.HoldAll h us ns
  | _, _, .nil => ⟨[], .nil⟩
  | _, _, .cons n t r => let ⟨as, q⟩ := holdAll_ints (h := h) r; ⟨[] ++ as, .cons (.int n t) q⟩
theorem cb_maxS {X : Cx} (hc : X.calm = true) (hu : X.A.units + 64 < cLine) : CallR X (.builtin "max") (rMaxS X.K) := by
  intro pins s σ H vs us Q I r h
  rcases h with h | ⟨a, ns, rfl, hs, hne, q⟩
  · exact cr_max hc pins s σ H vs us Q I r h
  · obtain ⟨its, rv, ht, _⟩ := I.tuple hs
    rw [Vals.ref1 r]
    cases ns with
    | nil => simp at hne
    | cons n ns =>
      refine PySem.W.max_tuple_datum (α := Int) (x := n) (xs := ns) (I.ok.hd hc) (show s.heap.IsTuple a its.toArray from ht) (holdAll_ints rv.ints) (by show X.A.units + 1 + 0 < cLine; omega) fun i v h' tk hv hh hk => ?_
      obtain ⟨as, rd⟩ := hh
      have e1 : PySem.W.maxOf n ns = maxP (n :: ns) := by
        show ns.foldl _ n = ns.foldl _ n
        congr 1
        funext a y
        show (if decide (a < y) = true then y else a) = if a < y then y else a
        by_cases h : a < y <;> simp [h]
      rw [e1] at rd
      generalize maxP (n :: ns) = mm at rd q
      have rd' : Reads h' v (.int mm) as := rd
      cases rd' with
      | int i t => exact ⟨.int mm, H, I.kept hk, ⟨_, rfl⟩, q⟩
def pMaxS : MB := fun xs μ P => match xs with | [x] => (match itemsOf x μ with | some ys => (match intsP ys with | some ns => ns ≠ [] ∧ P (.int (maxP ns)) μ | none => False) | none => False) | _ => False
instance : FB K (rMaxS K) pMaxS := ⟨fun d H μ xs vs P Q w r q k => by
  match xs, r, q with
  | [x], .cons r .nil, q =>
    unfold pMaxS at q
    simp only at q
    cases e : itemsOf x μ with
    | none => rw [e] at q; exact q.elim
    | some ys =>
      rw [e] at q
      simp only at q
      obtain ⟨a, vs, rfl, rv, hq⟩ := seq_of w r e
      cases e2 : intsP ys with
      | none => rw [e2] at q; exact q.elim
      | some ns =>
        rw [e2] at q
        obtain ⟨hne, q⟩ := q
        have ev := RVs.ints_of rv (intsP_of e2)
        subst ev
        have hl : 0 < ns.length := List.length_pos_iff.mpr hne
        rcases hq with hq | hq
        · exact .inl ⟨a, ns, rfl, hq, hl, fun m h1 h2 => by rw [maxP_uniq h1 h2]; exact k d H μ _ _ .refl w (.int _) q⟩
        · exact .inr ⟨a, ns, rfl, hq, hl, k d H μ _ _ .refl w (.int _) q⟩⟩
def boolsP : List PV → Option (List Bool)
  | [] => some []
  | .bl i :: xs => (boolsP xs).map (i :: ·)
  | _ => none
theorem boolsP_of : ∀ {xs : List PV} {ns : List Bool}, boolsP xs = some ns → xs = ns.map PV.bl
  | [], ns, h => by cases h; rfl
  | x :: xs, ns, h => by
    cases x <;> simp [boolsP] at h
    obtain ⟨ms, e, rfl⟩ := h
    rw [boolsP_of e]; rfl
theorem boolsP_map : ∀ (ns : List Bool), boolsP (ns.map PV.bl) = some ns
  | [] => rfl
  | n :: ns => by simp [boolsP, boolsP_map ns]
def pAll : MB := fun xs μ P => match xs with | [.lst ys] => (match boolsP ys with | some bs => P (.bl (bs.all id)) μ | none => False) | _ => False
def pAny : MB := fun xs μ P => match xs with | [.lst ys] => (match boolsP ys with | some bs => P (.bl (bs.any id)) μ | none => False) | _ => False
instance : FB K (rAll K) pAll := ⟨fun d H μ xs vs P Q w r q k => by
  match xs, r, q with
  | [.lst ys], .cons (.lst (a := a) h1 h2) .nil, q =>
    unfold pAll at q
    simp only at q
    cases e2 : boolsP ys with
    | none => rw [e2] at q; exact q.elim
    | some ns =>
      rw [e2] at q
      have ev := boolsP_of e2
      subst ev
      have ev := RVs.bools h2
      subst ev
      exact ⟨a, ns, rfl, h1.sq, k d H μ _ _ .refl w (.bl _) q⟩⟩
instance : FB K (rAny K) pAny := ⟨fun d H μ xs vs P Q w r q k => by
  match xs, r, q with
  | [.lst ys], .cons (.lst (a := a) h1 h2) .nil, q =>
    unfold pAny at q
    simp only at q
    cases e2 : boolsP ys with
    | none => rw [e2] at q; exact q.elim
    | some ns =>
      rw [e2] at q
      have ev := boolsP_of e2
      subst ev
      have ev := RVs.bools h2
      subst ev
      exact ⟨a, ns, rfl, h1.sq, k d H μ _ _ .refl w (.bl _) q⟩⟩
def rTupOf (K : PySem.W.Frag) : List V → Hp → VK → Prop := fun xs H Q => ∃ p ys, xs = [.ref p] ∧ ((SqL K H p ys ∧ ∀ l, H l = none → Q (.ref l) (upd H l (.tup ys))) ∨ (SqT K H p ys ∧ Q (.ref p) H))
theorem cb_tup {X : Cx} : CallR X (.type "tuple") (rTupOf X.K) := call_tuple_of
def pTupOf : MB := fun xs μ P => match xs with | [x] => (match itemsOf x μ with | some ys => P (.tup ys) μ | none => False) | _ => False
instance : FB K (rTupOf K) pTupOf := ⟨fun d H μ xs vs P Q w r q k => by
  match xs, r, q with
  | [x], .cons r .nil, q =>
    unfold pTupOf at q
    simp only at q
    cases e : itemsOf x μ with
    | none => rw [e] at q; exact q.elim
    | some ys =>
      rw [e] at q
      simp only at q
      match x, r, e with
      | .tup zs, r, e =>
        cases e
        cases r with
        | tup h1 h2 => exact ⟨_, _, rfl, .inr ⟨h1.sq, k d H μ _ _ .refl w (.tup h1 h2) q⟩⟩
      | .lst zs, r, e =>
        obtain ⟨a, vs, rfl, rv, hq⟩ := seqL_of w r e (by rintro _ ⟨⟩)
        exact ⟨a, vs, rfl, .inl ⟨hq, fun p hp => k d _ μ _ _ (Ext.lay w hp) (w.lay hp) (lay_tup w rv hp) q⟩⟩
      | .kl zs, r, e =>
        obtain ⟨a, vs, rfl, rv, hq⟩ := seqL_of w r e (by rintro _ ⟨⟩)
        exact ⟨a, vs, rfl, .inl ⟨hq, fun p hp => k d _ μ _ _ (Ext.lay w hp) (w.lay hp) (lay_tup w rv hp) q⟩⟩
      | .mr n, r, e =>
        obtain ⟨a, vs, rfl, rv, hq⟩ := seqL_of w r e (by rintro _ ⟨⟩)
        exact ⟨a, vs, rfl, .inl ⟨hq, fun p hp => k d _ μ _ _ (Ext.lay w hp) (w.lay hp) (lay_tup w rv hp) q⟩⟩⟩
def rLstOf (K : PySem.W.Frag) : List V → Hp → VK → Prop := fun xs H Q => ∃ p ys, xs = [.ref p] ∧ (SqL K H p ys ∨ SqT K H p ys) ∧ ∀ l, H l = none → Q (.ref l) (upd H l (.lst ys))
theorem cb_lst {X : Cx} : CallR X (.type "list") (rLstOf X.K) := call_list_of
def rLstOfM (K : PySem.W.Frag) : List V → Hp → VK → Prop := rLstOf K
theorem cb_lstM {X : Cx} : CallR X (.type "list") (rLstOfM X.K) := call_list_of
def pLstOf : MB := fun xs μ P => match xs with | [x] => (match itemsOf x μ with | some ys => P (.lst ys) μ | none => False) | _ => False
def pLstOfM : MB := fun xs μ P => match xs with | [x] => (match itemsOf x μ with | some ys => P (.mr μ.length) (μ ++ [.lst ys]) | none => False) | _ => False
instance : FB K (rLstOf K) pLstOf := ⟨fun d H μ xs vs P Q w r q k => by
  match xs, r, q with
  | [x], .cons r .nil, q =>
    unfold pLstOf at q
    simp only at q
    cases e : itemsOf x μ with
    | none => rw [e] at q; exact q.elim
    | some ys =>
      rw [e] at q
      obtain ⟨a, vs, rfl, rv, hq⟩ := seq_of w r e
      exact ⟨a, vs, rfl, hq, fun p hp => k d _ μ _ _ (Ext.lay w hp) (w.lay hp) (lay_lst w rv hp) q⟩⟩
instance : FB K (rLstOfM K) pLstOfM := ⟨fun d H μ xs vs P Q w r q k => by
  match xs, r, q with
  | [x], .cons r .nil, q =>
    unfold pLstOfM at q
    simp only at q
    cases e : itemsOf x μ with
    | none => rw [e] at q; exact q.elim
    | some ys =>
      rw [e] at q
      obtain ⟨a, vs, rfl, rv, hq⟩ := seq_of w r e
      refine ⟨a, vs, rfl, hq, fun p hp => ?_⟩
      have ee := Ext.push (o := .lst vs) w hp
      exact k (d.push p) _ _ _ _ ee (w.push (m := .lst ys) hp ⟨_, upd_same, rv.mono ee⟩) (lay_mr w) q⟩
/-! ### tuple(range(..)) -/
class FR (K : PySem.W.Frag) (t : L2.St → Hp → (Int → Int → Hp → Prop) → Prop) (m : outParam (PEnv → Store → (Int → Int → Store → Prop) → Prop)) : Prop where
  run : ∀ (d : Wd) (σ : L2.St) (H : Hp) (ρ : PEnv) (μ : Store) (P : Int → Int → Store → Prop) (Q : Int → Int → Hp → Prop), WOk K d H μ → REnv K d H ρ σ → m ρ μ P →
    (∀ d' H' μ' i j, Ext d H d' H' → WOk K d' H' μ' → P i j μ' → Q i j H') → t σ H Q
def mRg1 (a : ME) : PEnv → Store → (Int → Int → Store → Prop) → Prop := fun ρ μ P => a ρ μ fun x μ1 => match x with | .int n => P 0 n μ1 | _ => False
def mRg2 (a b : ME) : PEnv → Store → (Int → Int → Store → Prop) → Prop := fun ρ μ P => a ρ μ fun x μ1 => b ρ μ1 fun y μ2 => match x, y with | .int i, .int j => P i j μ2 | _, _ => False
instance {a m} [h : FE K a m] : FR K (tRg1 a) (mRg1 m) := ⟨fun d σ H ρ μ P Q w e q k => by
  refine h.run d σ H ρ μ _ _ w e q fun d1 H1 μ1 x v e1 w1 r1 q1 => ?_
  cases x <;> try exact q1.elim
  cases r1
  exact ⟨_, rfl, k d1 H1 μ1 _ _ e1 w1 q1⟩⟩
instance {a b m n} [h : FE K a m] [h' : FE K b n] : FR K (tRg2 a b) (mRg2 m n) := ⟨fun d σ H ρ μ P Q w e q k => by
  refine h.run d σ H ρ μ _ _ w e q fun d1 H1 μ1 x v e1 w1 r1 q1 => ?_
  refine h'.run d1 σ H1 ρ μ1 _ _ w1 (e.mono e1) q1 fun d2 H2 μ2 y u e2 w2 r2 q2 => ?_
  cases x <;> try exact q2.elim
  cases y <;> try exact q2.elim
  cases r1; cases r2
  exact ⟨_, _, rfl, rfl, k d2 H2 μ2 _ _ (e1.trans e2) w2 q2⟩⟩
def mTupRg (m : PEnv → Store → (Int → Int → Store → Prop) → Prop) : ME := fun ρ μ P => m ρ μ fun i j μ1 => (-1000000 ≤ i ∧ i ≤ 1000000 ∧ -1000000 ≤ j ∧ j ≤ 1000000) ∧ P (.tup (rangeP i (j - i).toNat)) μ1
def mLstRg (m : PEnv → Store → (Int → Int → Store → Prop) → Prop) : ME := fun ρ μ P => m ρ μ fun i j μ1 => (-1000000 ≤ i ∧ i ≤ 1000000 ∧ -1000000 ≤ j ∧ j ≤ 1000000) ∧ P (.lst (rangeP i (j - i).toNat)) μ1
theorem rvs_rg (i j : Int) : RVs K d H (rangeP i (j - i).toNat) (rgV i j) := by
  unfold rangeP rgV
  generalize List.range (j - i).toNat = l
  induction l with
  | nil => exact .nil
  | cons x l ih => exact .cons (.int _) ih
instance {t m} [h : FR K t m] : FE K (tTupRg t) (mTupRg m) := ⟨fun d σ H ρ μ P Q w e q k => by
  refine h.run d σ H ρ μ _ _ w e q fun d1 H1 μ1 i j e1 w1 ⟨z, q1⟩ => ⟨⟨by omega, by omega, by omega, by omega, by omega⟩, fun p hp => ?_⟩
  exact k d1 _ μ1 _ _ (e1.trans (Ext.lay w1 hp)) (w1.lay hp) (lay_tup w1 (rvs_rg i j) hp) q1⟩
instance {t m} [h : FR K t m] : FE K (tLstRg t) (mLstRg m) := ⟨fun d σ H ρ μ P Q w e q k => by
  refine h.run d σ H ρ μ _ _ w e q fun d1 H1 μ1 i j e1 w1 ⟨z, q1⟩ => ⟨⟨by omega, by omega, by omega, by omega, by omega⟩, fun p hp => ?_⟩
  exact k d1 _ μ1 _ _ (e1.trans (Ext.lay w1 hp)) (w1.lay hp) (lay_lst w1 (rvs_rg i j) hp) q1⟩
end
end Fx

/-! Fx7: arithmetic of any size, methods, dicts, repr, isinstance by plain values. -/
namespace Fx
open PySem PySem.Spec PyProof.Rows L2 RZ
section
variable {K : PySem.W.Frag} {d d' : Wd} {H H' : Hp} {a b : Addr} {vs us : List V} {xs ys : List PV} {μ : Store}
/-- the items of a list that stands in the heap by itself -/
def lstItems (x : PV) (μ : Store) : Option (List PV) := match x with
  | .lst xs => some xs
  | .mr n => match μ[n]? with | some (.lst xs) => some xs | _ => none
  | _ => none
theorem lst_of {x : PV} {v : V} (w : WOk K d H μ) (r : RV K d H x v) (h : lstItems x μ = some xs) : ∃ a vs, v = .ref a ∧ RVs K d H xs vs ∧ H a = some (.lst vs) := by
  cases r with
  | lst h1 h2 => cases h; exact ⟨_, _, rfl, h2, h1.1⟩
  | @mr n a h1 =>
    unfold lstItems at h
    cases e : μ[n]? with
    | none => simp [e] at h
    | some m =>
      cases m with
      | lst zs =>
        simp [e] at h
        subst h
        obtain ⟨vs, q, r⟩ := w.obj h1 e
        exact ⟨_, _, rfl, r, q⟩
      | dk _ => simp [e] at h
      | fd _ _ _ => simp [e] at h
  | _ => cases h
/-! ### + * // % ** -/
def rPlus (K : PySem.W.Frag) : R2 := fun x y H Q => rI0 (fun i j => .int (i + j)) x y H Q ∨ rCatA K x y H Q ∨ rCat x y H Q
theorem op_plus {X : Cx} : OpR X (binaryOp .Add) (rPlus X.K) := OpR.or op_add (OpR.or op_catA op_cat)
def pPlus : MO2 := fun x y μ P => match x, y with
  | .int i, .int j => P (.int (i + j)) μ
  | .tup xs, .tup ys => xs.length + ys.length ≤ lim ∧ P (.tup (xs ++ ys)) μ
  | _, _ => match lstItems x μ, lstItems y μ with | some xs, some ys => xs.length + ys.length ≤ lim ∧ P (.lst (xs ++ ys)) μ | _, _ => False
def rPlusM (K : PySem.W.Frag) : R2 := rPlus K
theorem op_plusM {X : Cx} : OpR X (binaryOp .Add) (rPlusM X.K) := op_plus
def pPlusM : MO2 := fun x y μ P => match lstItems x μ, lstItems y μ with | some xs, some ys => xs.length + ys.length ≤ lim ∧ P (.mr μ.length) (μ ++ [.lst (xs ++ ys)]) | _, _ => False
theorem cat_run {x y : PV} {v u : V} {P : PV → Store → Prop} {Q : VK} (w : WOk K d H μ) (r1 : RV K d H x v) (r2 : RV K d H y u) (q : match lstItems x μ, lstItems y μ with | some xs, some ys => xs.length + ys.length ≤ lim ∧ P (.lst (xs ++ ys)) μ | _, _ => False)
    (k : ∀ d' H' μ' z w', Ext d H d' H' → WOk K d' H' μ' → RV K d' H' z w' → P z μ' → Q w' H') : rCat v u H Q := by
  cases e1 : lstItems x μ with
  | none => rw [e1] at q; exact q.elim
  | some xs =>
    cases e2 : lstItems y μ with
    | none => rw [e1, e2] at q; exact q.elim
    | some ys =>
      rw [e1, e2] at q
      obtain ⟨a, vs, rfl, rv, h1⟩ := lst_of w r1 e1
      obtain ⟨b, us, rfl, ru, h2⟩ := lst_of w r2 e2
      exact ⟨a, b, vs, us, rfl, rfl, h1, h2, by rw [← rv.length, ← ru.length]; exact lim_lt q.1, fun p hp => k d _ μ _ _ (Ext.lay w hp) (w.lay hp) (lay_lst w (rv.append ru) hp) q.2⟩
instance : F2 K (rPlus K) pPlus := ⟨fun d H μ x y v u P Q w r1 r2 q k => by
  match x, y, r1, r2, q with
  | .int i, .int j, .int _, .int _, q => exact .inl ⟨i, j, rfl, rfl, k d H μ _ _ .refl w (.int _) q⟩
  | .tup xs, .tup ys, .tup (a := a) (vs := vs) h1 h2, .tup (a := b) (vs := us) h3 h4, ⟨z, q⟩ =>
    refine .inr (.inl ⟨a, b, vs, us, rfl, rfl, h1.sq, h3.sq, by rw [← h2.length, ← h4.length]; exact lim_lt z, fun e => ?_, fun e1 e2 => ?_, fun e1 e2 p hp => ?_⟩)
    · subst e
      cases h2
      exact k d H μ _ _ .refl w (.tup h3 h4) (by simpa using q)
    · subst e2
      cases h4
      exact k d H μ _ _ .refl w (.tup h1 h2) (by simpa using q)
    · exact k d _ μ _ _ (Ext.lay w hp) (w.lay hp) (lay_tup w (h2.append h4) hp) q
  | .lst xs, y, r1, r2, q => exact .inr (.inr (cat_run w r1 r2 (by cases y <;> exact q) k))
  | .mr xs, y, r1, r2, q => exact .inr (.inr (cat_run w r1 r2 (by cases y <;> exact q) k))⟩
instance : F2 K (rPlusM K) pPlusM := ⟨fun d H μ x y v u P Q w r1 r2 q k => by
  unfold pPlusM at q
  refine .inr (.inr ?_)
  cases e1 : lstItems x μ with
  | none => rw [e1] at q; exact q.elim
  | some xs =>
    cases e2 : lstItems y μ with
    | none => rw [e1, e2] at q; exact q.elim
    | some ys =>
      rw [e1, e2] at q
      obtain ⟨a, vs, rfl, rv, h1⟩ := lst_of w r1 e1
      obtain ⟨b, us, rfl, ru, h2⟩ := lst_of w r2 e2
      refine ⟨a, b, vs, us, rfl, rfl, h1, h2, by rw [← rv.length, ← ru.length]; exact lim_lt q.1, fun p hp => ?_⟩
      have ee := Ext.push (o := .lst (vs ++ us)) w hp
      exact k (d.push p) _ _ _ _ ee (w.push (m := .lst (xs ++ ys)) hp ⟨_, upd_same, (rv.append ru).mono ee⟩) (lay_mr w) q.2⟩
def MulOk (i j : Int) : Prop := CMul i j ∨ CMulW i j
theorem op_mulX {X : Cx} : OpR X (binaryOp .Mult) (rI MulOk fun i j => .int (i * j)) := by
  intro pins s σ H x y v u Q I rx ry h
  obtain ⟨i, j, e1, e2, c, q⟩ := h
  rcases c with c | c
  · exact op_mul pins s σ H x y v u Q I rx ry ⟨i, j, e1, e2, c, q⟩
  · exact op_mulW pins s σ H x y v u Q I rx ry ⟨i, j, e1, e2, c, q⟩
def DivOk (i j : Int) : Prop := (0 < j ∧ j.natAbs.log2 < 9000) ∨ (j < 0 ∧ j.natAbs < 1073741824)
theorem op_divX {X : Cx} : OpR X (binaryOp .FloorDiv) (rI DivOk fun i j => .int (i.fdiv j)) := by
  intro pins s σ H x y v u Q I rx ry h
  obtain ⟨i, j, e1, e2, c, q⟩ := h
  rcases c with c | c
  · have q : Q (.int (i.fdiv j)) H := q
    rw [Int.fdiv_eq_ediv_of_nonneg i (by omega : 0 ≤ j)] at q
    exact op_fdivW pins s σ H x y v u Q I rx ry ⟨i, j, e1, e2, c, q⟩
  · exact op_fdivN pins s σ H x y v u Q I rx ry ⟨i, j, e1, e2, ⟨by omega, c.2⟩, q⟩
/-! ### t * n -/
/-! ### methods of lists that change -/
def mBM (p : PV → List PV → Store → (PV → Store → Prop) → Prop) (mo : ME) (ma : MA) : ME := fun ρ μ P => mo ρ μ fun x μ1 => match x with | .mr n => (match μ1[n]? with | some (.lst _) => ma ρ μ1 fun xs μ2 => p (.mr n) xs μ2 P | _ => False) | _ => False
instance {r p to mo t ma} [h : FM K r p] [ho : FE K to mo] [ha : FA K t ma] : FE K (tBM K "list" r to t) (mBM p mo ma) := ⟨fun d σ H ρ μ P Q w e q k => by
  refine ho.run d σ H ρ μ _ _ w e q fun d1 H1 μ1 x v e1 w1 r1 q1 => ?_
  cases r1 with
  | @mr n a h1 =>
    simp only at q1
    cases e2 : μ1[n]? with
    | none => rw [e2] at q1; exact q1.elim
    | some m =>
      cases m with
      | dk _ => rw [e2] at q1; exact q1.elim
      | fd _ _ _ => rw [e2] at q1; exact q1.elim
      | lst ys =>
        rw [e2] at q1
        obtain ⟨vs, q, _⟩ := w1.obj h1 e2
        refine ⟨.inl ⟨rfl, vs, .of q⟩, ?_⟩
        refine ha.run d1 σ H1 ρ μ1 _ _ w1 (e.mono e1) q1 fun d3 H3 μ3 xs us e3 w3 r3 q3 => ?_
        exact h.run d3 H3 μ3 (.mr n) (.ref a) xs us P Q w3 (.mr (e3.at h1)) r3 q3 fun d4 H4 μ4 z w' e4 => k d4 H4 μ4 z w' ((e1.trans e3).trans e4)
  | _ => exact q1.elim⟩
def mBM0 (p : PV → List PV → Store → (PV → Store → Prop) → Prop) (mo : ME) : ME := fun ρ μ P => mo ρ μ fun x μ1 => match x with | .mr n => (match μ1[n]? with | some (.lst _) => p (.mr n) [] μ1 P | _ => False) | _ => False
instance {r p to mo} [h : FM K r p] [ho : FE K to mo] : FE K (tBM0 K "list" r to) (mBM0 p mo) := ⟨fun d σ H ρ μ P Q w e q k => by
  refine ho.run d σ H ρ μ _ _ w e q fun d1 H1 μ1 x v e1 w1 r1 q1 => ?_
  cases r1 with
  | @mr n a h1 =>
    simp only at q1
    cases e2 : μ1[n]? with
    | none => rw [e2] at q1; exact q1.elim
    | some m =>
      cases m with
      | dk _ => rw [e2] at q1; exact q1.elim
      | fd _ _ _ => rw [e2] at q1; exact q1.elim
      | lst ys =>
        rw [e2] at q1
        obtain ⟨vs, q, _⟩ := w1.obj h1 e2
        refine ⟨.inl ⟨rfl, vs, .of q⟩, ?_⟩
        exact h.run d1 H1 μ1 (.mr n) (.ref a) [] [] P Q w1 (.mr h1) .nil q1 fun d4 H4 μ4 z w' e4 => k d4 H4 μ4 z w' (e1.trans e4)
  | _ => exact q1.elim⟩
def pAppend : PV → List PV → Store → (PV → Store → Prop) → Prop := fun x zs μ P => match x, zs with | .mr n, [y] => (match μ[n]? with | some (.lst xs) => xs.length ≤ lim ∧ P .non (μ.set n (.lst (xs ++ [y]))) | _ => False) | _, _ => False
theorem chg_list {n : Nat} {zs : List PV} {ws vs : List V} (w : WOk K d H μ) (h : d.am[n]? = some a) (r : RVs K d H zs ws) : Ext d H d (upd H a (.lst ws)) ∧ WOk K d (upd H a (.lst ws)) (μ.set n (.lst zs)) := by
  have ha : a ∈ d.am := List.mem_of_getElem? h
  have e : Ext d H d (upd H a (.lst ws)) := Ext.chg ha
  exact ⟨e, w.chg h ⟨ws, upd_same, r.mono e⟩⟩
instance : FM K rAppend pAppend := ⟨fun d H μ x v zs us P Q w r rs q k => by
  match x, zs, r, rs, q with
  | .mr n, [y], .mr (a := a) h1, .cons (v := u) ry .nil, q =>
    simp only [pAppend] at q
    cases e : μ[n]? with
    | none => rw [e] at q; exact q.elim
    | some m =>
      cases m with
      | dk _ => rw [e] at q; exact q.elim
      | fd _ _ _ => rw [e] at q; exact q.elim
      | lst xs =>
        rw [e] at q
        obtain ⟨vs, hq, rv⟩ := w.obj h1 e
        obtain ⟨e1, w1⟩ := chg_list (vs := vs) w h1 (rv.append (.cons ry .nil))
        exact ⟨a, vs, u, rfl, rfl, hq, by rw [← rv.length]; exact lim_lt' q.1, k d _ _ _ _ e1 w1 .non q.2⟩⟩
def pExtend : PV → List PV → Store → (PV → Store → Prop) → Prop := fun x zs μ P => match x, zs with | .mr n, [y] => (match μ[n]?, lstItems y μ with | some (.lst xs), some ys => xs.length + ys.length ≤ lim ∧ P .non (μ.set n (.lst (xs ++ ys))) | _, _ => False) | _, _ => False
instance : FM K rExtend pExtend := ⟨fun d H μ x v zs us P Q w r rs q k => by
  match x, zs, r, rs, q with
  | .mr n, [y], .mr (a := a) h1, .cons (v := u) ry .nil, q =>
    simp only [pExtend] at q
    cases e : μ[n]? with
    | none => rw [e] at q; exact q.elim
    | some m =>
      cases m with
      | dk _ => rw [e] at q; exact q.elim
      | fd _ _ _ => rw [e] at q; exact q.elim
      | lst xs =>
        rw [e] at q
        cases e2 : lstItems y μ with
        | none => rw [e2] at q; exact q.elim
        | some ys =>
          rw [e2] at q
          obtain ⟨vs, hq, rv⟩ := w.obj h1 e
          obtain ⟨b, ws, rfl, rw', hb⟩ := lst_of w ry e2
          obtain ⟨e1, w1⟩ := chg_list (vs := vs) w h1 (rv.append rw')
          exact ⟨a, b, vs, ws, rfl, rfl, hq, hb, by rw [← rv.length, ← rw'.length]; exact lim_lt q.1, k d _ _ _ _ e1 w1 .non q.2⟩⟩
theorem RVs.dropLast (r : RVs K d H xs vs) : RVs K d H xs.dropLast vs.dropLast := by
  rw [List.dropLast_eq_take, List.dropLast_eq_take, r.length]
  exact r.take _
def pPop : PV → List PV → Store → (PV → Store → Prop) → Prop := fun x zs μ P => match x, zs with | .mr n, [] => (match μ[n]? with | some (.lst xs) => (match xs[xs.length - 1]? with | some y => P y (μ.set n (.lst xs.dropLast)) | none => False) | _ => False) | _, _ => False
instance : FM K rPop pPop := ⟨fun d H μ x v zs us P Q w r rs q k => by
  match x, zs, r, rs, q with
  | .mr n, [], .mr (a := a) h1, .nil, q =>
    simp only [pPop] at q
    cases e : μ[n]? with
    | none => rw [e] at q; exact q.elim
    | some m =>
      cases m with
      | dk _ => rw [e] at q; exact q.elim
      | fd _ _ _ => rw [e] at q; exact q.elim
      | lst xs =>
        rw [e] at q
        simp only at q
        obtain ⟨vs, hq, rv⟩ := w.obj h1 e
        cases e2 : xs[xs.length - 1]? with
        | none => rw [e2] at q; exact q.elim
        | some y =>
          rw [e2] at q
          obtain ⟨u, hu, ry⟩ := rv.get e2
          obtain ⟨e1, w1⟩ := chg_list (vs := vs) w h1 rv.dropLast
          exact ⟨a, vs, u, rfl, rfl, hq, by rw [← rv.length]; exact hu, k d _ _ _ _ e1 w1 (ry.mono e1) q⟩⟩
/-! ### xs[i] = v -/
class FSet (K : PySem.W.Frag) (r : TSet) (p : outParam (PV → PV → PV → Store → (Store → Prop) → Prop)) : Prop where
  run : ∀ (d : Wd) (H : Hp) (μ : Store) (x y z : PV) (v u t : V) (P : Store → Prop) (Q : Hp → Prop), WOk K d H μ → RV K d H x v → RV K d H y u → RV K d H z t → p x y z μ P →
    (∀ d' H' μ', Ext d H d' H' → WOk K d' H' μ' → P μ' → Q H') → r v u t H Q
def mSub (p : PV → PV → PV → Store → (Store → Prop) → Prop) (mo mi : ME) : MG := fun z ρ μ P => mo ρ μ fun x μ1 => mi ρ μ1 fun y μ2 => p x y z μ2 fun μ3 => P ρ μ3
instance {to ti t mo mi p} [h : FSet K t p] [ho : FE K to mo] [hi : FE K ti mi] : FG K (gSub to ti t) (mSub p mo mi) [] := ⟨fun d σ H ρ μ x v P Q w e r q k => by
  refine ho.run d σ H ρ μ _ _ w e q fun d1 H1 μ1 y u e1 w1 r1 q1 => ?_
  refine hi.run d1 σ H1 ρ μ1 _ _ w1 (e.mono e1) q1 fun d2 H2 μ2 z t e2 w2 r2 q2 => ?_
  exact h.run d2 H2 μ2 y z x u t v _ _ w2 (r1.mono e2) r2 (r.mono (e1.trans e2)) q2 fun d3 H3 μ3 e3 w3 q3 =>
    k d3 σ H3 ρ μ3 ((e1.trans e2).trans e3) w3 (e.mono ((e1.trans e2).trans e3)) rfl (fun _ _ => rfl) q3⟩
def pSetL : PV → PV → PV → Store → (Store → Prop) → Prop := fun x y z μ P => match x, y with | .mr n, .int i => (match μ[n]? with | some (.lst xs) => (match ixN xs.length i with | some j => P (μ.set n (.lst (xs.set j z))) | none => False) | _ => False) | _, _ => False
instance : FSet K rSetL pSetL := ⟨fun d H μ x y z v u t P Q w r1 r2 r3 q k => by
  match x, y, r1, r2, q with
  | .mr n, .int i, .mr (a := a) h1, .int _, q =>
    simp only [pSetL] at q
    cases e : μ[n]? with
    | none => rw [e] at q; exact q.elim
    | some m =>
      cases m with
      | dk _ => rw [e] at q; exact q.elim
      | fd _ _ _ => rw [e] at q; exact q.elim
      | lst xs =>
        rw [e] at q
        simp only at q
        obtain ⟨vs, hq, rv⟩ := w.obj h1 e
        cases e2 : ixN xs.length i with
        | none => rw [e2] at q; exact q.elim
        | some j =>
          rw [e2] at q
          obtain ⟨e1, w1⟩ := chg_list (vs := vs) w h1 (rv.set r3 j)
          exact ⟨a, vs, i, j, rfl, rfl, hq, by rw [← rv.length]; exact e2, k d _ _ e1 w1 q⟩⟩
/-! ### dicts -/
def keyP : PV → Option Key
  | .int i => some (.inl i)
  | .str x => some (.inr x)
  | _ => none
theorem keyP_rv {x : PV} {v : V} {k : Key} (r : RV K d H x v) (h : keyP x = some k) : v = kV k := by
  cases r <;> simp [keyP] at h <;> subst h <;> rfl
def valP (kvs : List (Key × PV)) (k : Key) : Option PV := (kvs.find? fun kv => decide (kv.1 = k)).map (·.2)
def putP (kvs : List (Key × PV)) (k : Key) (v : PV) : List (Key × PV) :=
  if (kvs.any fun kv => decide (kv.1 = k)) = true then kvs.map (fun kv => if kv.1 = k then (kv.1, v) else kv) else kvs ++ [(k, v)]
def RKs (K : PySem.W.Frag) (d : Wd) (H : Hp) (kvs : List (Key × PV)) (ws : List (Key × V)) : Prop := ws.map (·.1) = kvs.map (·.1) ∧ RVs K d H (kvs.map (·.2)) (ws.map (·.2))
theorem RKs.nil : RKs K d H [] [] := ⟨rfl, .nil⟩
theorem RKs.cases {kvs : List (Key × PV)} {ws : List (Key × V)} (r : RKs K d H kvs ws) : (kvs = [] ∧ ws = []) ∨ ∃ k x v kvs' ws', kvs = (k, x) :: kvs' ∧ ws = (k, v) :: ws' ∧ RV K d H x v ∧ RKs K d H kvs' ws' := by
  obtain ⟨h1, h2⟩ := r
  cases kvs with
  | nil => simp at h1; exact .inl ⟨rfl, h1⟩
  | cons p kvs =>
    cases ws with
    | nil => simp at h1
    | cons q ws =>
      obtain ⟨k, x⟩ := p
      obtain ⟨k', v⟩ := q
      simp only [List.map_cons, List.cons.injEq] at h1
      obtain ⟨e, h1⟩ := h1
      subst e
      cases h2 with
      | cons r t => exact .inr ⟨_, _, _, _, _, rfl, rfl, r, h1, t⟩
theorem RKs.cons {k : Key} {x : PV} {v : V} {kvs : List (Key × PV)} {ws : List (Key × V)} (r : RV K d H x v) (t : RKs K d H kvs ws) : RKs K d H ((k, x) :: kvs) ((k, v) :: ws) :=
  ⟨by simp only [List.map_cons, t.1], .cons r t.2⟩
theorem RKs.val {k : Key} : ∀ {kvs : List (Key × PV)} {ws : List (Key × V)}, RKs K d H kvs ws → (valP kvs k = none ∧ valV ws k = none) ∨ ∃ x v, valP kvs k = some x ∧ valV ws k = some v ∧ RV K d H x v
  | [], ws, r => by
    rcases r.cases with ⟨_, e⟩ | ⟨_, _, _, _, _, e, _⟩
    · subst e; exact .inl ⟨rfl, rfl⟩
    · cases e
  | p :: kvs, ws, r => by
    rcases r.cases with ⟨e, _⟩ | ⟨k', x, v, kvs', ws', e1, e2, r1, t⟩
    · cases e
    · cases e1; subst e2
      by_cases h : k' = k
      · subst h
        exact .inr ⟨x, v, by simp [valP], by simp [valV], r1⟩
      · have := RKs.val (k := k) t
        have a1 : valP ((k', x) :: kvs) k = valP kvs k := by simp [valP, List.find?_cons, h]
        have a2 : valV ((k', v) :: ws') k = valV ws' k := by simp [valV, List.find?_cons, h]
        rw [a1, a2]; exact this
theorem RKs.len {kvs : List (Key × PV)} {ws : List (Key × V)} (r : RKs K d H kvs ws) : kvs.length = ws.length := by
  have := congrArg List.length r.1
  simpa using this.symm
theorem RKs.append : ∀ {kvs kvs' : List (Key × PV)} {ws ws' : List (Key × V)}, RKs K d H kvs ws → RKs K d H kvs' ws' → RKs K d H (kvs ++ kvs') (ws ++ ws') := fun r t => by
  refine ⟨by rw [List.map_append, List.map_append, r.1, t.1], ?_⟩
  rw [List.map_append, List.map_append]
  exact r.2.append t.2
theorem RKs.any {k : Key} {kvs : List (Key × PV)} {ws : List (Key × V)} (r : RKs K d H kvs ws) : (ws.any fun kv => decide (kv.1 = k)) = kvs.any fun kv => decide (kv.1 = k) := by
  have e1 : ∀ l : List (Key × V), (l.any fun kv => decide (kv.1 = k)) = (l.map (·.1)).any fun z => decide (z = k) := fun l => by rw [List.any_map]; rfl
  have e2 : ∀ l : List (Key × PV), (l.any fun kv => decide (kv.1 = k)) = (l.map (·.1)).any fun z => decide (z = k) := fun l => by rw [List.any_map]; rfl
  rw [e1, e2, r.1]
theorem RKs.upd1 {k : Key} {x : PV} {v : V} (rx : RV K d H x v) : ∀ {kvs : List (Key × PV)} {ws : List (Key × V)}, RKs K d H kvs ws → RKs K d H (kvs.map (fun kv => if kv.1 = k then (kv.1, x) else kv)) (ws.map (fun kv => if kv.1 = k then (kv.1, v) else kv))
  | [], ws, r => by
    rcases r.cases with ⟨_, e⟩ | ⟨_, _, _, _, _, e, _⟩
    · subst e; exact .nil
    · cases e
  | p :: kvs, ws, r => by
    rcases r.cases with ⟨e, _⟩ | ⟨k', x', v', kvs', ws', e1, e2, r1, t⟩
    · cases e
    · cases e1; subst e2
      rw [List.map_cons, List.map_cons]
      by_cases h : k' = k
      · simp only [h, if_true]
        exact .cons rx (RKs.upd1 rx t)
      · simp only [h, if_false]
        exact .cons r1 (RKs.upd1 rx t)
theorem RKs.put {k : Key} {x : PV} {v : V} (rx : RV K d H x v) {kvs : List (Key × PV)} {ws : List (Key × V)} (r : RKs K d H kvs ws) : RKs K d H (putP kvs k x) (putK ws k v) := by
  unfold putP putK
  rw [r.any]
  split
  · exact r.upd1 rx
  · exact r.append (.cons rx .nil)
theorem RKs.mono (e : Ext d H d' H') {kvs : List (Key × PV)} {ws : List (Key × V)} (r : RKs K d H kvs ws) : RKs K d' H' kvs ws := ⟨r.1, r.2.mono e⟩
def dictOfP (x : PV) (μ : Store) : Option (List (Key × PV)) := match x with | .mr n => (match μ[n]? with | some (.dk kvs) => some kvs | some (.fd _ _ kvs) => some kvs | _ => none) | _ => none
theorem dict_of {x : PV} {v : V} {kvs : List (Key × PV)} (w : WOk K d H μ) (r : RV K d H x v) (h : dictOfP x μ = some kvs) : ∃ n a ws, x = .mr n ∧ v = .ref a ∧ d.am[n]? = some a ∧ Rd H a (.dK ws) ∧ RKs K d H kvs ws := by
  cases r with
  | @mr n a h1 =>
    unfold dictOfP at h
    cases e : μ[n]? with
    | none => simp [e] at h
    | some m =>
      cases m with
      | lst zs => simp [e] at h
      | dk zs =>
        simp [e] at h
        subst h
        obtain ⟨ws, q, r1, r2⟩ := w.obj h1 e
        exact ⟨n, a, ws, rfl, rfl, h1, .inl q, r1, r2⟩
      | fd o ws zs =>
        simp [e] at h
        subst h
        obtain ⟨q, r1, r2⟩ := w.obj h1 e
        exact ⟨n, a, ws, rfl, rfl, h1, .inr ⟨o, q⟩, r1, r2⟩
  | _ => cases h
def mDGet (md my : ME) : ME := fun ρ μ P => md ρ μ fun x μ1 => my ρ μ1 fun y μ2 => match dictOfP x μ2, keyP y with | some kvs, some k => (match valP kvs k with | some v => P v μ2 | none => False) | _, _ => False
instance {td ty md my} [hd : FE K td md] [hy : FE K ty my] : FE K (tDGet td ty) (mDGet md my) := ⟨fun d σ H ρ μ P Q w e q k => by
  refine hd.run d σ H ρ μ _ _ w e q fun d1 H1 μ1 x v e1 w1 r1 q1 => ?_
  refine hy.run d1 σ H1 ρ μ1 _ _ w1 (e.mono e1) q1 fun d2 H2 μ2 y u e2 w2 r2 q2 => ?_
  cases a1 : dictOfP x μ2 with
  | none => rw [a1] at q2; exact q2.elim
  | some kvs =>
    cases a2 : keyP y with
    | none => rw [a1, a2] at q2; exact q2.elim
    | some kk =>
      rw [a1, a2] at q2
      simp only at q2
      obtain ⟨n, a, ws, rfl, rfl, _, hq, rk⟩ := dict_of w2 (r1.mono e2) a1
      obtain rfl := keyP_rv r2 a2
      rcases rk.val (k := kk) with ⟨z, _⟩ | ⟨x, v, z1, z2, rv⟩
      · rw [z] at q2; exact q2.elim
      · rw [z1] at q2
        exact ⟨a, v, rfl, .inl ⟨ws, kk, hq, rfl, z2.symm⟩, k d2 H2 μ2 _ _ (e1.trans e2) w2 rv q2⟩⟩
def mDIn (neg : Bool) (my md : ME) : ME := fun ρ μ P => my ρ μ fun y μ1 => md ρ μ1 fun x μ2 => match dictOfP x μ2, keyP y with | some kvs, some k => P (.bl (if neg then !(valP kvs k).isSome else (valP kvs k).isSome)) μ2 | _, _ => False
theorem din_run {x y : PV} {v u : V} {P : Option PV → Prop} {Q : Option V → Addr → Prop} (w : WOk K d H μ) (r1 : RV K d H x v) (r2 : RV K d H y u) (q : match dictOfP x μ, keyP y with | some kvs, some k => P (valP kvs k) | _, _ => False) :
    ∃ a o o', v = .ref a ∧ DGet H a u o ∧ o.isSome = o'.isSome ∧ P o' := by
  cases a1 : dictOfP x μ with
  | none => rw [a1] at q; exact q.elim
  | some kvs =>
    cases a2 : keyP y with
    | none => rw [a1, a2] at q; exact q.elim
    | some kk =>
      rw [a1, a2] at q
      obtain ⟨n, a, ws, rfl, rfl, _, hq, rk⟩ := dict_of w r1 a1
      obtain rfl := keyP_rv r2 a2
      refine ⟨a, valV ws kk, valP kvs kk, rfl, .inl ⟨ws, kk, hq, rfl, rfl⟩, ?_, q⟩
      rcases rk.val (k := kk) with ⟨z, z'⟩ | ⟨x, v, z1, z2, rv⟩
      · rw [z, z']; rfl
      · rw [z1, z2]; rfl
instance {td ty md my} [hd : FE K td md] [hy : FE K ty my] : FE K (tDIn ty td) (mDIn false my md) := ⟨fun d σ H ρ μ P Q w e q k => by
  refine hy.run d σ H ρ μ _ _ w e q fun d1 H1 μ1 y u e1 w1 r1 q1 => ?_
  refine hd.run d1 σ H1 ρ μ1 _ _ w1 (e.mono e1) q1 fun d2 H2 μ2 x v e2 w2 r2 q2 => ?_
  obtain ⟨a, o, o', rfl, g, eo, p⟩ := din_run (P := fun o => P (.bl o.isSome) μ2) (Q := fun _ _ => True) w2 r2 (r1.mono e2) q2
  exact ⟨a, o, rfl, g, by rw [eo]; exact k d2 H2 μ2 _ _ (e1.trans e2) w2 (.bl _) p⟩⟩
instance {td ty md my} [hd : FE K td md] [hy : FE K ty my] : FE K (tDNotIn ty td) (mDIn true my md) := ⟨fun d σ H ρ μ P Q w e q k => by
  refine hy.run d σ H ρ μ _ _ w e q fun d1 H1 μ1 y u e1 w1 r1 q1 => ?_
  refine hd.run d1 σ H1 ρ μ1 _ _ w1 (e.mono e1) q1 fun d2 H2 μ2 x v e2 w2 r2 q2 => ?_
  obtain ⟨a, o, o', rfl, g, eo, p⟩ := din_run (P := fun o => P (.bl (!o.isSome)) μ2) (Q := fun _ _ => True) w2 r2 (r1.mono e2) q2
  exact ⟨a, o, rfl, g, by rw [eo]; exact k d2 H2 μ2 _ _ (e1.trans e2) w2 (.bl _) p⟩⟩
def mDPut (md my mv : ME) : MS := fun P ρ μ => mv ρ μ fun z μ1 => md ρ μ1 fun x μ2 => my ρ μ2 fun y μ3 => match x, keyP y with | .mr n, some k => (match μ3[n]? with | some (.dk kvs) => kvs.length ≤ lim ∧ P.nx ρ (μ3.set n (.dk (putP kvs k z))) | _ => False) | _, _ => False
instance {td ty tv md my mv} [hd : FE K td md] [hy : FE K ty my] [hv : FE K tv mv] : FS K (sDPut td ty tv) (mDPut md my mv) := ⟨fun d σ H ρ μ P D w e q l => by
  refine hv.run d σ H ρ μ _ _ w e q fun d1 H1 μ1 z t e1 w1 r1 q1 => ?_
  refine hd.run d1 σ H1 ρ μ1 _ _ w1 (e.mono e1) q1 fun d2 H2 μ2 x v e2 w2 r2 q2 => ?_
  refine hy.run d2 σ H2 ρ μ2 _ _ w2 (e.mono (e1.trans e2)) q2 fun d3 H3 μ3 y u e3 w3 r3 q3 => ?_
  cases r2 with
  | @mr n a h1 =>
    cases a2 : keyP y with
    | none => rw [a2] at q3; exact q3.elim
    | some kk =>
      rw [a2] at q3
      simp only at q3
      cases a3 : μ3[n]? with
      | none => rw [a3] at q3; exact q3.elim
      | some m =>
        cases m with
        | lst _ => rw [a3] at q3; exact q3.elim
        | fd _ _ _ => rw [a3] at q3; exact q3.elim
        | dk kvs =>
          rw [a3] at q3
          have h3 := e3.at h1
          obtain ⟨ws, hq, rk1, rk2⟩ := w3.obj h3 a3
          have rk : RKs K d3 H3 kvs ws := ⟨rk1, rk2⟩
          obtain rfl := keyP_rv r3 a2
          have ha : a ∈ d3.am := List.mem_of_getElem? h3
          have ee : Ext d3 H3 d3 (upd H3 a (.dK (putK ws kk t))) := Ext.chg ha
          have rk' := (rk.put (k := kk) (r1.mono (e2.trans e3))).mono ee
          refine ⟨a, _, rfl, .inl ⟨ws, kk, hq, rfl, by rw [← rk.len]; exact lim_lt' q3.1, rfl⟩, ?_⟩
          exact l.nx d3 σ _ ρ _ (((e1.trans e2).trans e3).trans ee) (w3.chg (m := .dk (putP kvs kk z)) h3 ⟨_, upd_same, rk'.1, rk'.2⟩) (e.mono (((e1.trans e2).trans e3).trans ee)) q3.2
  | _ => exact q3.elim⟩
/-- a display -/
class FPs (K : PySem.W.Frag) (t : List (TE × TE)) (m : outParam (PEnv → Store → (List (PV × PV) → Store → Prop) → Prop)) : Prop where
  run : ∀ (d : Wd) (σ : L2.St) (H : Hp) (ρ : PEnv) (μ : Store) (P : List (PV × PV) → Store → Prop) (Q : List (V × V) → Hp → Prop), WOk K d H μ → REnv K d H ρ σ → m ρ μ P →
    (∀ d' H' μ' ps qs, Ext d H d' H' → WOk K d' H' μ' → RVs K d' H' (ps.map (·.1)) (qs.map (·.1)) → RVs K d' H' (ps.map (·.2)) (qs.map (·.2)) → P ps μ' → Q qs H') → tPairs t σ H Q
def mPs0 : PEnv → Store → (List (PV × PV) → Store → Prop) → Prop := fun _ μ P => P [] μ
def mPs (a b : ME) (r : PEnv → Store → (List (PV × PV) → Store → Prop) → Prop) : PEnv → Store → (List (PV × PV) → Store → Prop) → Prop := fun ρ μ P => a ρ μ fun x μ1 => b ρ μ1 fun y μ2 => r ρ μ2 fun ps μ3 => P ((x, y) :: ps) μ3
instance : FPs K [] mPs0 := ⟨fun d σ H ρ μ P Q w e q k => k d H μ [] [] .refl w .nil .nil q⟩
instance {a b r m n s} [ha : FE K a m] [hb : FE K b n] [hr : FPs K r s] : FPs K ((a, b) :: r) (mPs m n s) := ⟨fun d σ H ρ μ P Q w e q k => by
  refine ha.run d σ H ρ μ _ _ w e q fun d1 H1 μ1 x v e1 w1 r1 q1 => ?_
  refine hb.run d1 σ H1 ρ μ1 _ _ w1 (e.mono e1) q1 fun d2 H2 μ2 y u e2 w2 r2 q2 => ?_
  exact hr.run d2 σ H2 ρ μ2 _ _ w2 (e.mono (e1.trans e2)) q2 fun d3 H3 μ3 ps qs e3 w3 r3 r4 q3 =>
    k d3 H3 μ3 ((x, y) :: ps) ((v, u) :: qs) ((e1.trans e2).trans e3) w3 (.cons (r1.mono (e2.trans e3)) r3) (.cons (r2.mono e3) r4) q3⟩
def keysP : List (PV × PV) → Option (List (Key × PV))
  | [] => some []
  | (x, y) :: r => match keyP x, keysP r with | some k, some ks => some ((k, y) :: ks) | _, _ => none
def mDisp (m : PEnv → Store → (List (PV × PV) → Store → Prop) → Prop) : ME := fun ρ μ P => m ρ μ fun ps μ1 => match keysP ps with | some kvs => kvs.length ≤ 15 ∧ P (.mr μ1.length) (μ1 ++ [.dk (kvs.foldl (fun acc kv => putP acc kv.1 kv.2) [])]) | none => False
theorem keysP_rv : ∀ {ps : List (PV × PV)} {qs : List (V × V)} {kvs : List (Key × PV)}, RVs K d H (ps.map (·.1)) (qs.map (·.1)) → RVs K d H (ps.map (·.2)) (qs.map (·.2)) → keysP ps = some kvs →
    ∃ ws : List (Key × V), qs = ws.map (fun kv => (kV kv.1, kv.2)) ∧ RKs K d H kvs ws
  | [], [], _, _, _, h => by cases h; exact ⟨[], rfl, .nil⟩
  | [], _ :: _, _, r, _, _ => by cases r
  | _ :: _, [], _, r, _, _ => by cases r
  | (x, y) :: ps, (v, u) :: qs, kvs, r1, r2, h => by
    simp only [keysP] at h
    cases a1 : keyP x with
    | none => rw [a1] at h; simp at h
    | some k =>
      cases a2 : keysP ps with
      | none => rw [a1, a2] at h; simp at h
      | some ks =>
        rw [a1, a2] at h; simp at h; subst h
        cases r1 with
        | cons r1 t1 =>
          cases r2 with
          | cons r2 t2 =>
            obtain ⟨ws, e, rk⟩ := keysP_rv t1 t2 a2
            have e1 : v = kV k := keyP_rv r1 a1
            have e1 : v = kV k := e1
            refine ⟨(k, u) :: ws, ?_, .cons r2 rk⟩
            rw [List.map_cons, ← e, ← e1]
theorem RKs.fold : ∀ {more : List (Key × PV)} {ws : List (Key × V)} {acc : List (Key × PV)} {as : List (Key × V)}, RKs K d H more ws → RKs K d H acc as → RKs K d H (more.foldl (fun acc kv => putP acc kv.1 kv.2) acc) (mergeK as ws)
  | [], ws, acc, as, r, ra => by
    rcases r.cases with ⟨_, e⟩ | ⟨_, _, _, _, _, e, _⟩
    · subst e; exact ra
    · cases e
  | p :: more, ws, acc, as, r, ra => by
    rcases r.cases with ⟨e, _⟩ | ⟨k', x', v', kvs', ws', e1, e2, r1, t⟩
    · cases e
    · cases e1; subst e2
      exact RKs.fold (more := more) (ws := ws') t (ra.put r1)
theorem WOk.barK {D : Addr} {o : HO} (w : WOk K d H μ) (h : H D = none) : WOk K ⟨d.am, D :: d.ban⟩ (upd H D o) μ := by
  have b : Bars d ⟨d.am, D :: d.ban⟩ H := ⟨rfl, fun x q => (List.mem_cons.mp q).elim (fun z => .inr (by rw [z]; exact h)) .inl⟩
  refine ⟨w.len, w.nd, fun i a m h1 h2 => ?_, fun x hx => ?_⟩
  · have hm := w.ob i a m h1 h2
    have hne : a ≠ D := by rintro rfl; exact w.notin h (List.mem_of_getElem? h1)
    have e : Ext ⟨d.am, D :: d.ban⟩ H ⟨d.am, D :: d.ban⟩ (upd H D o) := ⟨⟨[], by simp, fun p hp => by simp at hp⟩, rfl, fun b u e _ => by rw [upd_ne (ne_of_none e h)]; exact e⟩
    cases m with
    | lst xs => obtain ⟨vs, q, r⟩ := hm; exact ⟨vs, by rw [upd_ne hne]; exact q, (r.bars b).mono e⟩
    | dk kvs => obtain ⟨vs, q, r1, r2⟩ := hm; exact ⟨vs, by rw [upd_ne hne]; exact q, r1, (r2.bars b).mono e⟩
    | fd o ws kvs => obtain ⟨q, r1, r2⟩ := hm; exact ⟨by rw [upd_ne hne]; exact q, r1, (r2.bars b).mono e⟩
  · rcases List.mem_cons.mp hx with z | z
    · subst z
      exact ⟨by rw [upd_same]; simp, w.notin h⟩
    · obtain ⟨q1, q2⟩ := w.ban x z
      refine ⟨?_, q2⟩
      have hne : x ≠ D := by rintro rfl; exact q1 h
      rw [upd_ne hne]; exact q1
instance {t m} [h : FPs K t m] : FE K (tDisp t) (mDisp m) := ⟨fun d σ H ρ μ P Q w e q k => by
  intro D hD
  have bD : Bars d ⟨d.am, D :: d.ban⟩ H := ⟨rfl, fun x q => (List.mem_cons.mp q).elim (fun z => .inr (by rw [z]; exact hD)) .inl⟩
  have lay0 : Ext ⟨d.am, D :: d.ban⟩ H ⟨d.am, D :: d.ban⟩ (upd H D (.dK [])) := ⟨⟨[], by simp, fun p hp => by simp at hp⟩, rfl, fun b u e _ => by rw [upd_ne (ne_of_none e hD)]; exact e⟩
  refine h.run _ σ _ ρ μ _ _ (w.barK hD) ((e.bars bD).mono lay0) q fun dB H1 μ1 ps qs e1 w1 r1 r2 q1 => ?_
  have nD : D ∉ (⟨d.am, D :: d.ban⟩ : Wd).am := w.notin hD
  have hD1 : H1 D = some (.dK []) := e1.keep _ _ upd_same nD
  refine ⟨hD1, ?_⟩
  cases a1 : keysP ps with
  | none => rw [a1] at q1; exact q1.elim
  | some kvs =>
    rw [a1] at q1
    obtain ⟨ws, eq, rk⟩ := keysP_rv r1 r2 a1
    refine ⟨ws, eq, by rw [← rk.len]; exact q1.1, ?_⟩
    have banB : D ∈ dB.ban := by rw [e1.ban]; exact List.mem_cons_self
    have nt := no_tupK hD1
    have w2 := w1.made (o := .dK (mergeK [] ws)) banB nt
    have hD2 : (upd H1 D (.dK (mergeK [] ws))) D = some (.dK (mergeK [] ws)) := upd_same
    have nt2 := no_tupK hD2
    have rk2 := rk.fold (K := K) (d := dB) (H := H1) .nil
    have hs : ∀ b ∈ d.ban, b ∈ dB.ban := fun b hb => by rw [e1.ban]; exact List.mem_cons_of_mem _ hb
    have hnD := (w1.ban D banB).2
    have hm : MOK K ⟨dB.am ++ [D], d.ban⟩ (upd H1 D (.dK (mergeK [] ws))) D (.dk (kvs.foldl (fun acc kv => putP acc kv.1 kv.2) [])) := ⟨_, hD2, rk2.1, (rk2.2.made banB nt).pushed banB nt2 hs⟩
    refine k ⟨dB.am ++ [D], d.ban⟩ _ _ _ _ ⟨?_, rfl, fun b o hb hn => ?_⟩ (w2.pushed banB nt2 hs (w.notban hD) hm) (.mr ?_) q1.2
    · obtain ⟨ex, q, f⟩ := e1.am
      refine ⟨ex ++ [D], by rw [q, List.append_assoc], fun p hp => ?_⟩
      rcases List.mem_append.mp hp with z | z
      · obtain ⟨f1, f2⟩ := f p z
        refine ⟨?_, f2⟩
        by_cases hpD : p = D
        · subst hpD; exact hD
        · rw [upd_ne hpD] at f1; exact f1
      · have e := List.mem_singleton.mp z
        subst e
        exact ⟨hD, nD⟩
    · have hne : b ≠ D := ne_of_none hb hD
      rw [upd_ne hne]
      exact e1.keep b o (by rw [upd_ne hne]; exact hb) hn
    · show (dB.am ++ [D])[μ1.length]? = some D
      rw [← w1.len, List.getElem?_append_right (Nat.le_refl _)]
      simp⟩
/-! ### repr -/
def isSeqD : PyData → Bool | .list _ => true | .tuple _ => true | _ => false
def rRepr (K : PySem.W.Frag) : List V → Hp → VK → Prop := fun xs H Q => ∃ x e, xs = [x] ∧ Dp K H x e ∧ isSeqD e = true ∧ e.showable = true ∧ e.hasDict = false ∧ e.depth ≤ 60 ∧ e.shown.length ≤ lim ∧ Q (.str e.shown) H
theorem cb_repr {X : Cx} (hg : X.A.guards = some []) (hu : X.A.units + 64 < cLine) : CallR X (.builtin "repr") (rRepr X.K) := by
  intro pins s σ H vs us Q I r h
  obtain ⟨x, e, rfl, hd, hs, h1, h2, h3, h4, q⟩ := h
  obtain ⟨u, rfl, ru⟩ := vals1 r
  obtain ⟨as, rd⟩ := Dp.reads I e x u hd ru
  have hv : ∃ a, u = .ref a := by
    cases rd <;> first | exact ⟨_, rfl⟩ | cases hs
  obtain ⟨a, rfl⟩ := hv
  exact repr_of_reads' rd h1 (PyData.noDict_hsm h2) hg (by omega) (fun _ _ z => z) (fun h' u tk hk => ⟨.str e.shown, H, I.kept hk, ⟨_, rfl⟩, q⟩) (lim_lt h4)
def pRepr : MB := fun xs μ P => match xs with | [x] => (match datP (frzP x μ) with | some e => (isSeqD e = true ∧ e.showable = true ∧ e.hasDict = false ∧ e.depth ≤ 60 ∧ e.shown.length ≤ lim) ∧ P (.str e.shown) μ | none => False) | _ => False
instance : FB K (rRepr K) pRepr := ⟨fun d H μ xs vs P Q w r q k => by
  match xs, r, q with
  | [x], .cons (v := v) r .nil, q =>
    unfold pRepr at q
    simp only at q
    cases e : datP (frzP x μ) with
    | none => rw [e] at q; exact q.elim
    | some dd =>
      rw [e] at q
      obtain ⟨⟨h1, h2, h3, h4, h5⟩, q⟩ := q
      exact ⟨v, dd, rfl, frz_dp w r e, h1, h2, h3, h4, h5, k d H μ _ _ .refl w (.str _) q⟩⟩
/-! ### isinstance -/
def tyP : PV → Option String
  | .non => some "NoneType" | .bl _ => some "bool" | .int _ => some "int" | .str _ => some "str" | .tup _ => some "tuple" | .lst _ => some "list" | _ => none
theorem tyP_rv {x : PV} {v : V} {T : String} (r : RV K d H x v) (h : tyP x = some T) : TyX K H v (.type T) := by
  cases r with
  | non => cases h; exact .base .non
  | bl b => cases h; exact .base (.bl b)
  | int i => cases h; exact .base (.int i)
  | str i => cases h; exact .base (.str i)
  | ty i => cases h
  | tup h1 h2 =>
    cases h
    rcases h1 with ⟨z | ⟨o, z⟩, _⟩ | (z | ⟨o, z⟩) | ⟨o, its, n, z1, z2, _⟩
    · exact .base (.tup z)
    · exact .fTuple z
    · cases z
    · cases z
    · exact .kTuple z1 z2
  | lst h1 h2 => cases h; exact .base (.lst h1.1)
  | kl h1 h2 => cases h
  | mr h1 => cases h
def pIsi : MB := fun xs μ P => match xs with | [x, .ty n] => (match tyP x with | some T => (match kitB T n with | some b => P (.bl b) μ | none => False) | none => False) | _ => False
instance : FB K (rIsi K) pIsi := ⟨fun d H μ xs vs P Q w r q k => by
  match xs, r, q with
  | [x, .ty n], .cons (v := v) r (.cons (.ty _) .nil), q =>
    unfold pIsi at q
    simp only at q
    cases e : tyP x with
    | none => rw [e] at q; exact q.elim
    | some T =>
      rw [e] at q
      simp only at q
      cases e2 : kitB T n with
      | none => rw [e2] at q; exact q.elim
      | some b =>
        rw [e2] at q
        exact ⟨v, .ty n, .type T, .type n, b, rfl, .ty n, tyP_rv r e, kit_ty e2, k d H μ _ _ .refl w (.bl _) q⟩⟩
end
end Fx

/-! Fx8: calls of defs, a def's body, the end of a law. -/
namespace Fx
open PySem PySem.Spec PyProof.Rows L2 RZ

abbrev PSp := List PV → Store → (PV → Store → Prop) → Prop
/-- what a caller sees behind a call -/
def QvOf (K : PySem.W.Frag) (d : Wd) (H : Hp) (Q : PV → Store → Prop) : VK := fun v H' => ∃ d' x μ', Ext d H d' H' ∧ WOk K d' H' μ' ∧ RV K d' H' x v ∧ Q x μ'
/-- a def that does what S says; no repr runs around it -/
structure FnG (P : Program) (w : World) (K : PySem.W.Frag) (mg : Str → Option Value) (base : Heap) (k : Nat) (f : Addr) (fd : FuncData) (ps : List Str) (S : PSp) : Prop where
  len : ∀ xs μ Q, S xs μ Q → xs.length = ps.length
  run : ∀ (A : Around) (outer : List Env) (s : Shared) (H : Hp) (args : Args) (us : List Value) (vs : List V) (xs : List PV) (d : Wd) (μ : Store) (Q : PV → Store → Prop),
    Room k A → A.guards = some [] → Env0 P w K mg base A outer s H → BindsTo s fd args (ps.zip us) → Vals vs us → WOk K d H μ → RVs K d H xs vs → S xs μ Q →
    codeAny (model P w) A (.call (.ref f) args) (CR CX0 outer P w H s (QvOf K d H Q) E0) s
theorem FnG.mono {P : Program} {w : World} {K : PySem.W.Frag} {mg : Str → Option Value} {base : Heap} {j k : Nat} {f : Addr} {fd : FuncData} {ps : List Str} {S : PSp} (F : FnG P w K mg base j f fd ps S) (h : j ≤ k) : FnG P w K mg base k f fd ps S :=
  ⟨F.len, fun A outer s H args us vs xs d μ Q hr => F.run A outer s H args us vs xs d μ Q (hr.mono h)⟩
theorem FnG.imp {P : Program} {w : World} {K : PySem.W.Frag} {mg : Str → Option Value} {base : Heap} {k : Nat} {f : Addr} {fd : FuncData} {ps : List Str} {S S' : PSp} (F : FnG P w K mg base k f fd ps S) (h : ∀ xs μ Q, S' xs μ Q → S xs μ Q) : FnG P w K mg base k f fd ps S' :=
  ⟨fun xs μ Q q => F.len xs μ Q (h _ _ _ q), fun A outer s H args us vs xs d μ Q hr hg e0 hb hv w r q => F.run A outer s H args us vs xs d μ Q hr hg e0 hb hv w r (h _ _ _ q)⟩

/-! ### calls -/
def tCallG (K : PySem.W.Frag) (S : PSp) (t : TA) : TE := fun σ H Q => t σ H fun vs H1 => ∃ d μ xs Q', WOk K d H1 μ ∧ RVs K d H1 xs vs ∧ S xs μ Q' ∧ ∀ v H2, QvOf K d H1 Q' v H2 → Q v H2
def perm {α : Type} (ix : List Nat) (l : List α) : List α := ix.filterMap (l[·]?)
def tCallKG (K : PySem.W.Frag) (S : PSp) (ix : List Nat) (t tk : TA) : TE := fun σ H Q => t σ H fun vs H1 => tk σ H1 fun zs H2 => ∃ d μ xs Q', WOk K d H2 μ ∧ RVs K d H2 xs (perm ix (vs ++ zs)) ∧ S xs μ Q' ∧ ∀ v H3, QvOf K d H2 Q' v H3 → Q v H3
section
variable {X : Cx} {k : Nat} {f : Addr} {fd : FuncData} {ps ks : List Str} {S : PSp} {x : Str} {p pos : Pos} {e : Expr} {es : List Expr} {kws : List Keyword} {t tk : TA}
theorem go_fn {pins : List (Addr × Obj)} {σ : L2.St} {H : Hp} {s : Shared} {Q : VK} {us : List Value} {args : Args} {vs : List V} {d : Wd} {μ : Store} {xs : List PV} {Q' : PV → Store → Prop} (F : FnG X.prog X.w X.K X.mg X.base k f fd ps S) (hr : Room k X.A) (hg : X.A.guards = some [])
    (I : Inv X pins σ H s) (hb : BindsTo s fd args (ps.zip us)) (r : Vals vs us) (w : WOk X.K d H μ) (rx : RVs X.K d H xs vs) (h : S xs μ Q') (fin : ∀ v H2, QvOf X.K d H Q' v H2 → Q v H2) :
    codeAny (model X.prog X.w) X.A (.call (.ref f) args) (fun r s' => match r with | .ok (.ret u) => EP X pins σ Q u s' | _ => False) s := by
  refine codeAny_mono (F.run X.A X.stack s H args us vs xs d μ Q' hr hg I.env0 hb r w rx h) fun res s' hq => ?_
  match res, hq with
  | .ok (.ret u), hq =>
    obtain ⟨v, H', a1, a2, a3, a4, a5, a6⟩ := hq
    exact I.after ⟨v, H', a1, a2, a3, a4, a5, fin v H' a6⟩
  | .ok .next, hq => exact hq.elim
  | .ok .brk, hq => exact hq.elim
  | .ok .cont, hq => exact hq.elim
  | .error _, hq => exact hq.elim
theorem perm_rel {α β : Type} {R : α → β → Prop} {l : List α} {l' : List β} (h : Paired R l l') : ∀ ix : List Nat, Paired R (perm ix l) (perm ix l')
  | [] => .nil
  | i :: ix => by
    have ih := perm_rel h ix
    have g : ∀ {l : List α} {l' : List β} (i : Nat), Paired R l l' → (l[i]? = none ∧ l'[i]? = none) ∨ ∃ a b, l[i]? = some a ∧ l'[i]? = some b ∧ R a b := by
      intro l l' i h
      induction h generalizing i with
      | nil => exact .inl ⟨by simp, by simp⟩
      | cons r t ih =>
        cases i with
        | zero => exact .inr ⟨_, _, rfl, rfl, r⟩
        | succ i => simpa using ih i
    rcases g i h with ⟨h1, h2⟩ | ⟨a, b, h1, h2, r⟩
    · simpa [perm, h1, h2] using ih
    · simpa [perm, h1, h2] using Paired.cons r ih
theorem perm_rvs {K : PySem.W.Frag} {d : Wd} {H : Hp} {xs : List PV} {vs : List V} (h : RVs K d H xs vs) : ∀ ix : List Nat, RVs K d H (perm ix xs) (perm ix vs)
  | [] => .nil
  | i :: ix => by
    have ih := perm_rvs h ix
    cases e : xs[i]? with
    | none =>
      have e2 : vs[i]? = none := by
        have := List.getElem?_eq_none_iff.mp e
        exact List.getElem?_eq_none_iff.mpr (by rw [← h.length]; exact this)
      simpa [perm, e, e2] using ih
    | some a =>
      obtain ⟨b, e2, r⟩ := h.get e
      simpa [perm, e, e2] using RVs.cons r ih
theorem pe_callG (F : FnG X.prog X.w X.K X.mg X.base k f fd ps S) (hr : Room k X.A) (hgd : X.A.guards = some []) (hg : Gl X x) (hm : X.mg x = some (.ref f)) (hk : PySem.W.keepIn X.K (.ref f) = true) (hb : Binds X.K fd ps [])
    (ha : PA X (e :: es) t) (hdb : (x == ("__debug__" : Str)) = false := by decide) (he : starEach (e :: es) X.env = (false, eval e X.env) :: starEach es X.env := by rfl) (hpl : (backTo pos (starEach es X.env)).any (·.1) = false := by rfl) :
    PE X (.Call (.Name x p) (e :: es) [] pos) (tCallG X.K S t) := ⟨fun pins s σ H Q I h => by
  refine wpAny_Call_Name_kw (ld_glob I hg hm (PySem.W.callWith_K (h₀ := X.base) I.ok.mod.kin hk (thn (ha.run pos pins s σ H _ I h) fun us s1 hq => ?_) he hpl) hdb)
  obtain ⟨vs, H1, I1, r, d, μ, xs, Q', w, rx, hS, fin⟩ := hq
  have hl : us.length = ps.length := by rw [← r.length, ← rx.length]; exact F.len _ _ _ hS
  refine ⟨I1.kIn, wpAny_call ?_⟩
  have hb' := hb s1 us I1.kIn (by rw [List.append_nil]; exact hl)
  rw [List.append_nil] at hb'
  exact codeAny_mono (go_fn F hr hgd I1 hb' r w rx hS fin) fun res s' hq => by
    match res, hq with
    | .ok (.ret u), hq => exact hq⟩
/-- how keywords bind -/
def KBs (fd : FuncData) (ps ks : List Str) (n : Nat) (ix : List Nat) : Prop := ∀ (s : Shared) (us ws : List Value), us.length = n → ws.length = ks.length → BindsTo s fd ⟨us, ks.zip ws⟩ (ps.zip (perm ix (us ++ ws)))
def tEmpty : TA := tNil
theorem pe_callK0G {ix : List Nat} (F : FnG X.prog X.w X.K X.mg X.base k f fd ps S) (hr : Room k X.A) (hgd : X.A.guards = some []) (hg : Gl X x) (hm : X.mg x = some (.ref f)) (hk : PySem.W.keepIn X.K (.ref f) = true) (hb : KBs fd ps ks 0 ix)
    (hkw : PK X kws tk) (hln : ∀ ws : List Value, True := by intro _; trivial) (hall : (backToKw pos (keywordEach kws X.env)).all (·.1.isSome) = true := by rfl) (hks : (backToKw pos (keywordEach kws X.env)).filterMap (·.1) = ks := by rfl)
    (hn : kws.length = ks.length := by rfl) (hix : ∀ zs : List V, zs.length = ks.length → True := by intro _ _; trivial) (hdb : (x == ("__debug__" : Str)) = false := by decide)
    (hpl : ((backTo pos (starEach [] X.env)).any (·.1) || (backToKw pos (keywordEach kws X.env)).any (·.1.isNone)) = false := by rfl) (hkl : ((backToKw pos (keywordEach kws X.env)).map (·.2)).length = ks.length := by rfl) :
    PE X (.Call (.Name x p) [] kws pos) (tCallKG X.K S ix (fun _ H Q => Q [] H) (fun σ H Q => tk σ H fun zs H1 => zs.length = ks.length ∧ Q zs H1)) := ⟨fun pins s σ H Q I h => by
  refine wpAny_Call_Name_kw (ld_glob I hg hm (PySem.W.callWith_KW0 (h₀ := X.base) I.ok.mod.kin hk hall (thn (hkw.run pos pins s σ H _ I h) fun ws s2 hq => ?_) hpl) hdb)
  obtain ⟨zs, H2, I2, rz, hz, d, μ, xs, Q', w, rx, hS, fin⟩ := hq
  refine ⟨I2.kIn, wpAny_call ?_⟩
  rw [hks]
  have rz' : Vals (perm ix ([] ++ zs)) (perm ix ([] ++ ws)) := perm_rel (by simpa using rz) ix
  exact codeAny_mono (go_fn F hr hgd I2 (hb s2 [] ws rfl (by rw [← rz.length]; exact hz)) rz' w rx hS fin) fun res s' hq => by
    match res, hq with
    | .ok (.ret u), hq => exact hq⟩
end
section
variable {K : PySem.W.Frag}
def mCall (S : PSp) (m : MA) : ME := fun ρ μ P => m ρ μ fun xs μ1 => S xs μ1 P
instance {S t m} [h : FA K t m] : FE K (tCallG K S t) (mCall S m) := ⟨fun d σ H ρ μ P Q w e q k => by
  refine h.run d σ H ρ μ _ _ w e q fun d1 H1 μ1 xs vs e1 w1 r1 q1 => ?_
  refine ⟨d1, μ1, xs, P, w1, r1, q1, fun v H2 ⟨d2, x, μ2, e2, w2, r2, q2⟩ => k d2 H2 μ2 x v (e1.trans e2) w2 r2 q2⟩⟩
/-- a call with keywords alone -/
def mCallK (S : PSp) (ix : List Nat) (n : Nat) (m : MA) : ME := fun ρ μ P => m ρ μ fun xs μ1 => xs.length = n ∧ S (perm ix xs) μ1 P
instance {S ix t m} {n : Nat} [h : FA K t m] : FE K (tCallKG K S ix (fun _ H Q => Q [] H) (fun σ H Q => t σ H fun zs H1 => zs.length = n ∧ Q zs H1)) (mCallK S ix n m) := ⟨fun d σ H ρ μ P Q w e q k => by
  refine h.run d σ H ρ μ _ _ w e q fun d1 H1 μ1 xs vs e1 w1 r1 q1 => ?_
  refine ⟨by rw [← r1.length]; exact q1.1, d1, μ1, perm ix xs, P, w1, by simpa using perm_rvs r1 ix, q1.2, fun v H2 ⟨d2, x, μ2, e2, w2, r2, q2⟩ => k d2 H2 μ2 x v (e1.trans e2) w2 r2 q2⟩⟩
end

/-! ### what a def leaves behind -/
mutual
def noRef : PV → Bool
  | .mr _ => false
  | .tup xs => noRefs xs
  | .lst xs => noRefs xs
  | .kl xs => noRefs xs
  | _ => true
def noRefs : List PV → Bool
  | [] => true
  | x :: xs => noRef x && noRefs xs
end
/-- the value and the store as the caller sees them -/
inductive Gc (μ0 : Store) (x : PV) (μ : Store) : PV → Store → Prop
  | keep : Gc μ0 x μ x μ
  | drop (g : Store) : μ = μ0 ++ g → noRef x = true → Gc μ0 x μ x μ0
  | froz (n : Nat) (g : Store) (xs : List PV) : x = .mr n → μ = μ0 ++ g → μ[n]? = some (.lst xs) → μ0.length ≤ n → noRefs xs = true → Gc μ0 x μ (.lst xs) μ0
  | newl (n : Nat) (g : Store) (xs : List PV) : x = .mr n → μ = μ0 ++ g → μ[n]? = some (.lst xs) → μ0.length ≤ n → noRefs xs = true → Gc μ0 x μ (.mr μ0.length) (μ0 ++ [.lst xs])
  | newd (n : Nat) (g : Store) (kvs : List (Key × PV)) : x = .mr n → μ = μ0 ++ g → μ[n]? = some (.dk kvs) → μ0.length ≤ n → noRefs (kvs.map (·.2)) = true → Gc μ0 x μ (.mr μ0.length) (μ0 ++ [.dk kvs])
  | froz2 (n : Nat) (g : Store) (ks : List Nat) (yss : List (List PV)) : x = .mr n → μ = μ0 ++ g → μ[n]? = some (.lst (ks.map .mr)) → μ0.length ≤ n → ks.length = yss.length →
      (∀ (i k : Nat) (ys : List PV), ks[i]? = some k → yss[i]? = some ys → μ[k]? = some (.lst ys) ∧ μ0.length ≤ k ∧ noRefs ys = true) → Gc μ0 x μ (.lst (yss.map .lst)) μ0
section
variable {K : PySem.W.Frag} {d d' : Wd} {H H' : Hp} {μ0 μ : Store}
mutual
theorem RV.fewer {am : List Addr} (ha : ∀ b ∈ am, b ∈ d.am) : ∀ {x : PV} {v : V}, RV K d H x v → noRef x = true → RV K ⟨am, d.ban⟩ H x v
  | _, _, .non, _ => .non
  | _, _, .bl b, _ => .bl b
  | _, _, .int i, _ => .int i
  | _, _, .str x, _ => .str x
  | _, _, .ty n, _ => .ty n
  | _, _, .tup h r, z => .tup (h.imp (fun q => ⟨q.1, fun m => q.2 (ha _ m)⟩) id) (RVs.fewer ha r z)
  | _, _, .lst h r, z => .lst ⟨h.1, fun m => h.2.1 (ha _ m), h.2.2⟩ (RVs.fewer ha r z)
  | _, _, .kl h r, z => .kl (h.imp (fun q => ⟨q.1, fun m => q.2.1 (ha _ m), q.2.2⟩) id) (RVs.fewer ha r z)
  | _, _, .mr h, z => by cases z
theorem RVs.fewer {am : List Addr} (ha : ∀ b ∈ am, b ∈ d.am) : ∀ {xs : List PV} {vs : List V}, RVs K d H xs vs → noRefs xs = true → RVs K ⟨am, d.ban⟩ H xs vs
  | _, _, .nil, _ => .nil
  | _, _, .cons r t, z => by
    simp only [noRefs, Bool.and_eq_true] at z
    exact .cons (RV.fewer ha r z.1) (RVs.fewer ha t z.2)
end
mutual
/-- a value that stood in the old store, seen in the new heap -/
theorem RV.back {am am2 bn : List Addr} {H0 : Hp} (hs : ∀ b ∈ am2, b ∈ d'.am) (hp : ∀ (n : Nat) b, am[n]? = some b → am2[n]? = some b ∧ d'.am[n]? = some b) : ∀ {x : PV} {v u : V}, RV K ⟨am, bn⟩ H0 x v → RV K d' H' x u → RV K ⟨am2, d'.ban⟩ H' x u
  | _, _, _, .non, .non => .non
  | _, _, _, .bl b, .bl _ => .bl b
  | _, _, _, .int i, .int _ => .int i
  | _, _, _, .str x, .str _ => .str x
  | _, _, _, .ty n, .ty _ => .ty n
  | _, _, _, .tup _ r, .tup h' r' => .tup (h'.imp (fun q => ⟨q.1, fun m => q.2 (hs _ m)⟩) id) (RVs.back hs hp r r')
  | _, _, _, .lst _ r, .lst h r' => .lst ⟨h.1, fun m => h.2.1 (hs _ m), h.2.2⟩ (RVs.back hs hp r r')
  | _, _, _, .kl _ r, .kl h' r' => .kl (h'.imp (fun q => ⟨q.1, fun m => q.2.1 (hs _ m), q.2.2⟩) id) (RVs.back hs hp r r')
  | _, _, _, .mr h, .mr h' => .mr (by
      obtain ⟨h1, h2⟩ := hp _ _ h
      rw [h2] at h'; cases h'
      exact h1)
theorem RVs.back {am am2 bn : List Addr} {H0 : Hp} (hs : ∀ b ∈ am2, b ∈ d'.am) (hp : ∀ (n : Nat) b, am[n]? = some b → am2[n]? = some b ∧ d'.am[n]? = some b) : ∀ {xs : List PV} {vs us : List V}, RVs K ⟨am, bn⟩ H0 xs vs → RVs K d' H' xs us → RVs K ⟨am2, d'.ban⟩ H' xs us
  | _, _, _, .nil, .nil => .nil
  | _, _, _, .cons r t, .cons r' t' => .cons (RV.back hs hp r r') (RVs.back hs hp t t')
end
theorem MOK.back {am am2 bn : List Addr} {H0 : Hp} {a : Addr} (hs : ∀ b ∈ am2, b ∈ d'.am) (hp : ∀ (n : Nat) b, am[n]? = some b → am2[n]? = some b ∧ d'.am[n]? = some b) {m : MO} (m0 : MOK K ⟨am, bn⟩ H0 a m) (m1 : MOK K d' H' a m) : MOK K ⟨am2, d'.ban⟩ H' a m := by
  cases m with
  | lst xs =>
    obtain ⟨vs, q, r⟩ := m0
    obtain ⟨us, q', r'⟩ := m1
    exact ⟨us, q', RVs.back hs hp r r'⟩
  | dk kvs =>
    obtain ⟨vs, q, r1, r⟩ := m0
    obtain ⟨us, q', r1', r'⟩ := m1
    exact ⟨us, q', r1', RVs.back hs hp r r'⟩
  | fd o ws kvs =>
    obtain ⟨q, r1, r⟩ := m0
    obtain ⟨q', r1', r'⟩ := m1
    exact ⟨q', r1', RVs.back hs hp r r'⟩
theorem WOk.back {g : Store} (e : Ext d H d' H') (w0 : WOk K d H μ0) (w : WOk K d' H' (μ0 ++ g)) : Ext d H d H' ∧ WOk K d H' μ0 := by
  obtain ⟨am, bn⟩ := d
  have hb := e.ban
  simp only at hb
  refine ⟨⟨⟨[], by simp, fun p hp => by simp at hp⟩, rfl, e.keep⟩, w0.len, w0.nd, fun i a m h1 h2 => ?_, fun b hb' => ?_⟩
  · have hi : i < μ0.length := (List.getElem?_eq_some_iff.mp h2).1
    have h3 : (μ0 ++ g)[i]? = some m := by rw [List.getElem?_append_left hi]; exact h2
    have := MOK.back (am2 := am) (fun b hb => e.mem hb) (fun n b q => ⟨q, e.at q⟩) (w0.ob i a m h1 h2) (w.ob i a m (e.at h1) h3)
    rw [hb] at this
    exact this
  · obtain ⟨q1, q2⟩ := w.ban b (by rw [hb]; exact hb')
    exact ⟨q1, fun z => q2 (e.mem z)⟩
theorem Gc.ok {x y : PV} {μ' : Store} {v : V} (h : Gc μ0 x μ y μ') (e : Ext d H d' H') (w0 : WOk K d H μ0) (w : WOk K d' H' μ) (r : RV K d' H' x v) : ∃ d2, Ext d H d2 H' ∧ WOk K d2 H' μ' ∧ RV K d2 H' y v := by
  obtain ⟨ex, ha, hf⟩ := e.am
  have eb : (⟨d.am, d'.ban⟩ : Wd) = d := by rw [e.ban]
  have later : ∀ {n : Nat} {a : Addr}, d'.am[n]? = some a → μ0.length ≤ n → a ∉ d.am := fun {n a} h1 hm z => by
    obtain ⟨j, hj, ej⟩ := List.getElem_of_mem z
    have h2 : d'.am[j]? = some a := e.at (by rw [List.getElem?_eq_getElem hj, ej])
    obtain ⟨l1, z1⟩ := List.getElem?_eq_some_iff.mp h1
    obtain ⟨l2, z2⟩ := List.getElem?_eq_some_iff.mp h2
    have := (List.getElem_inj w.nd).mp (z1.trans z2.symm)
    have h4 := w0.len
    omega
  cases h with
  | keep => exact ⟨d', e, w, r⟩
  | drop g hg hn =>
    subst hg
    obtain ⟨e1, w1⟩ := WOk.back e w0 w
    have := RV.fewer (am := d.am) (fun b hb => e.mem hb) r hn
    rw [eb] at this
    exact ⟨d, e1, w1, this⟩
  | froz n g xs hx hg hm hn hr =>
    subst hg; subst hx
    obtain ⟨e1, w1⟩ := WOk.back e w0 w
    cases r with
    | @mr _ a h1 =>
      obtain ⟨vs, q, rv⟩ := w.obj h1 hm
      have := RVs.fewer (am := d.am) (fun b hb => e.mem hb) rv hr
      rw [eb] at this
      exact ⟨d, e1, w1, .lst ⟨q, later h1 hn, fun z => (w.ban a (by rw [e.ban]; exact z)).2 (List.mem_of_getElem? h1)⟩ this⟩
  | newl n g xs hx hg hm hn hr =>
    subst hg; subst hx
    obtain ⟨e1, w1⟩ := WOk.back e w0 w
    cases r with
    | @mr _ a h1 =>
      obtain ⟨vs, q, rv⟩ := w.obj h1 hm
      have hna : a ∉ d.am := later h1 hn
      have hae : a ∈ ex := by
        have := List.mem_of_getElem? h1
        rw [ha] at this
        exact (List.mem_append.mp this).resolve_left hna
      have hHa := (hf a hae).1
      have sub : ∀ b, b ∈ d.am ++ [a] → b ∈ d'.am := fun b hb => by
        rcases List.mem_append.mp hb with z | z
        · exact e.mem z
        · rw [List.mem_singleton.mp z]; exact List.mem_of_getElem? h1
      have rs : RVs K ⟨d.am ++ [a], d.ban⟩ H' xs vs := by
        have := RVs.fewer (am := d.am ++ [a]) sub rv hr
        rw [e.ban] at this
        exact this
      refine ⟨⟨d.am ++ [a], d.ban⟩, ⟨⟨[a], rfl, fun p hp => by
        have e := List.mem_singleton.mp hp
        subst e; exact ⟨hHa, hna⟩⟩, rfl, e1.keep⟩, ⟨by simp [w0.len], ?_, fun i b m h2 h3 => ?_, fun b hb' => ?_⟩, .mr ?_⟩
      · show (d.am ++ [a]).Nodup
        rw [List.nodup_append]
        exact ⟨w0.nd, by simp, fun x hx y hy => by
          have := List.mem_singleton.mp hy
          subst this; rintro rfl; exact hna hx⟩
      · replace h2 : (d.am ++ [a])[i]? = some b := h2
        by_cases hi : i < d.am.length
        · rw [List.getElem?_append_left hi] at h2
          have hi' : i < μ0.length := by rw [← w0.len]; exact hi
          rw [List.getElem?_append_left hi'] at h3
          have h4 : (μ0 ++ g)[i]? = some m := by rw [List.getElem?_append_left hi']; exact h3
          have := MOK.back (am := d.am) (bn := d.ban) (am2 := d.am ++ [a]) sub (fun n b q => ⟨by rw [List.getElem?_append_left (List.getElem?_eq_some_iff.mp q).1]; exact q, e.at q⟩) (w0.ob i b m h2 h3) (w.ob i b m (e.at h2) h4)
          rw [e.ban] at this
          exact this
        · have hi2 : i = d.am.length := by
            have := (List.getElem?_eq_some_iff.mp h2).1
            simp at this; omega
          subst hi2
          rw [List.getElem?_append_right (Nat.le_refl _)] at h2
          rw [w0.len, List.getElem?_append_right (Nat.le_refl _)] at h3
          simp at h2 h3
          subst h2; subst h3
          exact ⟨vs, q, rs⟩
      · obtain ⟨q1, q2⟩ := w.ban b (by rw [e.ban]; exact hb')
        exact ⟨q1, fun z => q2 (sub b z)⟩
      · show (d.am ++ [a])[μ0.length]? = some a
        rw [← w0.len, List.getElem?_append_right (Nat.le_refl _)]
        simp
  | newd n g kvs hx hg hm hn hr =>
    subst hg; subst hx
    obtain ⟨e1, w1⟩ := WOk.back e w0 w
    cases r with
    | @mr _ a h1 =>
      obtain ⟨vs, q, rk, rv⟩ := w.obj h1 hm
      have hna : a ∉ d.am := later h1 hn
      have hae : a ∈ ex := by
        have := List.mem_of_getElem? h1
        rw [ha] at this
        exact (List.mem_append.mp this).resolve_left hna
      have hHa := (hf a hae).1
      have sub : ∀ b, b ∈ d.am ++ [a] → b ∈ d'.am := fun b hb => by
        rcases List.mem_append.mp hb with z | z
        · exact e.mem z
        · rw [List.mem_singleton.mp z]; exact List.mem_of_getElem? h1
      have rs : RVs K ⟨d.am ++ [a], d.ban⟩ H' (kvs.map (·.2)) (vs.map (·.2)) := by
        have := RVs.fewer (am := d.am ++ [a]) sub rv hr
        rw [e.ban] at this
        exact this
      refine ⟨⟨d.am ++ [a], d.ban⟩, ⟨⟨[a], rfl, fun p hp => by
        have e := List.mem_singleton.mp hp
        subst e; exact ⟨hHa, hna⟩⟩, rfl, e1.keep⟩, ⟨by simp [w0.len], ?_, fun i b m h2 h3 => ?_, fun b hb' => ?_⟩, .mr ?_⟩
      · show (d.am ++ [a]).Nodup
        rw [List.nodup_append]
        exact ⟨w0.nd, by simp, fun x hx y hy => by
          have := List.mem_singleton.mp hy
          subst this; rintro rfl; exact hna hx⟩
      · replace h2 : (d.am ++ [a])[i]? = some b := h2
        by_cases hi : i < d.am.length
        · rw [List.getElem?_append_left hi] at h2
          have hi' : i < μ0.length := by rw [← w0.len]; exact hi
          rw [List.getElem?_append_left hi'] at h3
          have h4 : (μ0 ++ g)[i]? = some m := by rw [List.getElem?_append_left hi']; exact h3
          have := MOK.back (am := d.am) (bn := d.ban) (am2 := d.am ++ [a]) sub (fun n b q => ⟨by rw [List.getElem?_append_left (List.getElem?_eq_some_iff.mp q).1]; exact q, e.at q⟩) (w0.ob i b m h2 h3) (w.ob i b m (e.at h2) h4)
          rw [e.ban] at this
          exact this
        · have hi2 : i = d.am.length := by
            have := (List.getElem?_eq_some_iff.mp h2).1
            simp at this; omega
          subst hi2
          rw [List.getElem?_append_right (Nat.le_refl _)] at h2
          rw [w0.len, List.getElem?_append_right (Nat.le_refl _)] at h3
          simp at h2 h3
          subst h2; subst h3
          exact ⟨vs, q, rk, rs⟩
      · obtain ⟨q1, q2⟩ := w.ban b (by rw [e.ban]; exact hb')
        exact ⟨q1, fun z => q2 (sub b z)⟩
      · show (d.am ++ [a])[μ0.length]? = some a
        rw [← w0.len, List.getElem?_append_right (Nat.le_refl _)]
        simp
  | froz2 n g ks yss hx hg hm hn hl hk =>
    subst hg; subst hx
    obtain ⟨e1, w1⟩ := WOk.back e w0 w
    cases r with
    | @mr _ a h1 =>
      obtain ⟨vs, q, rv⟩ := w.obj h1 hm
      have nb : ∀ {n : Nat} {a : Addr}, d'.am[n]? = some a → a ∉ d.ban := fun {n a} h z => (w.ban a (by rw [e.ban]; exact z)).2 (List.mem_of_getElem? h)
      have go : ∀ (ks : List Nat) (yss : List (List PV)) (vs : List V), ks.length = yss.length → (∀ (i k : Nat) (ys : List PV), ks[i]? = some k → yss[i]? = some ys → (μ0 ++ g)[k]? = some (.lst ys) ∧ μ0.length ≤ k ∧ noRefs ys = true) →
          RVs K d' H' (ks.map .mr) vs → RVs K d H' (yss.map .lst) vs := by
        intro ks
        induction ks with
        | nil =>
          intro yss vs hl hk rv
          cases yss with
          | nil => cases rv; exact .nil
          | cons y r => simp at hl
        | cons k ks ih =>
          intro yss vs hl hk rv
          cases yss with
          | nil => simp at hl
          | cons ys yss =>
            cases rv with
            | cons r1 rv =>
              refine .cons ?_ (ih yss _ (by simpa using hl) (fun i k ys h2 h3 => hk (i + 1) k ys (by simpa using h2) (by simpa using h3)) rv)
              cases r1 with
              | @mr _ b h2 =>
                obtain ⟨z1, z2, z3⟩ := hk 0 k ys rfl rfl
                obtain ⟨us, q2, ru⟩ := w.obj h2 z1
                have := RVs.fewer (am := d.am) (fun b hb => e.mem hb) ru z3
                rw [eb] at this
                exact .lst ⟨q2, later h2 z2, nb h2⟩ this
      exact ⟨d, e1, w1, .lst ⟨q, later h1 hn, nb h1⟩ (go ks yss vs hl hk rv)⟩
end

/-! ### a def by its body -/
def startP (N : List Str) (xs : List PV) : PEnv := xs.map some ++ List.replicate (N.length - xs.length) none
theorem start_env {K : PySem.W.Frag} {d : Wd} {H : Hp} {N : List Str} {xs : List PV} {vs : List V} (r : RVs K d H xs vs) : REnv K d H (startP N xs) (L2.start N vs) := by
  unfold startP L2.start
  refine ⟨by simp [r.length], fun i x h => ?_⟩
  by_cases hi : i < xs.length
  · rw [List.getElem?_append_left (by simpa using hi), List.getElem?_map] at h
    rw [List.getElem?_append_left (by simpa [← r.length] using hi), List.getElem?_map]
    cases e : xs[i]? with
    | none => rw [e] at h; cases h
    | some y =>
      rw [e] at h; simp at h; subst h
      obtain ⟨v, e2, rv⟩ := r.get e
      exact ⟨v, by rw [e2]; rfl, rv⟩
  · rw [List.getElem?_append_right (by simpa using hi), List.getElem?_replicate] at h
    split at h <;> cases h
/-- what is wanted at a body's end -/
def mEnd (μ0 : Store) (Q : PV → Store → Prop) : MEnds := { nx := fun _ μ => ∃ y μ', Gc μ0 .non μ y μ' ∧ Q y μ', rt := fun x μ => ∃ y μ', Gc μ0 x μ y μ' ∧ Q y μ' }
theorem FnG.of {P : Program} {w : World} {K : PySem.W.Frag} {mg : Str → Option Value} {base : Heap} {x qual : Str} {st : Stmt} {f : Addr} {fd : FuncData} {N ps : List Str} {k : Nat} {S : PSp} (F : Fun K x qual st f fd) (sc : FnScope N ps (defScope st))
    (len : ∀ xs μ Q, S xs μ Q → xs.length = ps.length)
    (hbody : ∀ (cdv : Value) (A : Around) (outer : List Env) (s : Shared) (H : Hp), Room k (A.deeper (envOfC qual (defScope st) s.heap.objs.size f cdv)) → A.guards = some [] →
      ∃ t m, PSs (cxOf CX0 P w K mg base N qual (defScope st) f cdv A outer s H E0).nox (defBody st) t ∧ FS K t m ∧ ∀ xs μ Q, S xs μ Q → m (mEnd μ Q) (startP N xs) μ) : FnG P w K mg base (k + 1) f fd ps S := by
  obtain ⟨oc, od, kV, doc, pm, an, cdv, ct, osl, rfl, lk, hcd⟩ := F.ex
  refine ⟨len, fun A outer s H args us vs xs d μ Q hr hgd e0 hb hv wk rx hS => ?_⟩
  have hl : vs.length = ps.length := by rw [← rx.length]; exact len _ _ _ hS
  have kp := fun b o e => (e0.bs b o e).1
  have KX : K.In s.heap := e0.mod.kin.keeps kp
  refine codeAny_call_function hr.depth (KX _ _ lk) rfl sc.co sc.gen rfl (PySem.W.codeRec_of KX hcd) (hb _ _ _ _ ?_)
  refine wpAny_newFunctionEnv_cells sc.kind (fun p hp => ?_) fun env he s1 en => ?_
  · obtain ⟨n, u⟩ := p
    exact (sc.par n (List.of_mem_zip hp).1).imp id fun q => ⟨q, PySem.W.cellsFrom_some _ _ _ (.inl q)⟩
  subst he
  obtain ⟨t, m, hP, hF, hM⟩ := hbody cdv A outer s H (hr.deeper _) hgd
  have I := (inv_start (CX := CX0) (qual := qual) (f := f) (cd := cdv) (A := A) (outer := outer) (E := E0) sc hr.hd e0 hl hv en).wish (fun _ _ => False)
  have reading := hF.run d (L2.start N vs) H (startP N xs) μ (mEnd μ Q) { nx := fun _ H' => QvOf K d H Q .non H', rt := QvOf K d H Q } wk (start_env rx) (hM xs μ Q hS)
    ⟨fun d' σ' H' ρ' μ' e' w' _ ⟨y, μ2, g, q⟩ => by
        obtain ⟨d2, a1, a2, a3⟩ := g.ok e' wk w' .non
        exact ⟨d2, y, μ2, a1, a2, a3, q⟩,
     fun d' H' μ' z v e' w' r ⟨y, μ2, g, q⟩ => by
        obtain ⟨d2, a1, a2, a3⟩ := g.ok e' wk w' r
        exact ⟨d2, y, μ2, a1, a2, a3, q⟩,
     fun _ _ _ _ _ _ _ _ q => q.elim, fun _ _ _ _ _ _ _ _ q => q.elim⟩
  refine ⟨e0.mod.nolimit.keeps (fun b o z => en.toInCall.keep b o (kp b o z)), codeAny_func (wpAny_mono (hP.run [] s1 (L2.start N vs) H _ I reading) (fun fl s' hs => ?_) fun _ _ z => z.elim)⟩
  match fl, hs with
  | .ret u, ⟨v, σ', H', J, rv, q⟩ => exact ⟨v, H', J.os, J.bare, J.base, J.hok, rv, q⟩
  | .next, ⟨σ', H', J, q⟩ => exact ⟨.non, H', J.os, J.bare, J.base, J.hok, rfl, q⟩
  | .brk, ⟨_, _, _, q⟩ => exact q.elim
  | .cont, ⟨_, _, _, q⟩ => exact q.elim
end Fx

/-! Fx9: the end of a law, from its def's promise. -/
namespace Fx
open PySem PySem.Spec PyProof.Rows L2 RZ

theorem law_go {P : Program} {w : World} {K : PySem.W.Frag} {mg mb : Str → Option Value} {k : Nat} {fa a : Addr} {fd : FuncData} {x : Str} {S : PSp} {s₁ : Shared} {us : List Value} {ns : List Int}
    (hK : K.In s₁.heap) (gl : s₁.heap.Ns mainGlobals mg) (bl : s₁.heap.Ns builtinsNs mb) (bb : ∀ y : Str, y ≠ "__name__" → mb y = bootBuiltins y) (nl : s₁.heap.NoLimit) (gn : s₁.gens = #[])
    (ob : s₁.heap.get? a = some { cls := .type "list", data := .seq us.toArray }) (is : IntsAre us ns) (sz : ns.length ≤ sizeLine) (room : Room k callerA)
    (F : ∀ base : Heap, K.In base → base.Ns mainGlobals mg → FnG P w K mg base k fa fd [x] S) (bind : ∀ (s : Shared) (u : Value), BindsTo s fd ⟨[u], []⟩ [(x, u)])
    (hS : S [.kl (ns.map PV.int)] [] (fun v _ => v = .bl true)) :
    codeAny (model P w) callerA (.call (.ref fa) ⟨[.ref a], []⟩) (fun r s' => r = .ok (.ret (.bool true)) ∧ OldK s₁.heap s'.heap ∧ s'.os = s₁.os ∧ AllBare s'.gens) s₁ := by
  have vals := vals_ints is
  have lens := is.length
  suffices core : ∀ H : Hp, Only H → SqL K H a (ns.map V.int) → HOk P w H s₁.heap → (∀ b, H b ≠ none → b = a ∧ K.lookup a = none) →
      codeAny (model P w) callerA (.call (.ref fa) ⟨[.ref a], []⟩) (fun r s' => r = .ok (.ret (.bool true)) ∧ OldK s₁.heap s'.heap ∧ s'.os = s₁.os ∧ AllBare s'.gens) s₁ by
    cases hk : K.lookup a with
    | some o =>
      have e := hK a o hk
      rw [ob] at e
      cases e
      exact core hp0 (fun _ => .inl rfl) (.inr ⟨_, us.toArray, _, hk, rfl, rfl, rfl, by rw [List.size_toArray, lens]; exact sz, by simpa using vals⟩) (fun b u z => by cases z) fun b z => absurd rfl z
    | none =>
      have there : HOk P w (upd hp0 a (.frz { cls := .type "list", data := .seq us.toArray } (.lst (ns.map V.int)))) s₁.heap := fun b u z => by
        by_cases hb : b = a
        · subst hb
          rw [upd_same] at z; cases z
          exact ⟨ob, by rw [List.length_map]; exact sz, us, _, vals, ob⟩
        · rw [upd_ne hb] at z; cases z
      refine core _ (fun b => ?_) (.inl (.inr ⟨_, upd_same⟩)) there fun b z => ?_
      · by_cases hb : b = a
        · subst hb; exact .inr ⟨_, _, upd_same⟩
        · exact .inl (upd_ne hb)
      · by_cases hb : b = a
        · exact ⟨hb, hk⟩
        · exact absurd (upd_ne hb) z
  intro H only sq hok away
  have plainB : ∀ {b : Addr} {o : Obj}, s₁.heap.get? b = some o → H b = none → (hidT s₁.heap H).get? b = some o := fun e n => hidT_get e n
  have dictB : ∀ {b : Addr} {o : Obj} {es : Array DictEntry} {ep : Nat}, s₁.heap.get? b = some o → o.data = .dict es ep → H b = none := fun {b o es ep} e dd => by
    cases q : H b with
    | none => rfl
    | some u =>
      obtain ⟨z, _⟩ := away b (by rw [q]; simp)
      subst z
      rw [ob] at e; cases e
      exact nomatch (show Data.seq us.toArray _ = Data.dict es ep from dd)
  have nsB : ∀ {b : Addr} {m : Str → Option Value}, s₁.heap.Ns b m → (hidT s₁.heap H).Ns b m := fun ⟨o, es, ep, e, dd, r⟩ => ⟨o, es, ep, plainB e (dictB e dd), dd, r⟩
  have inB : K.In (hidT s₁.heap H) := fun b o e => plainB (hK b o e) (by
    cases q : H b with
    | none => rfl
    | some u =>
      obtain ⟨z, z2⟩ := away b (by rw [q]; simp)
      subst z
      rw [z2] at e; cases e)
  have md : Mod K mg (hidT s₁.heap H) := ⟨inB, nsB gl, ⟨mb, nsB bl, bb⟩, let ⟨mc, h1, h2⟩ := nl; ⟨mc, nsB h1, h2⟩⟩
  have none_in : ∀ b, b ∉ frs ([] : List Env) := fun b z => by cases z
  have env : Env0 P w K mg (hidT s₁.heap H) callerA [] s₁ H := ⟨rfl, md, fun b o e => of_hidT e, Nat.le_of_eq (hidT_size _ _), trivial, fun b hb => absurd hb (none_in b), hok, .of_eq gn⟩
  have wk : WOk K ⟨[], []⟩ H [] := ⟨rfl, List.nodup_nil, fun i b m h _ => by simp at h, fun b hb => by cases hb⟩
  have kl : RV K ⟨[], []⟩ H (.kl (ns.map PV.int)) (.ref a) := by
    refine .kl ?_ (RVs.of_ints ns)
    rcases sq with sq | sq
    · exact .inl ⟨sq, (fun z => by cases z), (fun z => by cases z)⟩
    · exact .inr (.inr sq)
  refine codeAny_mono ((F _ inB (nsB gl)).run callerA [] s₁ H ⟨[.ref a], []⟩ [.ref a] [.ref a] [.kl (ns.map PV.int)] ⟨[], []⟩ [] _ room rfl env (bind s₁ (.ref a)) (.cons rfl .nil) wk (.cons kl .nil) hS) fun r s' h => ?_
  match r, h with
  | .ok (.ret u), ⟨v, H', os, bare, un, hok', rv, d', x, μ', _, _, rx, ex⟩ =>
    subst ex
    cases rx
    obtain rfl : u = Value.bool true := rv
    refine ⟨rfl, OldK.of_keep fun b o e => ?_, os, bare⟩
    rcases only b with z | ⟨ob', ys, z⟩
    · exact un.keep b o e z (none_in b) (by simp)
    · obtain ⟨e1, _⟩ := hok b _ z
      obtain ⟨e2, _⟩ := hok' b _ (un.frzs b ob' _ z)
      rw [e] at e1; cases e1
      exact e2
  | .ok .next, h => exact h.elim
  | .ok .brk, h => exact h.elim
  | .ok .cont, h => exact h.elim
  | .error _, h => exact h.elim

/-- the law's promise: its script is a list of numbers, its answer True -/
def lawS (n : Nat) : PSp := fun xs μ0 Q => μ0 = [] ∧ ∃ ns : List Int, xs = [.kl (ns.map PV.int)] ∧ ns.length ≤ n ∧ ∀ μ, Q (.bl true) μ
theorem walk_law {l : PySem.W.OpenLaw} {n k : Nat} {q : Program} {loose : List Str} {XP : (Str → Option Value) → Heap → Prop} {YP : World → Heap → Prop} {d : DefRec} {K : Params → PySem.W.Frag} {x : Str}
    (hn : l.most = some n) (small : n ≤ sizeLine) (nodef : d.params.defaults = []) (room : Room k callerA) (hY : ∀ (w : World) (h : Heap), YP w h → (K w.params).In h)
    (F : ∀ (w : World) (mg : Str → Option Value) (fa : Addr) (h : Heap), (K w.params).In h → h.Ns mainGlobals mg → mg d.name = some (.ref fa) →
      ∃ fd : FuncData, (∀ (s : Shared) (u : Value), BindsTo s fd ⟨[u], []⟩ [(x, u)]) ∧ ∀ base : Heap, (K w.params).In base → base.Ns mainGlobals mg → FnG l.prog w (K w.params) mg base k fa fd [x] (lawS n)) :
    PySem.W.WalkO q loose XP YP l.row.toRowW d [] (fun f vs => PySem.call f vs) := by
  refine Att.attach_call hn nodef fun w s₀ s₁ mg mb fa o pm cd doc a us ns G Y ho hd hcd hmg hobj hints hlen hg => ?_
  obtain ⟨fd, hb, hF⟩ := F w mg fa _ (hY w _ Y) G.T.g hmg
  exact law_go (hY w _ Y) G.T.g G.T.b G.T.builtins G.T.nolimit hg hobj hints (Nat.le_trans hlen small) room hF hb ⟨rfl, ns, rfl, hlen, fun _ => rfl⟩
end Fx

/-! Fx10: tuples times numbers, walks of numbered tuples, two loops in a comprehension; short words. -/
namespace Fx
open PySem PySem.Spec PyProof.Rows L2 RZ

/-! ### t * n -/
theorem tup_mul_one (l : Addr) (items : Array Value) (n : Nat) (dd : Option Addr) (sl : Array (Option Value)) (u : Tok) :
    Meets (Builtin.«tuple.__mul__» ⟨[.ref l, .int 1 u], []⟩) (fun _ R s => s.heap.get? l = some { cls := .type "tuple", dict := dd, data := .seq items n, slots := sl } ∧ R (.ok (.ret (Value.ref l))) s) :=
  .of_wp fun prog w A R s h => by
    obtain ⟨hp, g, d, tk, os⟩ := s
    obtain ⟨hl, h⟩ := h
    have ix := AutoSeq1.idx_int
    wp_walk using wpAny_loadPart' hl
    repeat (first
      | (refine wpAny_ite_false (by decide) ?_; wp_walk using wpAny_loadPart' hl)
      | (refine wpAny_ite_true (by simp) ?_; wp_walk using wpAny_loadPart' hl))
    exact ⟨_, rfl, h⟩
theorem tup_mul_none (l : Addr) (items : Array Value) (n : Nat) (dd : Option Addr) (sl : Array (Option Value)) (x : Int) (u : Tok) (h0 : (decide (x < -(2 ^ 63)) || decide (x ≥ 2 ^ 63)) = false) (h1 : (items.isEmpty || x == 1) = false) (h2 : (decide (x ≤ 0) || items.isEmpty) = true) :
    Meets (Builtin.«tuple.__mul__» ⟨[.ref l, .int x u], []⟩) (fun _ R s => s.heap.get? l = some { cls := .type "tuple", dict := dd, data := .seq items n, slots := sl } ∧
      R (.ok (.ret (Value.ref s.heap.objs.size))) { s with heap := s.heap.push { cls := Value.type "tuple", data := Data.seq #[] }, toks := s.toks }) :=
  .of_wp fun prog w A R s h => by
    obtain ⟨hp, g, d, tk, os⟩ := s
    obtain ⟨hl, h⟩ := h
    have ix := AutoSeq1.idx_int
    wp_walk using wpAny_loadPart' hl
    repeat (first
      | (refine wpAny_ite_false (decide_eq_false (by rw [h0]; exact Bool.false_ne_true)) ?_; wp_walk using wpAny_loadPart' hl)
      | (refine wpAny_ite_false (decide_eq_false (by rw [h1]; exact Bool.false_ne_true)) ?_; wp_walk using wpAny_loadPart' hl)
      | (refine wpAny_ite_true (decide_eq_true h2) ?_; wp_walk using wpAny_loadPart' hl))
    exact ⟨_, rfl, h⟩
/-- t * k of a tuple that is not () -/
def rRepX (K : PySem.W.Frag) : R2 := fun x y H Q => ∃ l k xs, x = .ref l ∧ y = .int k ∧ SqT K H l xs ∧ xs ≠ [] ∧ -1000 ≤ k ∧ k ≤ 1000 ∧ xs.length ≤ 1000 ∧ (k = 1 → Q (.ref l) H) ∧ (k ≠ 1 → ∀ p, H p = none → Q (.ref p) (upd H p (.tup (List.replicate k.toNat xs).flatten)))
theorem op_repX {X : Cx} : OpR X (binaryOp .Mult) (rRepX X.K) := by
  intro pins s σ H x y v u Q I rx ry h
  obtain ⟨l, k, xs, rfl, rfl, hT, hne, hk0, hk1, hz, q1, q⟩ := h
  by_cases h2 : 2 ≤ k
  · exact op_repT pins s σ H _ _ v u Q I rx ry ⟨l, k, xs, rfl, rfl, hT, hne, h2, hk1, hz, q (by omega)⟩
  cases rx
  obtain ⟨t, rfl⟩ := ry
  obtain ⟨its, r, ⟨⟨cls, dd, data, sl⟩, ho, hc, n, hd⟩, hs⟩ := I.tuple hT
  simp only at hc hd
  subst hc hd
  have hn : its ≠ [] := fun e => hne (by
    have := r.length
    rw [e] at this
    exact List.eq_nil_of_length_eq_zero this)
  have hi : its.toArray.isEmpty = false := by
    cases its with
    | nil => exact absurd rfl hn
    | cons a b => rfl
  by_cases h1 : k = 1
  · subst h1
    refine wpAny_binaryOp_repeat_ref (T := "tuple") (U := "int") (by decide) ⟨_, ho, rfl⟩ (fun s' => typeIs_int s' 1 t) noFill_tuple_mul F.fills_int_mul F.slot_int_rmul repeat_tuple F.slot_int_index.lookup
      (call_meets F.slot_int_rmul (typeIs_int s 1 t) F.entry_int_rmul (F.args_int_rmul_2 _ _) (int_rmul_tuple 1 t l its.toArray n dd sl)
        ⟨ho, rfl, ⟨_, ho, rfl⟩, call_meets F.slot_tuple_mul ⟨_, ho, rfl⟩ F.entry_tuple_mul (F.args_tuple_mul_2 _ _) (tup_mul_one l its.toArray n dd sl t) ⟨ho, ?_⟩⟩)
    exact ⟨.ref l, H, I, rfl, q1 rfl⟩
  · have c0 : (decide (k < -(2 ^ 63)) || decide (k ≥ 2 ^ 63)) = false := by
      rw [decide_eq_false (by omega), decide_eq_false (by omega)] <;> rfl
    have c1 : (its.toArray.isEmpty || k == 1) = false := by
      rw [hi, Bool.false_or]
      exact beq_eq_false_iff_ne.mpr h1
    have c2 : (decide (k ≤ 0) || its.toArray.isEmpty) = true := by
      rw [decide_eq_true (by omega)]; rfl
    refine wpAny_binaryOp_repeat_ref (T := "tuple") (U := "int") (by decide) ⟨_, ho, rfl⟩ (fun s' => typeIs_int s' k t) noFill_tuple_mul F.fills_int_mul F.slot_int_rmul repeat_tuple F.slot_int_index.lookup
      (call_meets F.slot_int_rmul (typeIs_int s k t) F.entry_int_rmul (F.args_int_rmul_2 _ _) (int_rmul_tuple k t l its.toArray n dd sl)
        ⟨ho, rfl, ⟨_, ho, rfl⟩, call_meets F.slot_tuple_mul ⟨_, ho, rfl⟩ F.entry_tuple_mul (F.args_tuple_mul_2 _ _) (tup_mul_none l its.toArray n dd sl k t c0 c1 c2) ⟨ho, ?_⟩⟩)
    have e0 : (List.replicate k.toNat xs).flatten = [] := by
      have : k.toNat = 0 := by omega
      rw [this]; rfl
    have q' := q h1 _ (I.hok.fresh (Nat.le_refl s.heap.objs.size))
    rw [e0] at q'
    refine ⟨.ref s.heap.objs.size, _, I.laid (t' := s.toks) (o := .tup []) (fun b ob q => Heap.get?_push_of_some _ q) (Nat.le_refl _) ?_, rfl, q'⟩
    exact ⟨Nat.zero_le _, [], .nil, IsTup.new _ _⟩
def rTimes (K : PySem.W.Frag) : R2 := fun x y H Q => rI MulOk (fun i j => .int (i * j)) x y H Q ∨ rRepX K x y H Q
theorem op_times {X : Cx} : OpR X (binaryOp .Mult) (rTimes X.K) := OpR.or op_mulX op_repX
def pTimes : MO2 := fun x y μ P => match x, y with
  | .int i, .int j => MulOk i j ∧ P (.int (i * j)) μ
  | .tup xs, .int k => (xs ≠ [] ∧ -1000 ≤ k ∧ k ≤ 1000 ∧ xs.length ≤ 1000) ∧ P (.tup (List.replicate k.toNat xs).flatten) μ
  | _, _ => False
section
variable {K : PySem.W.Frag} {d d' : Wd} {H H' : Hp} {a b : Addr} {vs us : List V} {xs ys : List PV} {μ : Store}
theorem RVs.rep (r : RVs K d H xs vs) : ∀ n : Nat, RVs K d H (List.replicate n xs).flatten (List.replicate n vs).flatten
  | 0 => .nil
  | n + 1 => by
    rw [List.replicate_succ, List.replicate_succ, List.flatten_cons, List.flatten_cons]
    exact r.append (RVs.rep r n)
instance : F2 K (rTimes K) pTimes := ⟨fun d H μ x y v u P Q w r1 r2 q k => by
  match x, y, r1, r2, q with
  | .int i, .int j, .int _, .int _, ⟨c, q⟩ => exact .inl ⟨i, j, rfl, rfl, c, k d H μ _ _ .refl w (.int _) q⟩
  | .tup xs, .int n, .tup (a := a) (vs := vs) h1 h2, .int _, ⟨⟨z1, z2, z3, z4⟩, q⟩ =>
    refine .inr ⟨a, n, vs, rfl, rfl, h1.sq, ?_, z2, z3, by rw [← h2.length]; exact z4, fun e => ?_, fun e p hp => ?_⟩
    · rintro rfl
      cases h2
      exact z1 rfl
    · subst e
      exact k d H μ _ _ .refl w (.tup h1 h2) (by simpa using q)
    · exact k d _ μ _ _ (Ext.lay w hp) (w.lay hp) (lay_tup w (h2.rep n.toNat) hp) q⟩
/-! ### % -/
theorem op_modX {X : Cx} : OpR X (binaryOp .Mod) (rI (fun _ j => j ≠ 0) fun i j => .int (i.fmod j)) := op_modN
/-! ### min of a list -/
theorem fold_min : ∀ (ns : List Int) (a : Int), (ns.foldl (fun a y => if y < a then y else a) a ≤ a) ∧ (∀ y ∈ ns, ns.foldl (fun a y => if y < a then y else a) a ≤ y)
  | [], a => by simp
  | n :: ns, a => by
    rw [List.foldl_cons]
    obtain ⟨h1, h2⟩ := fold_min ns (if n < a then n else a)
    refine ⟨?_, fun y hy => ?_⟩
    · by_cases h : n < a
      · rw [if_pos h] at h1 ⊢; omega
      · rw [if_neg h] at h1 ⊢; exact h1
    · rcases List.mem_cons.mp hy with rfl | hy
      · by_cases h : y < a
        · rw [if_pos h] at h1 ⊢; exact h1
        · rw [if_neg h] at h1 ⊢; omega
      · exact h2 y hy
/-! ### short words -/
theorem psM {X : Cx} {st : Stmt} {wi : TI} {g : TG} {tt : TT} {te : TE} {vs : List Nat} {g' : TG} (h : PS X st (tAsg (tLc wi g tt te vs) g')) : PS X st (tAsg (tLcM wi g tt te vs) g') := h
theorem peCM {X : Cx} {e : Expr} {wi : TI} {g : TG} {tt : TT} {te : TE} {vs : List Nat} (h : PE X e (tLc wi g tt te vs)) : PE X e (tLcM wi g tt te vs) := h
theorem peLM {X : Cx} {e : Expr} {t : TA} (h : PE X e (tLst t)) : PE X e (tLstM t) := h
theorem peRM {X : Cx} {e : Expr} {K : PySem.W.Frag} {t : TE} (h : PE X e (tRevL K t)) : PE X e (tRevLM K t) := h
/-- built-in names that no one has taken -/
def names0 : List Str := ["abs", "len", "sum", "all", "any", "isinstance", "repr", "int", "tuple", "list", "bool", "str", "range", "zip", "enumerate", "max", "min", "sorted", "reversed", "set", "dict"]
def Blt (mg : Str → Option Value) : Prop := ∀ x ∈ names0, mg x = none
theorem Blt.mk {mg : Str → Option Value} (B : Blt mg) (x : Str) (h : x ∈ names0) : mg x = none := B x h
structure Own (K : PySem.W.Frag) (mg : Str → Option Value) (x : Str) (st : Stmt) : Prop where
  ex : ∃ f fd, Fun K x x st f fd ∧ mg x = some (.ref f)
structure Ok (P : Program) (w : World) (K : PySem.W.Frag) (mg : Str → Option Value) (base : Heap) (k : Nat) (x : Str) (st : Stmt) (ps : List Str) (S : PSp) : Prop where
  ex : ∃ f fd, Fun K x x st f fd ∧ mg x = some (.ref f) ∧ Binds K fd ps [] ∧ FnG P w K mg base k f fd ps S
theorem kbs_mk {x qual : Str} {st : Stmt} {f : Addr} {fd : FuncData} {ps ks : List Str} {n : Nat} {ix : List Nat} (F : Fun K x qual st f fd)
    (h : ∀ (kV doc pm : Value) (an : Option Addr) (cdv ct : Value) (us ws : List Value), us.length = n → ws.length = ks.length → bindArgs (PySem.W.fnOf x qual (defArgs st) (defBody st) (defScope st) .none kV doc pm an cdv ct) ⟨us, ks.zip ws⟩ = pure (ps.zip (perm ix (us ++ ws)))) : KBs fd ps ks n ix := by
  obtain ⟨oc, od, kV, doc, pm, an, cdv, ct, osl, rfl, lk, hcd⟩ := F.ex
  exact fun s us ws h1 h2 => .of_eq (h kV doc pm an cdv ct us ws h1 h2)
end
end Fx

/-! Fx11: lemmas to work a reading out over plain values. -/
namespace Fx
open PySem PySem.Spec PyProof.Rows L2 RZ

theorem fin_keep {μ : Store} {x : PV} {Q : PV → Store → Prop} {μ0 : Store} (h : Q x μ) : ∃ y μ', Gc μ0 x μ y μ' ∧ Q y μ' := ⟨x, μ, .keep, h⟩
theorem fin_drop {μ0 g : Store} {x : PV} {Q : PV → Store → Prop} (n : noRef x = true) (h : Q x μ0) : ∃ y μ', Gc μ0 x (μ0 ++ g) y μ' ∧ Q y μ' := ⟨x, μ0, .drop g rfl n, h⟩
theorem fin_froz {μ0 : Store} {xs : List PV} {Q : PV → Store → Prop} (n : noRefs xs = true) (h : Q (.lst xs) μ0) : ∃ y μ', Gc μ0 (.mr μ0.length) (μ0 ++ [.lst xs]) y μ' ∧ Q y μ' := ⟨.lst xs, μ0, .froz μ0.length [.lst xs] xs rfl rfl (by simp) (Nat.le_refl _) n, h⟩
section
variable {α β : Type}
theorem atI_zero {x : α} {xs : List α} : L2.atI (x :: xs) 0 = some x := atI_nat (j := 0) rfl
theorem atI_one {x y : α} {xs : List α} : L2.atI (x :: y :: xs) 1 = some y := atI_nat (j := 1) rfl
theorem atI_two {x y z : α} {xs : List α} : L2.atI (x :: y :: z :: xs) 2 = some z := atI_nat (j := 2) rfl
theorem atI_some {xs : List α} {i : Nat} {x : α} (h : xs[i]? = some x) : L2.atI xs (i : Int) = some x := atI_nat h
theorem atI_map {f : α → β} {xs : List α} {i : Nat} {x : α} (h : xs[i]? = some x) : L2.atI (xs.map f) (i : Int) = some (f x) := atI_nat (by rw [List.getElem?_map, h]; rfl)
end
/-! ### comprehensions worked out -/
section
variable {α : Type} {g : MG} {c : MT} {e : ME} {ρ0 : PEnv} {P : List PV → Store → Prop} {μ : Store}
theorem lc_map {enc out : α → PV} : ∀ {l : List α} {acc : List PV}, (∀ a ∈ l, ∀ k : PV → Store → Prop, k (out a) μ → g (enc a) ρ0 μ fun ρ1 μ1 => e ρ1 μ1 k) → P (acc ++ l.map out) μ → mLcL g mYes e ρ0 P (l.map enc) acc μ
  | [], acc, _, hP => by simpa [mLcL] using hP
  | a :: l, acc, h, hP => by
    show g (enc a) ρ0 μ fun ρ1 μ1 => e ρ1 μ1 fun y μ3 => mLcL g mYes e ρ0 P (l.map enc) (acc ++ [y]) μ3
    exact h a List.mem_cons_self _ (lc_map (fun b hb => h b (List.mem_cons_of_mem _ hb)) (by simpa using hP))
theorem lc_filter {enc out : α → PV} {p : α → Bool} : ∀ {l : List α} {acc : List PV}, (∀ a ∈ l, ∀ (k : PV → Store → Prop) (n : Store → Prop), (p a = true → k (out a) μ) → (p a = false → n μ) → g (enc a) ρ0 μ fun ρ1 μ1 => c ρ1 μ1 fun b μ2 => if b = true then e ρ1 μ2 k else n μ2) →
    P (acc ++ (l.filter p).map out) μ → mLcL g c e ρ0 P (l.map enc) acc μ
  | [], acc, _, hP => by simpa [mLcL] using hP
  | a :: l, acc, h, hP => by
    show g (enc a) ρ0 μ fun ρ1 μ1 => c ρ1 μ1 fun b μ2 => if b = true then e ρ1 μ2 (fun y μ3 => mLcL g c e ρ0 P (l.map enc) (acc ++ [y]) μ3) else mLcL g c e ρ0 P (l.map enc) acc μ2
    refine h a List.mem_cons_self _ _ (fun hp => ?_) fun hp => ?_
    · refine lc_filter (fun b hb => h b (List.mem_cons_of_mem _ hb)) ?_
      simpa [List.filter_cons, hp] using hP
    · refine lc_filter (fun b hb => h b (List.mem_cons_of_mem _ hb)) ?_
      simpa [List.filter_cons, hp] using hP
/-- any comprehension, by what holds of the list so far and the store -/
theorem lc_inv {enc : α → PV} (I : List α → List PV → Store → Prop) : ∀ {l done : List α} {acc : List PV} {μ : Store}, I done acc μ → (∀ pre a post acc μ, done ++ l = pre ++ a :: post → I pre acc μ →
      g (enc a) ρ0 μ fun ρ1 μ1 => c ρ1 μ1 fun b μ2 => if b = true then e ρ1 μ2 (fun y μ3 => I (pre ++ [a]) (acc ++ [y]) μ3) else I (pre ++ [a]) acc μ2) → (∀ acc μ, I (done ++ l) acc μ → P acc μ) →
      (∀ {x : PV} {ρ1 : PEnv} {μ : Store} {k k' : PEnv → Store → Prop}, (∀ ρ μ, k ρ μ → k' ρ μ) → g x ρ1 μ k → g x ρ1 μ k') → (∀ {ρ1 : PEnv} {μ : Store} {k k' : Bool → Store → Prop}, (∀ ρ μ, k ρ μ → k' ρ μ) → c ρ1 μ k → c ρ1 μ k') →
      (∀ {ρ1 : PEnv} {μ : Store} {k k' : PV → Store → Prop}, (∀ ρ μ, k ρ μ → k' ρ μ) → e ρ1 μ k → e ρ1 μ k') → mLcL g c e ρ0 P (l.map enc) acc μ
  | [], done, acc, μ, h0, _, hP, _, _, _ => hP acc μ (by simpa using h0)
  | a :: l, done, acc, μ, h0, hs, hP, mg, mc, me => by
    show g (enc a) ρ0 μ fun ρ1 μ1 => c ρ1 μ1 fun b μ2 => if b = true then e ρ1 μ2 (fun y μ3 => mLcL g c e ρ0 P (l.map enc) (acc ++ [y]) μ3) else mLcL g c e ρ0 P (l.map enc) acc μ2
    have e1 : done ++ a :: l = (done ++ [a]) ++ l := by simp
    have go : ∀ acc μ, I (done ++ [a]) acc μ → mLcL g c e ρ0 P (l.map enc) acc μ := fun acc μ h => lc_inv I (done := done ++ [a]) h (fun pre b post acc μ e2 => hs pre b post acc μ (by rw [e1]; exact e2)) (fun acc μ h => hP acc μ (by rw [e1]; exact h)) mg mc me
    refine mg (fun ρ1 μ1 h => ?_) (hs done a l acc μ rfl h0)
    refine mc (fun b μ2 h => ?_) h
    cases b
    · exact go _ _ h
    · exact me (fun y μ3 h => go _ _ h) h
end
/-! ### loops worked out -/
section
variable {α : Type} {g : MG} {b : MS} {P : MEnds}
theorem for_inv {enc : α → PV} (I : List α → PEnv → Store → Prop) : ∀ {l done : List α} {ρ : PEnv} {μ : Store}, I done ρ μ → (∀ pre a post ρ μ, done ++ l = pre ++ a :: post → I pre ρ μ → ∀ N : PEnv → Store → Prop, (∀ ρ μ, I (pre ++ [a]) ρ μ → N ρ μ) →
      g (enc a) ρ μ fun ρ1 μ1 => b { P with nx := N, ct := N, bk := P.nx } ρ1 μ1) → (∀ ρ μ, I (done ++ l) ρ μ → P.nx ρ μ) → mForL g b P (l.map enc) ρ μ
  | [], done, ρ, μ, h0, _, hP => hP ρ μ (by simpa using h0)
  | a :: l, done, ρ, μ, h0, hs, hP => by
    have e1 : done ++ a :: l = (done ++ [a]) ++ l := by simp
    exact hs done a l ρ μ rfl h0 (mForL g b P (l.map enc)) fun ρ μ h => for_inv I (done := done ++ [a]) h (fun pre x post ρ μ e2 => hs pre x post ρ μ (by rw [e1]; exact e2)) fun ρ μ h => hP ρ μ (by rw [e1]; exact h)
end
theorem zipP_map {α β : Type} (f : α → PV) (h : β → PV) : ∀ (xs : List α) (ys : List β), zipP (xs.map f) (ys.map h) = (xs.zip ys).map fun p => .tup [f p.1, h p.2]
  | [], _ => by simp [zipP]
  | _ :: _, [] => by simp [zipP]
  | x :: xs, y :: ys => by simp [zipP, zipP_map f h xs ys]
theorem rangeP_eq (n : Nat) : rangeP 0 n = (List.range n).map fun (i : Nat) => PV.int i := by
  unfold rangeP
  simp
end Fx

/-! Fx12: numbered items of a list or a tuple; two loops in a comprehension. -/
namespace Fx
open PySem PySem.Spec PyProof.Rows L2 RZ

theorem meets_num1 {u : Value} {ob : Obj} {C : Heap → Prop} (B : Begins u ob C) :
    Meets (Builtin.«enumerate.__new__» ⟨[.type "enumerate", u], []⟩) (fun _ Z st => C st.heap ∧ Z (.ok (.ret (.ref (st.heap.push ob).objs.size)))
      { st with heap := (st.heap.push ob).push { cls := .type "enumerate", data := .fields #[.none, .bool false, .ref st.heap.objs.size, rawInt 0, .none, .none] } }) :=
  .of_wp fun prog w A R st h => by
    obtain ⟨hp, gn, dr, tt, oo⟩ := st
    obtain ⟨h1, h⟩ := h
    have sb := sub_enumerate
    have go : ∀ {A' : Around} {E : Value → Shared → Prop} {Q : Value → Shared → Prop}, Q (.ref hp.objs.size) ⟨hp.push ob, gn, dr, tt, oo⟩ → wpAny (model prog w) A' (pyIter u) Q E ⟨hp, gn, dr, tt, oo⟩ := fun q => B.iter prog w _ _ _ _ h1 q
    wp_walk using go
    refine wpAny_stack_any fun stk => wpAny_pure ?_
    split
    · rename_i cc _ _ _ _ _
      cases (cc == Value.type "enumerate") <;> (wp_walk using go; exact ⟨_, rfl, h⟩)
    · wp_walk using go; exact ⟨_, rfl, h⟩
theorem num_begins {prog : Program} {w : World} {A : Around} {E : Value → Shared → Prop} {s : Shared} {u : Value} {ob : Obj} {C : Heap → Prop} {Q : Value → Shared → Prop} (B : Begins u ob C) (h1 : C s.heap)
    (h : ∀ h', IsEnum h' (s.heap.objs.size + 1) s.heap.objs.size 0 .none → h'.get? s.heap.objs.size = some ob → (∀ b o, s.heap.get? b = some o → h'.get? b = some o) → Q (.ref (s.heap.objs.size + 1)) { s with heap := h' }) :
    wpAny (model prog w) A (call (.type "enumerate") [u]) Q E s := by
  refine callType_new F.called_enumerate (by decide) (F.typeCall_enumerate_1 _) (F.newCall_enumerate_1 _) (fun obj => F.args_object_init_2 obj _) F.entry_enumerate_new (meets_num1 B) ⟨h1, ?_⟩
  have z1 : (s.heap.push ob).objs.size = s.heap.objs.size + 1 := Heap.size_push ..
  show _ ∧ _
  rw [z1]
  have e1 : IsEnum ((s.heap.push ob).push { cls := .type "enumerate", data := .fields #[.none, .bool false, .ref s.heap.objs.size, rawInt 0, .none, .none] }) (s.heap.objs.size + 1) s.heap.objs.size 0 .none := by
    have q := Heap.get?_push_size (s.heap.push ob) (o := { cls := .type "enumerate", data := .fields #[.none, .bool false, .ref s.heap.objs.size, rawInt 0, .none, .none] }) rfl
    rw [z1] at q; exact q
  exact ⟨⟨_, e1, rfl⟩, h _ e1 (Heap.get?_push_of_some _ (Heap.get?_push_size _ B.free)) fun b o x => Heap.get?_push_of_some _ (Heap.get?_push_of_some _ x)⟩
/-- the tuple at a as it stands at each turn, each item in a new pair -/
def IteT (K : PySem.W.Frag) (a : Addr) : It where
  go i H := ∃ (xs : List V) (x : V), SqT K H a xs ∧ xs[i]? = some x
  yld i H v H' := ∃ T x, v = .ref T ∧ H T = none ∧ H' = upd H T (.tup [.int (i : Nat), x]) ∧ ∀ xs, SqT K H a xs → xs[i]? = some x
  stop i H := ∃ xs : List V, SqT K H a xs ∧ xs.length ≤ i
theorem turn_enumT {P : Program} {w : World} {K : PySem.W.Frag} {es : List Expr} {k1 : Nat} {tp : Pos} (a e it : Addr) :
    Turn P w K (.Tuple es k1 tp) (IteT K a) [e, it] e (fun i h => (∃ old, IsEnum h e it ((i : Nat) : Int) old) ∧ h.IsTupleIter it a i ∧ e ≠ it ∧ a ≠ it ∧ e ≠ a) where
  mem := by simp
  obj := fun i h st b hb => by
    obtain ⟨⟨old, he⟩, ⟨o, ho, hc, hd⟩, _⟩ := st
    rcases (show b = e ∨ b = it by simpa using hb) with z | z
    · exact z ▸ ⟨_, he, fun v q => nomatch q⟩
    · exact z ▸ ⟨o, ho, fun v q => by rw [hd] at q; cases q⟩
  keep := fun i h h' st k => by
    obtain ⟨⟨old, he⟩, hi, r⟩ := st
    exact ⟨⟨old, k e (by simp) _ he⟩, hi.at fun o q => k it (by simp) o q, r⟩
  item := by
    intro X hP hw hK hc i pins s σ H E I hf st hg
    subst hP hw hK
    obtain ⟨⟨old, he⟩, hit, hne, hai, hea⟩ := st
    obtain ⟨xs, x, hq, hx⟩ := hg
    obtain ⟨its, rv, p, hz⟩ := I.tuple hq
    obtain ⟨u, hu, ru⟩ := rv.get hx
    have el := Heap.lt_size he
    have il : it < s.heap.objs.size := by obtain ⟨_, q, _⟩ := hit; exact Heap.lt_size q
    have isz : i < its.toArray.size := by
      have := (List.getElem?_eq_some_iff.mp hu).1
      simpa using this
    refine wpAny_pyNext_enum_itemD (Draws.tuple (A := X.A.in1) (I.ok.hd hc) it a hai its.toArray) he ⟨hit, p⟩ isz hne (by simp [hne, hea]) fun u' h' tk hu' ho st' hT hsz hk => ?_
    have hu'' : u' = u := by
      have q : its.toArray[i]? = some u := by simpa using hu
      have q' : its.toArray[i]? = some u' := hu'
      rw [q] at q'; cases q'; rfl
    subst hu''
    refine ⟨_, rfl, wpAny_letOwnedTupleGo_enum (s := { s with heap := h', toks := tk + 1 }) ho fun h2 he2 sb => ?_⟩
    have hT2 := (sb.2 _ (Nat.ne_of_gt el)).trans hT
    have new : ObjOk X.prog X.w (upd H s.heap.objs.size (.tup [.int (i : Nat), x])) h2 s.heap.objs.size (.tup [.int (i : Nat), x]) :=
      ⟨by show 2 ≤ sizeLine; decide, [.int i tk, u'], .cons ⟨_, rfl⟩ (.cons ru .nil), ⟨_, hT2, rfl, _, rfl⟩⟩
    have I1 : Inv X pins σ (upd H s.heap.objs.size (.tup [.int (i : Nat), x])) { s with heap := h2, toks := tk + 1 } := by
      refine I.turnedNew (ch := [e, it]) (fun b ob hb q => ?_) hf (Nat.le_refl _) new
      have nb : b ≠ e ∧ b ≠ it := by simpa using hb
      exact (sb.2 b nb.1).trans (hk b ob nb.1 nb.2 q)
    refine ⟨.ref s.heap.objs.size, _, I1, rfl, ⟨_, x, rfl, I.hok.fresh (Nat.le_refl _), rfl, fun ys hy => by rw [I.tuple_inj hy hq]; exact hx⟩, ⟨⟨u', ?_⟩, st'.1.at fun o q => (sb.2 it (Ne.symm hne)).trans q, hne, hai, hea⟩, fun b hb => ?_⟩
    · rw [show ((i + 1 : Nat) : Int) = (i : Int) + 1 by omega]
      exact he2
    · have bl : b < s.heap.objs.size := by
        rcases (show b = e ∨ b = it by simpa using hb) with z | z
        · exact z ▸ el
        · exact z ▸ il
      rw [upd_ne (Nat.ne_of_lt bl)]
      exact (hf b hb).1
  done := by
    intro X hP hw hK hc i pins s σ H E I hf st hg
    subst hP hw hK
    obtain ⟨⟨old, he⟩, hit, hne, hai, hea⟩ := st
    obtain ⟨xs, hq, hx⟩ := hg
    obtain ⟨its, rv, p, hz⟩ := I.tuple hq
    obtain ⟨f0, f1, f2, f3, f4, f5⟩ := hf it (by simp)
    have hl := rv.length
    have hT : s.TypeIs (.ref e) "enumerate" := ⟨_, he, rfl⟩
    unfold pyNext
    refine wpAny_bind (wpAny_attempt (wpAny_callSpecial?_slot (name := Str.ofString "__next__") hT F.slot_enumerate_next (wpAny_call_entry F.slot_enumerate_next hT F.entry_enumerate_next ?_ (F.args_enumerate_next_1 _))))
    show wpAny _ _ (field (.ref e) 2 >>= _) _ _ _
    refine wpAny_bind (wpAny_field he rfl (x := .ref it) rfl ?_)
    refine wpAny_bind (wpAny_nextOf_tuple_end (I.ok.hd hc) hit p (by simp; omega) fun h' x he' hx' => ?_)
    obtain ⟨o, ho, hc⟩ := hx'
    refine wpAny_bind (wpAny_isInstance (T := "StopIteration") (b := true) ⟨o, ho, hc⟩ isSubtype_stop ?_)
    exact wpAny_pure ⟨rfl, I.turned (t' := s.toks) (fun b o hb q => he' b o hb q) f0 f1 f3 f4 f5⟩
  self := fun A i s Q E st h => by
    obtain ⟨⟨_, he⟩, _⟩ := st
    exact wpAny_pyIter_enum he h
def iEnumS (K : PySem.W.Frag) (ta : TA) : TI := fun σ H R => ta σ H fun vs H1 => ∃ a, vs = [.ref a] ∧ (((∃ xs, SqL K H1 a xs) ∧ R (Ite K a) H1) ∨ ((∃ xs, SqT K H1 a xs) ∧ R (IteT K a) H1))
theorem pi_enumS {X : Cx} {e1 : Expr} {ta : TA} {p pos tpos : Pos} {es : List Expr} {k1 : Nat} (hg : Gl X "enumerate") (hm : X.mg "enumerate" = none) (ha : PA X [e1] ta) (hs : starEach [e1] X.env = [(false, eval e1 X.env)] := by rfl) :
    PI X (.Tuple es k1 tpos) (.Call (.Name "enumerate" p) [e1] [] pos) (iEnumS X.K ta) := by
  refine ⟨fun pins s σ H R I h => ?_⟩
  refine wpAny_Call_Name_kw (ld_blt I hg hm boot_enumerate (callWith_type1 (thn (ha.run pos pins s σ H _ I h) fun us s1 ⟨vs, H1, I1, r1, q1⟩ => ?_) hs rfl))
  obtain ⟨a, ex, q⟩ := q1
  subst ex
  cases r1 with
  | cons r rr =>
    cases rr
    cases r
    have fr : ∀ b ∈ [s1.heap.objs.size + 1, s1.heap.objs.size], FpOk X pins H1 b := fun b hb => by
      have le : s1.heap.objs.size ≤ b := by
        rcases (show b = s1.heap.objs.size + 1 ∨ b = s1.heap.objs.size by simpa using hb) with z | z
        · rw [z]; exact Nat.le_add_right _ _
        · rw [z]; exact Nat.le_refl _
      exact I1.fpOk le (I1.hok.fresh le)
    rcases q with ⟨⟨xs, hq⟩, q⟩ | ⟨⟨xs, hq⟩, q⟩
    · obtain ⟨its, rv, p', hz⟩ := I1.list hq
      refine num_begins (begins_list a its.toArray) p'.isList fun h' he hit hk => wpAny_pyIter_enum he ?_
      exact ⟨s1.heap.objs.size + 1, [s1.heap.objs.size + 1, s1.heap.objs.size], _, _, H1, rfl, I1.kept (t' := s1.toks) hk, turn_enum a (s1.heap.objs.size + 1) s1.heap.objs.size, ⟨⟨.none, he⟩, ⟨_, hit, rfl, rfl⟩, Nat.succ_ne_self _⟩, fr, q⟩
    · obtain ⟨its, rv, p', hz⟩ := I1.tuple hq
      have pt : s1.heap.IsTuple a its.toArray := p'
      have al : a < s1.heap.objs.size := by obtain ⟨_, q, _⟩ := pt; exact Heap.lt_size q
      refine num_begins (begins_tuple a its.toArray) pt fun h' he hit hk => wpAny_pyIter_enum he ?_
      exact ⟨s1.heap.objs.size + 1, [s1.heap.objs.size + 1, s1.heap.objs.size], _, _, H1, rfl, I1.kept (t' := s1.toks) hk, turn_enumT a (s1.heap.objs.size + 1) s1.heap.objs.size, ⟨⟨.none, he⟩, ⟨_, hit, rfl, rfl⟩, Nat.succ_ne_self _, Nat.ne_of_lt al, Nat.ne_of_gt (Nat.lt_succ_of_lt al)⟩, fr, q⟩
def enumP : Nat → List PV → List PV
  | _, [] => []
  | i, x :: xs => .tup [.int i, x] :: enumP (i + 1) xs
theorem enumP_get : ∀ {xs : List PV} {j i : Nat} {z : PV}, (enumP j xs)[i]? = some z → ∃ x, xs[i]? = some x ∧ z = .tup [.int ((j + i : Nat) : Int), x]
  | [], _, _, _, h => by simp [enumP] at h
  | x :: xs, j, 0, z, h => by
    simp [enumP] at h
    exact ⟨x, rfl, h.symm⟩
  | x :: xs, j, i + 1, z, h => by
    simp only [enumP, List.getElem?_cons_succ] at h
    obtain ⟨y, h1, h2⟩ := enumP_get h
    exact ⟨y, by simpa using h1, by rw [h2]; congr 3; congr 1; omega⟩
theorem enumP_length : ∀ (xs : List PV) (j : Nat), (enumP j xs).length = xs.length
  | [], _ => rfl
  | x :: xs, j => by simp [enumP, enumP_length xs]
section
variable {K : PySem.W.Frag} {d d' : Wd} {H H' : Hp} {a b : Addr} {vs us : List V} {xs ys : List PV} {μ : Store}
theorem it_enumT (h : TupAt K d H a vs) (r : RVs K d H xs vs) : ItOk (K := K) d H (IteT K a) (enumP 0 xs) := fun d1 d2 H2 μ2 bb e w => by
  have h2 : TupAt K d2 H2 a vs := e.tupAt (h.imp (fun z => ⟨z.1, by rw [bb.1]; exact z.2⟩) id)
  have r2 : RVs K d2 H2 xs vs := (r.bars bb).mono e
  refine ⟨fun i x hx => ?_, fun i hi => ⟨vs, h2.sq, by rw [enumP_length] at hi; rw [← r2.length]; exact hi⟩⟩
  obtain ⟨y, hy, rfl⟩ := enumP_get hx
  obtain ⟨v, hv, rv⟩ := r2.get hy
  refine ⟨⟨vs, v, h2.sq, hv⟩, fun u H3 hyl => ?_⟩
  obtain ⟨T, v', rfl, hT, rfl, f⟩ := hyl
  have e1 := f vs h2.sq
  rw [hv] at e1; cases e1
  rw [Nat.zero_add]
  exact tup_pair w hT (.int _) rv
theorem it_enumK (h : KlAt K d H a vs) (r : RVs K d H xs vs) : ItOk (K := K) d H (Ite K a) (enumP 0 xs) := fun d1 d2 H2 μ2 bb e w => by
  have h2 : KlAt K d2 H2 a vs := e.klAt (h.imp (fun z => ⟨z.1, by rw [bb.1]; exact z.2.1, fun q => (bb.2 _ q).elim z.2.2 (Rd.ne z.1)⟩) id)
  have r2 : RVs K d2 H2 xs vs := (r.bars bb).mono e
  refine ⟨fun i x hx => ?_, fun i hi => ⟨vs, h2.sq, by rw [enumP_length] at hi; rw [← r2.length]; exact hi⟩⟩
  obtain ⟨y, hy, rfl⟩ := enumP_get hx
  obtain ⟨v, hv, rv⟩ := r2.get hy
  refine ⟨⟨vs, v, h2.sq, hv⟩, fun u H3 hyl => ?_⟩
  obtain ⟨T, v', rfl, hT, rfl, f⟩ := hyl
  have e1 := f vs h2.sq
  rw [hv] at e1; cases e1
  rw [Nat.zero_add]
  exact tup_pair w hT (.int _) rv
def mEnum (m : MA) : MI := fun ρ μ P => m ρ μ fun xs μ1 => match xs with | [.tup ys] => P (enumP 0 ys) μ1 | [.lst ys] => P (enumP 0 ys) μ1 | [.kl ys] => P (enumP 0 ys) μ1 | _ => False
instance {t m} [h : FA K t m] : FI K (iEnumS K t) (mEnum m) := ⟨fun d σ H ρ μ P R w e q k => by
  refine h.run d σ H ρ μ _ _ w e q fun d1 H1 μ1 xs vs e1 w1 r1 q1 => ?_
  match xs, r1, q1 with
  | [.tup ys], .cons (.tup ha hr) .nil, q1 => exact ⟨_, rfl, .inr ⟨⟨_, ha.sq⟩, k d1 H1 μ1 _ _ e1 w1 (it_enumT ha hr) q1⟩⟩
  | [.lst ys], .cons (.lst ha hr) .nil, q1 => exact ⟨_, rfl, .inl ⟨⟨_, ha.sq⟩, k d1 H1 μ1 _ _ e1 w1 (it_enumK (.inl ⟨.inl ha.1, ha.2⟩) hr) q1⟩⟩
  | [.kl ys], .cons (.kl ha hr) .nil, q1 => exact ⟨_, rfl, .inl ⟨⟨_, ha.sq⟩, k d1 H1 μ1 _ _ e1 w1 (it_enumK ha hr) q1⟩⟩⟩
/-! ### two loops in a comprehension -/
/-- what is walked within: its items stay while a list is being made -/
def ItW (K : PySem.W.Frag) (J : It) (xs : List PV) (Iv : Wd → Hp → Prop) : Prop :=
  (∀ d H d2 H2, Iv d H → Ext d H d2 H2 → Iv d2 H2) ∧ (∀ d H D l l', Iv d H → D ∈ d.ban → H D = some (.lst l) → Iv d (upd H D (.lst l'))) ∧
  ∀ d H μ, Iv d H → WOk K d H μ → (∀ (i : Nat) x, xs[i]? = some x → J.go i H ∧ ∀ v H', J.yld i H v H' → Ext d H d H' ∧ WOk K d H' μ ∧ RV K d H' x v) ∧ (∀ i, xs.length ≤ i → J.stop i H)
class FW (K : PySem.W.Frag) (t : TI) (m : outParam MI) : Prop where
  run : ∀ (d : Wd) (σ : L2.St) (H : Hp) (ρ : PEnv) (μ : Store) (P : List PV → Store → Prop) (R : It → Hp → Prop), WOk K d H μ → REnv K d H ρ σ → m ρ μ P →
    (∀ d' H' μ' J xs Iv, Ext d H d' H' → WOk K d' H' μ' → ItW K J xs Iv → Iv d' H' → P xs μ' → R J H') → t σ H R
theorem TupAt.made {D : Addr} {l l' : List V} (h : TupAt K d H a vs) (hD : H D = some (.lst l)) : TupAt K d (upd H D (.lst l')) a vs := by
  rcases h with ⟨r, n⟩ | h
  · have ne : a ≠ D := by
      rintro rfl
      rcases r with r | ⟨o, r⟩ <;> rw [hD] at r <;> cases r
    refine .inl ⟨?_, n⟩
    rcases r with r | ⟨o, r⟩
    · exact .inl (by rw [upd_ne ne]; exact r)
    · exact .inr ⟨o, by rw [upd_ne ne]; exact r⟩
  · exact .inr h
theorem KlAt.made {D : Addr} {l l' : List V} (h : KlAt K d H a vs) (hb : D ∈ d.ban) : KlAt K d (upd H D (.lst l')) a vs := by
  rcases h with ⟨r, n, b⟩ | h
  · have ne : a ≠ D := by
      rintro rfl
      exact b hb
    refine .inl ⟨?_, n, b⟩
    rcases r with r | ⟨o, r⟩
    · exact .inl (by rw [upd_ne ne]; exact r)
    · exact .inr ⟨o, by rw [upd_ne ne]; exact r⟩
  · exact .inr h
theorem itw_tup : ItW K (Itt K a) xs fun d H => ∃ vs, TupAt K d H a vs ∧ RVs K d H xs vs := by
  refine ⟨fun d H d2 H2 ⟨vs, h, r⟩ e => ⟨vs, e.tupAt h, r.mono e⟩, fun d H D l l' ⟨vs, h, r⟩ hb hD => ⟨vs, h.made hD, r.made hb (no_tup hD)⟩, fun d H μ ⟨vs, h, r⟩ w => ?_⟩
  exact it_tup h r d d H μ ⟨rfl, fun _ h => .inl h⟩ .refl w
theorem itw_kl : ItW K (Itl K a) xs fun d H => ∃ vs, KlAt K d H a vs ∧ RVs K d H xs vs := by
  refine ⟨fun d H d2 H2 ⟨vs, h, r⟩ e => ⟨vs, e.klAt h, r.mono e⟩, fun d H D l l' ⟨vs, h, r⟩ hb hD => ⟨vs, h.made hb (l := l), r.made hb (no_tup hD)⟩, fun d H μ ⟨vs, h, r⟩ w => ?_⟩
  exact it_kl h r d d H μ ⟨rfl, fun _ h => .inl h⟩ .refl w
instance {t m} [h : FE K t m] : FW K (iSeq K t) (mSeqI m) := ⟨fun d σ H ρ μ P R w e q k => by
  refine h.run d σ H ρ μ _ _ w e q fun d1 H1 μ1 x v e1 w1 r1 q1 => ?_
  cases x <;> try exact q1.elim
  · cases r1 with
    | tup ha hr => exact ⟨_, rfl, .inr ⟨⟨_, ha.sq⟩, k d1 H1 μ1 _ _ _ e1 w1 itw_tup ⟨_, ha, hr⟩ q1⟩⟩
  · cases r1 with
    | lst ha hr => exact ⟨_, rfl, .inl ⟨⟨_, ha.sq⟩, k d1 H1 μ1 _ _ _ e1 w1 itw_kl ⟨_, .inl ⟨.inl ha.1, ha.2⟩, hr⟩ q1⟩⟩
  · cases r1 with
    | kl ha hr => exact ⟨_, rfl, .inl ⟨⟨_, ha.sq⟩, k d1 H1 μ1 _ _ _ e1 w1 itw_kl ⟨_, ha, hr⟩ q1⟩⟩⟩
instance {t m} [h : FA K t m] : FW K (iRng1 t) (mRng1 m) := ⟨fun d σ H ρ μ P R w e q k => by
  refine h.run d σ H ρ μ _ _ w e q fun d1 H1 μ1 xs vs e1 w1 r1 q1 => ?_
  match xs, r1, q1 with
  | [.int j], .cons (.int _) .nil, ⟨z, q1⟩ =>
    exact ⟨j, rfl, by omega, by omega, k d1 H1 μ1 _ _ (fun _ _ => True) e1 w1 ⟨fun _ _ _ _ _ _ => trivial, fun _ _ _ _ _ _ _ _ => trivial, fun d H μ _ w => it_rng 0 j.toNat d d H μ ⟨rfl, fun _ h => .inl h⟩ .refl w⟩ trivial q1⟩⟩
def mLcO (g : MG) (c : MT) (i1 : MI) (g1 : MG) (c1 : MT) (e : ME) (vs1 : List Nat) (ρ0 : PEnv) (P : List PV → Store → Prop) : List PV → List PV → Store → Prop
  | [], acc, μ => P acc μ
  | x :: xs, acc, μ => g x ρ0 μ fun ρ1 μ1 => c ρ1 μ1 fun b μ2 => if b = true then i1 ρ1 μ2 fun ys μ3 => (acc.length + ys.length ≤ lim ∧ mLcL g1 c1 e (wipeP ρ1 vs1) (fun acc' μ4 => mLcO g c i1 g1 c1 e vs1 ρ0 P xs acc' μ4) ys acc μ3) else mLcO g c i1 g1 c1 e vs1 ρ0 P xs acc μ2
def mLc2 (mi : MI) (g : MG) (c : MT) (i1 : MI) (g1 : MG) (c1 : MT) (e : ME) (s vs s1 vs1 : List Nat) : ME := fun ρ μ P => ((∀ i ∈ s, i ∈ vs) ∧ ∀ i ∈ s1, i ∈ vs1) ∧ mi ρ μ fun xs μ1 => mLcO g c i1 g1 c1 e vs1 (wipeP ρ vs) (fun acc μ2 => P (.lst acc) μ2) xs [] μ1
instance {wi mi g mg s tt mt wi1 mi1 g1 mg1 s1 tt1 mt1 te me vs vs1} [hi : FI K wi mi] [hg : FG K g mg s] [hc : FT K tt mt] [hi1 : FW K wi1 mi1] [hg1 : FG K g1 mg1 s1] [hc1 : FT K tt1 mt1] [he : FE K te me] :
    FE K (tLc2 wi g tt wi1 g1 tt1 te vs vs1) (mLc2 mi mg mt mi1 mg1 mt1 me s vs s1 vs1) := ⟨fun d σ H ρ μ P Q w e q k => by
  obtain ⟨⟨hs, hs1⟩, q⟩ := q
  refine hi.run d σ H ρ μ _ _ w e q fun d1 H1 μ1 J xs e1 w1 it q1 => ?_
  intro D hD
  have bD : Bars d1 ⟨d1.am, D :: d1.ban⟩ H1 := ⟨rfl, fun x q => (List.mem_cons.mp q).elim (fun z => .inr (by rw [z]; exact hD)) .inl⟩
  have envB : REnv K ⟨d1.am, D :: d1.ban⟩ H1 (wipeP ρ vs) (wipe σ vs) := ((e.mono e1).bars bD).wipe vs
  have lay0 : Ext ⟨d1.am, D :: d1.ban⟩ H1 ⟨d1.am, D :: d1.ban⟩ (upd H1 D (.lst [])) := ⟨⟨[], by simp, fun p hp => by simp at hp⟩, rfl, fun b u e _ => by rw [upd_ne (ne_of_none e hD)]; exact e⟩
  refine ⟨fun i m H' => ∃ dB μ' acc avs, Ext ⟨d1.am, D :: d1.ban⟩ H1 dB H' ∧ WOk K dB H' μ' ∧ H' D = some (.lst avs) ∧ RVs K dB H' acc avs ∧ i + m = xs.length ∧ mLcO mg mt mi1 mg1 mt1 me vs1 (wipeP ρ vs) (fun acc μ2 => P (.lst acc) μ2) (xs.drop i) acc μ',
    ⟨xs.length, _, μ1, [], [], lay0, w1.barD hD, upd_same, .nil, by omega, by simpa using q1⟩, fun i m H' hW => ?_⟩
  obtain ⟨dB, μ', acc, avs, eB, wB, hDv, rA, em, q2⟩ := hW
  have hDban : D ∈ dB.ban := by rw [eB.ban]; exact List.mem_cons_self
  obtain ⟨itg, its⟩ := it _ dB H' μ' bD eB wB
  cases hx : xs[i]? with
  | none =>
    have hle : xs.length ≤ i := List.getElem?_eq_none_iff.mp hx
    rw [List.drop_of_length_le hle] at q2
    refine .inl ⟨its i hle, ?_⟩
    obtain ⟨x1, x2, x3⟩ := lc_frozen e1 hD (w1.notban hD) eB wB hDv rA
    exact k _ H' μ' _ _ x1 x2 x3 q2
  | some x =>
    have hlt : i < xs.length := (List.getElem?_eq_some_iff.mp hx).1
    rw [drop_cons hx] at q2
    obtain ⟨go, yl⟩ := itg i x hx
    refine .inr ⟨go, fun H3 => ∃ dB μ' acc avs, Ext ⟨d1.am, D :: d1.ban⟩ H1 dB H3 ∧ WOk K dB H3 μ' ∧ H3 D = some (.lst avs) ∧ RVs K dB H3 acc avs ∧ mLcO mg mt mi1 mg1 mt1 me vs1 (wipeP ρ vs) (fun acc μ2 => P (.lst acc) μ2) (xs.drop (i + 1)) acc μ', fun H3 hN => ?_, fun v H3 hy => ?_⟩
    · obtain ⟨a1, a2, a3, a4, a5, a6, a7, a8, a10⟩ := hN
      exact ⟨m - 1, by omega, a1, a2, a3, a4, a5, a6, a7, a8, by omega, a10⟩
    · obtain ⟨ey, wy, ry⟩ := yl v H3 hy
      refine hg.run dB (wipe σ vs) H3 (wipeP ρ vs) μ' x v _ _ wy (envB.mono (eB.trans ey)) ry q2 fun d4 σ4 H4 ρ4 μ4 e4 w4 ee4 hl4 hs4 q4 => ⟨wipe_same hl4 hs4 hs, ?_⟩
      refine hc.run d4 σ4 H4 ρ4 μ4 _ _ w4 ee4 q4 fun d5 H5 μ5 b e5 w5 q5 => ?_
      have nD : D ∉ dB.am := (wB.ban D hDban).2
      have E5 : Ext dB H' d5 H5 := (ey.trans e4).trans e5
      cases b
      · exact ⟨d5, μ5, acc, avs, eB.trans E5, w5, E5.keep _ _ hDv nD, rA.mono E5, q5⟩
      · refine hi1.run d5 σ4 H5 ρ4 μ5 _ _ w5 (ee4.mono e5) q5 fun d6 H6 μ6 J1 ys Iv e6 w6 ⟨iv1, iv2, iv3⟩ iv ⟨hyl, q6⟩ => ?_
        have E6 : Ext dB H' d6 H6 := E5.trans e6
        have b6 : D ∈ d6.ban := by rw [E6.ban]; exact hDban
        have hD6 : H6 D = some (.lst avs) := E6.keep _ _ hDv nD
        refine ⟨fun j n H7 => ∃ dC μ' acc' bvs, Ext ⟨d1.am, D :: d1.ban⟩ H1 dC H7 ∧ WOk K dC H7 μ' ∧ H7 D = some (.lst bvs) ∧ RVs K dC H7 acc' bvs ∧ REnv K dC H7 (wipeP ρ4 vs1) (wipe σ4 vs1) ∧ Iv dC H7 ∧ j + n = ys.length ∧ acc'.length ≤ acc.length + j ∧
          mLcL mg1 mt1 me (wipeP ρ4 vs1) (fun acc' μ4 => mLcO mg mt mi1 mg1 mt1 me vs1 (wipeP ρ vs) (fun acc μ2 => P (.lst acc) μ2) (xs.drop (i + 1)) acc' μ4) (ys.drop j) acc' μ',
          ⟨ys.length, d6, μ6, acc, avs, eB.trans E6, w6, hD6, rA.mono E6, (ee4.mono (e5.trans e6)).wipe vs1, iv, by omega, by omega, by simpa using q6⟩, fun j n H7 hW1 => ?_⟩
        obtain ⟨dC, μ7, acc', bvs, E7, w7, hD7, rA7, env7, iv7, en, hal, q7⟩ := hW1
        obtain ⟨itg1, its1⟩ := iv3 dC H7 μ7 iv7 w7
        have bC : D ∈ dC.ban := by rw [E7.ban]; exact List.mem_cons_self
        have nC : D ∉ dC.am := (w7.ban D bC).2
        cases hy1 : ys[j]? with
        | none =>
          have hle : ys.length ≤ j := List.getElem?_eq_none_iff.mp hy1
          rw [List.drop_of_length_le hle] at q7
          exact .inl ⟨its1 j hle, dC, μ7, acc', bvs, E7, w7, hD7, rA7, q7⟩
        | some y =>
          have hlt1 : j < ys.length := (List.getElem?_eq_some_iff.mp hy1).1
          rw [drop_cons hy1] at q7
          obtain ⟨go1, yl1⟩ := itg1 j y hy1
          refine .inr ⟨go1, fun H8 => ∃ dC μ' acc' bvs, Ext ⟨d1.am, D :: d1.ban⟩ H1 dC H8 ∧ WOk K dC H8 μ' ∧ H8 D = some (.lst bvs) ∧ RVs K dC H8 acc' bvs ∧ REnv K dC H8 (wipeP ρ4 vs1) (wipe σ4 vs1) ∧ Iv dC H8 ∧ acc'.length ≤ acc.length + (j + 1) ∧
            mLcL mg1 mt1 me (wipeP ρ4 vs1) (fun acc' μ4 => mLcO mg mt mi1 mg1 mt1 me vs1 (wipeP ρ vs) (fun acc μ2 => P (.lst acc) μ2) (xs.drop (i + 1)) acc' μ4) (ys.drop (j + 1)) acc' μ', fun H8 hN => ?_, fun v8 H8 hy8 => ?_⟩
          · obtain ⟨a1, a2, a3, a4, a5, a6, a7, a8, a9, a10, a11, a12⟩ := hN
            exact ⟨n - 1, by omega, a1, a2, a3, a4, a5, a6, a7, a8, a9, a10, by omega, a11, a12⟩
          · obtain ⟨ey8, wy8, ry8⟩ := yl1 v8 H8 hy8
            refine hg1.run dC (wipe σ4 vs1) H8 (wipeP ρ4 vs1) μ7 y v8 _ _ wy8 (env7.mono ey8) ry8 q7 fun d9 σ9 H9 ρ9 μ9 e9 w9 ee9 hl9 hs9 q9 => ⟨wipe_same hl9 hs9 hs1, ?_⟩
            refine hc1.run d9 σ9 H9 ρ9 μ9 _ _ w9 ee9 q9 fun dE HE μE b eE wE qE => ?_
            have F9 : Ext dC H7 dE HE := (ey8.trans e9).trans eE
            cases b
            · exact ⟨dE, μE, acc', bvs, E7.trans F9, wE, F9.keep _ _ hD7 nC, rA7.mono F9, env7.mono F9, iv1 _ _ _ _ iv7 F9, by omega, qE⟩
            · refine he.run dE σ9 HE ρ9 μE _ _ wE (ee9.mono eE) qE fun dG HG μG z u eG wG rG qG => ?_
              have FG : Ext dC H7 dG HG := F9.trans eG
              have hDG : HG D = some (.lst bvs) := FG.keep _ _ hD7 nC
              have bG : D ∈ dG.ban := by rw [FG.ban]; exact bC
              have rAG := (rA7.mono FG).append (.cons rG .nil)
              have EG := E7.trans FG
              have nG := no_tup hDG
              refine ⟨bvs, hDG, by rw [← rA7.length]; exact lim_lt' (by omega), dG, μG, acc' ++ [z], bvs ++ [u], ⟨EG.am, EG.ban, fun b o hb hn => by rw [upd_ne (ne_of_none hb hD)]; exact EG.keep b o hb hn⟩, wG.made bG nG, upd_same, rAG.made bG nG, ?_, iv2 _ _ _ _ _ (iv1 _ _ _ _ iv7 FG) bG hDG, by rw [List.length_append]; simp; omega, qG⟩
              have em := env7.mono FG
              exact ⟨em.1, fun i x q => let ⟨v, a, c⟩ := em.2 i x q; ⟨v, a, c.made bG nG⟩⟩⟩
end
end Fx

/-! Fx13: the rules with the fragment named (within comprehensions). -/
namespace Fx
open PySem PySem.Spec PyProof.Rows L2 RZ
section
variable {X : Cx}
theorem opk_plus (K : PySem.W.Frag) (h : X.K = K) : OpR X (binaryOp .Add) (rPlus K) := h ▸ op_plus
theorem opk_plusM (K : PySem.W.Frag) (h : X.K = K) : OpR X (binaryOp .Add) (rPlusM K) := h ▸ op_plusM
theorem opk_times (K : PySem.W.Frag) (h : X.K = K) : OpR X (binaryOp .Mult) (rTimes K) := h ▸ op_times
theorem opk_eqX (K : PySem.W.Frag) (h : X.K = K) (hu : X.A.units + 64 < cLine) : OpR X (compareOp .Eq) (rEqX K) := h ▸ op_eqX hu
theorem opk_neX (K : PySem.W.Frag) (h : X.K = K) (hu : X.A.units + 64 < cLine) : OpR X (compareOp .NotEq) (rNeX K) := h ▸ op_neX hu
theorem opk_in_seq (K : PySem.W.Frag) (h : X.K = K) : OpR X (compareOp .In) (rIn K false) := h ▸ op_in_seq
theorem opk_notIn_seq (K : PySem.W.Frag) (h : X.K = K) : OpR X (compareOp .NotIn) (rIn K true) := h ▸ op_notIn_seq
theorem ixk_seq (K : PySem.W.Frag) (h : X.K = K) : IxR X (rIx K) := h ▸ ix_seq
theorem ck_isi (K : PySem.W.Frag) (h : X.K = K) : CallR X (.builtin "isinstance") (rIsi K) := h ▸ call_isi
theorem ck_len (K : PySem.W.Frag) (h : X.K = K) : CallR X (.builtin "len") (rLen K) := h ▸ cb_len
theorem ck_sum (K : PySem.W.Frag) (h : X.K = K) (hc : X.calm = true) : CallR X (.builtin "sum") (rSum K) := h ▸ cr_sum hc
theorem ck_all (K : PySem.W.Frag) (h : X.K = K) (hc : X.calm = true) : CallR X (.builtin "all") (rAll K) := h ▸ cr_all hc
theorem ck_any (K : PySem.W.Frag) (h : X.K = K) (hc : X.calm = true) : CallR X (.builtin "any") (rAny K) := h ▸ cr_any hc
theorem ck_maxS (K : PySem.W.Frag) (h : X.K = K) (hc : X.calm = true) (hu : X.A.units + 64 < cLine) : CallR X (.builtin "max") (rMaxS K) := h ▸ cb_maxS hc hu
theorem ck_repr (K : PySem.W.Frag) (h : X.K = K) (hg : X.A.guards = some []) (hu : X.A.units + 64 < cLine) : CallR X (.builtin "repr") (rRepr K) := h ▸ cb_repr hg hu
theorem ck_tup (K : PySem.W.Frag) (h : X.K = K) : CallR X (.type "tuple") (rTupOf K) := h ▸ cb_tup
theorem ck_lst (K : PySem.W.Frag) (h : X.K = K) : CallR X (.type "list") (rLstOf K) := h ▸ cb_lst
theorem slk_any (K : PySem.W.Frag) (h : X.K = K) : SlR X (rSlX K) := h ▸ sl_any
theorem pgk_tup (K : PySem.W.Frag) (n : Nat) (h : X.K = K) {pos : Pos} {es : List Expr} {k : Nat} {t : TGs} (hc : X.calm = true) (hp : PGs X es t) (hn : (assignEach es X.env).length = n) (hs : (assignEach es X.env).findIdx? (fun x => x.fst) = none) :
    PG X (.Tuple es k pos) (gTup K n t) := h ▸ pg_tup hc hp hn hs
theorem pek_revL (K : PySem.W.Frag) (h : X.K = K) {e : Expr} {te : TE} {k : Nat} {p1 p2 p3 pos : Pos} (he : PE X e te) : PE X (e.Subscript (Expr.Slice none none (some (Expr.UnaryOp UnaryOp.USub (Expr.Constant (Const.int 1) k p1) p2)) p3) pos) (tRevL K te) := h ▸ pe_revL he
theorem pik_seq (K : PySem.W.Frag) (h : X.K = K) {tg l : Expr} {tl : TE} (hl : PE X l tl) : PI X tg l (iSeq K tl) := h ▸ pi_seq hl
theorem pik_zipA (K : PySem.W.Frag) (h : X.K = K) {e e2 : Expr} {ta : TA} {p pos tpos : Pos} {elts : List Expr} {kk : Nat} (hg : Gl X "zip") (hm : X.mg "zip" = none) (ha : PA X [e, e2] ta)
    (h1 : starEach [e, e2] X.env = (false, eval e X.env) :: starEach [e2] X.env := by rfl) (h2 : ((backTo pos (starEach [e2] X.env)).any fun x => x.fst) = false := by rfl) :
    PI X (.Tuple elts kk tpos) ((Expr.Name "zip" p).Call [e, e2] [] pos) (iZipA K ta) := h ▸ pi_zipA hg hm ha h1 h2
theorem pik_enumS (K : PySem.W.Frag) (h : X.K = K) {e1 : Expr} {ta : TA} {p pos tpos : Pos} {es : List Expr} {k1 : Nat} (hg : Gl X "enumerate") (hm : X.mg "enumerate" = none) (ha : PA X [e1] ta) (hs : starEach [e1] X.env = [(false, eval e1 X.env)] := by rfl) :
    PI X (.Tuple es k1 tpos) (.Call (.Name "enumerate" p) [e1] [] pos) (iEnumS K ta) := h ▸ pi_enumS hg hm ha hs
variable {k : Nat} {f : Addr} {fd : FuncData} {ps ks : List Str} {S : PSp} {x : Str} {p pos : Pos} {e : Expr} {es : List Expr} {kws : List Keyword} {t tk : TA}
theorem pek_call (K : PySem.W.Frag) (h : X.K = K) {k : Nat} {f : Addr} {fd : FuncData} {ps : List Str} {S : PSp} {x : Str} {p pos : Pos} {e : Expr} {es : List Expr} {t : TA}
    (F : FnG X.prog X.w X.K X.mg X.base k f fd ps S) (hr : Room k X.A) (hgd : X.A.guards = some []) (hg : Gl X x) (hm : X.mg x = some (.ref f)) (hk : PySem.W.keepIn X.K (.ref f) = true) (hb : Binds X.K fd ps [])
    (ha : PA X (e :: es) t) (hdb : (x == ("__debug__" : Str)) = false := by decide) (he : starEach (e :: es) X.env = (false, eval e X.env) :: starEach es X.env := by rfl) (hpl : (backTo pos (starEach es X.env)).any (·.1) = false := by rfl) :
    PE X (.Call (.Name x p) (e :: es) [] pos) (tCallG K S t) := h ▸ pe_callG F hr hgd hg hm hk hb ha hdb he hpl
end
end Fx

/-! Fx14: walks of lists that change elsewhere; comprehensions by what holds. -/
namespace Fx
open PySem PySem.Spec PyProof.Rows L2 RZ
/-- a walk whose list must stand still: C says so of the store -/
abbrev MIC := PEnv → Store → (List PV → (Store → Prop) → Store → Prop) → Prop
def ItC (K : PySem.W.Frag) (d0 : Wd) (H0 : Hp) (J : It) (xs : List PV) (C : Store → Prop) : Prop :=
  ∀ d1 d H μ, Bars d0 d1 H0 → Ext d1 H0 d H → WOk K d H μ → C μ → (∀ (i : Nat) x, xs[i]? = some x → J.go i H ∧ ∀ v H', J.yld i H v H' → Ext d H d H' ∧ WOk K d H' μ ∧ RV K d H' x v) ∧ (∀ i, xs.length ≤ i → J.stop i H)
class FC (K : PySem.W.Frag) (t : TI) (m : outParam MIC) : Prop where
  run : ∀ (d : Wd) (σ : L2.St) (H : Hp) (ρ : PEnv) (μ : Store) (P : List PV → (Store → Prop) → Store → Prop) (R : It → Hp → Prop), WOk K d H μ → REnv K d H ρ σ → m ρ μ P →
    (∀ d' H' μ' J xs C, Ext d H d' H' → WOk K d' H' μ' → ItC K d' H' J xs C → P xs C μ' → R J H') → t σ H R
def iSeqM (K : PySem.W.Frag) (tl : TE) : TI := iSeq K tl
theorem pi_seqM {X : Cx} {tg l : Expr} {tl : TE} (hl : PE X l tl) : PI X tg l (iSeqM X.K tl) := pi_seq hl
section
variable {K : PySem.W.Frag} {d d' : Wd} {H H' : Hp} {a b : Addr} {vs us : List V} {xs ys : List PV} {μ : Store}
def mSeqC (m : ME) : MIC := fun ρ μ P => m ρ μ fun x μ1 => match x with | .mr n => (match μ1[n]? with | some (.lst xs) => P xs (fun μ2 => μ2[n]? = some (.lst xs)) μ1 | _ => False) | _ => False
instance {t m} [h : FE K t m] : FC K (iSeqM K t) (mSeqC m) := ⟨fun d σ H ρ μ P R w e q k => by
  refine h.run d σ H ρ μ _ _ w e q fun d1 H1 μ1 x v e1 w1 r1 q1 => ?_
  cases r1 with
  | @mr n a h1 =>
    simp only at q1
    cases e2 : μ1[n]? with
    | none => rw [e2] at q1; exact q1.elim
    | some m =>
      cases m with
      | dk _ => rw [e2] at q1; exact q1.elim
      | fd _ _ _ => rw [e2] at q1; exact q1.elim
      | lst xs =>
        rw [e2] at q1
        obtain ⟨vs, hq, rv⟩ := w1.obj h1 e2
        refine ⟨a, rfl, .inl ⟨⟨vs, .of hq⟩, k d1 H1 μ1 _ _ _ e1 w1 (fun d2 d3 H3 μ3 bb ee w3 hC => ?_) q1⟩⟩
        have h3 : d3.am[n]? = some a := ee.at (by rw [bb.1]; exact h1)
        obtain ⟨ws, hq3, rw3⟩ := w3.obj h3 hC
        refine ⟨fun i x hx => ?_, fun i hi => ⟨ws, .of hq3, by rw [← rw3.length]; exact hi⟩⟩
        obtain ⟨v, hv, rv'⟩ := rw3.get hx
        refine ⟨⟨ws, v, .of hq3, hv⟩, fun u H4 hy => ?_⟩
        obtain ⟨rfl, f⟩ := hy
        have e1 := f ws (.of hq3)
        rw [hv] at e1; cases e1
        exact ⟨.refl, w3, rv'⟩
  | _ => exact q1.elim⟩
def mForLC (C : Store → Prop) (g : MG) (b : MS) (P : MEnds) : List PV → PEnv → Store → Prop
  | [], ρ, μ => C μ ∧ P.nx ρ μ
  | x :: xs, ρ, μ => C μ ∧ g x ρ μ fun ρ1 μ1 => b { P with nx := mForLC C g b P xs, ct := mForLC C g b P xs, bk := P.nx } ρ1 μ1
def mForC (mi : MIC) (g : MG) (b : MS) : MS := fun P ρ μ => mi ρ μ fun xs C μ1 => mForLC C g b P xs ρ μ1
instance {wi mi g mg s tb mb} [hi : FC K wi mi] [hg : FG K g mg s] [hb : FS K tb mb] : FS K (tFor wi g tb) (mForC mi mg mb) := ⟨fun d σ H ρ μ P D w e q l => by
  refine hi.run d σ H ρ μ _ _ w e q fun d1 H1 μ1 J xs C e1 w1 it q1 => ?_
  refine ⟨fun i m σ' H' => ∃ d' ρ' μ', Ext d1 H1 d' H' ∧ WOk K d' H' μ' ∧ REnv K d' H' ρ' σ' ∧ i + m = xs.length ∧ mForLC C mg mb P (xs.drop i) ρ' μ', ⟨xs.length, d1, ρ, μ1, .refl, w1, e.mono e1, by omega, by simpa using q1⟩, fun i m σ' H' hW => ?_⟩
  obtain ⟨d2, ρ2, μ2, e2, w2, ee2, em, q2⟩ := hW
  have hC : C μ2 := by
    cases h : xs.drop i with
    | nil => rw [h] at q2; exact q2.1
    | cons x r => rw [h] at q2; exact q2.1
  obtain ⟨itg, its⟩ := it d1 d2 H' μ2 ⟨rfl, fun _ h => .inl h⟩ e2 w2 hC
  cases hx : xs[i]? with
  | none =>
    have hle : xs.length ≤ i := List.getElem?_eq_none_iff.mp hx
    rw [List.drop_of_length_le hle] at q2
    exact .inl ⟨its i hle, l.nx d2 σ' H' ρ2 μ2 (e1.trans e2) w2 ee2 q2.2⟩
  | some x =>
    have hlt : i < xs.length := (List.getElem?_eq_some_iff.mp hx).1
    rw [drop_cons hx] at q2
    obtain ⟨go, yl⟩ := itg i x hx
    refine .inr ⟨go, fun σ3 H3 => ∃ d' ρ' μ', Ext d1 H1 d' H3 ∧ WOk K d' H3 μ' ∧ REnv K d' H3 ρ' σ3 ∧ mForLC C mg mb P (xs.drop (i + 1)) ρ' μ', fun σ3 H3 hN => ?_, fun v H3 hy => ?_⟩
    · obtain ⟨d3, ρ3, μ3, a1, a2, a3, a4⟩ := hN
      exact ⟨m - 1, by omega, d3, ρ3, μ3, a1, a2, a3, by omega, a4⟩
    · obtain ⟨ey, wy, ry⟩ := yl v H3 hy
      refine hg.run d2 σ' H3 ρ2 μ2 x v _ _ wy (ee2.mono ey) ry q2.2 fun d4 σ4 H4 ρ4 μ4 e4 w4 ee4 _ _ q4 => ?_
      have E4 : Ext d H d4 H4 := ((e1.trans e2).trans ey).trans e4
      have E4' : Ext d1 H1 d4 H4 := (e2.trans ey).trans e4
      exact hb.run d4 σ4 H4 ρ4 μ4 _ _ w4 ee4 q4
        ⟨fun d5 σ5 H5 ρ5 μ5 e5 w5 ee5 q5 => ⟨d5, ρ5, μ5, E4'.trans e5, w5, ee5, q5⟩, fun d5 H5 μ5 x v e5 => l.rt d5 H5 μ5 x v (E4.trans e5),
         fun d5 σ5 H5 ρ5 μ5 e5 => l.nx d5 σ5 H5 ρ5 μ5 (E4.trans e5), fun d5 σ5 H5 ρ5 μ5 e5 w5 ee5 q5 => ⟨d5, ρ5, μ5, E4'.trans e5, w5, ee5, q5⟩⟩⟩
def mLcLC (C : Store → Prop) (g : MG) (c : MT) (e : ME) (ρ0 : PEnv) (P : List PV → Store → Prop) : List PV → List PV → Store → Prop
  | [], acc, μ => C μ ∧ P acc μ
  | x :: xs, acc, μ => C μ ∧ g x ρ0 μ fun ρ1 μ1 => c ρ1 μ1 fun b μ2 => if b = true then e ρ1 μ2 fun y μ3 => mLcLC C g c e ρ0 P xs (acc ++ [y]) μ3 else mLcLC C g c e ρ0 P xs acc μ2
theorem mLcLC_C {C : Store → Prop} {g : MG} {c : MT} {e : ME} {ρ0 : PEnv} {P : List PV → Store → Prop} {xs acc : List PV} {μ : Store} (h : mLcLC C g c e ρ0 P xs acc μ) : C μ := by
  cases xs <;> exact h.1
theorem lc_runC {wi mi g mg s tt mt te me} {vs : List Nat} [hi : FC K wi mi] [hg : FG K g mg s] [hc : FT K tt mt] [he : FE K te me] {σ : L2.St} {ρ : PEnv} {P : List PV → Store → Prop} {Q : VK} (w : WOk K d H μ) (e : REnv K d H ρ σ) (hs : ∀ i ∈ s, i ∈ vs)
    (q : mi ρ μ fun xs C μ1 => xs.length ≤ lim ∧ mLcLC C mg mt me (wipeP ρ vs) P xs [] μ1)
    (fin : ∀ (d1 : Wd) (H1 : Hp) (D : Addr) (dB : Wd) (H' : Hp) (μ' : Store) (acc : List PV) (avs : List V), Ext d H d1 H1 → H1 D = none → D ∉ d1.ban → Ext ⟨d1.am, D :: d1.ban⟩ H1 dB H' → WOk K dB H' μ' → H' D = some (.lst avs) → RVs K dB H' acc avs → P acc μ' → Q (.ref D) H') :
    tLc wi g tt te vs σ H Q := by
  refine hi.run d σ H ρ μ _ _ w e q fun d1 H1 μ1 J xs C e1 w1 it ⟨hz, q1⟩ => ?_
  intro D hD
  have bD : Bars d1 ⟨d1.am, D :: d1.ban⟩ H1 := ⟨rfl, fun x q => (List.mem_cons.mp q).elim (fun z => .inr (by rw [z]; exact hD)) .inl⟩
  have envB : REnv K ⟨d1.am, D :: d1.ban⟩ H1 (wipeP ρ vs) (wipe σ vs) := ((e.mono e1).bars bD).wipe vs
  have lay0 : Ext ⟨d1.am, D :: d1.ban⟩ H1 ⟨d1.am, D :: d1.ban⟩ (upd H1 D (.lst [])) := ⟨⟨[], by simp, fun p hp => by simp at hp⟩, rfl, fun b u e _ => by rw [upd_ne (ne_of_none e hD)]; exact e⟩
  refine ⟨fun i m H' => ∃ dB μ' acc avs, Ext ⟨d1.am, D :: d1.ban⟩ H1 dB H' ∧ WOk K dB H' μ' ∧ H' D = some (.lst avs) ∧ RVs K dB H' acc avs ∧ i + m = xs.length ∧ acc.length ≤ i ∧ mLcLC C mg mt me (wipeP ρ vs) P (xs.drop i) acc μ',
    ⟨xs.length, _, μ1, [], [], lay0, w1.barD hD, upd_same, .nil, by omega, Nat.le_refl _, by simpa using q1⟩, fun i m H' hW => ?_⟩
  obtain ⟨dB, μ', acc, avs, eB, wB, hDv, rA, em, hal, q2⟩ := hW
  have hDban : D ∈ dB.ban := by rw [eB.ban]; exact List.mem_cons_self
  obtain ⟨itg, its⟩ := it _ dB H' μ' bD eB wB (mLcLC_C q2)
  cases hx : xs[i]? with
  | none =>
    have hle : xs.length ≤ i := List.getElem?_eq_none_iff.mp hx
    rw [List.drop_of_length_le hle] at q2
    exact .inl ⟨its i hle, fin d1 H1 D dB H' μ' acc avs e1 hD (w1.notban hD) eB wB hDv rA q2.2⟩
  | some x =>
    have hlt : i < xs.length := (List.getElem?_eq_some_iff.mp hx).1
    rw [drop_cons hx] at q2
    obtain ⟨go, yl⟩ := itg i x hx
    refine .inr ⟨go, fun H3 => ∃ dB μ' acc avs, Ext ⟨d1.am, D :: d1.ban⟩ H1 dB H3 ∧ WOk K dB H3 μ' ∧ H3 D = some (.lst avs) ∧ RVs K dB H3 acc avs ∧ acc.length ≤ i + 1 ∧ mLcLC C mg mt me (wipeP ρ vs) P (xs.drop (i + 1)) acc μ', fun H3 hN => ?_, fun v H3 hy => ?_⟩
    · obtain ⟨a1, a2, a3, a4, a5, a6, a7, a8, a9, a10⟩ := hN
      exact ⟨m - 1, by omega, a1, a2, a3, a4, a5, a6, a7, a8, by omega, a9, a10⟩
    · obtain ⟨ey, wy, ry⟩ := yl v H3 hy
      refine hg.run dB (wipe σ vs) H3 (wipeP ρ vs) μ' x v _ _ wy (envB.mono (eB.trans ey)) ry q2.2 fun d4 σ4 H4 ρ4 μ4 e4 w4 ee4 hl4 hs4 q4 => ⟨wipe_same hl4 hs4 hs, ?_⟩
      refine hc.run d4 σ4 H4 ρ4 μ4 _ _ w4 ee4 q4 fun d5 H5 μ5 b e5 w5 q5 => ?_
      have nD : D ∉ dB.am := (wB.ban D hDban).2
      have E5 : Ext dB H' d5 H5 := (ey.trans e4).trans e5
      cases b
      · exact ⟨d5, μ5, acc, avs, eB.trans E5, w5, E5.keep _ _ hDv nD, rA.mono E5, by omega, q5⟩
      · refine he.run d5 σ4 H5 ρ4 μ5 _ _ w5 (ee4.mono e5) q5 fun d6 H6 μ6 y u e6 w6 r6 q6 => ?_
        have E6 : Ext dB H' d6 H6 := E5.trans e6
        have hD6 : H6 D = some (.lst avs) := E6.keep _ _ hDv nD
        have ban6 : D ∈ d6.ban := by rw [E6.ban]; exact hDban
        have rA6 := (rA.mono E6).append (.cons r6 .nil)
        refine ⟨avs, hD6, by rw [← rA.length]; exact lim_lt' (by omega), d6, μ6, acc ++ [y], avs ++ [u], ?_, w6.made ban6 (no_tup hD6), upd_same, rA6.made ban6 (no_tup hD6), by rw [List.length_append]; simp; omega, q6⟩
        have E7 := eB.trans E6
        exact ⟨E7.am, E7.ban, fun b o hb hn => by rw [upd_ne (ne_of_none hb hD)]; exact E7.keep b o hb hn⟩
def mLcC (mi : MIC) (g : MG) (c : MT) (e : ME) (s vs : List Nat) : ME := fun ρ μ P => (∀ i ∈ s, i ∈ vs) ∧ mi ρ μ fun xs C μ1 => xs.length ≤ lim ∧ mLcLC C g c e (wipeP ρ vs) (fun acc μ2 => P (.lst acc) μ2) xs [] μ1
instance {wi mi g mg s tt mt te me vs} [hi : FC K wi mi] [hg : FG K g mg s] [hc : FT K tt mt] [he : FE K te me] : FE K (tLc wi g tt te vs) (mLcC mi mg mt me s vs) := ⟨fun d σ H ρ μ P Q w e q k => by
  refine lc_runC w e q.1 q.2 fun d1 H1 D dB H' μ' acc avs e1 hD hDn eB w' hv r p => ?_
  obtain ⟨x1, x2, x3⟩ := lc_frozen e1 hD hDn eB w' hv r
  exact k _ H' μ' _ _ x1 x2 x3 p⟩
end
section
variable {α : Type} {g : MG} {c : MT} {e : ME} {ρ0 : PEnv} {P : List PV → Store → Prop} {C : Store → Prop}
/-- a comprehension by what holds of the list so far and the store -/
theorem lc_any {enc : α → PV} (I : List α → List PV → Store → Prop) : ∀ {l done : List α} {acc : List PV} {μ : Store}, I done acc μ → (∀ pre a post acc μ, done ++ l = pre ++ a :: post → I pre acc μ → ∀ N : List PV → Store → Prop, (∀ acc μ, I (pre ++ [a]) acc μ → N acc μ) →
      g (enc a) ρ0 μ fun ρ1 μ1 => c ρ1 μ1 fun b μ2 => if b = true then e ρ1 μ2 (fun y μ3 => N (acc ++ [y]) μ3) else N acc μ2) → (∀ acc μ, I (done ++ l) acc μ → P acc μ) → mLcL g c e ρ0 P (l.map enc) acc μ
  | [], done, acc, μ, h0, _, hP => hP acc μ (by simpa using h0)
  | a :: l, done, acc, μ, h0, hs, hP => by
    have e1 : done ++ a :: l = (done ++ [a]) ++ l := by simp
    show g (enc a) ρ0 μ fun ρ1 μ1 => c ρ1 μ1 fun b μ2 => if b = true then e ρ1 μ2 (fun y μ3 => mLcL g c e ρ0 P (l.map enc) (acc ++ [y]) μ3) else mLcL g c e ρ0 P (l.map enc) acc μ2
    exact hs done a l acc μ rfl h0 (fun acc μ => mLcL g c e ρ0 P (l.map enc) acc μ) fun acc μ h => lc_any I (done := done ++ [a]) h (fun pre b post acc μ e2 => hs pre b post acc μ (by rw [e1]; exact e2)) fun acc μ h => hP acc μ (by rw [e1]; exact h)
theorem lcC_map {enc out : α → PV} {μ : Store} (hC : C μ) : ∀ {l : List α} {acc : List PV}, (∀ a ∈ l, ∀ k : PV → Store → Prop, k (out a) μ → g (enc a) ρ0 μ fun ρ1 μ1 => e ρ1 μ1 k) → P (acc ++ l.map out) μ → mLcLC C g mYes e ρ0 P (l.map enc) acc μ
  | [], acc, _, hP => by simpa [mLcLC, hC] using hP
  | a :: l, acc, h, hP => by
    refine ⟨hC, ?_⟩
    show g (enc a) ρ0 μ fun ρ1 μ1 => e ρ1 μ1 fun y μ3 => mLcLC C g mYes e ρ0 P (l.map enc) (acc ++ [y]) μ3
    exact h a List.mem_cons_self _ (lcC_map hC (fun b hb => h b (List.mem_cons_of_mem _ hb)) (by simpa using hP))
end
end Fx

/-! Fx15: the law's end. -/
namespace Fx
open PySem PySem.Spec PyProof.Rows L2 RZ
theorem fun_uniq {K : PySem.W.Frag} {x qual : Str} {st : Stmt} {f : Addr} {fd fd' : FuncData} (F : Fun K x qual st f fd) (F' : Fun K x qual st f fd') : fd = fd' := by
  obtain ⟨oc, od, kV, doc, pm, an, cdv, ct, osl, e, lk, hcd⟩ := F.ex
  obtain ⟨oc', od', kV', doc', pm', an', cdv', ct', osl', e', lk', hcd'⟩ := F'.ex
  rw [lk] at lk'
  injection lk' with h
  injection h with h1 h2 h3
  injection h3
theorem law_fin {P : Program} {w : World} {K : PySem.W.Frag} {mg : Str → Option Value} {k n : Nat} {st : Stmt} {fa : Addr} {ps : Str} {S : PSp} (hfa : mg "law" = some (.ref fa)) (o : Own K mg "law" st)
    (hb : ∀ (kV doc pm : Value) (an : Option Addr) (cdv ct : Value) (s : Shared) (u : Value), BindsTo s (PySem.W.fnOf "law" "law" (defArgs st) (defBody st) (defScope st) .none kV doc pm an cdv ct) ⟨[u], []⟩ [(ps, u)])
    (ok : ∀ base : Heap, K.In base → base.Ns mainGlobals mg → Ok P w K mg base k "law" st [ps] S) (hS : ∀ xs μ Q, lawS n xs μ Q → S xs μ Q) :
    ∃ fd : FuncData, (∀ (s : Shared) (u : Value), BindsTo s fd ⟨[u], []⟩ [(ps, u)]) ∧ ∀ base : Heap, K.In base → base.Ns mainGlobals mg → FnG P w K mg base k fa fd [ps] (lawS n) := by
  obtain ⟨f, fd, F, e⟩ := o
  rw [hfa] at e
  cases e
  obtain ⟨oc, od, kV, doc, pm, an, cdv, ct, osl, ef, lk, hcd⟩ := F.ex
  refine ⟨fd, fun s u => by rw [ef]; exact hb kV doc pm an cdv ct s u, fun base hK hg => ?_⟩
  obtain ⟨f', fd', F', e', b', G'⟩ := ok base hK hg
  rw [hfa] at e'
  cases e'
  have := fun_uniq F F'
  subst this
  exact G'.imp hS
theorem own_mk {K : PySem.W.Frag} {h : Heap} {mg : Str → Option Value} {x : Str} {st : Stmt} {f : Addr} {od an : Option Addr} {sl : Array (Option Value)} {oc kV dc pm cd ct : Value} (X : K.In h) (G : h.Ns mainGlobals mg)
    (a : PySem.W.nsIn K mainGlobals x = some (some (.ref f))) (l : K.lookup f = some ⟨oc, od, .func (PySem.W.fnOf x x (defArgs st) (defBody st) (defScope st) .none kV dc pm an cd ct), sl⟩) (c : PySem.W.codeIn K cd x = true) (k : PySem.W.keepIn K (.ref f) = true) : Own K mg x st :=
  ⟨f, _, fun_mk l c k, PySem.W.mg_of X G a⟩
theorem blt_mk {K : PySem.W.Frag} {h : Heap} {mg : Str → Option Value} (X : K.In h) (G : h.Ns mainGlobals mg) (z : ∀ x ∈ names0, PySem.W.nsIn K mainGlobals x = some none) : Blt mg := fun x hx => PySem.W.mg_none_of X G (z x hx)
end Fx

/-! Fx16: sorted(set(t)), t a tuple of numbers. -/
namespace Fx
open PySem PySem.Spec PyProof.Rows L2 RZ
def tSortSet (K : PySem.W.Frag) (te : TE) : TE := fun σ H Q => te σ H fun v H1 => ∃ (p : Addr) (ns : List Int), v = .ref p ∧ SqT K H1 p (ns.map V.int) ∧ ns.length < 63 ∧
  ∀ (ms : List Int) (q : Addr), ms.Pairwise (· < ·) → (∀ k : Int, k ∈ ms ↔ k ∈ ns) → H1 q = none → Q (.ref q) (upd H1 q (.lst (ms.map V.int)))
theorem pe_sortSet {X : Cx} {a : Expr} {te : TE} {p p2 q pos : Pos} (hc : X.calm = true) (hg : Gl X "sorted") (hm : X.mg "sorted" = none) (hg2 : Gl X "set") (hm2 : X.mg "set" = none) (ha : PE X a te)
    (na : starEach [a] X.env = (false, eval a X.env) :: starEach [] X.env := by rfl) : PE X (.Call (.Name "sorted" p) [.Call (.Name "set" p2) [a] [] q] [] pos) (tSortSet X.K te) := by
  refine ⟨fun pins s σ H Q I h => ?_⟩
  refine wpAny_Call_Name_kw (ld_blt I hg hm boot_sorted ?_)
  refine PyProof.Rows.callWith_builtin1 (PyProof.Rows.args_cons ?_ rfl) rfl rfl
  refine wpAny_Call_Name_kw (ld_blt I hg2 hm2 boot_set ?_)
  refine PyProof.Rows.callWith_type1 (PyProof.Rows.args_cons (thn (ha.run pins s σ H _ I h) fun v s1 ⟨x, H1, I1, r1, q1⟩ => PyProof.Rows.args_nil ?_) na) na rfl
  obtain ⟨t, ns, rfl, hq, hl, q1⟩ := q1
  cases r1
  obtain ⟨its, rv, pt, hz⟩ := I1.tuple hq
  have hi : IntsAre its.toArray.toList ns := ints_of_vals rv
  have hd := I1.ok.hd hc
  refine call_set_tupI ns hd (show s1.heap.IsTuple t its.toArray from pt) hi (by unfold scanBound; omega) fun h' tk c R1 hcn k => ?_
  refine PyProof.Rows.args_nil ?_
  have hlt : s1.heap.objs.size < h'.objs.size := by
    have ⟨o, _, _, _, ho, _⟩ := R1
    exact Heap.lt_size ho
  refine sorted_set (s := { s1 with heap := h', toks := tk }) R1 hd (by omega) fun s' p out c2 ms k2 g o hp hg hi2 hs hm hln => ?_
  have hlen : (ms.map V.int).length ≤ sizeLine := by rw [List.length_map, hln, sizeLine_eq]; omega
  have hp' : s1.heap.objs.size ≤ p := Nat.le_trans (Nat.le_of_lt hlt) hp
  have hn : H1 p = none := I1.hok.fresh hp'
  have kall : ∀ b u, s1.heap.get? b = some u → s'.heap.get? b = some u := fun b u e => k2 b u (k b u e)
  have J : Inv X pins σ (upd H1 p (.lst (ms.map V.int))) { s1 with heap := s'.heap, gens := s'.gens, drawn := s'.drawn, toks := s'.toks } :=
    I1.call (ch := []) (Un.laid kall hp' hn) (I1.hok.laid kall hp' ⟨hlen, out.toList, c2, vals_of_ints hi2, hg⟩) (by rw [g]; exact I1.bare) (fun _ z => nomatch z)
  have e : s' = { s1 with heap := s'.heap, gens := s'.gens, drawn := s'.drawn, toks := s'.toks } := by
    cases s'
    cases s1
    cases o
    rfl
  rw [e]
  exact ⟨.ref p, _, J, rfl, q1 ms p hs (fun k => by rw [hm k, decide_eq_true_eq]) hn⟩
section
variable {K : PySem.W.Frag}
def mSortSet (m : ME) : ME := fun ρ μ P => m ρ μ fun x μ1 => match x with | .tup ys => (match intsP ys with | some ns => ns.length < 63 ∧ ∀ ms : List Int, ms.Pairwise (· < ·) → (∀ k : Int, k ∈ ms ↔ k ∈ ns) → P (.lst (ms.map PV.int)) μ1 | none => False) | _ => False
instance {t m} [h : FE K t m] : FE K (tSortSet K t) (mSortSet m) := ⟨fun d σ H ρ μ P Q w e q k => by
  refine h.run d σ H ρ μ _ _ w e q fun d1 H1 μ1 x v e1 w1 r1 q1 => ?_
  match x, r1, q1 with
  | .tup ys, .tup (a := a) (vs := vs) h1 h2, q1 =>
    simp only at q1
    cases e2 : intsP ys with
    | none => rw [e2] at q1; exact q1.elim
    | some ns =>
      rw [e2] at q1
      have ev := RVs.ints_of h2 (intsP_of e2)
      subst ev
      exact ⟨a, ns, rfl, h1.sq, q1.1, fun ms q hs hm hq => k d1 _ μ1 _ _ (e1.trans (Ext.lay w1 hq)) (w1.lay hq) (lay_lst w1 (RVs.of_ints ms) hq) (q1.2 ms hs hm)⟩⟩
end
theorem eqP_ints (L M : List Int) (μ : Store) : eqP (.lst (L.map PV.int)) (.lst (M.map PV.int)) μ = (match SeqAt.shaped (.list (L.map PyData.int)), SeqAt.shaped (.list (M.map PyData.int)) with | true, true => some (PyData.eqv (.list (L.map PyData.int)) (.list (M.map PyData.int))) | _, _ => none) := by
  have d : ∀ L : List Int, datPs (L.map PV.int) = some (L.map PyData.int) := fun L => by
    induction L with
    | nil => rfl
    | cons x xs ih => simp [datPs, datP, ih]
  unfold eqP
  simp only [scalP, frzP, datP, d, Option.map_some]
  cases SeqAt.shaped (.list (L.map PyData.int)) <;> cases SeqAt.shaped (.list (M.map PyData.int)) <;> simp
/-- two rising lists of the same numbers -/
theorem rising_eq : ∀ {L M : List Int}, L.Pairwise (· < ·) → M.Pairwise (· < ·) → (∀ k, k ∈ L ↔ k ∈ M) → L = M
  | [], M, _, _, h => by
    cases M with
    | nil => rfl
    | cons m M => exact absurd ((h m).mpr List.mem_cons_self) (by simp)
  | l :: L, [], _, _, h => absurd ((h l).mp List.mem_cons_self) (by simp)
  | l :: L, m :: M, hl, hm, h => by
    rw [List.pairwise_cons] at hl hm
    have e : l = m := by
      rcases List.mem_cons.mp ((h l).mp List.mem_cons_self) with z | z
      · exact z
      · have h1 := hm.1 l z
        rcases List.mem_cons.mp ((h m).mpr List.mem_cons_self) with y | y
        · exact y.symm
        · have := hl.1 m y
          omega
    subst e
    rw [rising_eq hl.2 hm.2 fun k => ?_]
    constructor
    · intro hk
      rcases List.mem_cons.mp ((h k).mp (List.mem_cons_of_mem _ hk)) with z | z
      · have := hl.1 k hk; omega
      · exact z
    · intro hk
      rcases List.mem_cons.mp ((h k).mpr (List.mem_cons_of_mem _ hk)) with z | z
      · have := hm.1 k hk; omega
      · exact z
end Fx

/-! Fx17: t[::-1] of a tuple. -/
namespace Fx
open PySem PySem.Spec PyProof.Rows L2 RZ
section
variable {prog : Program} {w : World} {A : Around} {E : Value → Shared → Prop} {s : Shared}
theorem applied_rev {sl : Addr} {vs : Value} {n : Nat} {Q : Int × Int × Nat → Shared → Prop} (hs : s.heap.IsSliceOf sl .none .none vs) (ps : IsPart vs (some (-1)))
    (h : Q ((n : Int) - 1, -1, n) s) : wpAny (model prog w) A (Builtin.Slice.sliceApplied (.ref sl) (pure (n : Int))) Q E s := by
  obtain ⟨os, hos, hcs, hds⟩ := id hs
  unfold Builtin.Slice.sliceApplied Builtin.Slice.sliceFields
  refine wpAny_bind (wpAny_bind (wpAny_field hos hds (x := .none) rfl (wpAny_bind (wpAny_field hos hds (x := .none) rfl (wpAny_bind (wpAny_field hos hds (x := vs) rfl (wpAny_pure ?_)))))))
  refine wpAny_bind (HT.slicePart_ ps ?_)
  show wpAny _ _ (if ((-1 : Int) == 0) = true then _ else _) _ _ s
  rw [if_neg (by decide)]
  refine wpAny_bind (HT.slicePart_ .none (wpAny_bind (HT.slicePart_ .none (wpAny_bind (wpAny_pure ?_)))))
  have e : Builtin.Slice.slicePlaces ((n : Int) - 1) (-1) (-1) = n := by
    unfold Builtin.Slice.slicePlaces
    rw [if_neg (by decide)]
    by_cases h : n = 0
    · subst h; rfl
    · rw [if_pos (by omega)]
      have : (- -1 : Int) = 1 := rfl
      rw [this, Int.ediv_one]
      omega
  show wpAny _ _ (pure ((n : Int) - 1, (-1 : Int), Builtin.Slice.slicePlaces ((n : Int) - 1) (-1) (-1))) _ _ s
  rw [e]
  exact wpAny_pure h
theorem fm_congr {α β : Type} {f g : α → Option β} : ∀ {l : List α}, (∀ a, a ∈ l → f a = g a) → l.filterMap f = l.filterMap g
  | [], _ => rfl
  | a :: l, h => by rw [List.filterMap_cons, List.filterMap_cons, h a List.mem_cons_self, fm_congr fun b hb => h b (List.mem_cons_of_mem _ hb)]
theorem pick_rev (xs : List Value) : ((List.range xs.length).filterMap fun (k : Nat) => xs.toArray[((xs.length : Int) - 1 + (k : Int) * -1).toNat]?) = xs.reverse := by
  have e : ∀ k, k ∈ List.range xs.length → xs.toArray[((xs.length : Int) - 1 + (k : Int) * -1).toNat]? = xs.reverse[k]? := fun k hk => by
    have hk' := List.mem_range.mp hk
    have : ((xs.length : Int) - 1 + (k : Int) * -1).toNat = xs.length - 1 - k := by omega
    rw [this, List.getElem?_reverse hk']
    simp
  rw [fm_congr e]
  have : ∀ (ys : List Value), (List.range ys.length).filterMap (fun k => ys[k]?) = ys := by
    intro ys
    induction ys with
    | nil => rfl
    | cons y ys ih =>
      rw [List.length_cons, List.range_succ_eq_map, List.filterMap_cons]
      simp only [List.getElem?_cons_zero, List.filterMap_map]
      congr 1
  have h := this xs.reverse
  rw [List.length_reverse] at h
  exact h
theorem getItem_tuple_rev {t sl : Addr} {items : List Value} {vs : Value} {Q : Value → Shared → Prop} (ht : IsTup s.heap t items.toArray) (hs : s.heap.IsSliceOf sl .none .none vs) (ps : IsPart vs (some (-1)))
    (h : Q (.ref s.heap.objs.size) { s with heap := s.heap.push { cls := .type "tuple", data := .seq items.reverse.toArray } }) (hsz : items.length ≤ sizeLine) : wpAny (model prog w) A (getItem (.ref t) (.ref sl)) Q E s := by
  have hok : sizeOk (.seq items.reverse.toArray) := by
    show items.reverse.toArray.size ≤ sizeLine
    rw [List.size_toArray, List.length_reverse]; exact hsz
  obtain ⟨os, hos, hcs, hds⟩ := id hs
  have hTs : s.TypeIs (.ref sl) "slice" := ⟨os, hos, hcs⟩
  unfold getItem; try with_reducible refine wpAny_holding ?_
  first | refine wpAny_bind (wpAny_pure ?_) | skip
  refine wpAny_bind (wpAny_sequenceKey (ht.typeIs) (by decide) (wpAny_bind (wpAny_callSpecial?_slot (name := Str.ofString "__getitem__") ht.typeIs PyProof.Rows.slot_tuple_getitem (wpAny_call_entry PyProof.Rows.slot_tuple_getitem ht.typeIs PyProof.Rows.entry_tuple_getitem ?_ (PyProof.Rows.args_tuple_getitem _ _)))))
  show wpAny _ _ ((Builtin.Tuple.tupleItemsOf (.ref t)) >>= _) _ _ s
  refine wpAny_bind (PyProof.Rows.tupleItemsOf_ ht (wpAny_bind (wpAny_typeOf hTs ?_)))
  rw [if_pos (by decide), List.size_toArray]
  refine wpAny_bind (applied_rev hs ps ?_)
  have hno : ¬ ((((items.length : Int) - 1) == 0 && (-1 : Int) == 1 && items.length == items.length) = true) := by
    intro q
    simp at q
  show wpAny _ _ (if (((items.length : Int) - 1) == 0 && (-1 : Int) == 1 && items.length == items.toArray.size) = true then _ else _) _ _ s
  rw [List.size_toArray, if_neg hno, pick_rev]
  exact (wpAny_bind (m := Builtin.Tuple.tupleExact _) ((wpAny_newObj_type (wpAny_pure ⟨_, rfl, wpAny_pure h⟩) hok)))
end
def tRevT (K : PySem.W.Frag) (te : TE) : TE := fun σ H Q => te σ H fun x H1 => ∃ a xs, x = .ref a ∧ SqT K H1 a xs ∧ ∀ p, H1 p = none → Q (.ref p) (upd H1 p (.tup xs.reverse))
theorem pe_revT {X : Cx} {e : Expr} {te : TE} {k : Nat} {p1 p2 p3 pos : Pos} (he : PE X e te) : PE X (.Subscript e (.Slice none none (some (.UnaryOp .USub (.Constant (.int 1) k p1) p2)) p3) pos) (tRevT X.K te) := by
  refine ⟨fun pins s σ H Q I h => ?_⟩
  refine Subscript_ (thn (he.run pins s σ H _ I h) fun v s1 ⟨x, H1, I1, r1, a, xs, ex, hx, q⟩ => ?_)
  subst ex
  cases r1
  have hst : PO X (some (.UnaryOp .USub (.Constant (.int 1) k p1) p2)) (tPart (tUn (rU fun i => .int (-i)) (tC (.int 1)))) := po_some (pe_un un_neg pe_int)
  refine wpAny_Slice (thn (po_none.run pins s1 σ H1 (fun o H2 => o = none ∧ H2 = H1) I1 ⟨rfl, rfl⟩) fun vl s2 ⟨l, H2, I2, pl, el, e2⟩ => ?_)
  subst el e2
  refine thn (po_none.run pins s2 σ H2 (fun o H3 => o = none ∧ H3 = H2) I2 ⟨rfl, rfl⟩) fun vu s3 ⟨u, H3, I3, pu, eu, e3⟩ => ?_
  subst eu e3
  refine thn (hst.run pins s3 σ H3 (fun o H4 => o = some (-1) ∧ H4 = H3) I3 ⟨1, rfl, -1, rfl, rfl, rfl⟩) fun vs s4 ⟨o, H4, I4, ps, eo, e4⟩ => ?_
  subst eo e4
  cases pl
  cases pu
  have I5 : Inv X pins σ H4 { s4 with heap := s4.heap.push { cls := .type "slice", data := .fields #[.none, .none, vs] } } := I4.kept (t' := s4.toks) fun b ob q => Heap.get?_push_of_some _ q
  obtain ⟨its, r, ht, hz⟩ := I5.tuple hx
  have hlen := r.length
  show wpAny (model X.prog X.w) X.A (subscriptTail e (.Slice none none (some (.UnaryOp .USub (.Constant (.int 1) k p1) p2)) p3) (.ref a) (.ref s4.heap.objs.size)) (EP X pins σ Q) X.xe { s4 with heap := s4.heap.push { cls := .type "slice", data := .fields #[.none, .none, vs] } }
  refine tail_any (ops := [.ref a, .ref s4.heap.objs.size]) ht.typeIs (PyProof.Rows.slot_tuple_getitem.lookup) ?_ (by with_unfolding_all rfl)
  refine getItem_tuple_rev ht (Heap.IsSliceOf.new _ .none .none vs) ps ?_ (by omega)
  refine ⟨.ref _, _, I5.laid (t' := s4.toks) (o := .tup xs.reverse) (fun b ob q => Heap.get?_push_of_some _ q) (Nat.le_refl _) ?_, rfl, q _ (I5.hok.fresh (Nat.le_refl _))⟩
  exact ⟨by rw [List.length_reverse]; exact hz, _, r.reverse, IsTup.new _ _⟩
section
variable {K : PySem.W.Frag}
def mRevT (m : ME) : ME := fun ρ μ P => m ρ μ fun x μ1 => match itemsOf x μ1 with | some xs => (match x with | .tup _ => P (.tup xs.reverse) μ1 | _ => False) | none => False
instance {t m} [h : FE K t m] : FE K (tRevT K t) (mRevT m) := ⟨fun d σ H ρ μ P Q w e q k => by
  refine h.run d σ H ρ μ _ _ w e q fun d1 H1 μ1 x v e1 w1 r1 q1 => ?_
  match x, r1, q1 with
  | .tup ys, .tup (a := a) (vs := vs) h1 h2, q1 => exact ⟨a, vs, rfl, h1.sq, fun p hp => k d1 _ μ1 _ _ (e1.trans (Ext.lay w1 hp)) (w1.lay hp) (lay_tup w1 h2.rev hp) q1⟩
  | .lst _, _, q1 => exact q1.elim
  | .kl _, _, q1 => exact q1.elim
  | .mr n, _, q1 => simp only at q1; split at q1 <;> exact q1.elim
  | .non, _, q1 => exact q1.elim
  | .bl _, _, q1 => exact q1.elim
  | .int _, _, q1 => exact q1.elim
  | .str _, _, q1 => exact q1.elim
  | .ty _, _, q1 => exact q1.elim⟩
end
end Fx

/-! Fx18: truth of numbers, repr of anything plain, len and list of a dict, len(set(t)), lists times numbers, an empty dict. -/
namespace Fx
open PySem PySem.Spec PyProof.Rows L2 RZ
def tTruth (K : PySem.W.Frag) (t : TE) : TT := fun σ H Q => t σ H fun x H' => ∃ k, TruV K x H' k ∧ Q k H'
theorem pt_tru {X : Cx} {a : Expr} {ta : TE} (ha : PE X a ta) (he : ∀ whole, isTrue a X.env whole = (do let v ← whole; standAt a.pos; holding [v] (truthy v))) : PT X a (tTruth X.K ta) := pt_truth ha he
section
variable {K : PySem.W.Frag} {d d' : Wd} {H H' : Hp} {a b : Addr} {vs us : List V} {xs ys : List PV} {μ : Store}
def mTruth (m : ME) : MT := fun ρ μ P => m ρ μ fun x μ1 => match x with | .bl b => P b μ1 | .int i => P (i != 0) μ1 | _ => False
instance {t m} [h : FE K t m] : FT K (tTruth K t) (mTruth m) := ⟨fun d σ H ρ μ P Q w e q k => by
  refine h.run d σ H ρ μ _ _ w e q fun d1 H1 μ1 x v e1 w1 r1 q1 => ?_
  match x, r1, q1 with
  | .bl b, .bl _, q1 => exact ⟨b, rfl, k d1 H1 μ1 _ e1 w1 q1⟩
  | .int i, .int _, q1 => exact ⟨_, rfl, k d1 H1 μ1 _ e1 w1 q1⟩⟩
/-! ### repr -/
def reprS : V → Option Str
  | .int i => if i.natAbs.log2 < 1920 then some (toString i : String) else none
  | .bl c => some (if c then "True" else "False" : String)
  | .non => some ("None" : String)
  | _ => none
def rReprA (K : PySem.W.Frag) : List V → Hp → VK → Prop := fun xs H Q => rRepr K xs H Q ∨ ∃ x z, xs = [x] ∧ reprS x = some z ∧ Q (.str z) H
theorem cb_reprA {X : Cx} (hg : X.A.guards = some []) (hu : X.A.units + 64 < cLine) : CallR X (.builtin "repr") (rReprA X.K) := by
  intro pins s σ H vs us Q I r h
  rcases h with h | ⟨x, z, rfl, hz, q⟩
  · exact cb_repr hg hu pins s σ H vs us Q I r h
  · obtain ⟨u, rfl, ru⟩ := vals1 r
    cases x with
    | non =>
      obtain rfl : u = Value.none := ru
      simp only [reprS, Option.some.injEq] at hz
      subst hz
      exact PySem.P.repr_of_none ⟨.str _, H, I.tok _, ⟨_, rfl⟩, q⟩
    | bl c =>
      obtain rfl : u = Value.bool c := ru
      simp only [reprS, Option.some.injEq] at hz
      subst hz
      exact PySem.P.repr_of_bool ⟨.str _, H, I.tok _, ⟨_, by cases c <;> rfl⟩, q⟩
    | int i =>
      obtain ⟨t, rfl⟩ := ru
      unfold reprS at hz
      simp only at hz
      split at hz
      · rename_i hl
        cases hz
        exact PySem.P.repr_of_int hl ⟨.str _, H, I.tok _, ⟨_, rfl⟩, q⟩
      · cases hz
    | _ => exact absurd hz (by simp [reprS])
theorem ckA_repr {X : Cx} (K : PySem.W.Frag) (h : X.K = K) (hg : X.A.guards = some []) (hu : X.A.units + 64 < cLine) : CallR X (.builtin "repr") (rReprA K) := h ▸ cb_reprA hg hu
def pReprA : MB := fun xs μ P => match xs with
  | [x] => (match x with
    | .int i => i.natAbs.log2 < 1920 ∧ P (.str (toString i : String)) μ
    | .bl c => P (.str (if c then "True" else "False" : String)) μ
    | .non => P (.str ("None" : String)) μ
    | y => pRepr [y] μ P)
  | _ => False
instance : FB K (rReprA K) pReprA := ⟨fun d H μ xs vs P Q w r q k => by
  have gen : pRepr xs μ P → rReprA K vs H Q := fun q => .inl (FB.run (p := pRepr) d H μ xs vs P Q w r q k)
  match xs, r, q, gen with
  | [.int i], .cons (.int _) .nil, ⟨hz, q⟩, _ => exact .inr ⟨_, _, rfl, by simp only [reprS]; rw [if_pos hz], k d H μ _ _ .refl w (.str _) q⟩
  | [.bl c], .cons (.bl _) .nil, q, _ => exact .inr ⟨_, _, rfl, rfl, k d H μ _ _ .refl w (.str _) q⟩
  | [], _, q, _ => exact q.elim
  | [.non], .cons .non .nil, q, _ => exact .inr ⟨_, _, rfl, rfl, k d H μ _ _ .refl w (.str _) q⟩
  | [.str _], _, q, gen => exact gen q
  | [.ty _], _, q, gen => exact gen q
  | [.tup _], _, q, gen => exact gen q
  | [.lst _], _, q, gen => exact gen q
  | [.kl _], _, q, gen => exact gen q
  | [.mr _], _, q, gen => exact gen q
  | _ :: _ :: _, _, q, gen => exact q.elim⟩
/-! ### len and list of a dict -/
def rLenD : List V → Hp → VK → Prop := fun xs H Q => ∃ a kvs, xs = [V.ref a] ∧ H a = some (.dK kvs) ∧ Q (.int kvs.length) H
end
theorem cb_lenD {X : Cx} : CallR X (.builtin "len") rLenD := call_lenD
def rLstD : List V → Hp → VK → Prop := rListD
theorem cb_lstD {X : Cx} (hc : X.calm = true) : CallR X (.type "list") rLstD := call_list_dK hc
section
variable {K : PySem.W.Frag} {d d' : Wd} {H H' : Hp} {a b : Addr} {vs us : List V} {xs ys : List PV} {μ : Store}
def dkOfP (x : PV) (μ : Store) : Option (List (Key × PV)) := match x with | .mr n => (match μ[n]? with | some (.dk kvs) => some kvs | _ => none) | _ => none
theorem dk_of {x : PV} {v : V} {kvs : List (Key × PV)} (w : WOk K d H μ) (r : RV K d H x v) (h : dkOfP x μ = some kvs) : ∃ n a ws, x = .mr n ∧ v = .ref a ∧ d.am[n]? = some a ∧ H a = some (.dK ws) ∧ RKs K d H kvs ws := by
  cases r with
  | @mr n a h1 =>
    unfold dkOfP at h
    cases e : μ[n]? with
    | none => simp [e] at h
    | some m =>
      cases m with
      | lst zs => simp [e] at h
      | fd _ _ _ => simp [e] at h
      | dk zs =>
        simp [e] at h
        subst h
        obtain ⟨ws, q, r1, r2⟩ := w.obj h1 e
        exact ⟨n, a, ws, rfl, rfl, h1, q, r1, r2⟩
  | _ => cases h
def pLenD : MB := fun xs μ P => match xs with | [x] => (match dkOfP x μ with | some kvs => P (.int (kvs.length : Nat)) μ | none => False) | _ => False
instance : FB K rLenD pLenD := ⟨fun d H μ xs vs P Q w r q k => by
  match xs, r, q with
  | [x], .cons r .nil, q =>
    unfold pLenD at q
    simp only at q
    cases e : dkOfP x μ with
    | none => rw [e] at q; exact q.elim
    | some kvs =>
      rw [e] at q
      obtain ⟨n, a, ws, rfl, rfl, _, hq, rk⟩ := dk_of w r e
      refine ⟨a, ws, rfl, hq, ?_⟩
      rw [← rk.len]
      exact k d H μ _ _ .refl w (.int _) q⟩
def keyPV : Key → PV
  | .inl i => .int i
  | .inr x => .str x
def pLstD : MB := fun xs μ P => match xs with | [x] => (match dkOfP x μ with | some kvs => P (.lst (kvs.map fun kv => keyPV kv.1)) μ | none => False) | _ => False
theorem keys_rv : ∀ (ks : List Key), RVs K d H (ks.map keyPV) (ks.map kV)
  | [] => .nil
  | .inl i :: ks => .cons (.int i) (keys_rv ks)
  | .inr x :: ks => .cons (.str x) (keys_rv ks)
instance : FB K rLstD pLstD := ⟨fun d H μ xs vs P Q w r q k => by
  match xs, r, q with
  | [x], .cons r .nil, q =>
    unfold pLstD at q
    simp only at q
    cases e : dkOfP x μ with
    | none => rw [e] at q; exact q.elim
    | some kvs =>
      rw [e] at q
      obtain ⟨n, a, ws, rfl, rfl, _, hq, rk⟩ := dk_of w r e
      refine ⟨a, ws, rfl, hq, fun p hp => ?_⟩
      have e1 : (ws.map fun kv => kV kv.1) = (kvs.map (·.1)).map kV := by rw [← rk.1, List.map_map]; rfl
      have e2 : (kvs.map fun kv => keyPV kv.1) = (kvs.map (·.1)).map keyPV := by rw [List.map_map]; rfl
      rw [e1]
      simp only at q
      rw [e2] at q
      exact k d _ μ _ _ (Ext.lay w hp) (w.lay hp) (lay_lst w (keys_rv _) hp) q⟩
/-! ### an empty dict -/
def mDNew : ME := fun _ μ P => P (.mr μ.length) (μ ++ [.dk []])
instance : FE K tDNewK mDNew := ⟨fun d σ H ρ μ P Q w e q k => fun p hp => by
  have ee := Ext.push (o := .dK []) w hp
  exact k (d.push p) _ _ _ _ ee (w.push (m := .dk []) hp ⟨[], upd_same, rfl, .nil⟩) (lay_mr w) q⟩
/-! ### [x] * n -/
def rRepL : R2 := rRep
end
theorem op_repL {X : Cx} : OpR X (binaryOp .Mult) rRepL := op_rep
section
variable {K : PySem.W.Frag} {d d' : Wd} {H H' : Hp} {a b : Addr} {vs us : List V} {xs ys : List PV} {μ : Store}
def pRepL : MO2 := fun x y μ P => match x, y with
  | .lst xs, .int k => (0 ≤ k ∧ k ≤ 1000 ∧ xs.length ≤ 1000) ∧ P (.lst (List.replicate k.toNat xs).flatten) μ
  | _, _ => False
instance : F2 K rRepL pRepL := ⟨fun d H μ x y v u P Q w r1 r2 q k => by
  match x, y, r1, r2, q with
  | .lst xs, .int n, .lst (a := a) (vs := vs) h1 h2, .int _, ⟨⟨z1, z2, z3⟩, q⟩ =>
    refine ⟨a, n, vs, rfl, rfl, h1.1, by omega, by omega, ?_, fun p hp => k d _ μ _ _ (Ext.lay w hp) (w.lay hp) (lay_lst w (RVs.rep h2 _) hp) q⟩
    rw [← h2.length]
    refine Nat.le_trans (Nat.mul_le_mul z3 (show n.toNat ≤ 1000 by omega)) ?_
    rw [sizeLine_eq]; decide⟩
/-! ### len(set(t)) -/
end
def tLenSetN (K : PySem.W.Frag) (te : TE) : TE := fun σ H Q => te σ H fun v H1 => ∃ (p : Addr) (ns : List Int), v = .ref p ∧ SqT K H1 p (ns.map V.int) ∧ ns.length ≤ 4000 ∧
  ∀ ms : List Int, ms.Nodup → (∀ k : Int, k ∈ ms ↔ k ∈ ns) → Q (.int (ms.length : Nat)) H1
theorem pe_lenSetN {X : Cx} {a : Expr} {te : TE} {p p2 q pos : Pos} (hc : X.calm = true) (hg : Gl X "len") (hm : X.mg "len" = none) (hg2 : Gl X "set") (hm2 : X.mg "set" = none) (ha : PE X a te)
    (na : starEach [a] X.env = (false, eval a X.env) :: starEach [] X.env := by rfl) : PE X (.Call (.Name "len" p) [.Call (.Name "set" p2) [a] [] q] [] pos) (tLenSetN X.K te) := by
  refine ⟨fun pins s σ H Q I h => ?_⟩
  refine Call_ (ld_blt I hg hm boot_len ?_)
  refine PyProof.Rows.callWith_builtin1 (PyProof.Rows.args_cons ?_ rfl) rfl rfl
  refine Call_ (ld_blt I hg2 hm2 boot_set ?_)
  refine PyProof.Rows.callWith_type1 (PyProof.Rows.args_cons (thn (ha.run pins s σ H _ I h) fun v s1 ⟨x, H1, I1, r1, q1⟩ => PyProof.Rows.args_nil ?_) na) na rfl
  obtain ⟨t, ns, rfl, hq, hl, q1⟩ := q1
  cases r1
  obtain ⟨its, rv, pt, hz⟩ := I1.tuple hq
  have hi : IntsAre its.toArray.toList ns := ints_of_vals rv
  refine call_set_tupI ns (I1.ok.hd hc) (show s1.heap.IsTuple t its.toArray from pt) hi (by unfold scanBound; omega) fun h' tk c R1 hcn k => ?_
  refine PyProof.Rows.args_nil ?_
  obtain ⟨o, es, ep, st, ho, hex, hd, g, nd, hm', hb, hf, hn, hr, hl'⟩ := R1
  have I2 : Inv X pins σ H1 { s1 with heap := h', toks := tk } := I1.kept k
  have e1 : (es.toList.map keyOf).length = es.size := by rw [List.length_map, Array.length_toList]
  refine call_len_set ho hex hd hf (by omega) ⟨.int (es.size : Nat), H1, I2.tok _, ⟨_, rfl⟩, ?_⟩
  rw [← e1]
  exact q1 _ nd fun j => by rw [← hm' j, decide_eq_true_eq]
section
variable {K : PySem.W.Frag}
def mLenSetN (m : ME) : ME := fun ρ μ P => m ρ μ fun x μ1 => match x with | .tup ys => (match intsP ys with | some ns => ns.length ≤ 4000 ∧ ∀ ms : List Int, ms.Nodup → (∀ k : Int, k ∈ ms ↔ k ∈ ns) → P (.int (ms.length : Nat)) μ1 | none => False) | _ => False
instance {t m} [h : FE K t m] : FE K (tLenSetN K t) (mLenSetN m) := ⟨fun d σ H ρ μ P Q w e q k => by
  refine h.run d σ H ρ μ _ _ w e q fun d1 H1 μ1 x v e1 w1 r1 q1 => ?_
  match x, r1, q1 with
  | .tup ys, .tup (a := a) (vs := vs) h1 h2, q1 =>
    simp only at q1
    cases e2 : intsP ys with
    | none => rw [e2] at q1; exact q1.elim
    | some ns =>
      rw [e2] at q1
      have ev := RVs.ints_of h2 (intsP_of e2)
      subst ev
      exact ⟨a, ns, rfl, h1.sq, q1.1, fun ms hs hm => k d1 H1 μ1 _ _ e1 w1 (.int _) (q1.2 ms hs hm)⟩⟩
end
theorem and_one (i : Int) : Builtin.bitAnd i 1 = i % 2 := bitAnd_m1 i
end Fx

/-! Fx19: dicts walked under a lock, get with a default, is None, repr of None. -/
namespace Fx
open PySem PySem.Spec PyProof.Rows L2 RZ
def tLockV (i : Nat) (t : TS) : TS := tLock t
theorem ps_lockV (i : Nat) {X : Cx} {st : Stmt} {t : TS} (h : PS X st t) : PS X st (tLockV i t) := ps_lock h
def tLockEV (i : Nat) (t : TE) : TE := tLockE t
theorem pe_lockV (i : Nat) {X : Cx} {e : Expr} {t : TE} (h : PE X e t) : PE X e (tLockEV i t) := pe_lock h
section
variable {K : PySem.W.Frag} {d d' : Wd} {H H' : Hp} {a b : Addr} {vs us : List V} {xs ys : List PV} {μ : Store}
theorem lock_in {n : Nat} {kvs : List (Key × PV)} (w : WOk K d H μ) (h1 : d.am[n]? = some a) (h2 : μ[n]? = some (.dk kvs)) :
    ∃ ws, H a = some (.dK ws) ∧ ∀ od, Ext d H d (upd H a (.frz od (.dK ws))) ∧ WOk K d (upd H a (.frz od (.dK ws))) (μ.set n (.fd od ws kvs)) ∧
      ∀ d' H' μ', Ext d (upd H a (.frz od (.dK ws))) d' H' → WOk K d' H' μ' → μ'[n]? = some (.fd od ws kvs) →
        H' a = some (.frz od (.dK ws)) ∧ Ext d H d' (upd H' a (.dK ws)) ∧ Ext d' H' d' (upd H' a (.dK ws)) ∧ WOk K d' (upd H' a (.dK ws)) (μ'.set n (.dk kvs)) := by
  obtain ⟨ws, hq, k1, k2⟩ := w.obj h1 h2
  have ha : a ∈ d.am := List.mem_of_getElem? h1
  refine ⟨ws, hq, fun od => ?_⟩
  have ee : Ext d H d (upd H a (.frz od (.dK ws))) := Ext.chg ha
  refine ⟨ee, w.chg (m := .fd od ws kvs) h1 ⟨upd_same, k1, k2.mono ee⟩, fun d' H' μ' f w' h3 => ?_⟩
  have h4 : d'.am[n]? = some a := f.at h1
  have ha' : a ∈ d'.am := List.mem_of_getElem? h4
  obtain ⟨q1, q2, q3⟩ := w'.obj h4 h3
  have ef : Ext d' H' d' (upd H' a (.dK ws)) := Ext.chg ha'
  exact ⟨q1, (ee.trans f).trans ef, ef, w'.chg (m := .dk kvs) h4 ⟨ws, upd_same, q2, q3.mono ef⟩⟩
def mLockV (i : Nat) (mb : MS) : MS := fun P ρ μ => match ρ[i]? with
  | some (some (.mr n)) => (match μ[n]? with
    | some (.dk kvs) => ∀ o ws, mb { nx := fun ρ' μ' => μ'[n]? = some (.fd o ws kvs) ∧ P.nx ρ' (μ'.set n (.dk kvs)), rt := fun x μ' => μ'[n]? = some (.fd o ws kvs) ∧ P.rt x (μ'.set n (.dk kvs)), bk := fun ρ' μ' => μ'[n]? = some (.fd o ws kvs) ∧ P.bk ρ' (μ'.set n (.dk kvs)), ct := fun ρ' μ' => μ'[n]? = some (.fd o ws kvs) ∧ P.ct ρ' (μ'.set n (.dk kvs)) } ρ (μ.set n (.fd o ws kvs))
    | _ => False)
  | _ => False
instance {i t m} [h : FS K t m] : FS K (tLockV i t) (mLockV i m) := ⟨fun d σ H ρ μ P D w e q l => by
  unfold mLockV at q
  split at q
  · rename_i n e1
    split at q
    · rename_i kvs e2
      obtain ⟨v, hv, r⟩ := e.2 i _ e1
      cases r with
      | @mr _ a h1 =>
        obtain ⟨ws, hq, hin⟩ := lock_in w h1 e2
        refine ⟨a, .dK ws, hq, trivial, fun od => ?_⟩
        obtain ⟨ee, w', back⟩ := hin od
        refine h.run d σ _ ρ _ _ _ w' (e.mono ee) (q od ws) ⟨fun d' σ' H' ρ' μ' f wk er ⟨q1, q2⟩ => ?_, fun d' H' μ' x v f wk rx ⟨q1, q2⟩ => ?_, fun d' σ' H' ρ' μ' f wk er ⟨q1, q2⟩ => ?_, fun d' σ' H' ρ' μ' f wk er ⟨q1, q2⟩ => ?_⟩
        · obtain ⟨b1, b2, b3, b4⟩ := back d' H' μ' f wk q1
          exact ⟨b1, l.nx d' σ' _ ρ' _ b2 b4 (er.mono b3) q2⟩
        · obtain ⟨b1, b2, b3, b4⟩ := back d' H' μ' f wk q1
          exact ⟨b1, l.rt d' _ _ x v b2 b4 (rx.mono b3) q2⟩
        · obtain ⟨b1, b2, b3, b4⟩ := back d' H' μ' f wk q1
          exact ⟨b1, l.bk d' σ' _ ρ' _ b2 b4 (er.mono b3) q2⟩
        · obtain ⟨b1, b2, b3, b4⟩ := back d' H' μ' f wk q1
          exact ⟨b1, l.ct d' σ' _ ρ' _ b2 b4 (er.mono b3) q2⟩
    · exact q.elim
  · exact q.elim⟩
def mLockE (i : Nat) (me : ME) : ME := fun ρ μ P => match ρ[i]? with
  | some (some (.mr n)) => (match μ[n]? with
    | some (.dk kvs) => ∀ o ws, me ρ (μ.set n (.fd o ws kvs)) fun x μ' => μ'[n]? = some (.fd o ws kvs) ∧ P x (μ'.set n (.dk kvs))
    | _ => False)
  | _ => False
instance {i t m} [h : FE K t m] : FE K (tLockEV i t) (mLockE i m) := ⟨fun d σ H ρ μ P Q w e q k => by
  unfold mLockE at q
  split at q
  · rename_i n e1
    split at q
    · rename_i kvs e2
      obtain ⟨v, hv, r⟩ := e.2 i _ e1
      cases r with
      | @mr _ a h1 =>
        obtain ⟨ws, hq, hin⟩ := lock_in w h1 e2
        refine ⟨a, .dK ws, hq, trivial, fun od => ?_⟩
        obtain ⟨ee, w', back⟩ := hin od
        refine h.run d σ _ ρ _ _ _ w' (e.mono ee) (q od ws) fun d' H' μ' x v f wk rx ⟨q1, q2⟩ => ?_
        obtain ⟨b1, b2, b3, b4⟩ := back d' H' μ' f wk q1
        exact ⟨b1, k d' _ _ x v b2 b4 (rx.mono b3) q2⟩
    · exact q.elim
  · exact q.elim⟩
/-! ### walks of a locked dict -/
theorem rks_get {ws : List (Key × V)} : ∀ {kvs : List (Key × PV)} {ws : List (Key × V)}, ws.map (·.1) = kvs.map (·.1) → RVs K d H (kvs.map (·.2)) (ws.map (·.2)) → ∀ (i : Nat) (k : Key) (x : PV), kvs[i]? = some (k, x) → ∃ v, ws[i]? = some (k, v) ∧ RV K d H x v
  | [], _, _, _, i, k, x, h => by simp at h
  | p :: kvs, [], h1, _, _, _, _, _ => by simp at h1
  | p :: kvs, q :: ws, h1, h2, i, k, x, h => by
    simp only [List.map_cons, List.cons.injEq] at h1
    obtain ⟨z1, z2⟩ := h1
    cases h2 with
    | cons r t =>
      cases i with
      | zero =>
        simp at h
        subst h
        exact ⟨q.2, by obtain ⟨q1, q2⟩ := q; simp at z1; subst z1; rfl, r⟩
      | succ i =>
        obtain ⟨v, hv, rv⟩ := rks_get (ws := ws) z2 t i k x (by simpa using h)
        exact ⟨v, by simpa using hv, rv⟩
def mItemsC (m : ME) : MIC := fun ρ μ P => m ρ μ fun x μ1 => match x with | .mr n => (match μ1[n]? with | some (.fd o ws kvs) => P (kvs.map fun kv => .tup [keyPV kv.1, kv.2]) (fun μ2 => μ2[n]? = some (.fd o ws kvs)) μ1 | _ => False) | _ => False
def mKeysC (m : ME) : MIC := fun ρ μ P => m ρ μ fun x μ1 => match x with | .mr n => (match μ1[n]? with | some (.fd o ws kvs) => P (kvs.map fun kv => keyPV kv.1) (fun μ2 => μ2[n]? = some (.fd o ws kvs)) μ1 | _ => False) | _ => False
theorem key_rv (k : Key) : RV K d H (keyPV k) (kV k) := by
  cases k with
  | inl i => exact .int i
  | inr x => exact .str x
theorem fd_len {ws : List (Key × V)} {kvs : List (Key × PV)} (h : ws.map (·.1) = kvs.map (·.1)) : ws.length = kvs.length := by
  have := congrArg List.length h
  simpa using this
instance {t m} [h : FE K t m] : FC K (iItems t) (mItemsC m) := ⟨fun d σ H ρ μ P R w e q k => by
  refine h.run d σ H ρ μ _ _ w e q fun d1 H1 μ1 x v e1 w1 r1 q1 => ?_
  cases r1 with
  | @mr n a h1 =>
    simp only at q1
    split at q1
    · rename_i o ws kvs e2
      obtain ⟨hq, k1, k2⟩ := w1.obj h1 e2
      refine ⟨a, o, ws, rfl, hq, k d1 H1 μ1 _ _ _ e1 w1 (fun d2 d3 H3 μ3 bb ee w3 hC => ?_) q1⟩
      have h3 : d3.am[n]? = some a := ee.at (by rw [bb.1]; exact h1)
      obtain ⟨hq3, k3, k4⟩ := w3.obj h3 hC
      refine ⟨fun i x hx => ?_, fun i hi => ⟨hq3, by rw [fd_len k3]; simpa using hi⟩⟩
      have hi : i < kvs.length := by simpa using (List.getElem?_eq_some_iff.mp hx).1
      refine ⟨⟨hq3, by rw [fd_len k3]; exact hi⟩, fun u H4 hy => ?_⟩
      obtain ⟨T, kk, v, hv, rfl, hT, rfl⟩ := hy
      rw [List.getElem?_map, List.getElem?_eq_getElem hi] at hx
      have hx := Option.some.inj hx
      obtain ⟨v', hv', rv⟩ := rks_get (ws := ws) k3 k4 i _ _ (List.getElem?_eq_getElem hi)
      rw [hv'] at hv
      simp only [Option.some.injEq, Prod.mk.injEq] at hv
      obtain ⟨z1, z2⟩ := hv
      subst z2
      rw [← hx, ← z1]
      exact ⟨Ext.lay w3 hT, w3.lay hT, lay_tup w3 (.cons (key_rv _) (.cons rv .nil)) hT⟩
    · exact q1.elim
  | _ => exact q1.elim⟩
instance {t m} [h : FE K t m] : FC K (iKeys t) (mKeysC m) := ⟨fun d σ H ρ μ P R w e q k => by
  refine h.run d σ H ρ μ _ _ w e q fun d1 H1 μ1 x v e1 w1 r1 q1 => ?_
  cases r1 with
  | @mr n a h1 =>
    simp only at q1
    split at q1
    · rename_i o ws kvs e2
      obtain ⟨hq, k1, k2⟩ := w1.obj h1 e2
      refine ⟨a, o, rfl, .inl ⟨ws, hq, k d1 H1 μ1 _ _ _ e1 w1 (fun d2 d3 H3 μ3 bb ee w3 hC => ?_) q1⟩⟩
      have h3 : d3.am[n]? = some a := ee.at (by rw [bb.1]; exact h1)
      obtain ⟨hq3, k3, k4⟩ := w3.obj h3 hC
      refine ⟨fun i x hx => ?_, fun i hi => ⟨hq3, by rw [fd_len k3]; simpa using hi⟩⟩
      have hi : i < kvs.length := by simpa using (List.getElem?_eq_some_iff.mp hx).1
      refine ⟨⟨hq3, by rw [fd_len k3]; exact hi⟩, fun u H4 hy => ?_⟩
      obtain ⟨rfl, kk, v, hv, rfl⟩ := hy
      rw [List.getElem?_map, List.getElem?_eq_getElem hi] at hx
      have hx := Option.some.inj hx
      obtain ⟨v', hv', rv⟩ := rks_get (ws := ws) k3 k4 i _ _ (List.getElem?_eq_getElem hi)
      rw [hv'] at hv
      simp only [Option.some.injEq, Prod.mk.injEq] at hv
      rw [← hx, ← hv.1]
      exact ⟨.refl, w3, key_rv _⟩
    · exact q1.elim
  | _ => exact q1.elim⟩
/-! ### d.get(k, x) -/
def mDGet2 (md my mx : ME) : ME := fun ρ μ P => md ρ μ fun x μ1 => (dictOfP x μ1).isSome = true ∧ my ρ μ1 fun y μ2 => mx ρ μ2 fun z μ3 => match dictOfP x μ3, keyP y with | some kvs, some k => P ((valP kvs k).getD z) μ3 | _, _ => False
instance {td ty tx md my mx} [hd : FE K td md] [hy : FE K ty my] [hx : FE K tx mx] : FE K (tDGet2 td ty tx) (mDGet2 md my mx) := ⟨fun d σ H ρ μ P Q w e q k => by
  refine hd.run d σ H ρ μ _ _ w e q fun d1 H1 μ1 x v e1 w1 r1 ⟨q0, q1⟩ => ?_
  obtain ⟨kv0, a0⟩ := Option.isSome_iff_exists.mp q0
  obtain ⟨n, a, ws0, rfl, rfl, hn, hq0, _⟩ := dict_of w1 r1 a0
  refine ⟨a, rfl, .inl ⟨ws0, hq0⟩, hy.run d1 σ H1 ρ μ1 _ _ w1 (e.mono e1) q1 fun d2 H2 μ2 y u e2 w2 r2 q2 => ?_⟩
  refine hx.run d2 σ H2 ρ μ2 _ _ w2 (e.mono (e1.trans e2)) q2 fun d3 H3 μ3 z t e3 w3 r3 q3 => ?_
  cases a1 : dictOfP (.mr n) μ3 with
  | none => rw [a1] at q3; exact q3.elim
  | some kvs =>
    cases a2 : keyP y with
    | none => rw [a1, a2] at q3; exact q3.elim
    | some kk =>
      rw [a1, a2] at q3
      simp only at q3
      obtain ⟨n', a', ws, en, ea, _, hq, rk⟩ := dict_of w3 ((r1.mono e2).mono e3) a1
      cases ea
      obtain rfl := keyP_rv r2 a2
      rcases rk.val (k := kk) with ⟨z1, z2⟩ | ⟨x, v, z1, z2, rv⟩
      · rw [z1] at q3
        exact ⟨none, .inl ⟨ws, kk, hq, rfl, z2.symm⟩, k d3 H3 μ3 _ _ ((e1.trans e2).trans e3) w3 r3 q3⟩
      · rw [z1] at q3
        exact ⟨some v, .inl ⟨ws, kk, hq, rfl, z2.symm⟩, k d3 H3 μ3 _ _ ((e1.trans e2).trans e3) w3 rv q3⟩⟩
/-! ### is None -/
def rIsN : R2 := fun x y H Q => y = .non ∧ Q (.bl (decide (x = .non))) H
def rNotN : R2 := fun x y H Q => y = .non ∧ Q (.bl (!decide (x = .non))) H
end
theorem op_isNn {X : Cx} : OpR X (compareOp .Is) rIsN := op_isN
theorem op_notNn {X : Cx} : OpR X (compareOp .IsNot) rNotN := op_notN
section
variable {K : PySem.W.Frag} {d d' : Wd} {H H' : Hp} {a b : Addr} {vs us : List V} {xs ys : List PV} {μ : Store}
def isNonP : PV → Bool | .non => true | _ => false
theorem isNonP_rv {x : PV} {v : V} (r : RV K d H x v) : decide (v = .non) = isNonP x := by
  cases r <;> simp [isNonP]
def pIsN (neg : Bool) : MO2 := fun x y μ P => match y with | .non => P (.bl (if neg then !isNonP x else isNonP x)) μ | _ => False
instance : F2 K rIsN (pIsN false) := ⟨fun d H μ x y v u P Q w r1 r2 q k => by
  cases y <;> try exact q.elim
  cases r2
  refine ⟨rfl, ?_⟩
  rw [isNonP_rv r1]
  exact k d H μ _ _ .refl w (.bl _) q⟩
instance : F2 K rNotN (pIsN true) := ⟨fun d H μ x y v u P Q w r1 r2 q k => by
  cases y <;> try exact q.elim
  cases r2
  refine ⟨rfl, ?_⟩
  rw [isNonP_rv r1]
  exact k d H μ _ _ .refl w (.bl _) q⟩
/-! ### [x] * n, to be changed -/
def rRepLM : R2 := rRep
end
theorem op_repLM {X : Cx} : OpR X (binaryOp .Mult) rRepLM := op_rep
section
variable {K : PySem.W.Frag} {d d' : Wd} {H H' : Hp} {a b : Addr} {vs us : List V} {xs ys : List PV} {μ : Store}
def pRepLM : MO2 := fun x y μ P => match x, y with
  | .lst xs, .int k => (0 ≤ k ∧ k ≤ 1000 ∧ xs.length ≤ 1000) ∧ P (.mr μ.length) (μ ++ [.lst (List.replicate k.toNat xs).flatten])
  | _, _ => False
instance : F2 K rRepLM pRepLM := ⟨fun d H μ x y v u P Q w r1 r2 q k => by
  match x, y, r1, r2, q with
  | .lst xs, .int n, .lst (a := a) (vs := vs) h1 h2, .int _, ⟨⟨z1, z2, z3⟩, q⟩ =>
    refine ⟨a, n, vs, rfl, rfl, h1.1, by omega, by omega, ?_, fun p hp => ?_⟩
    · rw [← h2.length]
      refine Nat.le_trans (Nat.mul_le_mul z3 (show n.toNat ≤ 1000 by omega)) ?_
      rw [sizeLine_eq]; decide
    · have ee := Ext.push (o := .lst (List.replicate n.toNat vs).flatten) w hp
      exact k (d.push p) _ _ _ _ ee (w.push (m := .lst (List.replicate n.toNat xs).flatten) hp ⟨_, upd_same, (RVs.rep h2 _).mono ee⟩) (lay_mr w) q⟩
end
/-! ### truth of a dict -/
def tTruD (K : PySem.W.Frag) (t : TE) : TT := fun σ H Q => t σ H fun x H' => ∃ k, TruV K x H' k ∧ Q k H'
theorem pt_truD {X : Cx} {a : Expr} {ta : TE} (ha : PE X a ta) (he : ∀ whole, isTrue a X.env whole = (do let v ← whole; standAt a.pos; holding [v] (truthy v))) : PT X a (tTruD X.K ta) := pt_truth ha he
section
variable {K : PySem.W.Frag} {d d' : Wd} {H H' : Hp} {a b : Addr} {vs us : List V} {xs ys : List PV} {μ : Store}
def mTruD (m : ME) : MT := fun ρ μ P => m ρ μ fun x μ1 => match dkOfP x μ1 with | some kvs => P (!kvs.isEmpty) μ1 | none => False
instance {t m} [h : FE K t m] : FT K (tTruD K t) (mTruD m) := ⟨fun d σ H ρ μ P Q w e q k => by
  refine h.run d σ H ρ μ _ _ w e q fun d1 H1 μ1 x v e1 w1 r1 q1 => ?_
  cases e2 : dkOfP x μ1 with
  | none => rw [e2] at q1; exact q1.elim
  | some kvs =>
    rw [e2] at q1
    obtain ⟨n, a, ws, rfl, rfl, _, hq, rk⟩ := dk_of w1 r1 e2
    have e3 : (!kvs.isEmpty) = !ws.isEmpty := by
      have := rk.len
      cases kvs <;> cases ws <;> simp_all
    exact ⟨!ws.isEmpty, .inr (.inr ⟨ws, hq, rfl⟩), k d1 H1 μ1 _ e1 w1 (by rw [← e3]; exact q1)⟩⟩
/-! ### l.pop(i), l.index(x) -/
def pPopAt : PV → List PV → Store → (PV → Store → Prop) → Prop := fun x zs μ P => match x, zs with
  | .mr n, [.int i] => (match μ[n]? with | some (.lst xs) => xs.length ≤ 1000000 ∧ (match ixN xs.length i with | some j => (match xs[j]? with | some y => P y (μ.set n (.lst (xs.eraseIdx j))) | none => False) | none => False) | _ => False)
  | _, _ => False
theorem RVs.eraseIdx : ∀ {xs : List PV} {vs : List V} (j : Nat), RVs K d H xs vs → RVs K d H (xs.eraseIdx j) (vs.eraseIdx j)
  | _, _, _, .nil => .nil
  | _, _, 0, .cons _ t => t
  | _, _, j + 1, .cons r t => .cons r (RVs.eraseIdx j t)
instance : FM K rPopAt pPopAt := ⟨fun d H μ x v zs us P Q w r rs q k => by
  match x, zs, r, rs, q with
  | .mr n, [.int i], .mr (a := a) h1, .cons (.int _) .nil, q =>
    simp only [pPopAt] at q
    cases e : μ[n]? with
    | none => rw [e] at q; exact q.elim
    | some m =>
      cases m with
      | dk _ => rw [e] at q; exact q.elim
      | fd _ _ _ => rw [e] at q; exact q.elim
      | lst xs =>
        rw [e] at q
        simp only at q
        obtain ⟨hl, q⟩ := q
        obtain ⟨vs, hq, rv⟩ := w.obj h1 e
        cases e2 : ixN xs.length i with
        | none => rw [e2] at q; exact q.elim
        | some j =>
          rw [e2] at q
          simp only at q
          obtain ⟨s1, s2, s3, s4⟩ := ixN_seq e2
          obtain ⟨u, hu, ru⟩ := rv.get (List.getElem?_eq_getElem s2)
          rw [List.getElem?_eq_getElem s2] at q
          obtain ⟨e1, w1⟩ := chg_list (vs := vs) w h1 (rv.eraseIdx j)
          exact ⟨a, vs, i, j, u, rfl, rfl, hq, by omega, by omega, by rw [← rv.length]; exact s1, hu, k d _ _ _ _ e1 w1 (ru.mono e1) q⟩⟩
def pIndex : PV → List PV → Store → (PV → Store → Prop) → Prop := fun x zs μ P => match x, zs with
  | .mr n, [.int i] => (match μ[n]? with | some (.lst xs) => (match intsP xs with | some ns => i ∈ ns ∧ P (.int (ns.idxOf i : Nat)) μ | none => False) | _ => False)
  | _, _ => False
instance : FM K (rIndex K) pIndex := ⟨fun d H μ x v zs us P Q w r rs q k => by
  match x, zs, r, rs, q with
  | .mr n, [.int i], .mr (a := a) h1, .cons (.int _) .nil, q =>
    simp only [pIndex] at q
    cases e : μ[n]? with
    | none => rw [e] at q; exact q.elim
    | some m =>
      cases m with
      | dk _ => rw [e] at q; exact q.elim
      | fd _ _ _ => rw [e] at q; exact q.elim
      | lst xs =>
        rw [e] at q
        simp only at q
        cases e2 : intsP xs with
        | none => rw [e2] at q; exact q.elim
        | some ns =>
          rw [e2] at q
          obtain ⟨hm, q⟩ := q
          obtain ⟨vs, hq, rv⟩ := w.obj h1 e
          have ev := RVs.ints_of rv (intsP_of e2)
          subst ev
          have hl := List.idxOf_lt_length_of_mem hm
          refine ⟨a, ns.map V.int, .int i, ns.idxOf i, .int i, rfl, rfl, .of hq, rfl, ?_, ?_, ?_, fun m z' hm' hz => ?_, k d H μ _ _ .refl w (.int _) q⟩
          · rw [List.all_map, List.all_eq_true]
            intro x _
            rfl
          · rw [List.getElem?_map, List.getElem?_eq_getElem hl, List.getElem_idxOf hl]
            rfl
          · show (i == i) = true
            simp
          · have hl2 : m < ns.length := by omega
            rw [List.getElem?_map, List.getElem?_eq_getElem hl2] at hz
            have hz := Option.some.inj hz
            subst hz
            show (ns[m] == i) = false
            have h := List.not_of_lt_findIdx (xs := ns) (p := (· == i)) (i := m) hm'
            simpa using h⟩
/-! ### list(range(..)), to be changed -/
def tLstRgM (te : L2.St → Hp → (Int → Int → Hp → Prop) → Prop) : TE := tLstRg te
def mLstRgM (m : PEnv → Store → (Int → Int → Store → Prop) → Prop) : ME := fun ρ μ P => m ρ μ fun i j μ1 => (-1000000 ≤ i ∧ i ≤ 1000000 ∧ -1000000 ≤ j ∧ j ≤ 1000000) ∧ P (.mr μ1.length) (μ1 ++ [.lst (rangeP i (j - i).toNat)])
instance {t m} [h : FR K t m] : FE K (tLstRgM t) (mLstRgM m) := ⟨fun d σ H ρ μ P Q w e q k => by
  refine h.run d σ H ρ μ _ _ w e q fun d1 H1 μ1 i j e1 w1 ⟨z, q1⟩ => ⟨⟨by omega, by omega, by omega, by omega, by omega⟩, fun p hp => ?_⟩
  have ee := Ext.push (o := .lst (rgV i j)) w1 hp
  exact k (d1.push p) _ _ _ _ (e1.trans ee) (w1.push (m := .lst (rangeP i (j - i).toNat)) hp ⟨_, upd_same, (rvs_rg i j).mono ee⟩) (lay_mr w1) q1⟩
end
theorem peRgM {X : Cx} {e : Expr} {te : L2.St → Hp → (Int → Int → Hp → Prop) → Prop} (h : PE X e (tLstRg te)) : PE X e (tLstRgM te) := h
end Fx

namespace Fx
open PySem PySem.Spec PyProof.Rows L2 RZ MR
def frP (q : Rat) : PV := .tup [.int q.num, .int (q.den : Nat)]
def tabP (qs : List Rat) : PV := .tup (qs.map frP)
def lotP (ns : List Nat) : PV := .tup (ns.map fun (n : Nat) => PV.int n)
def seqP : PV → Option (List PV)
  | .tup xs => some xs
  | .lst xs => some xs
  | _ => none
theorem log_lt {x : Int} {n : Nat} (h : x.natAbs < 2 ^ n) : x.natAbs.log2 < n + 1 := by
  by_cases h0 : x.natAbs = 0
  · rw [h0]; show Nat.log2 0 < n + 1; rw [Nat.log2_zero]; omega
  · have := (Nat.log2_lt h0).mpr h
    omega
theorem mulOk {x y : Int} {m n : Nat} (hx : x.natAbs < 2 ^ m) (hy : y.natAbs < 2 ^ n) (h : m + n ≤ 900000) : MulOk x y := by
  have h1 := log_lt hx
  have h2 := log_lt hy
  exact .inr (show _ + _ < _ by omega)
theorem gcd_div {a b : Int} {n : Nat} (hb : 0 < b) (hz : b.natAbs < 2 ^ n) (hn : n ≤ 8990 := by decide) : DivOk a ((Nat.gcd a.natAbs b.natAbs : Nat) : Int) := by
  have h1 : Nat.gcd a.natAbs b.natAbs ≤ b.natAbs := Nat.le_of_dvd (by omega) (Nat.gcd_dvd_right _ _)
  have h0 : 0 < Nat.gcd a.natAbs b.natAbs := Nat.gcd_pos_of_pos_right _ (by omega)
  have h2 : (((Nat.gcd a.natAbs b.natAbs : Nat) : Int)).natAbs < 2 ^ n := by
    rw [Int.natAbs_natCast]; omega
  have := log_lt h2
  exact .inl ⟨by omega, by omega⟩

theorem ints_lot (ns : List Nat) : intsP (ns.map fun (n : Nat) => PV.int n) = some (ns.map fun (n : Nat) => (n : Int)) := by
  have := intsP_map (ns.map fun (n : Nat) => (n : Int))
  rw [List.map_map] at this
  exact this
theorem maxP_lot {ns : List Nat} (h : ns ≠ []) : maxP (ns.map fun (n : Nat) => (n : Int)) = ((maxN ns : Nat) : Int) := by
  refine (maxP_uniq (List.mem_map.mpr ⟨maxN ns, maxN_mem h, rfl⟩) fun y hy => ?_).symm
  obtain ⟨n, hn, rfl⟩ := List.mem_map.mp hy
  have := le_maxN hn
  show (n : Int) ≤ (maxN ns : Int)
  omega
theorem fr_eq {p q : Rat} : (p.num = q.num ∧ (p.den : Int) = (q.den : Int)) ↔ p = q := by
  constructor
  · intro ⟨h1, h2⟩
    exact Rat.ext h1 (by omega)
  · rintro rfl; exact ⟨rfl, rfl⟩
theorem eqP_tup2 (a b c d : Int) (μ : Store) : eqP (.tup [.int a, .int b]) (.tup [.int c, .int d]) μ = some (decide (a = c ∧ b = d)) := by
  have h : ∀ x y : Int, SeqAt.shaped (.tuple [.int x, .int y]) = true := fun x y => rfl
  unfold eqP
  simp only [scalP, frzP, datP, datPs, Option.map_some, h, and_self, if_true]
  simp only [PyData.eqv, PyData.eqvAll]
  congr 1
  by_cases h1 : a = c <;> by_cases h2 : b = d <;> simp [h1, h2]
theorem eqP_fr (p q : Rat) (μ : Store) : eqP (frP p) (frP q) μ = some (decide (p = q)) := by
  unfold frP
  rw [eqP_tup2]
  congr 1
  exact decide_eq_decide.mpr fr_eq
theorem one_fr : PV.tup [.int 1, .int 1] = frP 1 := rfl
theorem zero_fr : PV.tup [.int 0, .int 1] = frP 0 := rfl
theorem enumP_map {α : Type} (f : α → PV) : ∀ (xs : List α) (j : Nat), enumP j (xs.map f) = (numd j xs).map fun p => .tup [.int (p.1 : Nat), f p.2]
  | [], _ => rfl
  | x :: xs, j => by
    rw [List.map_cons, enumP, enumP_map f xs]
    rfl
theorem lc_pv {g : MG} {e : ME} {ρ0 : PEnv} {P : List PV → Store → Prop} {μ : Store} {out : PV → PV} {l : List PV} {acc : List PV} (h : ∀ a ∈ l, ∀ k : PV → Store → Prop, k (out a) μ → g a ρ0 μ fun ρ1 μ1 => e ρ1 μ1 k) (hP : P (acc ++ l.map out) μ) : mLcL g mYes e ρ0 P l acc μ := by
  have := lc_map (g := g) (e := e) (ρ0 := ρ0) (P := P) (μ := μ) (enc := fun x => x) (out := out) (l := l) (acc := acc) h hP
  rw [List.map_id'] at this
  exact this
theorem all_true {α : Type} (l : List α) : boolsP (([] : List PV) ++ l.map fun _ => PV.bl true) = some (l.map fun _ => true) := by
  have := boolsP_map (l.map fun _ => true)
  rw [List.map_map] at this
  exact this
theorem all_id {α : Type} (l : List α) : (l.map fun _ => true).all id = true := by simp
theorem fr_mul {m n : Nat} {p q : Rat} (hp : Sm m p) (hq : Sm n q) (h : m + n ≤ 900000 := by decide) : MulOk p.num q.num ∧ MulOk p.num (q.den : Int) ∧ MulOk (p.den : Int) q.num ∧ MulOk (p.den : Int) (q.den : Int) :=
  ⟨mulOk hp.1 hq.1 h, mulOk (y := (q.den : Int)) hp.1 hq.2 h, mulOk (x := (p.den : Int)) hp.2 hq.1 h, mulOk (x := (p.den : Int)) (y := (q.den : Int)) hp.2 hq.2 h⟩
theorem gcd_one (q : Rat) : Nat.gcd q.num.natAbs ((q.den : Nat) : Int).natAbs = 1 := by
  rw [Int.natAbs_natCast]
  exact q.reduced
theorem cut1 (xs : List PV) : cutP xs (some 1) none = xs.drop 1 := by
  unfold cutP
  cases xs with
  | nil => rfl
  | cons x xs =>
    have h1 : HT.sIx (x :: xs).length 0 (some 1) = 1 := by
      show HT.sIx (xs.length + 1) 0 (some 1) = 1
      simp [HT.sIx]
    have h2 : HT.sIx (x :: xs).length (x :: xs).length none = (x :: xs).length := by simp [HT.sIx]
    rw [h1, h2]
    simp
theorem zip_lt : ∀ {ns : List Nat}, ns.Pairwise (· < ·) → ∀ p ∈ ns.zip (ns.drop 1), p.1 < p.2
  | [], _, p, h => by simp at h
  | [a], _, p, h => by simp at h
  | a :: b :: ns, hp, p, h => by
    rw [List.pairwise_cons] at hp
    simp only [List.drop_one, List.tail_cons, List.zip_cons_cons] at h
    rcases List.mem_cons.mp h with rfl | h
    · exact hp.1 b List.mem_cons_self
    · exact zip_lt hp.2 p (by simpa using h)
theorem kit_tt : kitB "tuple" "tuple" = some true := rfl
theorem kit_ii : kitB "int" "int" = some true := rfl
theorem kit_ib : kitB "int" "bool" = some false := rfl
theorem eqP_int (a b : Int) (μ : Store) : eqP (.int a) (.int b) μ = some (decide (a = b)) := rfl
theorem eqP_str (a b : Str) (μ : Store) : eqP (.str a) (.str b) μ = some (decide (a = b)) := rfl
theorem in_lot (n : Nat) (ns : List Nat) : inP (.int n) (ns.map fun (m : Nat) => PV.int m) = decide (n ∈ ns) := by
  unfold inP
  rw [List.any_map]
  rw [Bool.eq_iff_iff]
  simp only [List.any_eq_true, Function.comp, eqFlat, decide_eq_true_eq, beq_iff_eq]
  constructor
  · rintro ⟨m, hm, e⟩
    have : m = n := by omega
    exact this ▸ hm
  · intro h
    exact ⟨n, h, rfl⟩
theorem flat_lot (ns : List Nat) : (ns.map fun (m : Nat) => PV.int m).all flatP = true := by
  rw [List.all_map, List.all_eq_true]
  intro x _
  rfl
theorem lcO_map {α : Type} {g g1 : MG} {c1 : MT} {i1 : MI} {e : ME} {vs1 : List Nat} {ρ0 : PEnv} {P : List PV → Store → Prop} {μ : Store} {enc : α → PV} {outs : α → List PV} : ∀ {l : List α} {acc : List PV},
    (∀ a ∈ l, ∀ (acc : List PV) (N : List PV → Store → Prop), acc.length + (outs a).length ≤ lim → N (acc ++ outs a) μ → g (enc a) ρ0 μ fun ρ1 μ1 => i1 ρ1 μ1 fun ys μ3 => acc.length + ys.length ≤ lim ∧ mLcL g1 c1 e (wipeP ρ1 vs1) N ys acc μ3) →
    acc.length + (l.flatMap outs).length ≤ lim → P (acc ++ l.flatMap outs) μ → mLcO g mYes i1 g1 c1 e vs1 ρ0 P (l.map enc) acc μ
  | [], acc, _, _, hP => by simpa [mLcO] using hP
  | a :: l, acc, h, hl, hP => by
    show g (enc a) ρ0 μ fun ρ1 μ1 => i1 ρ1 μ1 fun ys μ3 => acc.length + ys.length ≤ lim ∧ mLcL g1 c1 e (wipeP ρ1 vs1) (fun acc' μ4 => mLcO g mYes i1 g1 c1 e vs1 ρ0 P (l.map enc) acc' μ4) ys acc μ3
    rw [List.flatMap_cons, List.length_append] at hl
    refine h a List.mem_cons_self acc _ (by omega) (lcO_map (fun b hb => h b (List.mem_cons_of_mem _ hb)) (by rw [List.length_append]; omega) ?_)
    rw [List.flatMap_cons] at hP
    rw [List.append_assoc]
    exact hP
/-! ### the deck -/
def DK (l : PV) (m k : Int) : List (Key × PV) := [(.inr (Str.ofString "cells"), l), (.inr (Str.ofString "mixed"), .int m), (.inr (Str.ofString "turn"), .int k)]
theorem val_left (l : PV) (m k : Int) : valP (DK l m k) (.inr (Str.ofString "cells")) = some l := rfl
theorem val_mixed (l : PV) (m k : Int) : valP (DK l m k) (.inr (Str.ofString "mixed")) = some (.int m) := by
  have h : (Str.ofString "cells" = Str.ofString "mixed") = False := by decide
  simp [DK, valP, h]
theorem val_draws (l : PV) (m k : Int) : valP (DK l m k) (.inr (Str.ofString "turn")) = some (.int k) := by
  have h : (Str.ofString "cells" = Str.ofString "turn") = False := by decide
  have h2 : (Str.ofString "mixed" = Str.ofString "turn") = False := by decide
  simp [DK, valP, h, h2]
theorem put_draws (l : PV) (m k j : Int) : putP (DK l m k) (.inr (Str.ofString "turn")) (.int j) = DK l m j := by
  have h : (Str.ofString "cells" = Str.ofString "turn") = False := by decide
  have h2 : (Str.ofString "mixed" = Str.ofString "turn") = False := by decide
  simp [DK, putP, h, h2]
def DS (L : List Int) (m k : Int) (rest : Store) : Store := .lst (L.map PV.int) :: .dk (DK (.mr 0) m k) :: rest
theorem datPs_ints : ∀ L : List Int, datPs (L.map PV.int) = some (L.map PyData.int)
  | [] => rfl
  | x :: xs => by simp [datPs, datP, datPs_ints xs]
theorem canLay_ints : ∀ L : List Int, PyData.canLayAll0 (L.map PyData.int) = true
  | [] => rfl
  | x :: xs => by simp [PyData.canLayAll0, PyData.canLay0, canLay_ints xs]
theorem depth_ints : ∀ L : List Int, PyData.depthAll (L.map PyData.int) ≤ 1
  | [] => by simp [PyData.depthAll]
  | x :: xs => by
    have := depth_ints xs
    simp [PyData.depthAll, PyData.depth]
    omega
theorem shaped_ints (L : List Int) : SeqAt.shaped (.list (L.map PyData.int)) = true := by
  have := depth_ints L
  simp [SeqAt.shaped, PyData.canLay0, canLay_ints, PyData.depth]
  omega
theorem eqP_empty {n : Nat} {μ : Store} {L : List Int} (h : μ[n]? = some (.lst (L.map PV.int))) : eqP (.mr n) (.lst []) μ = some (decide (L = [])) := by
  have h1 := shaped_ints L
  have h2 := shaped_ints []
  simp only [List.map_nil] at h2
  unfold eqP
  simp only [scalP, frzP, h, datP, datPs_ints, datPs, Option.map_some, h1, h2, and_self, if_true]
  congr 1
  cases L <;> simp [PyData.eqv, PyData.eqvAll]
theorem eqP_e0 (L : List Int) (rest : Store) : eqP (.mr 0) (.lst []) (.lst (L.map PV.int) :: rest) = some (decide (L = [])) := eqP_empty rfl
theorem mulR {x c : Int} (h1 : -2 ^ 64 < c) (h2 : c < 2 ^ 64) : MulOk x c := .inl (.inr ⟨h1, h2⟩)
theorem mulL {x c : Int} (h1 : -2 ^ 64 < c) (h2 : c < 2 ^ 64) : MulOk c x := .inl (.inl ⟨h1, h2⟩)
theorem fmod_b {x m : Int} (h : 0 < m) : 0 ≤ x.fmod m ∧ x.fmod m < m := ⟨Int.fmod_nonneg_of_pos x h, Int.fmod_lt_of_pos x h⟩
theorem last_map (I : List Int) (c : Int) : ((I ++ [c]).map PV.int)[((I ++ [c]).map PV.int).length - 1]? = some (.int c) := by simp
theorem drop_map (I : List Int) (c : Int) : ((I ++ [c]).map PV.int).dropLast = I.map PV.int := by simp
theorem app_map (I : List Int) (c : Int) : I.map PV.int ++ [.int c] = (I ++ [c]).map PV.int := by simp
theorem max2_pos (m : Int) : (0 : Int) < (if m > 2 then m else 2) := by split <;> omega
theorem eqP_nn (rest : Store) : eqP (.mr 0) (.lst []) (.lst [] :: rest) = some true := eqP_e0 [] rest
theorem eqP_nc (I : List Int) (c : Int) (rest : Store) : eqP (.mr 0) (.lst []) (.lst (I.map PV.int ++ [.int c]) :: rest) = some false := by
  have := eqP_e0 (I ++ [c]) rest
  simpa using this
theorem last_c (xs : List PV) (y : PV) : (xs ++ [y])[(xs ++ [y]).length - 1]? = some y := by simp
theorem sIx_nat (a d n : Nat) : HT.sIx a d (some (n : Int)) = min n a := by
  unfold HT.sIx
  simp only
  rw [if_neg (by omega), Int.toNat_natCast]
theorem sIx_none (a d : Nat) : HT.sIx a d none = d := rfl
theorem cut_to (xs : List PV) (n : Nat) : cutP xs none (some (n : Int)) = xs.take n := by
  unfold cutP
  rw [sIx_none, sIx_nat, List.drop_zero, Nat.sub_zero]
  by_cases h : n ≤ xs.length
  · rw [Nat.min_eq_left h]
  · rw [Nat.min_eq_right (by omega), List.take_of_length_le (Nat.le_refl _), List.take_of_length_le (by omega)]
theorem cut_from (xs : List PV) (n : Nat) : cutP xs (some (n : Int)) none = xs.drop n := by
  unfold cutP
  rw [sIx_none, sIx_nat]
  by_cases h : n ≤ xs.length
  · rw [Nat.min_eq_left h, List.take_of_length_le (by simp)]
  · rw [Nat.min_eq_right (by omega), Nat.sub_self, List.take_zero, List.drop_of_length_le (by omega)]
/-! ### what repr shows -/
def ShB (d l : Nat) (x : PV) : Prop := ∃ e, datP x = some e ∧ e.showable = true ∧ e.hasDict = false ∧ e.depth ≤ d ∧ e.shown.length ≤ l
def shwP (x : PV) : Str := match datP x with | some e => e.shown | none => ""
theorem ShB.mono {d l d' l' : Nat} {x : PV} (h : ShB d l x) (h1 : d ≤ d') (h2 : l ≤ l') : ShB d' l' x :=
  let ⟨e, a, b, c, f, g⟩ := h; ⟨e, a, b, c, by omega, by omega⟩
theorem shb_int {i : Int} (h : i.natAbs < 2 ^ 1900) : ShB 0 1901 (.int i) := by
  refine ⟨.int i, rfl, ?_, by simp [PyData.hasDict], by simp [PyData.depth], ?_⟩
  · have := log_lt h
    simp only [PyData.showable, decide_eq_true_eq]
    omega
  · have := int_text_length_le10 (a := i) (k := 1900) (by decide) (Nat.lt_of_lt_of_le h (Nat.pow_le_pow_left (by decide) 1900))
    rw [PyData.shown_int, PySem.ofString_length]
    exact this
theorem shb_all {d l : Nat} : ∀ {xs : List PV}, (∀ x ∈ xs, ShB d l x) → ∃ es, datPs xs = some es ∧ PyData.showableAll es = true ∧ PyData.hasDictAll es = false ∧ PyData.depthAll es ≤ d ∧ ((PyData.shownAll es).map (·.length)).sum ≤ xs.length * l ∧ (PyData.shownAll es).length = xs.length
  | [], _ => ⟨[], rfl, by simp [PyData.showableAll], by simp [PyData.hasDictAll], by simp [PyData.depthAll], by simp [PyData.shownAll], by simp [PyData.shownAll]⟩
  | x :: xs, h => by
    obtain ⟨e, a1, a2, a3, a4, a5⟩ := h x List.mem_cons_self
    obtain ⟨es, b1, b2, b3, b4, b5, b6⟩ := shb_all fun y hy => h y (List.mem_cons_of_mem _ hy)
    refine ⟨e :: es, by simp [datPs, a1, b1], by simp [PyData.showableAll, a2, b2], by simp [PyData.hasDictAll, a3, b3], ?_, ?_, ?_⟩
    · simp only [PyData.depthAll]; omega
    · simp only [PyData.shownAll, List.map_cons, List.sum_cons, List.length_cons, Nat.add_mul, Nat.one_mul]; omega
    · simp only [PyData.shownAll, List.length_cons]; omega
theorem shb_tup {d l : Nat} {xs : List PV} (h : ∀ x ∈ xs, ShB d l x) : ShB (d + 1) (xs.length * (l + 2) + 3) (.tup xs) := by
  obtain ⟨es, b1, b2, b3, b4, b5, b6⟩ := shb_all h
  refine ⟨.tuple es, by simp [datP, b1], by simp [PyData.showable, b2], by simp [PyData.hasDict, b3], by simp only [PyData.depth]; omega, ?_⟩
  have := tupleText_len_le (PyData.shownAll es)
  show (tupleText (PyData.shownAll es)).length ≤ _
  rw [Nat.mul_add]
  rw [b6] at this
  omega
theorem shb_lst {d l : Nat} {xs : List PV} (h : ∀ x ∈ xs, ShB d l x) : ShB (d + 1) (xs.length * (l + 2) + 3) (.lst xs) := by
  obtain ⟨es, b1, b2, b3, b4, b5, b6⟩ := shb_all h
  refine ⟨.list es, by simp [datP, b1], by simp [PyData.showable, b2], by simp [PyData.hasDict, b3], by simp only [PyData.depth]; omega, ?_⟩
  have := listText_len_le (PyData.shownAll es)
  show (listText (PyData.shownAll es)).length ≤ _
  rw [Nat.mul_add]
  rw [b6] at this
  omega
theorem shb_fr {q : Rat} (h : Sm 1900 q) : ShB 1 4000 (frP q) := by
  have := shb_tup (xs := [.int q.num, .int (q.den : Nat)]) (d := 0) (l := 1901) fun x hx => by
    rcases List.mem_cons.mp hx with rfl | hx
    · exact shb_int h.1
    · rw [List.mem_singleton.mp hx]
      exact shb_int (by rw [Int.natAbs_natCast]; exact h.2)
  exact this.mono (by decide) (by show 2 * (1901 + 2) + 3 ≤ 4000; decide)
theorem shb_tab {qs : List Rat} (h : ∀ q ∈ qs, Sm 1900 q) (hl : qs.length ≤ 8) : ShB 2 40000 (tabP qs) := by
  have := shb_tup (xs := qs.map frP) (d := 1) (l := 4000) fun x hx => by
    obtain ⟨q, hq, rfl⟩ := List.mem_map.mp hx
    exact shb_fr (h q hq)
  refine this.mono (by decide) ?_
  rw [List.length_map]
  have := Nat.mul_le_mul_right 4002 hl
  omega
theorem tab_shb {n : Nat} {qs : List Rat} (h : Tab n qs) (hn : n ≤ 1899) : ShB 2 40000 (tabP qs) := shb_tab (fun q hq => (h.sm hq).mono (by omega)) h.len
theorem pRepr_tup {xs : List PV} {d l : Nat} {μ : Store} {P : PV → Store → Prop} (h : ShB d l (.tup xs)) (hd : d ≤ 60) (hl : l ≤ lim) (hP : P (.str (shwP (.tup xs))) μ) : pRepr [.tup xs] μ P := by
  obtain ⟨e, a1, a2, a3, a4, a5⟩ := h
  have e1 : datP (frzP (.tup xs) μ) = some e := a1
  have e2 : shwP (.tup xs) = e.shown := by unfold shwP; rw [a1]
  have hs : isSeqD e = true := by
    simp only [datP] at a1
    cases z : datPs xs with
    | none => rw [z] at a1; cases a1
    | some es => rw [z] at a1; cases a1; rfl
  unfold pRepr
  simp only [e1]
  rw [e2] at hP
  exact ⟨⟨hs, a2, a3, by omega, by omega⟩, hP⟩
theorem pRepr_lst {xs : List PV} {d l : Nat} {μ : Store} {P : PV → Store → Prop} (h : ShB d l (.lst xs)) (hd : d ≤ 60) (hl : l ≤ lim) (hP : P (.str (shwP (.lst xs))) μ) : pRepr [.lst xs] μ P := by
  obtain ⟨e, a1, a2, a3, a4, a5⟩ := h
  have e1 : datP (frzP (.lst xs) μ) = some e := a1
  have e2 : shwP (.lst xs) = e.shown := by unfold shwP; rw [a1]
  have hs : isSeqD e = true := by
    simp only [datP] at a1
    cases z : datPs xs with
    | none => rw [z] at a1; cases a1
    | some es => rw [z] at a1; cases a1; rfl
  unfold pRepr
  simp only [e1]
  rw [e2] at hP
  exact ⟨⟨hs, a2, a3, by omega, by omega⟩, hP⟩
theorem noRefs_fr : ∀ qs : List Rat, noRefs (qs.map frP) = true
  | [] => rfl
  | q :: qs => by
    rw [List.map_cons, noRefs, noRefs_fr qs]
    rfl
theorem noRef_tab (qs : List Rat) : noRef (tabP qs) = true := noRefs_fr qs
theorem noRef_lot (ns : List Nat) : noRef (lotP ns) = true := by
  unfold lotP
  show noRefs _ = true
  induction ns with
  | nil => rfl
  | cons n ns ih => rw [List.map_cons, noRefs, ih]; rfl
/-- a store that begins with a deck -/
def Dk (m : Int) (rest : Store) (μ : Store) : Prop := ∃ (L : List Int) (k : Int), L.length ≤ 63 ∧ μ = DS L m k rest
theorem Dk.len {m : Int} {rest μ : Store} (h : Dk m rest μ) : μ.length = rest.length + 2 := by
  obtain ⟨L, k, _, rfl⟩ := h; rfl
theorem Dk.get {m : Int} {rest μ : Store} (h : Dk m rest μ) (j : Nat) : μ[j + 2]? = rest[j]? := by
  obtain ⟨L, k, _, rfl⟩ := h; rfl
theorem Dk.app {m : Int} {rest μ : Store} (h : Dk m rest μ) (g : Store) : Dk m (rest ++ g) (μ ++ g) := by
  obtain ⟨L, k, h1, rfl⟩ := h
  exact ⟨L, k, h1, rfl⟩
theorem Dk.set {m : Int} {rest μ : Store} (h : Dk m rest μ) (j : Nat) (x : MO) : Dk m (rest.set j x) (μ.set (j + 2) x) := by
  obtain ⟨L, k, h1, rfl⟩ := h
  exact ⟨L, k, h1, rfl⟩
theorem getl {α : Type} (μ : List α) (x : α) : (μ ++ [x])[μ.length]? = some x := by simp
theorem setl {α : Type} (μ : List α) (x y : α) : (μ ++ [x]).set μ.length y = μ ++ [y] := by simp
theorem max_parts {ps : List Int} : (0 < maxP ps) → ∃ p ∈ ps, 0 < p := fun h => by
  cases ps with
  | nil => exact absurd h (by decide)
  | cons a l => exact ⟨_, maxP_mem (by simp), h⟩
theorem ixN_zero (n : Nat) : ixN (n + 1) 0 = some 0 := by
  unfold ixN
  rw [if_pos (Int.le_refl 0), if_pos (by omega)]
  rfl
theorem pRepr_tab {n : Nat} {qs : List Rat} {μ : Store} {P : PV → Store → Prop} (h : Tab n qs) (hn : n ≤ 1899) (hP : P (.str (shwP (tabP qs))) μ) : pRepr [tabP qs] μ P := pRepr_tup (tab_shb h hn) (by decide) (by decide) hP
theorem pRepr_fr {q : Rat} {μ : Store} {P : PV → Store → Prop} (h : Sm 1900 q) (hP : P (.str (shwP (frP q))) μ) : pRepr [frP q] μ P := pRepr_tup (shb_fr h) (by decide) (by decide) hP
theorem zeros_lot (n : Nat) : PV.tup (List.replicate n [PV.int 0]).flatten = lotP (List.replicate n 0) := by
  unfold lotP
  congr 1
  induction n with
  | zero => rfl
  | succ n ih => rw [List.replicate_succ, List.flatten_cons, ih]; rfl
theorem zeros_tab (n : Nat) : (List.replicate n [PV.tup [PV.int 0, PV.int 1]]).flatten = (List.replicate n (0 : Rat)).map frP := by
  induction n with
  | zero => rfl
  | succ n ih => rw [List.replicate_succ, List.flatten_cons, ih]; rfl
theorem range_lot (n : Nat) : PV.tup (rangeP 0 n) = lotP (List.range n) := by rw [rangeP_eq]; rfl
theorem items_tup (xs : List PV) (μ : Store) : itemsOf (.tup xs) μ = some xs := rfl
theorem items_lst (xs : List PV) (μ : Store) : itemsOf (.lst xs) μ = some xs := rfl
theorem items_kl (xs : List PV) (μ : Store) : itemsOf (.kl xs) μ = some xs := rfl
theorem items_mr (n : Nat) (μ : Store) : itemsOf (.mr n) μ = match μ[n]? with | some (.lst xs) => some xs | _ => none := rfl
theorem items_tab (qs : List Rat) (μ : Store) : itemsOf (tabP qs) μ = some (qs.map frP) := rfl
theorem items_lot (ns : List Nat) (μ : Store) : itemsOf (lotP ns) μ = some (ns.map fun (n : Nat) => PV.int n) := rfl
theorem items_fr (q : Rat) (μ : Store) : itemsOf (frP q) μ = some [.int q.num, .int (q.den : Nat)] := rfl
theorem merged_lot (n : Nat) : PV.tup ([PV.int 0, PV.int 0] ++ rangeP 1 (n - 2)) = lotP (mergedN n) := by
  unfold lotP mergedN rangeP
  simp only [List.map_cons, List.map_map, List.cons_append, List.nil_append]
  congr 3
  refine List.map_congr_left fun i _ => ?_
  show PV.int (1 + (i : Nat)) = PV.int ((i + 1 : Nat) : Int)
  congr 1
  omega
/-! ### distances -/
def judP (a b : List Rat) (f : Rat) : PV := if f < d2 a b / 2 then .tup [.str (Str.ofString "lot"), lotP (more a b)] else .tup [.str (Str.ofString "within")]
theorem datPs_lot (ns : List Nat) : datPs (ns.map fun (n : Nat) => PV.int n) = some (ns.map fun (n : Nat) => PyData.int n) := by
  have := datPs_ints (ns.map fun (n : Nat) => (n : Int))
  rw [List.map_map, List.map_map] at this
  exact this
theorem shaped_lot (ns : List Nat) : PyData.canLay0 (.tuple (ns.map fun (n : Nat) => PyData.int n)) = true ∧ PyData.depth (.tuple (ns.map fun (n : Nat) => PyData.int n)) ≤ 2 := by
  have h1 := canLay_ints (ns.map fun (n : Nat) => (n : Int))
  have h2 := depth_ints (ns.map fun (n : Nat) => (n : Int))
  rw [List.map_map] at h1 h2
  refine ⟨by simp only [PyData.canLay0]; exact h1, ?_⟩
  simp only [PyData.depth]
  have : PyData.depthAll (ns.map fun (n : Nat) => PyData.int n) ≤ 1 := h2
  omega
theorem eqP_within (μ : Store) : eqP (.tup [.str (Str.ofString "within")]) (.tup [.str (Str.ofString "within")]) μ = some true := by
  have h : SeqAt.shaped (.tuple [.str (Str.ofString "within")]) = true := by decide +kernel
  unfold eqP
  simp only [scalP, frzP, datP, datPs, Option.map_some, h, and_self, if_true]
  simp [PyData.eqv, PyData.eqvAll]
theorem eqP_lot (ns : List Nat) (μ : Store) : eqP (.tup [.str (Str.ofString "lot"), lotP ns]) (.tup [.str (Str.ofString "within")]) μ = some false := by
  have h : SeqAt.shaped (.tuple [.str (Str.ofString "within")]) = true := by decide +kernel
  have h2 : SeqAt.shaped (.tuple [.str (Str.ofString "lot"), .tuple (ns.map fun (n : Nat) => PyData.int n)]) = true := by
    obtain ⟨h3, h4⟩ := shaped_lot ns
    have h5 : PyData.canLay0 (.str (Str.ofString "lot")) = true := by decide +kernel
    simp only [SeqAt.shaped, PyData.canLay0, PyData.canLayAll0, Bool.and_eq_true, decide_eq_true_eq] at *
    refine ⟨⟨h5, h3, trivial⟩, ?_⟩
    simp only [PyData.depth, PyData.depthAll] at *
    omega
  unfold eqP
  simp only [scalP, frzP, datP, datPs, lotP, datPs_lot, Option.map_some, h, h2, and_self, if_true]
  simp [PyData.eqv, PyData.eqvAll]
theorem rabPV (q : Rat) : PV.tup [.int (if q.num < 0 then -q.num else q.num), .int (q.den : Nat)] = frP (rab q) := by
  unfold frP
  rw [(rab_num q).1, (rab_num q).2]
theorem eqv_ints : ∀ L M : List Int, PyData.eqvAll (L.map PyData.int) (M.map PyData.int) = decide (L = M)
  | [], [] => rfl
  | [], _ :: _ => by simp [PyData.eqvAll]
  | _ :: _, [] => by simp [PyData.eqvAll]
  | x :: L, y :: M => by
    simp only [List.map_cons, PyData.eqvAll, eqv_ints L M, PyData.eqv]
    by_cases h1 : x = y <;> by_cases h2 : L = M <;> simp [h1, h2]
theorem eqP_li (L M : List Int) (μ : Store) : eqP (.lst (L.map PV.int)) (.lst (M.map PV.int)) μ = some (decide (L = M)) := by
  rw [eqP_ints, shaped_ints, shaped_ints]
  simp only [PyData.eqv, eqv_ints]
def tabD (qs : List Rat) : List PyData := qs.map fun q => .tuple [.int q.num, .int (q.den : Nat)]
theorem datPs_tab : ∀ qs : List Rat, datPs (qs.map frP) = some (tabD qs)
  | [] => rfl
  | q :: qs => by
    have e : datP (frP q) = some (.tuple [.int q.num, .int (q.den : Nat)]) := rfl
    simp only [List.map_cons, datPs, e, datPs_tab qs, tabD]
theorem lay_tab : ∀ qs : List Rat, PyData.canLayAll0 (tabD qs) = true ∧ PyData.depthAll (tabD qs) ≤ 2
  | [] => ⟨rfl, by simp [tabD, PyData.depthAll]⟩
  | q :: qs => by
    obtain ⟨h1, h2⟩ := lay_tab qs
    refine ⟨?_, ?_⟩
    · show (_ && PyData.canLayAll0 (tabD qs)) = true
      rw [h1]; rfl
    · have h3 : PyData.depth (.tuple [.int q.num, .int (q.den : Nat)]) ≤ 2 := by simp [PyData.depth, PyData.depthAll]
      show PyData.depthAll (_ :: tabD qs) ≤ 2
      rw [PyData.depthAll]
      exact Nat.max_le.mpr ⟨h3, h2⟩
theorem shaped_tab (qs : List Rat) : SeqAt.shaped (.tuple (tabD qs)) = true := by
  obtain ⟨h1, h2⟩ := lay_tab qs
  have h3 : PyData.depth (.tuple (tabD qs)) ≤ 64 := by rw [PyData.depth]; omega
  have h4 : PyData.canLay0 (.tuple (tabD qs)) = true := by rw [PyData.canLay0]; exact h1
  unfold SeqAt.shaped
  rw [h4, decide_eq_true h3]
  rfl
theorem eqv_tab : ∀ a b : List Rat, PyData.eqvAll (tabD a) (tabD b) = decide (a = b)
  | [], [] => rfl
  | [], _ :: _ => by simp [tabD, PyData.eqvAll]
  | _ :: _, [] => by simp [tabD, PyData.eqvAll]
  | x :: a, y :: b => by
    show (PyData.eqv (.tuple [.int x.num, .int (x.den : Nat)]) (.tuple [.int y.num, .int (y.den : Nat)]) && PyData.eqvAll (tabD a) (tabD b)) = _
    rw [eqv_tab a b]
    have e : PyData.eqv (.tuple [.int x.num, .int (x.den : Nat)]) (.tuple [.int y.num, .int (y.den : Nat)]) = decide (x = y) := by
      simp only [PyData.eqv, PyData.eqvAll, Bool.and_true]
      have := fr_eq (p := x) (q := y)
      by_cases h : x = y
      · subst h; simp
      · have h2 : ¬ (x.num = y.num ∧ (x.den : Int) = (y.den : Int)) := fun z => h (this.mp z)
        rw [decide_eq_false h]
        by_cases h3 : x.num = y.num
        · have h4 : ¬ ((x.den : Int) = (y.den : Int)) := fun z => h2 ⟨h3, z⟩
          simp [h3, h4]
        · simp [h3]
    rw [e]
    by_cases h1 : x = y <;> by_cases h2 : a = b <;> simp [h1, h2]
theorem eqP_tab (a b : List Rat) (μ : Store) : eqP (tabP a) (tabP b) μ = some (decide (a = b)) := by
  unfold eqP tabP
  simp only [scalP, frzP, datP, datPs_tab, Option.map_some, shaped_tab, and_self, if_true, PyData.eqv, eqv_tab]
theorem shb_within : ShB 60 1000 (.tup [.str (Str.ofString "within")]) := by
  refine ⟨.tuple [.str (Str.ofString "within")], rfl, by decide +kernel, by decide +kernel, by decide +kernel, by decide +kernel⟩
theorem half_fr : PV.tup [.int 1, .int 2] = frP (1 / 2) := by
  have h : (1 / 2 : Rat).num = 1 ∧ (1 / 2 : Rat).den = 2 := by decide +kernel
  unfold frP
  rw [h.1, h.2]
  rfl
theorem part_fr : PV.tup [.tup [.int 1, .int (10 ^ (6 : Int).toNat)], .tup [.int (10 ^ (6 : Int).toNat - 1), .int (10 ^ (6 : Int).toNat)]] = tabP [1 / 1000000, 999999 / 1000000] := by
  have h : (1 / 1000000 : Rat).num = 1 ∧ (1 / 1000000 : Rat).den = 1000000 := by decide +kernel
  have h2 : (999999 / 1000000 : Rat).num = 999999 ∧ (999999 / 1000000 : Rat).den = 1000000 := by decide +kernel
  unfold tabP frP
  simp only [List.map_cons, List.map_nil]
  rw [h.1, h.2, h2.1, h2.2]
  rfl
theorem eqP_bl (a b : Bool) (μ : Store) : eqP (.bl a) (.bl b) μ = some (decide (a = b)) := rfl
theorem shb_frs {qs : List Rat} (h : ∀ q ∈ qs, Sm 1900 q) (hl : qs.length ≤ 20) : ShB 2 90000 (.lst (qs.map frP)) := by
  have := shb_lst (xs := qs.map frP) (d := 1) (l := 4000) fun x hx => by
    obtain ⟨q, hq, rfl⟩ := List.mem_map.mp hx
    exact shb_fr (h q hq)
  refine this.mono (by decide) ?_
  rw [List.length_map]
  have := Nat.mul_le_mul_right 4002 hl
  omega
theorem third_fr : PV.tup [.int 1, .int 3] = frP (1 / 3) := by
  have h : (1 / 3 : Rat).num = 1 ∧ (1 / 3 : Rat).den = 3 := by decide +kernel
  unfold frP
  rw [h.1, h.2]
  rfl
theorem five_fr : PV.tup [.int 5, .int 2] = frP (5 / 2) := by
  have h : (5 / 2 : Rat).num = 5 ∧ (5 / 2 : Rat).den = 2 := by decide +kernel
  unfold frP
  rw [h.1, h.2]
  rfl
theorem little_fr : PV.tup [.int 1, .int (10 ^ (20 : Int).toNat)] = frP (1 / 100000000000000000000) := by
  have h : (1 / 100000000000000000000 : Rat).num = 1 ∧ (1 / 100000000000000000000 : Rat).den = 100000000000000000000 := by decide +kernel
  unfold frP
  rw [h.1, h.2]
  rfl
theorem lit_sm : Sm 70 (1 / 3) ∧ Sm 70 (5 / 2) ∧ Sm 70 (1 / 2) ∧ Sm 70 (1 / 100000000000000000000) := by
  refine ⟨⟨?_, ?_⟩, ⟨?_, ?_⟩, ⟨?_, ?_⟩, ?_, ?_⟩ <;> decide +kernel
end Fx

namespace Fx
open PySem PySem.Spec PyProof.Rows L2 RZ MR
theorem bools_out {α : Type} (l : List α) (f : α → Bool) : boolsP (([] : List PV) ++ l.map fun a => PV.bl (f a)) = some (l.map f) := by
  have := boolsP_map (l.map f)
  rw [List.map_map] at this
  exact this
theorem all_out {α : Type} (l : List α) (f : α → Bool) : (l.map f).all id = l.all f := by rw [List.all_map]; rfl
theorem any_out {α : Type} (l : List α) (f : α → Bool) : (l.map f).any id = l.any f := by rw [List.any_map]; rfl
def zs (ns : List Nat) : List Int := ns.map fun (n : Nat) => (n : Int)
theorem lot_ints (ns : List Nat) : lotP ns = .tup ((zs ns).map PV.int) := by
  unfold lotP zs
  rw [List.map_map]
  rfl
theorem zs_length (ns : List Nat) : (zs ns).length = ns.length := by simp [zs]
theorem all_zs (ns : List Nat) (lo hi : Nat) : ((zs ns).all fun i => decide ((lo : Int) ≤ i) && decide (i ≤ (hi : Int))) = ns.all fun n => decide (lo ≤ n) && decide (n ≤ hi) := by
  unfold zs
  rw [List.all_map]
  congr 1
  funext n
  simp [Function.comp]
/-! ### figures -/
def figP (W : Nat) (A C : List Nat) : PV := .tup [.int (W : Nat), lotP A, lotP C]
theorem eqP_lots (a b : List Nat) (μ : Store) : eqP (lotP a) (lotP b) μ = some (decide (a = b)) := by
  have h : ∀ L : List Int, SeqAt.shaped (.tuple (L.map PyData.int)) = true := fun L => by
    have := depth_ints L
    simp [SeqAt.shaped, PyData.canLay0, canLay_ints, PyData.depth]
    omega
  have inj : ∀ {a b : List Nat}, zs a = zs b → a = b := fun {a b} e => by
    have := congrArg (List.map Int.toNat) e
    simpa [zs, Function.comp_def] using this
  rw [lot_ints, lot_ints]
  unfold eqP
  simp only [scalP, frzP, datP, datPs_ints, Option.map_some, h, and_self, if_true, PyData.eqv, eqv_ints]
  congr 1
  exact decide_eq_decide.mpr ⟨inj, fun e => by rw [e]⟩
theorem lot_nil : PV.tup [] = lotP [] := rfl
theorem lot_0 : PV.tup [.int 0] = lotP [0] := rfl
theorem lot_1 : PV.tup [.int 1] = lotP [1] := rfl
theorem shb_small {k : Nat} {i : Int} (h : i.natAbs < 2 ^ k) (h1 : 1 ≤ k) (h2 : k ≤ 1900) : ShB 0 (k + 1) (.int i) := by
  refine ⟨.int i, rfl, ?_, by simp [PyData.hasDict], by simp [PyData.depth], ?_⟩
  · have := log_lt h
    simp only [PyData.showable, decide_eq_true_eq]
    omega
  · have := int_text_length_le10 (a := i) (k := k) h1 (Nat.lt_of_lt_of_le h (Nat.pow_le_pow_left (by decide) k))
    rw [PyData.shown_int, PySem.ofString_length]
    exact this
theorem shb_bits {A : List Nat} (h : ∀ x ∈ A, x < 2) (hl : A.length ≤ 3000) : ShB 1 20000 (lotP A) := by
  unfold lotP
  have := shb_tup (xs := A.map fun (n : Nat) => PV.int n) (d := 0) (l := 2) fun x hx => by
    obtain ⟨n, hn, rfl⟩ := List.mem_map.mp hx
    have := h n hn
    exact shb_small (k := 1) (by rw [Int.natAbs_natCast]; omega) (by decide) (by decide)
  refine this.mono (by decide) ?_
  rw [List.length_map]
  omega
theorem shb_fig {W : Nat} {A C : List Nat} (hW : W < 2 ^ 1900) (hA : ∀ x ∈ A, x < 2) (hC : ∀ x ∈ C, x < 2) (h1 : A.length ≤ 3000) (h2 : C.length ≤ 3000) : ShB 2 70000 (figP W A C) := by
  have := shb_tup (xs := [.int (W : Nat), lotP A, lotP C]) (d := 1) (l := 20000) fun x hx => by
    rcases List.mem_cons.mp hx with rfl | hx
    · exact (shb_int (by rw [Int.natAbs_natCast]; exact hW)).mono (by decide) (by decide)
    · rcases List.mem_cons.mp hx with rfl | hx
      · exact shb_bits hA h1
      · rw [List.mem_singleton.mp hx]; exact shb_bits hC h2
  exact this.mono (by decide) (by show 3 * (20000 + 2) + 3 ≤ 70000; decide)
theorem last_lot (A : List Nat) (h : A ≠ []) : L2.atI (A.map fun (n : Nat) => PV.int n) (-1) = some (.int ((A.getLastD 0 : Nat) : Int)) := by
  unfold L2.atI ixN
  have hl := List.length_pos_iff.mpr h
  rw [List.length_map, if_neg (by omega), if_pos (by omega)]
  show (A.map fun (n : Nat) => PV.int n)[((-1 : Int) + (A.length : Nat)).toNat]? = _
  rw [show ((-1 : Int) + (A.length : Nat)).toNat = A.length - 1 by omega, List.getElem?_map, ← List.getLast?_eq_getElem?, List.getLastD_eq_getLast?, List.getLast?_eq_some_getLast h]
  rfl
theorem lot_take (ns : List Nat) (n : Nat) : PV.tup (cutP (ns.map fun (n : Nat) => PV.int n) none (some (n : Int))) = lotP (ns.take n) := by
  rw [cut_to, ← List.map_take]; rfl
theorem lot_drop (ns : List Nat) (n : Nat) : PV.tup (cutP (ns.map fun (n : Nat) => PV.int n) (some (n : Int)) none) = lotP (ns.drop n) := by
  rw [cut_from, ← List.map_drop]; rfl
theorem cut_neg (xs : List PV) (n : Nat) (h : 0 < n) : cutP xs none (some (-(n : Int))) = xs.take (xs.length - n) := by
  unfold cutP
  rw [sIx_none]
  have : HT.sIx xs.length xs.length (some (-(n : Int))) = xs.length - n := by
    unfold HT.sIx
    simp only
    rw [if_pos (by omega)]
    omega
  rw [this, List.drop_zero, Nat.sub_zero]
theorem while_inv {c : MT} {b : MS} {P : MEnds} {ρ : PEnv} {μ : Store} (W : Nat → PEnv → Store → Prop) {n : Nat} (h0 : W n ρ μ) (hs : ∀ n ρ μ, W n ρ μ →
    c ρ μ fun x μ1 => if x = true then b { P with nx := fun ρ' μ' => ∃ n', n' < n ∧ W n' ρ' μ', ct := fun ρ' μ' => ∃ n', n' < n ∧ W n' ρ' μ', bk := P.nx } ρ μ1 else P.nx ρ μ1) : mWhile c b P ρ μ := ⟨W, ⟨n, h0⟩, hs⟩
theorem div2 (x : Int) : DivOk x 2 := .inl ⟨by decide, by decide⟩
theorem pow_half (s k m : Nat) : (if k % 2 = 1 then s else 1) * (s * s % m) ^ (k / 2) % m = s ^ k % m := by
  have e : s ^ k = (if k % 2 = 1 then s else 1) * (s * s) ^ (k / 2) := by
    conv => lhs; rw [← Nat.div_add_mod k 2]
    rw [Nat.pow_add, Nat.pow_mul, Nat.pow_two, Nat.mul_comm]
    congr 1
    have : k % 2 = 0 ∨ k % 2 = 1 := by omega
    rcases this with h | h <;> simp [h]
  rw [e, Nat.mul_mod, Nat.pow_mod, Nat.mod_mod, ← Nat.pow_mod, ← Nat.mul_mod]
theorem rangeP_one (n : Nat) : rangeP 1 n = (List.range' 1 n).map fun (i : Nat) => PV.int i := by
  unfold rangeP
  rw [List.range'_eq_map_range, List.map_map]
  refine List.map_congr_left fun i _ => ?_
  show PV.int (1 + (i : Nat)) = PV.int ((1 + i : Nat) : Int)
  rw [Int.natCast_add]
  rfl
/-! ### rests met, each with its place -/
def dkey (f : Nat → Nat) (j : Nat) : List (Key × PV) := (List.range j).map fun i => ((.inl (f i : Nat) : Key), PV.int (i : Nat))
theorem dkey_length (f : Nat → Nat) (j : Nat) : (dkey f j).length = j := by simp [dkey]
theorem dkey_succ (f : Nat → Nat) (j : Nat) : dkey f (j + 1) = dkey f j ++ [((.inl (f j : Nat) : Key), PV.int (j : Nat))] := by
  unfold dkey
  rw [List.range_succ, List.map_append]
  rfl
theorem valP_none {f : Nat → Nat} {j x : Nat} (h : ∀ i, i < j → f i ≠ x) : valP (dkey f j) (.inl (x : Nat)) = none := by
  unfold valP
  rw [List.find?_eq_none.mpr]
  · rfl
  · intro p hp
    obtain ⟨i, hi, rfl⟩ := List.mem_map.mp hp
    have := h i (List.mem_range.mp hi)
    simp only [decide_eq_true_eq]
    intro z
    have z : ((f i : Nat) : Int) = (x : Nat) := Sum.inl.inj z
    omega
theorem valP_some {f : Nat → Nat} {s x : Nat} (hx : f s = x) : ∀ {j : Nat}, s < j → (∀ i, i < j → f i = x → i = s) → valP (dkey f j) (.inl (x : Nat)) = some (.int (s : Nat))
  | 0, h, _ => by omega
  | j + 1, h, hu => by
    unfold valP
    rw [dkey_succ, List.find?_append]
    by_cases c : s < j
    · have := valP_some hx c fun i hi => hu i (by omega)
      unfold valP at this
      cases e : (dkey f j).find? (fun kv => decide (kv.1 = (.inl (x : Nat) : Key))) with
      | none => rw [e] at this; cases this
      | some p => rw [e] at this; simpa using this
    · have : s = j := by omega
      subst this
      have := valP_none (f := f) (j := s) (x := x) fun i hi z => by have := hu i (by omega) z; omega
      unfold valP at this
      cases e : (dkey f s).find? (fun kv => decide (kv.1 = (.inl (x : Nat) : Key))) with
      | some p => rw [e] at this; cases this
      | none => simp [hx]
theorem putP_new {f : Nat → Nat} {j : Nat} (h : ∀ i, i < j → f i ≠ f j) : putP (dkey f j) (.inl (f j : Nat)) (.int (j : Nat)) = dkey f (j + 1) := by
  unfold putP
  have : ((dkey f j).any fun kv => decide (kv.1 = (.inl (f j : Nat) : Key))) = false := by
    rw [List.any_eq_false]
    intro p hp
    obtain ⟨i, hi, rfl⟩ := List.mem_map.mp hp
    have := h i (List.mem_range.mp hi)
    simp only [decide_eq_true_eq]
    intro z
    have z : ((f i : Nat) : Int) = (f j : Nat) := Sum.inl.inj z
    omega
  rw [this, if_neg (by decide), dkey_succ]
theorem rst_two (a b j : Nat) : ((2 : Int) * ((rst a b j : Nat) : Int)).fmod (b : Nat) = ((rst a b (j + 1) : Nat) : Int) := by
  rw [Int.fmod_eq_emod_of_nonneg _ (by omega)]
  show _ = ((2 * rst a b j % b : Nat) : Int)
  rw [Int.natCast_emod, Int.natCast_mul]
  rfl
theorem dgt_two (a b j : Nat) : ((2 : Int) * ((rst a b j : Nat) : Int)).fdiv (b : Nat) = ((dgt a b j : Nat) : Int) := by
  rw [Int.fdiv_eq_ediv_of_nonneg _ (by omega)]
  show _ = ((2 * rst a b j / b : Nat) : Int)
  rw [Int.natCast_ediv, Int.natCast_mul]
  rfl
theorem mod_nat (a b : Nat) : ((a : Nat) : Int).fmod (b : Nat) = ((a % b : Nat) : Int) := by rw [Int.fmod_eq_emod_of_nonneg _ (by omega), Int.natCast_emod]
theorem div_nat (a b : Nat) : ((a : Nat) : Int).fdiv (b : Nat) = ((a / b : Nat) : Int) := by rw [Int.fdiv_eq_ediv_of_nonneg _ (by omega), Int.natCast_ediv]
theorem dkey_keys (f : Nat → Nat) (j : Nat) : ((dkey f j).map fun kv => keyPV kv.1) = (List.range j).map fun i => PV.int (f i : Nat) := by
  unfold dkey
  rw [List.map_map]
  rfl
theorem noRefs_of {α : Type} (f : α → Int) : ∀ l : List α, noRefs (l.map fun a => PV.int (f a)) = true
  | [] => rfl
  | a :: l => by rw [List.map_cons, noRefs, noRefs_of f l]; rfl
theorem digs_take {a b j m s : Nat} (h : s ≤ m) : (digs a b j m).take s = digs a b j s := by
  rw [show m = s + (m - s) by omega, digs_add]
  exact List.take_left' (digs_length ..)
theorem digs_drop {a b j m s : Nat} (h : s ≤ m) : (digs a b j m).drop s = digs a b (j + s) (m - s) := by
  conv => lhs; rw [show m = s + (m - s) by omega, digs_add]
  exact List.drop_left' (digs_length ..)
theorem digs_lot (a b m : Nat) : ((List.range m).map fun i => PV.int (dgt a b i : Nat)) = (digs a b 0 m).map fun (n : Nat) => PV.int n := by
  unfold digs
  rw [List.map_map]
  refine List.map_congr_left fun i _ => ?_
  show _ = PV.int (dgt a b (0 + i) : Nat)
  rw [Nat.zero_add]
theorem divN (a : Int) {b n : Nat} (h0 : 0 < b) (h : b < 2 ^ n) (hn : n ≤ 8900 := by decide) : DivOk a (b : Nat) := by
  have := log_lt (x := (b : Nat)) (n := n) (by rw [Int.natAbs_natCast]; exact h)
  exact .inl ⟨by omega, by omega⟩
theorem bits_all (A : List Nat) : (zs A).all (fun i => decide ((0 : Int) ≤ i) && decide (i ≤ (1 : Int))) = A.all (· < 2) := by
  unfold zs
  rw [List.all_map]
  congr 1
  funext n
  simp [Function.comp]
  omega
theorem last_some {A : List Nat} (h : A ≠ []) : A.getLast? = some (A.getLastD 0) := by
  rw [List.getLastD_eq_getLast?, List.getLast?_eq_some_getLast h]
  rfl
theorem last_int (x y : Nat) : decide (((x : Nat) : Int) = (y : Nat)) = (some x == some y) := by
  rw [Bool.eq_iff_iff, decide_eq_true_eq, beq_iff_eq, Option.some.injEq]
  omega
theorem p2_abs (h : Nat) : ((2 : Int) ^ h).natAbs < 2 ^ (h + 1) := by
  rw [Int.natAbs_pow]
  show 2 ^ h < 2 ^ (h + 1)
  exact Nat.pow_lt_pow_right (by decide) (by omega)
theorem p2_abs1 (h : Nat) : ((2 : Int) ^ h - 1).natAbs < 2 ^ (h + 1) := by
  have h1 := p2_abs h
  have h2 := p2pos h
  omega
theorem val2_abs {A : List Nat} (hA : ∀ x ∈ A, x < 2) : ((val2 A : Nat) : Int).natAbs < 2 ^ (A.length + 1) := by
  have := val2_lt A hA
  rw [Int.natAbs_natCast]
  exact Nat.lt_of_lt_of_le this (Nat.pow_le_pow_right (by decide) (by omega))
theorem top_abs {W k : Nat} {A : List Nat} (hA : ∀ x ∈ A, x < 2) (hW : W < 2 ^ k) : ((W : Int) * 2 ^ A.length + (val2 A : Nat)).natAbs < 2 ^ (k + A.length + 2) := by
  have h1 := natAbs_mul_lt (x := (W : Int)) (m := k) (by rw [Int.natAbs_natCast]; exact hW) (p2_abs A.length)
  have h2 := Nat.lt_of_lt_of_le (val2_abs hA) (Nat.pow_le_pow_right (show 0 < 2 by decide) (show A.length + 1 ≤ k + (A.length + 1) by omega))
  have h3 := natAbs_add_lt h1 h2
  exact Nat.lt_of_lt_of_le h3 (Nat.pow_le_pow_right (by decide) (by omega))
theorem figB_bits {A C : List Nat} (h : figB A C = true) : (∀ x ∈ A, x < 2) ∧ ∀ x ∈ C, x < 2 := by
  unfold figB at h
  simp only [Bool.and_eq_true, List.all_eq_true, decide_eq_true_eq] at h
  exact ⟨h.1.1, h.1.2⟩
theorem lt100 {A : List Nat} (h : ∀ x ∈ A, x < 2) : ∀ x ∈ A, x < 2 ^ 100 := fun x hx => Nat.lt_of_lt_of_le (h x hx) (by decide)
theorem pow_le2 {n a b : Nat} (h : n < 2 ^ a) (l : a ≤ b) : n < 2 ^ b := Nat.lt_of_lt_of_le h (Nat.pow_le_pow_right (by decide) l)
theorem in01 (n : Nat) : inP (.int n) [.int 0, .int 1] = decide (n < 2) := by
  have := in_lot n [0, 1]
  refine Eq.trans this ?_
  refine decide_eq_decide.mpr ⟨fun h => ?_, fun h => ?_⟩
  · rcases List.mem_cons.mp h with rfl | h
    · decide
    · rw [List.mem_singleton.mp h]; decide
  · have : n = 0 ∨ n = 1 := by omega
    rcases this with rfl | rfl <;> simp
theorem eqP_lnil {α : Type} [BEq α] (l : List α) (f : α → Int) (μ : Store) : eqP (.lst (l.map fun a => PV.int (f a))) (.lst []) μ = some (l == []) := by
  have e : (l.map fun a => PV.int (f a)) = (l.map f).map PV.int := by rw [List.map_map]; rfl
  have := eqP_li (l.map f) [] μ
  rw [← e] at this
  refine Eq.trans this ?_
  congr 1
  cases l <;> rfl
theorem rep_lot (n : Nat) (C : List Nat) : PV.tup (List.replicate n (C.map fun (n : Nat) => PV.int n)).flatten = lotP (List.replicate n C).flatten := by
  unfold lotP
  rw [List.map_flatten, List.map_replicate]
theorem divInt_small {t b : Int} (ht : 0 ≤ t) (hb : 0 < b) : 0 ≤ Rat.divInt t b ∧ ((Rat.divInt t b).num.toNat : Int) ≤ t ∧ ((Rat.divInt t b).den : Int) ≤ b := by
  obtain ⟨e1, e2⟩ := divInt_parts t b hb
  have h0 : 0 ≤ (Rat.divInt t b).num := by rw [e1]; exact Int.ediv_nonneg ht (by omega)
  refine ⟨Rat.num_nonneg.mp h0, ?_, ?_⟩
  · rw [Int.toNat_of_nonneg h0, e1]
    exact Int.ediv_le_self _ ht
  · rw [e2]
    exact Int.ediv_le_self _ (by omega)
theorem getl2a {α : Type} (μ : List α) (x y : α) : (μ ++ [x] ++ [y])[μ.length]? = some x := by simp
theorem getl2b {α : Type} (μ : List α) (x y : α) : (μ ++ [x] ++ [y])[μ.length + 1]? = some y := by
  rw [List.getElem?_append_right (by simp)]
  simp
theorem setl2a {α : Type} (μ : List α) (x y z : α) : (μ ++ [x] ++ [y]).set μ.length z = μ ++ [z] ++ [y] := by simp
theorem setl2b {α : Type} (μ : List α) (x y z : α) : (μ ++ [x] ++ [y]).set (μ.length + 1) z = μ ++ [x] ++ [z] := by
  rw [List.set_append_right _ _ (by simp)]
  simp
theorem pow_abs {b : Int} {s : Nat} (h : b.natAbs < 2 ^ s) (e : Nat) : (b ^ e).natAbs < 2 ^ (s * e + 1) := by
  rw [Int.natAbs_pow, Nat.pow_succ, Nat.pow_mul]
  have h1 := Nat.pow_le_pow_left (Nat.le_of_lt h) e
  have h2 : 0 < (2 ^ s) ^ e := Nat.pow_pos (Nat.pow_pos (by decide))
  omega
theorem half_lt (n : Nat) : decide (((n / 2 : Nat) : Int) * 2 < (n : Nat)) = decide (n % 2 = 1) := decide_eq_decide.mpr ⟨fun h => by omega, fun h => by omega⟩
theorem raise_step (b : Int) (r l j : Nat) : (if l % 2 = 1 then b ^ r * b ^ (2 ^ j) else b ^ r) = b ^ (r + (l % 2) * 2 ^ j) := by
  have : l % 2 = 0 ∨ l % 2 = 1 := by omega
  rcases this with h | h <;> simp [h, Int.pow_add]
theorem raise_sum {r l j n : Nat} (h : r + l * 2 ^ j = n) : r + (l % 2) * 2 ^ j + (l / 2) * 2 ^ (j + 1) = n := by
  have e : l * 2 ^ j = (l % 2) * 2 ^ j + (l / 2) * 2 ^ (j + 1) := by
    conv => lhs; rw [← Nat.div_add_mod l 2]
    rw [Nat.add_mul, Nat.pow_succ, Nat.mul_comm 2 (l / 2), Nat.mul_assoc, Nat.mul_comm 2 (2 ^ j)]
    omega
  omega
theorem div_two (l : Nat) : ((l : Nat) : Int).fdiv 2 = ((l / 2 : Nat) : Int) := div_nat l 2
theorem pow_one' (b : Int) : b = b ^ 1 := by rw [show (1 : Nat) = 0 + 1 from rfl, Int.pow_succ, Int.pow_zero, Int.one_mul]
/-! ### one statement at a time -/
theorem stm_of {a b : MS} {P : MEnds} {ρ : PEnv} {μ : Store} (h : ∀ R : PEnv → Store → Prop, R = b P → a { P with nx := R } ρ μ) : mSeq a b P ρ μ := h _ rfl
theorem mLenA {a : Option PV} {W : Nat} {A C : List Nat} {ρ : PEnv} {μ : Store} {P : PV → Store → Prop} : mCB pLen (mCons (mOp pIx (mVar 1) (mC (PV.int 1))) mNil) (a :: some (figP W A C) :: ρ) μ P = P (.int (A.length : Nat)) μ := by
  simp only [mCB, mCons, mNil, mOp, mVar, mC, pIx, pLen, figP, items_tup, atI_one, items_lot, List.getElem?_cons_succ, List.getElem?_cons_zero, List.length_map]
theorem mLenC {a : Option PV} {W : Nat} {A C : List Nat} {ρ : PEnv} {μ : Store} {P : PV → Store → Prop} : mCB pLen (mCons (mOp pIx (mVar 1) (mC (PV.int 2))) mNil) (a :: some (figP W A C) :: ρ) μ P = P (.int (C.length : Nat)) μ := by
  simp only [mCB, mCons, mNil, mOp, mVar, mC, pIx, pLen, figP, items_tup, atI_two, items_lot, List.getElem?_cons_succ, List.getElem?_cons_zero, List.length_map]
theorem shb_three {d : Nat} {p q : Rat} (hd : d < 2 ^ 100) (hp : Sm 1900 p) (hq : Sm 1900 q) : ShB 2 90000 (.lst [.int (d : Nat), frP p, frP q]) := by
  have := shb_lst (xs := [.int (d : Nat), frP p, frP q]) (d := 1) (l := 4000) fun x hx => by
    rcases List.mem_cons.mp hx with rfl | hx
    · exact (shb_small (k := 100) (by rw [Int.natAbs_natCast]; exact hd) (by decide) (by decide)).mono (by decide) (by decide)
    · rcases List.mem_cons.mp hx with rfl | hx
      · exact shb_fr hp
      · rw [List.mem_singleton.mp hx]; exact shb_fr hq
  exact this.mono (by decide) (by show 3 * (4000 + 2) + 3 ≤ 90000; decide)
theorem int_fr (n : Int) : PV.tup [.int n, .int 1] = frP ((n : Int) : Rat) := rfl
theorem sm_int {n : Int} {k : Nat} (h : n.natAbs < 2 ^ k) (h1 : 1 ≤ k) : Sm k ((n : Int) : Rat) := ⟨h, by
  show 1 < 2 ^ k
  have := Nat.pow_le_pow_right (show 0 < 2 by decide) h1
  omega⟩
theorem log_small {n k : Nat} (h : n < 2 ^ k) (hk : k + 1 ≤ 1920) : ((n : Nat) : Int).natAbs.log2 < 1920 := by
  have := log_lt (x := (n : Nat)) (n := k) (by rw [Int.natAbs_natCast]; exact h)
  omega
theorem pRepr_fig {W : Nat} {A C : List Nat} {μ : Store} {P : PV → Store → Prop} (hW : W < 2 ^ 1900) (hA : ∀ x ∈ A, x < 2) (hC : ∀ x ∈ C, x < 2) (h1 : A.length ≤ 3000) (h2 : C.length ≤ 3000) (hP : P (.str (shwP (figP W A C))) μ) : pRepr [figP W A C] μ P :=
  pRepr_tup (shb_fig hW hA hC h1 h2) (by decide) (by decide) hP
theorem eqP_lot0 (A : List Nat) (μ : Store) : eqP (.tup (A.map fun (n : Nat) => PV.int n)) (.tup []) μ = some (decide (A = [])) := eqP_lots A [] μ
theorem cut_one (xs : List PV) : cutP xs none (some 1) = xs.take 1 := cut_to xs 1
theorem turned_fig (A C : List Nat) : PV.tup [.int 0, .tup ([] ++ A.map fun n => PV.int ((1 - n : Nat) : Int)), .tup ([] ++ C.map fun n => PV.int ((1 - n : Nat) : Int))] = figP 0 (A.map fun d => 1 - d) (C.map fun d => 1 - d) := by
  unfold figP lotP
  rw [List.map_map, List.map_map]
  rfl
theorem cut_mid (ns : List Nat) (b c : Nat) : ∃ C : List Nat, PV.tup (cutP (ns.map fun (i : Nat) => PV.int i) (some (b : Int)) (some ((b : Int) + (c : Int)))) = lotP C ∧ C.length ≤ c ∧ ∀ x ∈ C, x ∈ ns := by
  refine ⟨(ns.drop (min b ns.length)).take (min (b + c) ns.length - min b ns.length), ?_, ?_, fun x hx => List.mem_of_mem_drop (List.mem_of_mem_take hx)⟩
  · unfold lotP cutP
    rw [show ((b : Int) + (c : Int)) = ((b + c : Nat) : Int) by omega, sIx_nat, sIx_nat, List.length_map, List.map_take, List.map_drop]
  · rw [List.length_take]; omega
theorem shb_told {q : Rat} {W : Nat} {A C : List Nat} (hq : Sm 1900 q) (hW : W < 2 ^ 1900) (hA : ∀ x ∈ A, x < 2) (hC : ∀ x ∈ C, x < 2) (h1 : A.length ≤ 3000) (h2 : C.length ≤ 3000) : ShB 3 500000 (.lst [frP q, figP W A C]) := by
  have := shb_lst (xs := [frP q, figP W A C]) (d := 2) (l := 70000) fun x hx => by
    rcases List.mem_cons.mp hx with rfl | hx
    · exact (shb_fr hq).mono (by decide) (by decide)
    · rw [List.mem_singleton.mp hx]
      exact shb_fig hW hA hC h1 h2
  exact this.mono (by decide) (by show 2 * (70000 + 2) + 3 ≤ 500000; decide)
theorem frL_sm {W : Nat} {A C : List Nat} (hA : ∀ x ∈ A, x < 2) (hC : ∀ x ∈ C, x < 2) (hW : W < 4) (h1 : A.length ≤ 4) (h2 : C.length ≤ 4) : Sm 20 (frL W A C) ∧ 0 ≤ frL W A C ∧ (frL W A C).den ≤ 1000 := by
  have pA := p2pos A.length
  have vA := val2_lt A hA
  have vC := val2_lt C hC
  have a1 : 2 ^ A.length ≤ 2 ^ 4 := Nat.pow_le_pow_right (by decide) h1
  have c1 : 2 ^ C.length ≤ 2 ^ 4 := Nat.pow_le_pow_right (by decide) h2
  have cA := cast2 A.length
  have cC := cast2 C.length
  unfold frL
  split
  · have t0 : (0 : Int) ≤ (W : Int) * 2 ^ A.length := Int.mul_nonneg (by omega) (by omega)
    have t1 : (W : Int) * 2 ^ A.length ≤ 4 * 16 := Int.mul_le_mul (by omega) (by omega) (by omega) (by omega)
    have hb : (2 : Int) ^ A.length = ((2 ^ A.length : Nat) : Int) := cA.symm
    have d := divInt_small (t := (W : Int) * 2 ^ A.length + (val2 A : Nat)) (b := 2 ^ A.length) (by omega) pA
    refine ⟨sm_divInt (by omega) pA (by omega), d.1, ?_⟩
    have := d.2.2
    omega
  · rename_i c
    have pC := p2one c
    have pP := Int.mul_pos pA pC
    have b1 : (2 : Int) ^ A.length * (2 ^ C.length - 1) ≤ 16 * 16 := Int.mul_le_mul (by omega) (by omega) (by omega) (by omega)
    have t0 : (0 : Int) ≤ (W : Int) * 2 ^ A.length := Int.mul_nonneg (by omega) (by omega)
    have t1 : (W : Int) * 2 ^ A.length ≤ 4 * 16 := Int.mul_le_mul (by omega) (by omega) (by omega) (by omega)
    have t2 : (0 : Int) ≤ ((W : Int) * 2 ^ A.length + (val2 A : Nat)) * (2 ^ C.length - 1) := Int.mul_nonneg (by omega) (by omega)
    have t3 : ((W : Int) * 2 ^ A.length + (val2 A : Nat)) * (2 ^ C.length - 1) ≤ 100 * 16 := Int.mul_le_mul (by omega) (by omega) (by omega) (by omega)
    have d := divInt_small (t := ((W : Int) * 2 ^ A.length + (val2 A : Nat)) * (2 ^ C.length - 1) + (val2 C : Nat)) (b := 2 ^ A.length * (2 ^ C.length - 1)) (by omega) pP
    refine ⟨sm_divInt (by omega) pP (by omega), d.1, ?_⟩
    have := d.2.2
    omega
end Fx

namespace Fx
open PySem PySem.Spec PyProof.Rows L2 RZ MR
def sdP : Sd → PV
  | .toss a b => .tup [.str (Str.ofString "toss"), .int (a : Nat), .int (b : Nat)]
  | .out i => .tup [.str (Str.ofString "out"), .int (i : Nat)]
def stsP (S : Mch) : PV := .tup (S.map sdP)
def macP (n : Nat) (S : Mch) : PV := .tup [.int (n : Nat), stsP S]
def rowsD (r : Rows) : List (Key × PV) := r.map fun p => ((.inl (p.1 : Nat) : Key), PV.int (p.2 : Nat))
def runP : Option (Nat × Nat) → PV
  | none => .non
  | some p => .tup [.int (p.1 : Nat), .int (p.2 : Nat)]
def getR (r : Rows) (a : Nat) : Nat := match r.find? fun p => p.1 == a with | some p => p.2 | none => 0
theorem rowsD_find (r : Rows) (a : Nat) : (rowsD r).find? (fun kv => decide (kv.1 = (.inl (a : Nat) : Key))) = (r.find? fun p => p.1 == a).map fun p => ((.inl (p.1 : Nat) : Key), PV.int (p.2 : Nat)) := by
  unfold rowsD
  rw [List.find?_map]
  congr 1
  refine congrArg (fun f => r.find? f) (funext fun p => ?_)
  show decide ((.inl (p.1 : Nat) : Key) = .inl (a : Nat)) = (p.1 == a)
  rw [Bool.eq_iff_iff, decide_eq_true_eq, beq_iff_eq]
  exact ⟨fun h => by have : ((p.1 : Nat) : Int) = (a : Nat) := Sum.inl.inj h; omega, fun h => by rw [h]⟩
theorem rowsD_get (r : Rows) (a : Nat) : (valP (rowsD r) (.inl (a : Nat))).getD (.int 0) = .int (getR r a : Nat) := by
  unfold valP getR
  rw [rowsD_find]
  cases r.find? fun p => p.1 == a <;> rfl
theorem getR_mem : ∀ {r : Rows}, r.keys.Nodup → ∀ {p : Nat × Nat}, p ∈ r → getR r p.1 = p.2
  | [], _, p, h => by simp at h
  | q :: r, hn, p, h => by
    unfold Rows.keys at hn
    rw [List.map_cons, List.nodup_cons] at hn
    unfold getR
    rw [List.find?_cons]
    rcases List.mem_cons.mp h with rfl | h
    · simp
    · have : (q.1 == p.1) = false := by
        rw [beq_eq_false_iff_ne]
        exact fun z => hn.1 (List.mem_map.mpr ⟨p, h, z.symm⟩)
      rw [this]
      exact getR_mem hn.2 h
theorem rowsD_any (r : Rows) (a : Nat) : ((rowsD r).any fun kv => decide (kv.1 = (.inl (a : Nat) : Key))) = r.any fun p => p.1 == a := by
  unfold rowsD
  rw [List.any_map]
  refine congrArg (fun f => r.any f) (funext fun p => ?_)
  show decide ((.inl (p.1 : Nat) : Key) = .inl (a : Nat)) = (p.1 == a)
  rw [Bool.eq_iff_iff, decide_eq_true_eq, beq_iff_eq]
  exact ⟨fun h => by have : ((p.1 : Nat) : Int) = (a : Nat) := Sum.inl.inj h; omega, fun h => by rw [h]⟩
theorem rowsD_put {r : Rows} (hn : r.keys.Nodup) (a m : Nat) : putP (rowsD r) (.inl (a : Nat)) (.int ((getR r a : Nat) + (m : Nat))) = rowsD (bmp r a m) := by
  unfold putP bmp
  rw [rowsD_any]
  cases c : r.any fun p => p.1 == a with
  | true =>
    rw [if_pos rfl, if_pos rfl]
    unfold rowsD
    rw [List.map_map, List.map_map]
    refine List.map_congr_left fun p hp => ?_
    show (if (.inl (p.1 : Nat) : Key) = .inl (a : Nat) then ((.inl (p.1 : Nat) : Key), PV.int ((getR r a : Nat) + (m : Nat))) else ((.inl (p.1 : Nat) : Key), PV.int (p.2 : Nat))) = _
    by_cases e : p.1 = a
    · have := getR_mem hn hp
      rw [← e, if_pos rfl, this]
      show _ = ((.inl ((if p.1 = p.1 then (p.1, p.2 + m) else p).1 : Nat) : Key), PV.int ((if p.1 = p.1 then (p.1, p.2 + m) else p).2 : Nat))
      rw [if_pos rfl, Int.natCast_add]
    · rw [if_neg (fun z => e (by have : ((p.1 : Nat) : Int) = (a : Nat) := Sum.inl.inj z; omega))]
      show _ = ((.inl ((if p.1 = a then (p.1, p.2 + m) else p).1 : Nat) : Key), PV.int ((if p.1 = a then (p.1, p.2 + m) else p).2 : Nat))
      rw [if_neg e]
  | false =>
    rw [if_neg (by decide), if_neg (by decide)]
    have hg : getR r a = 0 := by
      unfold getR
      rw [List.find?_eq_none.mpr]
      intro p hp
      rw [List.any_eq_false] at c
      exact c p hp
    rw [hg]
    unfold rowsD
    rw [List.map_append]
    congr 2
    simp
theorem rowsD_length (r : Rows) : (rowsD r).length = r.length := by simp [rowsD]
theorem sts_at {S : Mch} {s : Nat} (h : s < S.length) : L2.atI (S.map sdP) ((s : Nat) : Int) = some (sdP (at' S s)) := atI_map (at_get h)
theorem eqP_sd0 (s : Sd) (μ : Store) : eqP (sdP s) (.tup []) μ = some false := by
  have h0 : SeqAt.shaped (.tuple []) = true := by decide +kernel
  have ht : PyData.strOk (Str.ofString "toss") = true := by decide +kernel
  have ho : PyData.strOk (Str.ofString "out") = true := by decide +kernel
  cases s with
  | toss a b =>
    have h : SeqAt.shaped (.tuple [.str (Str.ofString "toss"), .int (a : Nat), .int (b : Nat)]) = true := by
      simp [SeqAt.shaped, PyData.canLay0, PyData.canLayAll0, PyData.depth, PyData.depthAll, ht]
    unfold eqP sdP
    simp only [scalP, frzP, datP, datPs, Option.map_some, h, h0, and_self, if_true]
    simp [PyData.eqv, PyData.eqvAll]
  | out i =>
    have h : SeqAt.shaped (.tuple [.str (Str.ofString "out"), .int (i : Nat)]) = true := by
      simp [SeqAt.shaped, PyData.canLay0, PyData.canLayAll0, PyData.depth, PyData.depthAll, ho]
    unfold eqP sdP
    simp only [scalP, frzP, datP, datPs, Option.map_some, h, h0, and_self, if_true]
    simp [PyData.eqv, PyData.eqvAll]
/-! ### walks that must stand still -/
section
variable {α : Type} {C : Store → Prop} {g : MG} {b : MS} {P : MEnds}
theorem forC_inv {enc : α → PV} (I : List α → PEnv → Store → Prop) (hC : ∀ pre ρ μ, I pre ρ μ → C μ) : ∀ {l done : List α} {ρ : PEnv} {μ : Store}, I done ρ μ → (∀ pre a post ρ μ, done ++ l = pre ++ a :: post → I pre ρ μ → ∀ N : PEnv → Store → Prop, (∀ ρ μ, I (pre ++ [a]) ρ μ → N ρ μ) →
      g (enc a) ρ μ fun ρ1 μ1 => b { P with nx := N, ct := N, bk := P.nx } ρ1 μ1) → (∀ ρ μ, I (done ++ l) ρ μ → P.nx ρ μ) → mForLC C g b P (l.map enc) ρ μ
  | [], done, ρ, μ, h0, _, hP => ⟨hC _ _ _ h0, hP ρ μ (by simpa using h0)⟩
  | a :: l, done, ρ, μ, h0, hs, hP => by
    have e1 : done ++ a :: l = (done ++ [a]) ++ l := by simp
    exact ⟨hC _ _ _ h0, hs done a l ρ μ rfl h0 (mForLC C g b P (l.map enc)) fun ρ μ h => forC_inv I hC (done := done ++ [a]) h (fun pre x post ρ μ e2 => hs pre x post ρ μ (by rw [e1]; exact e2)) fun ρ μ h => hP ρ μ (by rw [e1]; exact h)⟩
end
theorem set_app {μ : Store} {r : Nat} (h : r < μ.length) (x z : MO) : (μ ++ [x]).set r z = μ.set r z ++ [x] := by
  rw [List.set_append_left _ _ h]
theorem set_back {μ : Store} {r : Nat} {y : MO} (h : μ[r]? = some y) (z : MO) : (μ.set r z).set r y = μ := by
  obtain ⟨hl, e⟩ := List.getElem?_eq_some_iff.mp h
  rw [List.set_set]
  subst e
  exact List.set_getElem_self hl
theorem set_get {μ : Store} {r : Nat} (h : r < μ.length) (z : MO) : (μ.set r z)[r]? = some z := by
  rw [List.getElem?_set_self h]
theorem app_get {μ : Store} {r : Nat} {y : MO} (h : μ[r]? = some y) (g : Store) : (μ ++ g)[r]? = some y := by
  rw [List.getElem?_append_left (List.getElem?_eq_some_iff.mp h).1]
  exact h
theorem rowsD_items (r : Rows) : ((rowsD r).map fun kv => PV.tup [keyPV kv.1, kv.2]) = r.map fun p => PV.tup [.int (p.1 : Nat), .int (p.2 : Nat)] := by
  unfold rowsD
  rw [List.map_map]
  rfl
theorem rowsD_keys (r : Rows) : ((rowsD r).map fun kv => keyPV kv.1) = r.map fun p => PV.int (p.1 : Nat) := by
  unfold rowsD
  rw [List.map_map]
  rfl
theorem rows_len {S : Mch} {r : Rows} (h : RowsOk S r) : r.length ≤ S.length := by
  have := nodup_len S.length r.keys h.nd h.lt
  simpa [Rows.keys] using this
def partR (S : Mch) (f : Rows) (r : Rows) : Rows := r.foldl (fun f p => (fols (at' S p.1)).foldl (fun f a => bmp f a p.2) f) f
theorem partR_ok {n : Nat} {S : Mch} (hM : MacOk n S) {r f : Rows} (h : ∀ p ∈ r, p.1 < S.length) (hf : RowsOk S f) : RowsOk S (partR S f r) := by
  obtain ⟨h1, h2, h3⟩ := ledOn_go S r f hf.nd
  refine ⟨h1, fun x hx => ?_⟩
  rcases h3 x hx with z | ⟨s, hs, z⟩
  · exact hf.lt x z
  · obtain ⟨p, hp, rfl⟩ := List.mem_map.mp hs
    exact fol_lt hM (h p hp) x z
theorem bmps_rows {S : Mch} {f : Rows} (hf : RowsOk S f) (m : Nat) {l : List Nat} (hl : ∀ a ∈ l, a < S.length) : RowsOk S (l.foldl (fun f a => bmp f a m) f) := by
  obtain ⟨h1, h2, h3⟩ := bmps_ok m l f hf.nd
  exact ⟨h1, fun x hx => (h3 x hx).elim (hf.lt x) (hl x)⟩
theorem numd_split {α : Type} : ∀ {bs : List α} {j : Nat} {pre : List (Nat × α)} {a : Nat × α} {post : List (Nat × α)}, numd j bs = pre ++ a :: post → a.1 = j + pre.length ∧ bs.drop pre.length = a.2 :: bs.drop (pre.length + 1)
  | [], j, pre, a, post, h => by
    cases pre <;> simp [numd] at h
  | b :: bs, j, [], a, post, h => by
    simp only [numd, List.nil_append, List.cons.injEq] at h
    obtain ⟨rfl, _⟩ := h
    exact ⟨rfl, rfl⟩
  | b :: bs, j, p :: pre, a, post, h => by
    simp only [numd, List.cons_append, List.cons.injEq] at h
    obtain ⟨h1, h2⟩ := numd_split h.2
    refine ⟨by rw [h1, List.length_cons]; omega, ?_⟩
    rw [List.length_cons, List.drop_succ_cons, List.drop_succ_cons]
    exact h2
theorem fin_newd {μ0 g : Store} {kvs : List (Key × PV)} {Q : PV → Store → Prop} (n : noRefs (kvs.map (·.2)) = true) (h : Q (.mr μ0.length) (μ0 ++ [.dk kvs])) :
    ∃ y μ', Gc μ0 (.mr (μ0.length + g.length)) (μ0 ++ g ++ [.dk kvs]) y μ' ∧ Q y μ' := by
  refine ⟨_, _, .newd (μ0.length + g.length) (g ++ [.dk kvs]) kvs rfl (List.append_assoc ..) ?_ (by omega) n, h⟩
  rw [← List.length_append]
  exact getl _ _
theorem rowsD_noRefs (r : Rows) : noRefs ((rowsD r).map (·.2)) = true := by
  unfold rowsD
  rw [List.map_map]
  exact noRefs_of (fun p : Nat × Nat => ((p.2 : Nat) : Int)) r
theorem rowsAt_nil {S : Mch} {j : Nat} (h : rowsAt S j = []) : ∀ d, rowsAt S (j + d) = []
  | 0 => h
  | d + 1 => by
    show ledOn S (rowsAt S (j + d)) = []
    rw [rowsAt_nil h d]
    rfl
theorem set_range {α : Type} (f : Nat → α) (j : Nat) (x : α) (n : Nat) : ((List.range n).map f).set j x = (List.range n).map fun i => if i = j then x else f i := by
  apply List.ext_getElem?
  intro i
  rw [List.getElem?_set, List.getElem?_map, List.getElem?_map]
  by_cases hij : j = i
  · subst hij
    rw [if_pos rfl]
    by_cases hl : j < n
    · rw [if_pos (by simpa using hl), List.getElem?_range hl]
      simp
    · rw [if_neg (by simpa using hl), List.getElem?_eq_none (by simpa using hl)]
      rfl
  · rw [if_neg hij]
    cases e : (List.range n)[i]? with
    | none => rfl
    | some k =>
      have : k = i := by
        obtain ⟨h1, h2⟩ := List.getElem?_eq_some_iff.mp e
        rw [List.getElem_range] at h2
        exact h2.symm
      subst this
      simp only [Option.map_some]
      rw [if_neg (fun z => hij z.symm)]
theorem lcC_filter {α : Type} {C : Store → Prop} {g : MG} {c : MT} {e : ME} {ρ0 : PEnv} {P : List PV → Store → Prop} {enc out : α → PV} {p : α → Bool} {μ : Store} (hC : C μ) : ∀ {l : List α} {acc : List PV}, (∀ a ∈ l, ∀ (k : PV → Store → Prop) (n : Store → Prop), (p a = true → k (out a) μ) → (p a = false → n μ) → g (enc a) ρ0 μ fun ρ1 μ1 => c ρ1 μ1 fun b μ2 => if b = true then e ρ1 μ2 k else n μ2) →
    P (acc ++ (l.filter p).map out) μ → mLcLC C g c e ρ0 P (l.map enc) acc μ
  | [], acc, _, hP => ⟨hC, by simpa using hP⟩
  | a :: l, acc, h, hP => by
    refine ⟨hC, ?_⟩
    refine h a List.mem_cons_self _ _ (fun hp => ?_) fun hp => ?_
    · refine lcC_filter hC (fun b hb => h b (List.mem_cons_of_mem _ hb)) ?_
      simpa [List.filter_cons, hp] using hP
    · refine lcC_filter hC (fun b hb => h b (List.mem_cons_of_mem _ hb)) ?_
      simpa [List.filter_cons, hp] using hP
theorem zeros_range (n : Nat) : (List.replicate n [PV.int 0]).flatten = (List.range n).map fun i => PV.int ((fun _ => 0 : Nat → Nat) i : Nat) := by
  induction n with
  | zero => rfl
  | succ n ih =>
    rw [List.replicate_succ', List.flatten_append, ih, List.range_succ, List.map_append]
    rfl
theorem zipP_same {α : Type} (f g : α → PV) : ∀ l : List α, zipP (l.map f) (l.map g) = l.map fun i => .tup [f i, g i]
  | [] => rfl
  | a :: l => by simp [zipP, zipP_same f g l]
theorem at_range {n j : Nat} (f : Nat → PV) (h : j < n) : L2.atI ((List.range n).map f) ((j : Nat) : Int) = some (f j) := atI_map (List.getElem?_range h)
theorem ixN_nat {n j : Nat} (h : j < n) : ixN n ((j : Nat) : Int) = some j := by
  unfold ixN
  rw [if_pos (by omega), if_pos (by omega)]
  rfl
theorem go_sum (S : Mch) : ∀ r : Rows, ((r.filter fun p => !isOut (at' S p.1)).map fun p => ((p.2 : Nat) : Int)).sum = ((wgt (goN S 0) r : Nat) : Int)
  | [] => rfl
  | p :: r => by
    rw [List.filter_cons, wgt_cons]
    have ih := go_sum S r
    have hg : goN S 0 p.1 = if isOut (at' S p.1) = true then 0 else 1 := by
      unfold goN
      cases at' S p.1 <;> rfl
    rw [hg]
    cases isOut (at' S p.1) with
    | true => simp [ih]
    | false => simp [ih]
theorem end_zero (S : Mch) (i s : Nat) : endN S i 0 s = match at' S s with | .out j => if j = i then 1 else 0 | _ => 0 := rfl
theorem wgt_snoc (g : Nat → Nat) (r : Rows) (p : Nat × Nat) : wgt g (r ++ [p]) = wgt g r + p.2 * g p.1 := by
  simp only [wgt_append, wgt_cons, wgt_nil]
  omega
theorem led_lt {n : Nat} {S : Mch} (hM : MacOk n S) : ∀ (bs : List Nat) {s : Nat}, s < S.length → (led S s bs).1 < S.length
  | [], s, h => h
  | b :: bs, s, h => by
    have hf := fol_lt hM h
    unfold led
    cases c : at' S s with
    | out i => exact h
    | toss x y =>
      rw [c] at hf
      simp only
      split
      · exact led_lt hM bs (hf x (by simp [fols]))
      · exact led_lt hM bs (hf y (by simp [fols]))
theorem datPs_sts : ∀ S : Mch, ∃ ds, datPs (S.map sdP) = some ds ∧ PyData.canLayAll0 ds = true ∧ PyData.depthAll ds ≤ 2 ∧ ds.length = S.length
  | [] => ⟨[], rfl, rfl, by simp [PyData.depthAll], rfl⟩
  | s :: S => by
    obtain ⟨ds, h1, h2, h3, h4⟩ := datPs_sts S
    have ht : PyData.strOk (Str.ofString "toss") = true := by decide +kernel
    have ho : PyData.strOk (Str.ofString "out") = true := by decide +kernel
    cases s with
    | toss a b =>
      refine ⟨.tuple [.str (Str.ofString "toss"), .int (a : Nat), .int (b : Nat)] :: ds, by simp [datPs, datP, sdP, h1], by simp [PyData.canLay0, PyData.canLayAll0, ht, h2], ?_, by simp [h4]⟩
      have hd : PyData.depth (.tuple [.str (Str.ofString "toss"), .int (a : Nat), .int (b : Nat)]) ≤ 2 := by simp [PyData.depth, PyData.depthAll]
      rw [PyData.depthAll]
      exact Nat.max_le.mpr ⟨hd, h3⟩
    | out i =>
      refine ⟨.tuple [.str (Str.ofString "out"), .int (i : Nat)] :: ds, by simp [datPs, datP, sdP, h1], by simp [PyData.canLay0, PyData.canLayAll0, ho, h2], ?_, by simp [h4]⟩
      have hd : PyData.depth (.tuple [.str (Str.ofString "out"), .int (i : Nat)]) ≤ 2 := by simp [PyData.depth, PyData.depthAll]
      rw [PyData.depthAll]
      exact Nat.max_le.mpr ⟨hd, h3⟩
theorem eqP_sts {S : Mch} (h : S ≠ []) (μ : Store) : eqP (stsP S) (.tup []) μ = some false := by
  obtain ⟨ds, h1, h2, h3, h4⟩ := datPs_sts S
  have h0 : SeqAt.shaped (.tuple []) = true := by decide +kernel
  have hs : SeqAt.shaped (.tuple ds) = true := by
    have q3 : PyData.depth (.tuple ds) ≤ 64 := by rw [PyData.depth]; omega
    have q4 : PyData.canLay0 (.tuple ds) = true := by rw [PyData.canLay0]; exact h2
    unfold SeqAt.shaped
    rw [q4, decide_eq_true q3]
    rfl
  unfold eqP stsP
  simp only [scalP, frzP, datP, h1, datPs, Option.map_some, hs, h0, and_self, if_true]
  cases ds with
  | nil =>
    have := List.length_pos_iff.mpr h
    simp at h4
    omega
  | cons d ds => simp [PyData.eqv, PyData.eqvAll]
theorem str_to : (Str.ofString "toss" = Str.ofString "out") = False := by simp only [eq_iff_iff, iff_false]; decide +kernel
theorem str_ot : (Str.ofString "out" = Str.ofString "toss") = False := by simp only [eq_iff_iff, iff_false]; decide +kernel
theorem range_split {n a : Nat} {pre post : List Nat} (h : List.range n = pre ++ a :: post) : a = pre.length ∧ pre.length < n := by
  have h1 : (List.range n)[pre.length]? = some a := by rw [h]; simp
  have h2 : pre.length < n := by
    have := congrArg List.length h
    simp at this
    omega
  rw [List.getElem?_range h2] at h1
  exact ⟨(Option.some.inj h1).symm, h2⟩
theorem numd_range {n : Nat} {pre post : List (Nat × Nat)} {a : Nat × Nat} (h : numd 0 (List.range n) = pre ++ a :: post) : a = (pre.length, pre.length) ∧ pre.length < n := by
  obtain ⟨h1, h2⟩ := numd_split h
  rw [Nat.zero_add] at h1
  have hl : pre.length < n := by
    have := congrArg List.length h
    rw [numd_length] at this
    simp at this
    omega
  rw [List.drop_eq_getElem_cons (by simpa using hl), List.getElem_range] at h2
  have := (List.cons.inj h2).1
  exact ⟨by rw [Prod.ext_iff]; exact ⟨h1, this.symm⟩, hl⟩
theorem tops_le {n : Nat} {S : Mch} (hM : MacOk n S) (t : Nat) {i : Nat} (hi : i < n) : topsN S i t ≤ 2 ^ t := by
  have h := tops_all hM t
  have h2 : topsN S i t ≤ ((List.range n).map fun i => topsN S i t).sum := by
    have hm : topsN S i t ∈ (List.range n).map fun i => topsN S i t := List.mem_map.mpr ⟨i, List.mem_range.mpr hi, rfl⟩
    generalize (List.range n).map (fun i => topsN S i t) = l at hm
    induction l with
    | nil => simp at hm
    | cons x l ih =>
      rw [List.sum_cons]
      rcases List.mem_cons.mp hm with h | h
      · omega
      · have := ih h; omega
  omega
def tpN (S : Mch) (j i : Nat) : Nat := if j = 0 then 0 else topsN S i (j - 1)
def pwN (j : Nat) : Nat := if j = 0 then 1 else 2 ^ (j - 1)
theorem fin_frozg {μ0 g : Store} {xs : List PV} {Q : PV → Store → Prop} (n : noRefs xs = true) (h : Q (.lst xs) μ0) : ∃ y μ', Gc μ0 (.mr (μ0.length + g.length)) (μ0 ++ g ++ [.lst xs]) y μ' ∧ Q y μ' := by
  refine ⟨_, _, .froz (μ0.length + g.length) (g ++ [.lst xs]) xs rfl (List.append_assoc ..) ?_ (by omega) n, h⟩
  rw [← List.length_append]
  exact getl _ _
theorem bitRows_len : ∀ k, (bitRows k).length = 2 ^ k
  | 0 => rfl
  | k + 1 => by
    have h : ∀ L : List (List Nat), (L.flatMap fun l => [l ++ [0], l ++ [1]]).length = 2 * L.length := fun L => by
      induction L with
      | nil => rfl
      | cons a L ih => rw [List.flatMap_cons, List.length_append, ih]; simp; omega
    show ((bitRows k).flatMap fun l => [l ++ [0], l ++ [1]]).length = _
    rw [h, bitRows_len k, Nat.pow_succ, Nat.mul_comm]
theorem noRefs_lots : ∀ L : List (List Nat), noRefs (L.map lotP) = true
  | [] => rfl
  | a :: L => by rw [List.map_cons, noRefs, noRefs_lots L, noRef_lot]; rfl
theorem lot_snoc (l : List Nat) (d : Nat) : PV.tup ((l.map fun (n : Nat) => PV.int n) ++ [.int (d : Nat)]) = lotP (l ++ [d]) := by
  unfold lotP
  rw [List.map_append]
  rfl
theorem sdP_map_toss (f : Nat) (x y : Nat) : PV.tup [.str (Str.ofString "toss"), .int ((x : Nat) + (f : Nat)), .int ((y : Nat) + (f : Nat))] = sdP (Sd.map (· + f) (.toss x y)) := by
  unfold sdP Sd.map
  simp only [Int.natCast_add]
theorem noRefs_sts : ∀ S : Mch, noRefs (S.map sdP) = true
  | [] => rfl
  | s :: S => by
    rw [List.map_cons, noRefs, noRefs_sts S]
    cases s <;> rfl
theorem noRef_mac (n : Nat) (S : Mch) : noRef (macP n S) = true := by
  unfold macP stsP
  simp only [noRef, noRefs, noRefs_sts, Bool.and_self]
theorem bitRows_mem : ∀ (k : Nat) {l : List Nat}, l ∈ bitRows k → l.length = k ∧ ∀ b ∈ l, b < 2
  | 0, l, h => by
    have : l = [] := by simpa [bitRows] using h
    subst this
    simp
  | k + 1, l, h => by
    obtain ⟨x, hx, hl⟩ := List.mem_flatMap.mp (show l ∈ (bitRows k).flatMap fun l => [l ++ [0], l ++ [1]] from h)
    obtain ⟨h1, h2⟩ := bitRows_mem k hx
    simp only [List.mem_cons, List.not_mem_nil, or_false] at hl
    rcases hl with rfl | rfl
    · refine ⟨by simp [h1], fun b hb => ?_⟩
      rcases List.mem_append.mp hb with hb | hb
      · exact h2 b hb
      · rw [List.mem_singleton.mp hb]; decide
    · refine ⟨by simp [h1], fun b hb => ?_⟩
      rcases List.mem_append.mp hb with hb | hb
      · exact h2 b hb
      · rw [List.mem_singleton.mp hb]; decide
theorem min_nat {many : Nat} (h : 1 ≤ many) {u : Int} (hu : 0 ≤ u) : ∃ x : Nat, (if u < (many : Nat) - 1 then u else ((many : Nat) : Int) - 1) = (x : Nat) ∧ x < many := by
  by_cases c : u < (many : Nat) - 1
  · exact ⟨u.toNat, by rw [if_pos c]; omega, by omega⟩
  · exact ⟨many - 1, by rw [if_neg c]; omega, by omega⟩
theorem int_nat {many : Nat} {u : Int} (h0 : 0 ≤ u) (h1 : u < many) : ∃ x : Nat, u = (x : Nat) ∧ x < many := ⟨u.toNat, by omega, by omega⟩
/-- what stands in the store while rows are counted: the lists of ends so far, the rows now -/
structure CountI (S : Mch) (n b j : Nat) (ks : List Nat) (p : Nat) (μ : Store) : Prop where
  fnd : μ[b + 1]? = some (.lst (ks.map .mr))
  len : ks.length = j
  end_ : ∀ (i k : Nat), ks[i]? = some k → μ[k]? = some (.lst ((List.range n).map fun x => .int (endN S x i 0 : Nat))) ∧ b + 2 ≤ k
  now : μ[p]? = some (.dk (rowsD (rowsAt S j)))
  np : b ≤ p ∧ p ≠ b + 1
theorem fin_counts {S : Mch} {n j p : Nat} {μ0 h : Store} {ks : List Nat} {Q : PV → Store → Prop} (hC : CountI S n μ0.length j ks p (μ0 ++ h)) (hQ : Q (.lst ((List.range j).map fun k => .lst ((List.range n).map fun x => .int (endN S x k 0 : Nat)))) μ0) :
    ∃ y μ', Gc μ0 (.mr (μ0.length + 1)) (μ0 ++ h) y μ' ∧ Q y μ' := by
  have e : ((List.range j).map fun k => PV.lst ((List.range n).map fun x => .int (endN S x k 0 : Nat))) = ((List.range j).map fun k => (List.range n).map fun x => PV.int (endN S x k 0 : Nat)).map PV.lst := by
    rw [List.map_map]
    rfl
  rw [e] at hQ
  refine ⟨_, _, .froz2 (μ0.length + 1) h ks ((List.range j).map fun k => (List.range n).map fun x => PV.int (endN S x k 0 : Nat)) rfl rfl hC.fnd (by omega) (by simp [hC.len]) (fun i k ys h1 h2 => ?_), hQ⟩
  obtain ⟨h3, h4⟩ := hC.end_ i k h1
  have hi : i < j := by
    have := (List.getElem?_eq_some_iff.mp h1).1
    rw [hC.len] at this
    exact this
  rw [List.getElem?_map, List.getElem?_range hi] at h2
  have h2 := Option.some.inj h2
  subst h2
  exact ⟨h3, by omega, noRefs_of (fun x => ((endN S x i 0 : Nat) : Int)) _⟩
theorem set_off (μ h : Store) (z : MO) : (μ ++ h).set (μ.length + 1) z = μ ++ h.set 1 z := by
  rw [List.set_append_right _ _ (by omega)]
  congr 2
  omega
theorem rowsD_val {r : Rows} (hn : r.keys.Nodup) {p : Nat × Nat} (hp : p ∈ r) : valP (rowsD r) (.inl (p.1 : Nat)) = some (.int (p.2 : Nat)) := by
  have h1 := rowsD_get r p.1
  rw [getR_mem hn hp] at h1
  unfold valP at h1 ⊢
  rw [rowsD_find] at h1 ⊢
  cases e : r.find? fun q => q.1 == p.1 with
  | none =>
    rw [List.find?_eq_none] at e
    exact absurd (by simp) (e p hp)
  | some q =>
    rw [e] at h1
    simpa using h1
theorem CountI.start (S : Mch) (n : Nat) (μ : Store) : CountI S n μ.length 0 [] μ.length (μ ++ [.dk (rowsD (rowsAt S 0)), .lst []]) := by
  refine ⟨?_, rfl, fun i k h => by simp at h, ?_, Nat.le_refl _, by omega⟩
  · rw [List.getElem?_append_right (by omega)]
    simp
  · rw [List.getElem?_append_right (by omega)]
    simp
theorem CountI.next {S : Mch} {n j p : Nat} {μ h : Store} {ks : List Nat} (hC : CountI S n μ.length j ks p (μ ++ h)) :
    CountI S n μ.length (j + 1) (ks ++ [(μ ++ h).length]) ((μ ++ h).length + 1) (μ ++ (h.set 1 (.lst (ks.map .mr ++ [.mr (μ ++ h).length])) ++ [.lst ((List.range n).map fun x => .int (endN S x j 0 : Nat)), .dk (rowsD (rowsAt S (j + 1)))])) := by
  have hl := (List.getElem?_eq_some_iff.mp hC.fnd).1
  have hl2 : 1 < h.length := by rw [List.length_append] at hl; omega
  have e : μ ++ (h.set 1 (.lst (ks.map .mr ++ [.mr (μ ++ h).length])) ++ [MO.lst ((List.range n).map fun x => .int (endN S x j 0 : Nat)), .dk (rowsD (rowsAt S (j + 1)))]) = (μ ++ h).set (μ.length + 1) (.lst (ks.map .mr ++ [.mr (μ ++ h).length])) ++ [MO.lst ((List.range n).map fun x => .int (endN S x j 0 : Nat)), .dk (rowsD (rowsAt S (j + 1)))] := by
    rw [set_off, List.append_assoc]
  rw [e]
  have hsl : ((μ ++ h).set (μ.length + 1) (.lst (ks.map .mr ++ [.mr (μ ++ h).length]))).length = (μ ++ h).length := List.length_set
  refine ⟨?_, by rw [List.length_append, hC.len]; rfl, fun i k hk => ?_, ?_, ?_⟩
  · rw [app_get (set_get hl _)]
    rw [List.map_append]
    rfl
  · by_cases hi : i < ks.length
    · rw [List.getElem?_append_left hi] at hk
      obtain ⟨h1, h2⟩ := hC.end_ i k hk
      refine ⟨?_, h2⟩
      refine app_get ?_ _
      rw [List.getElem?_set_ne (by omega)]
      exact h1
    · rw [List.getElem?_append_right (by omega)] at hk
      have hij : i = ks.length := by
        have := (List.getElem?_eq_some_iff.mp hk).1
        simp at this
        omega
      subst hij
      rw [Nat.sub_self] at hk
      have hk : (μ ++ h).length = k := by simpa using hk
      subst hk
      refine ⟨?_, by rw [List.length_append]; omega⟩
      rw [List.getElem?_append_right (by omega), hsl, Nat.sub_self, hC.len]
      rfl
  · rw [List.getElem?_append_right (by omega), hsl]
    simp
  · rw [List.length_append]
    omega

/-! ### repr of runs -/
def shwR : Option (Nat × Nat) → Str
  | none => ("None" : String)
  | some p => shwP (runP (some p))
def RunB (r : Option (Nat × Nat)) : Prop := ∀ p, r = some p → p.1 < 2 ^ 100 ∧ p.2 < 2 ^ 100
theorem pRepr_run2 {i k : Nat} {μ : Store} {P : PV → Store → Prop} (h : RunB (some (i, k))) (hP : P (.str (shwR (some (i, k)))) μ) : pRepr [.tup [.int (i : Nat), .int (k : Nat)]] μ P := by
  obtain ⟨h1, h2⟩ := h _ rfl
  have hb : ShB 1 3000 (.tup [.int (i : Nat), .int (k : Nat)]) := by
    refine (shb_tup (d := 0) (l := 101) fun x hx => ?_).mono (by decide) (by simp)
    rcases List.mem_cons.mp hx with rfl | hx
    · exact shb_small (k := 100) (by rw [Int.natAbs_natCast]; exact h1) (by decide) (by decide)
    · rw [List.mem_singleton.mp hx]
      exact shb_small (k := 100) (by rw [Int.natAbs_natCast]; exact h2) (by decide) (by decide)
  exact pRepr_tup hb (by decide) (by decide) hP
theorem pRepr_run {r : Option (Nat × Nat)} {μ : Store} {P : PV → Store → Prop} (h : RunB r) (hP : P (.str (shwR r)) μ) : pReprA [runP r] μ P := by
  cases r with
  | none => exact hP
  | some p => exact pRepr_run2 (i := p.1) (k := p.2) h hP
theorem runB_of {n : Nat} {S : Mch} {bs : List Nat} (hM : MacOk n S) {s : Nat} (hs : s < S.length) (hl : bs.length ≤ 1000) : RunB (runR S s bs) := fun p hp => by
  obtain ⟨h1, h2⟩ := run_bnd hM hs hp
  have := hM.n8
  have e : 1001 ≤ 2 ^ 100 := by decide
  exact ⟨by omega, by omega⟩
theorem isNon_run (r : Option (Nat × Nat)) : isNonP (runP r) = r.isNone := by cases r <;> rfl
theorem lot_neg (bs : List Nat) : PV.tup (cutP (bs.map fun (n : Nat) => PV.int n) none (some (-1))) = lotP (bs.take (bs.length - 1)) := by
  rw [show (-1 : Int) = -((1 : Nat) : Int) from rfl, cut_neg _ 1 (by decide), List.length_map, ← List.map_take]
  rfl
theorem eqP_run (r : Option (Nat × Nat)) (i k : Nat) (μ : Store) : eqP (runP r) (.tup [.int i, .int k]) μ = some (decide (r = some (i, k))) := by
  cases r with
  | none => rfl
  | some p =>
    show eqP (.tup [.int (p.1 : Nat), .int (p.2 : Nat)]) (.tup [.int i, .int k]) μ = _
    rw [eqP_tup2]
    congr 1
    rw [decide_eq_decide, Option.some.injEq, Prod.ext_iff]
    simp only
    omega
theorem intsP_nat (O : List Nat) : intsP (O.map fun (n : Nat) => PV.int n) = some (O.map fun (n : Nat) => (n : Int)) := by
  induction O with
  | nil => rfl
  | cons a O ih => rw [List.map_cons, intsP, ih]; rfl
theorem idxOf_cast (O : List Nat) (x : Nat) : (O.map fun (n : Nat) => (n : Int)).idxOf (x : Int) = O.idxOf x := by
  induction O with
  | nil => rfl
  | cons a O ih =>
    rw [List.map_cons, List.idxOf_cons, List.idxOf_cons, ih]
    by_cases h : a = x
    · subst h; simp
    · have e1 : ((a : Int) == (x : Int)) = false := by rw [beq_eq_false_iff_ne]; omega
      have e2 : (a == x) = false := by rw [beq_eq_false_iff_ne]; exact h
      rw [e1, e2]
theorem mem_cast {O : List Nat} {x : Nat} (h : x ∈ O) : (x : Int) ∈ O.map fun (n : Nat) => (n : Int) := List.mem_map.mpr ⟨x, h, rfl⟩
theorem erase_map {α β : Type} (f : α → β) : ∀ (l : List α) (j : Nat), (l.map f).eraseIdx j = (l.eraseIdx j).map f
  | [], _ => rfl
  | _ :: _, 0 => rfl
  | a :: l, j + 1 => by
    show f a :: (l.map f).eraseIdx j = f a :: (l.eraseIdx j).map f
    rw [erase_map f l j]
theorem erase_perm : ∀ {l : List Nat} {j : Nat} (h : j < l.length), List.Perm (l[j] :: l.eraseIdx j) l
  | a :: l, 0, _ => .refl _
  | a :: l, j + 1, h => by
    have h' : j < l.length := Nat.lt_of_succ_lt_succ h
    show List.Perm (l[j] :: a :: l.eraseIdx j) (a :: l)
    exact (List.Perm.swap a l[j] _).trans ((erase_perm h').cons a)
end Fx

namespace Fx
open PySem PySem.Spec PyProof.Rows L2 RZ
section
variable {P : Program} {w : World} {A : Around} {E : Value → Shared → Prop} {s : Shared}
/-- a set with nothing in it -/
abbrev bare (w : World) : Obj := { cls := .type "set", dict := none, data := .set #[] 0 (.fresh 0 0 (!w.params.followText "set-order")) }
theorem set_filled {S l : Addr} {items : Array Value} (ns : List Int) {Q : PySem.Fin → Shared → Prop} (hh : A.handled = none) (hS : s.heap.get? S = some (bare w)) (hl : s.heap.IsList l items) (hne : S ≠ l) (hit : IntsAre items.toList ns) (hb : ns.length + 1 < scanBound)
    (h : ∀ (h' : Heap) (tk c : Nat), SetR w h' S (fun j => decide (j ∈ ns)) c → c ≤ ns.length → (∀ b o, b ≠ S → s.heap.get? b = some o → h'.get? b = some o) → Q (.done (.ret .none)) { s with heap := h', toks := tk }) :
    wpAny (model P w) A (Builtin.«set.__init__» ⟨[.ref S, .ref l], []⟩) Q E s := by
  have o1 := F.sub_list_set
  have o2 := F.sub_list_frozenset
  have o3 : (Value.type "list" == Value.type "dict") = false := by decide
  obtain ⟨⟨lc, ld, lt, lsl⟩, hg, hcl, nl, hdl⟩ := id hl
  simp only at hcl hdl
  subst hcl hdl
  unfold Builtin.«set.__init__» noKeywords Builtin.Frozenset.updateFrom
  generalize hPI : pyIter = PI
  wp_walk
  subst hPI
  refine wpAny_pyIter_list hl ?_
  refine wpAny_bind (wpAny_runValue ?_)
  have a1 := Heap.lt_size hS
  have a2 := Heap.lt_size hg
  have hz : ns.length = items.size := by
    have := IntsAre.length hit
    rw [Array.length_toList] at this
    exact this.symm
  refine set_update_ints ((Walks.list (by simp [hh]) s.heap.objs.size l (Nat.ne_of_lt a2) items).toS) S ?_ ns hz.symm hb (fun i v hv => ?_) (items.size - 0) 0 _ (by omega) (Nat.zero_le _) ⟨⟨_, Heap.get?_push_size _ rfl, rfl, rfl⟩, hl.push _⟩ ⟨0, Nat.le_refl 0, setR_new_at (Heap.get?_push_of_some _ hS)⟩ fun s' c hm hc hR => ?_
  · intro hm
    rcases List.mem_cons.mp hm with e | e
    · exact absurd a1 (by rw [e]; exact Nat.lt_irrefl _)
    · exact hne (List.mem_singleton.mp e)
  · have hv' : items[i]? = some v := hv
    have hi : i < ns.length := by rw [hz]; exact (Array.getElem?_eq_some_iff.mp hv').1
    obtain ⟨t, e⟩ := IntsAre.int_at hit i v (by rw [Array.getElem?_toList]; exact hv')
    rw [List.getD_eq_getElem?_getD, List.getElem?_eq_getElem hi] at e
    exact ⟨_, t, List.getElem?_eq_getElem hi, e⟩
  · obtain ⟨h', g', d', tk, os'⟩ := s'
    have q1 : g' = s.gens := hm.gens
    have q2 : d' = s.drawn := hm.drawn
    have q3 : os' = s.os := hm.os
    subst q1 q2 q3
    show wpAny _ _ _ _ _ _
    refine wpAny_pure ?_
    show wpAny _ _ (ret Value.none) _ _ _
    refine wpAny_pure (h h' tk c hR (by omega) fun b o hbS e => ?_)
    refine hm.heap b o ?_ (Heap.get?_push_of_some _ e)
    have a3 := Heap.lt_size e
    intro hx
    rcases List.mem_cons.mp hx with e | hx
    · exact hbS e
    · have := List.mem_singleton.mp hx
      subst this
      exact absurd a3 (Nat.lt_irrefl _)
theorem set_from_list {l : Addr} {items : Array Value} (ns : List Int) {Q : Value → Shared → Prop} (hh : A.handled = none) (hl : s.heap.IsList l items) (hit : IntsAre items.toList ns) (hb : ns.length + 1 < scanBound)
    (h : ∀ (h' : Heap) (tk c : Nat), SetR w h' s.heap.objs.size (fun j => decide (j ∈ ns)) c → c ≤ ns.length → (∀ b o, s.heap.get? b = some o → h'.get? b = some o) → Q (.ref s.heap.objs.size) { s with heap := h', toks := tk }) :
    wpAny (model P w) A (call (.type "set") [.ref l]) Q E s := by
  have hlt : l < s.heap.objs.size := by
    obtain ⟨o, ho, _⟩ := id hl
    exact Heap.lt_size ho
  have f1 := F.called_set.notType
  have f2 := F.called_set.canCreate
  have f3 := F.typeCall_set_1 (.ref l)
  have f4 := F.called_set.made
  have f5 := sub_set_self
  have f6 := F.called_set.init.lookup
  obtain ⟨c0, tl, f7⟩ := F.called_set.mro
  refine wpAny_call (codeAny_of_tree ?_)
  show wpAny _ _ (callAny (.type "set") _) _ _ _
  refine wpAny_pure ⟨Code.quiet_builtin _ (by decide +kernel), codeAny_builtin F.entry_type_call ?_⟩
  rw [Around.under_plain (weight_type_call_type "set" [.ref l] []) rfl]
  repeat (any_goals (first | assumption | wp_step))
  refine codeAny_mono (code_set_led1 (.ref l) (E := E) (Q₁ := fun y s1 => y = .ref s.heap.objs.size ∧ s1 = { s with heap := s.heap.push (bare w) }) ⟨rfl, rfl⟩) fun r s1 hr => ?_
  match r, hr with
  | .error _, hr => exact hr
  | .ok (.ret y), ⟨e1, e2⟩ =>
    subst e1 e2
    have hS : (s.heap.push (bare w)).get? s.heap.objs.size = some (bare w) := Heap.get?_push_size _ rfl
    have hT : Shared.TypeIs { s with heap := s.heap.push (bare w) } (.ref s.heap.objs.size) "set" := ⟨_, hS, rfl⟩
    have f8 := F.called_set.init.bind (.ref s.heap.objs.size)
    repeat (any_goals (first | assumption | wp_step))
    refine codeAny_mono (codeAny_call_builtin (R := wants (fun y s2 => y = .none ∧ ∃ h' tk c, s2 = { s with heap := h', toks := tk } ∧ SetR w h' s.heap.objs.size (fun j => decide (j ∈ ns)) c ∧ c ≤ ns.length ∧ ∀ b o, s.heap.get? b = some o → h'.get? b = some o) E) F.called_set.init.plain F.entry_set_init (check_set_init_1 hT ?_)) fun r2 s2 hr2 => ?_
    · refine set_filled (s := { s with heap := s.heap.push (bare w) }) ns (by simp [hh]) hS (hl.push _) (Nat.ne_of_gt hlt) hit hb fun h' tk c hR hc hk => ?_
      exact ⟨rfl, h', tk, c, rfl, hR, hc, fun b o e => hk b o (Nat.ne_of_lt (Heap.lt_size e)) (Heap.get?_push_of_some _ e)⟩
    · match r2, hr2 with
      | .error _, hr2 => exact hr2
      | .ok (.ret y), ⟨e1, h', tk, c, e2, hR, hc, hk⟩ =>
        subst e1 e2
        repeat (any_goals (first | assumption | wp_step))
        exact h h' tk c hR hc hk
end
end Fx

/-! Fx20: sorted(set([..])), a list of numbers. -/
namespace Fx
open PySem PySem.Spec PyProof.Rows L2 RZ
def tSortSetL (K : PySem.W.Frag) (te : TE) : TE := fun σ H Q => te σ H fun v H1 => ∃ (p : Addr) (ns : List Int), v = .ref p ∧ SqL K H1 p (ns.map V.int) ∧ ns.length < 63 ∧
  ∀ (ms : List Int) (q : Addr), ms.Pairwise (· < ·) → (∀ k : Int, k ∈ ms ↔ k ∈ ns) → H1 q = none → Q (.ref q) (upd H1 q (.lst (ms.map V.int)))
theorem pe_sortSetL {X : Cx} {a : Expr} {te : TE} {p p2 q pos : Pos} (hc : X.calm = true) (hg : Gl X "sorted") (hm : X.mg "sorted" = none) (hg2 : Gl X "set") (hm2 : X.mg "set" = none) (ha : PE X a te)
    (na : starEach [a] X.env = (false, eval a X.env) :: starEach [] X.env := by rfl) : PE X (.Call (.Name "sorted" p) [.Call (.Name "set" p2) [a] [] q] [] pos) (tSortSetL X.K te) := by
  refine ⟨fun pins s σ H Q I h => ?_⟩
  refine wpAny_Call_Name_kw (ld_blt I hg hm boot_sorted ?_)
  refine PyProof.Rows.callWith_builtin1 (PyProof.Rows.args_cons ?_ rfl) rfl rfl
  refine wpAny_Call_Name_kw (ld_blt I hg2 hm2 boot_set ?_)
  refine PyProof.Rows.callWith_type1 (PyProof.Rows.args_cons (thn (ha.run pins s σ H _ I h) fun v s1 ⟨x, H1, I1, r1, q1⟩ => PyProof.Rows.args_nil ?_) na) na rfl
  obtain ⟨t, ns, rfl, hq, hl, q1⟩ := q1
  cases r1
  obtain ⟨its, rv, pl, hz⟩ := I1.list hq
  have hi : IntsAre its.toArray.toList ns := ints_of_vals rv
  have hd := I1.ok.hd hc
  refine set_from_list ns hd pl.isList hi (by unfold scanBound; omega) fun h' tk c R1 hcn k => ?_
  refine PyProof.Rows.args_nil ?_
  have hlt : s1.heap.objs.size < h'.objs.size := by
    have ⟨o, _, _, _, ho, _⟩ := R1
    exact Heap.lt_size ho
  refine sorted_set (s := { s1 with heap := h', toks := tk }) R1 hd (by omega) fun s' p out c2 ms k2 g o hp hg hi2 hs hm hln => ?_
  have hlen : (ms.map V.int).length ≤ sizeLine := by rw [List.length_map, hln, sizeLine_eq]; omega
  have hp' : s1.heap.objs.size ≤ p := Nat.le_trans (Nat.le_of_lt hlt) hp
  have hn : H1 p = none := I1.hok.fresh hp'
  have kall : ∀ b u, s1.heap.get? b = some u → s'.heap.get? b = some u := fun b u e => k2 b u (k b u e)
  have J : Inv X pins σ (upd H1 p (.lst (ms.map V.int))) { s1 with heap := s'.heap, gens := s'.gens, drawn := s'.drawn, toks := s'.toks } :=
    I1.call (ch := []) (Un.laid kall hp' hn) (I1.hok.laid kall hp' ⟨hlen, out.toList, c2, vals_of_ints hi2, hg⟩) (by rw [g]; exact I1.bare) (fun _ z => nomatch z)
  have e : s' = { s1 with heap := s'.heap, gens := s'.gens, drawn := s'.drawn, toks := s'.toks } := by
    cases s'
    cases s1
    cases o
    rfl
  rw [e]
  exact ⟨.ref p, _, J, rfl, q1 ms p hs (fun k => by rw [hm k, decide_eq_true_eq]) hn⟩
section
variable {K : PySem.W.Frag}
def mSortSetL (m : ME) : ME := fun ρ μ P => m ρ μ fun x μ1 => match x with | .lst ys => (match intsP ys with | some ns => ns.length < 63 ∧ ∀ ms : List Int, ms.Pairwise (· < ·) → (∀ k : Int, k ∈ ms ↔ k ∈ ns) → P (.lst (ms.map PV.int)) μ1 | none => False) | _ => False
instance {t m} [h : FE K t m] : FE K (tSortSetL K t) (mSortSetL m) := ⟨fun d σ H ρ μ P Q w e q k => by
  refine h.run d σ H ρ μ _ _ w e q fun d1 H1 μ1 x v e1 w1 r1 q1 => ?_
  match x, r1, q1 with
  | .lst ys, .lst (a := a) (vs := vs) h1 h2, q1 =>
    simp only at q1
    cases e2 : intsP ys with
    | none => rw [e2] at q1; exact q1.elim
    | some ns =>
      rw [e2] at q1
      have ev := RVs.ints_of h2 (intsP_of e2)
      subst ev
      exact ⟨a, ns, rfl, h1.sq, q1.1, fun ms q hs hm hq => k d1 _ μ1 _ _ (e1.trans (Ext.lay w1 hq)) (w1.lay hq) (lay_lst w1 (RVs.of_ints ms) hq) (q1.2 ms hs hm)⟩⟩
end
/-! ### chances of a machine -/
open MR
theorem end_le {n : Nat} {S : Mch} (hM : MacOk n S) {i : Nat} (hi : i < n) (k : Nat) : endN S i k 0 ≤ 2 ^ k := by
  have h := tops_le hM k hi
  cases k with
  | zero => exact h
  | succ k =>
    have : topsN S i (k + 1) = 2 * topsN S i k + endN S i (k + 1) 0 := rfl
    omega
theorem end_lt {n : Nat} {S : Mch} (hM : MacOk n S) {i : Nat} (hi : i < n) {k : Nat} (hk : k ≤ 201) : endN S i k 0 < 2 ^ 300 :=
  Nat.lt_of_le_of_lt (end_le hM hi k) (Nat.pow_lt_pow_right (by decide) (by omega))
def tq (S : Mch) (t i : Nat) : Rat := Rat.divInt (topsN S i t : Nat) (2 ^ t)
def chs (n : Nat) (S : Mch) (t : Nat) : List Rat := (List.range n).map fun i => tq S t i
theorem sm_tq {n : Nat} {S : Mch} (hM : MacOk n S) {i t : Nat} (hi : i < n) (ht : t ≤ 201) : Sm 202 (tq S t i) :=
  sm_divInt (by rw [Int.natAbs_natCast]; exact Nat.lt_of_le_of_lt (tops_le hM t hi) (Nat.pow_lt_pow_right (by decide) (by omega))) (p2pos t) (pow_le2 (p2_abs t) (by omega))
theorem sm_chs {n : Nat} {S : Mch} (hM : MacOk n S) {t : Nat} (ht : t ≤ 201) : ∀ q ∈ chs n S t, Sm 202 q := fun q hq => by
  obtain ⟨i, hi, rfl⟩ := List.mem_map.mp hq
  exact sm_tq hM (List.mem_range.mp hi) ht
theorem go_le {n : Nat} {S : Mch} (hM : MacOk n S) (t : Nat) : goN S t 0 ≤ 2 ^ t := by
  have := tops_all hM t
  omega
theorem sm_go {n : Nat} {S : Mch} (hM : MacOk n S) {t : Nat} (ht : t ≤ 201) : Sm 202 (Rat.divInt (goN S t 0 : Nat) (2 ^ t)) :=
  sm_divInt (by rw [Int.natAbs_natCast]; exact Nat.lt_of_le_of_lt (go_le hM t) (Nat.pow_lt_pow_right (by decide) (by omega))) (p2pos t) (pow_le2 (p2_abs t) (by omega))
theorem add_parts {D : Int} (hD : 0 < D) (a b : Int) : Rat.divInt a D + Rat.divInt b D = Rat.divInt (a + b) D := by
  rw [Rat.divInt_eq_div, Rat.divInt_eq_div, Rat.divInt_eq_div, Rat.intCast_add, Rat.div_def, Rat.div_def, Rat.div_def, Rat.add_mul]
theorem sum_parts {D : Int} (hD : 0 < D) : ∀ l : List Nat, (l.map fun (a : Nat) => Rat.divInt (a : Nat) D).sum = Rat.divInt (l.sum : Nat) D
  | [] => by simp
  | a :: l => by
    rw [List.map_cons, List.sum_cons, sum_parts hD l, add_parts hD, List.sum_cons]
    rfl
theorem chs_rest {n : Nat} {S : Mch} (hM : MacOk n S) (t : Nat) : 1 - (chs n S t).sum = Rat.divInt (goN S t 0 : Nat) (2 ^ t) := by
  have h := tops_all hM t
  have e : (chs n S t).sum = Rat.divInt (((List.range n).map fun i => topsN S i t).sum : Nat) (2 ^ t) := by
    rw [← sum_parts (p2pos t), List.map_map]
    rfl
  have e2 : Rat.divInt (((List.range n).map fun i => topsN S i t).sum : Nat) (2 ^ t) + Rat.divInt (goN S t 0 : Nat) (2 ^ t) = 1 := by
    rw [add_parts (p2pos t), ← Int.natCast_add, h, cast2, Rat.divInt_self']
    have := p2pos t
    omega
  rw [e, ← e2]
  grind
theorem tq_up (S : Mch) (t i : Nat) : ¬ tq S (t + 1) i < tq S t i := by
  have h : topsN S i (t + 1) = 2 * topsN S i t + endN S i (t + 1) 0 := rfl
  rw [Rat.not_lt]
  have e1 : tq S t i = Rat.divInt (2 * (topsN S i t : Nat)) (2 ^ (t + 1)) := by
    unfold tq
    rw [Int.pow_succ, Int.mul_comm _ 2, Rat.divInt_mul_left (by decide)]
  have e2 : tq S (t + 1) i = Rat.divInt (2 * (topsN S i t : Nat)) (2 ^ (t + 1)) + Rat.divInt (endN S i (t + 1) 0 : Nat) (2 ^ (t + 1)) := by
    unfold tq
    rw [add_parts (p2pos _), h]
    rfl
  have e3 : (0 : Rat) ≤ Rat.divInt (endN S i (t + 1) 0 : Nat) (2 ^ (t + 1)) := Rat.divInt_nonneg (Int.natCast_nonneg _) (Int.le_of_lt (p2pos _))
  rw [e1, e2]
  grind
theorem pReprA_tab {qs : List Rat} {d l : Nat} {μ : Store} {P : PV → Store → Prop} (h : ShB d l (tabP qs)) (hd : d ≤ 60) (hl : l ≤ lim) (hP : P (.str (shwP (tabP qs))) μ) : pReprA [tabP qs] μ P := by
  unfold tabP at *
  exact pRepr_tup h hd hl hP
theorem items_mac (n : Nat) (S : Mch) (μ : Store) : itemsOf (macP n S) μ = some [.int (n : Nat), stsP S] := rfl
end Fx

/-! Fx21: max and min of a list of pairs of numbers. -/
namespace Fx
open PySem PySem.Spec PyProof.Rows L2 RZ MR
inductive PT (K : PySem.W.Frag) (H : Hp) : List V → List (Int × Int) → Prop
  | nil : PT K H [] []
  | cons {x : V} {p : Int × Int} {xs : List V} {ps : List (Int × Int)} : Dp K H x (.tuple [.int p.1, .int p.2]) → PT K H xs ps → PT K H (x :: xs) (p :: ps)
theorem PT.get {K : PySem.W.Frag} {H : Hp} : ∀ {xs : List V} {ps : List (Int × Int)} {i : Nat} {x : V}, PT K H xs ps → xs[i]? = some x → ∃ p, ps[i]? = some p ∧ Dp K H x (.tuple [.int p.1, .int p.2])
  | _, _, _, _, .nil, h => by simp at h
  | _, _, 0, _, .cons r _, h => by
    simp at h; subst h; exact ⟨_, rfl, r⟩
  | _, _, i + 1, _, .cons _ t, h => by
    obtain ⟨v, e, r⟩ := PT.get (i := i) t (by simpa using h)
    exact ⟨v, by simpa using e, r⟩
theorem PT.hold {X : Cx} {pins : List (Addr × Obj)} {σ : L2.St} {H : Hp} {s : Shared} (I : L2.Inv X pins σ H s) : ∀ {xs : List V} {us : List Value} {ps : List (Int × Int)}, PT X.K H xs ps → Vals xs us → PySem.W.HoldAll s.heap us ps
  | _, _, _, .nil, .nil => ⟨[], .nil⟩
  | _, _, _, .cons r t, .cons rv tv => by
    obtain ⟨as, q⟩ := Dp.reads I _ _ _ r rv
    obtain ⟨bs, qs⟩ := PT.hold I t tv
    exact ⟨as ++ bs, .cons q qs⟩
theorem vals_back : ∀ {xs : List V} {us : List Value} {i : Nat} {u : Value}, Vals xs us → us[i]? = some u → ∃ x, xs[i]? = some x ∧ L2.RelV x u
  | _, _, _, _, .nil, h => by simp at h
  | _, _, 0, _, .cons r _, h => by
    simp at h; subst h; exact ⟨_, rfl, r⟩
  | _, _, i + 1, _, .cons _ t, h => by
    obtain ⟨v, e, r⟩ := vals_back (i := i) t (by simpa using h)
    exact ⟨v, by simpa using e, r⟩
def rMaxT (K : PySem.W.Frag) (f : Int × Int → List (Int × Int) → Int × Int) : List V → Hp → VK → Prop := fun vs H Q => ∃ (a : Addr) (xs : List V) (p : Int × Int) (ps : List (Int × Int)), vs = [V.ref a] ∧ SqL K H a xs ∧ PT K H xs (p :: ps) ∧
  ∀ (i : Nat) (x : V), xs[i]? = some x → (p :: ps)[i]? = some (f p ps) → Q x H
theorem mt_end {X : Cx} {pins : List (Addr × Obj)} {σ : L2.St} {H : Hp} {s : Shared} (I : L2.Inv X pins σ H s) {xs : List V} {its : List Value} {p m : Int × Int} {ps : List (Int × Int)} {Q : VK} (rv : Vals xs its) (hp : PT X.K H xs (p :: ps))
    (q : ∀ (i : Nat) (x : V), xs[i]? = some x → (p :: ps)[i]? = some m → Q x H) {i : Nat} {v : Value} {h' : Heap} (hv : its.toArray[i]? = some v) (hh : PySem.W.Holds h' v m) (hk : ∀ (b : Addr) (o : Obj), s.heap.get? b = some o → h'.get? b = some o) :
    ∃ x, L2.RelV x v ∧ Q x H := by
  have hv : its[i]? = some v := by simpa using hv
  obtain ⟨x, hx, rx⟩ := vals_back rv hv
  obtain ⟨p', hp', dp⟩ := hp.get hx
  obtain ⟨as, rd⟩ := Dp.reads I _ _ _ dp rx
  obtain ⟨bs, rd2⟩ := hh
  have rd1 := Reads.keeps hk rd
  have e := SeqAt.Reads.unique _ _ _ _ _ (by rfl) rd1 rd2
  have e : PyData.tuple [.int p'.1, .int p'.2] = .tuple [.int m.1, .int m.2] := e
  simp only [PyData.tuple.injEq, List.cons.injEq, PyData.int.injEq, and_true] at e
  have e2 : p' = m := Prod.ext e.1 e.2
  subst e2
  exact ⟨x, rx, q i x hx hp'⟩
theorem plainL_is {h : Heap} {a : Addr} {its : Array Value} (p : PlainL h a its) : h.IsList a its := let ⟨o, n, h1, h2, _, h4⟩ := p; ⟨o, h1, h2, n, h4⟩
theorem cb_maxT {X : Cx} (hc : X.calm = true) (hu : X.A.units + 64 < cLine) : CallR X (.builtin "max") (rMaxT X.K fun p ps => PySem.W.maxOf p ps) := by
  intro pins s σ H vs us Q I r h
  obtain ⟨a, xs, p, ps, rfl, hs, hp, q⟩ := h
  obtain ⟨its, rv, ht, _⟩ := I.list hs
  rw [Vals.ref1 r]
  refine PySem.W.max_list_datum (α := Int × Int) (x := p) (xs := ps) (I.ok.hd hc) (plainL_is ht) (hp.hold I rv) (by show X.A.units + 1 + 1 < cLine; omega) fun i v h' tk hv hh hk => ?_
  obtain ⟨x, rx, q⟩ := mt_end I rv hp q hv hh hk
  exact ⟨x, H, I.kept hk, rx, q⟩
theorem cb_minT {X : Cx} (hc : X.calm = true) (hu : X.A.units + 64 < cLine) : CallR X (.builtin "min") (rMaxT X.K fun p ps => PySem.W.minOf p ps) := by
  intro pins s σ H vs us Q I r h
  obtain ⟨a, xs, p, ps, rfl, hs, hp, q⟩ := h
  obtain ⟨its, rv, ht, _⟩ := I.list hs
  rw [Vals.ref1 r]
  refine PySem.W.min_list_datum (α := Int × Int) (x := p) (xs := ps) (I.ok.hd hc) (plainL_is ht) (hp.hold I rv) (by show X.A.units + 1 + 1 < cLine; omega) fun i v h' tk hv hh hk => ?_
  obtain ⟨x, rx, q⟩ := mt_end I rv hp q hv hh hk
  exact ⟨x, H, I.kept hk, rx, q⟩
def pairsP : List PV → Option (List (Int × Int))
  | [] => some []
  | .tup [.int i, .int j] :: xs => (pairsP xs).map ((i, j) :: ·)
  | _ => none
theorem pairsP_map : ∀ (ps : List (Int × Int)), pairsP (ps.map fun p => PV.tup [.int p.1, .int p.2]) = some ps
  | [] => rfl
  | p :: ps => by simp only [List.map_cons, pairsP, pairsP_map ps, Option.map_some]
theorem pairsP_of : ∀ {xs : List PV} {ps : List (Int × Int)}, pairsP xs = some ps → xs = ps.map fun p => PV.tup [.int p.1, .int p.2]
  | [], ps, h => by cases h; rfl
  | x :: xs, ps, h => by
    unfold pairsP at h
    split at h
    · rename_i e; cases e
    · rename_i i j ys e
      cases e
      cases c : pairsP xs with
      | none => rw [c] at h; cases h
      | some qs =>
        rw [c] at h
        injection h with h
        rw [← h, pairsP_of c]
        rfl
    · cases h
def pMaxT (f : Int × Int → List (Int × Int) → Int × Int) : MB := fun xs μ P => match xs with | [.lst ys] => (match pairsP ys with | some (p :: ps) => P (.tup [.int (f p ps).1, .int (f p ps).2]) μ | _ => False) | _ => False
section
variable {K : PySem.W.Frag} {d : Wd} {H : Hp} {μ : Store}
theorem pt_of (w : WOk K d H μ) : ∀ {ps : List (Int × Int)} {vs : List V}, RVs K d H (ps.map fun p => PV.tup [.int p.1, .int p.2]) vs → PT K H vs ps
  | [], _, .nil => .nil
  | p :: ps, _, .cons r t => .cons (frz_dp w r rfl) (pt_of w t)
instance {f : Int × Int → List (Int × Int) → Int × Int} : FB K (rMaxT K f) (pMaxT f) := ⟨fun d H μ xs vs P Q w r q k => by
  match xs, r, q with
  | [.lst ys], .cons (.lst (a := a) (vs := us) h1 h2) .nil, q =>
    unfold pMaxT at q
    simp only at q
    cases e : pairsP ys with
    | none => rw [e] at q; exact q.elim
    | some l =>
      cases l with
      | nil => rw [e] at q; exact q.elim
      | cons p ps =>
        rw [e] at q
        simp only at q
        have ey := pairsP_of e
        subst ey
        refine ⟨a, us, p, ps, rfl, h1.sq, pt_of w h2, fun i x hx hm => ?_⟩
        obtain ⟨y, hy, ry⟩ := h2.getr hx
        rw [List.getElem?_map, hm] at hy
        simp only [Option.map_some, Option.some.injEq] at hy
        subst hy
        exact k d H μ _ _ .refl w ry q⟩
end
theorem maxOf_mem : ∀ (ps : List (Int × Int)) (p : Int × Int), PySem.W.maxOf p ps ∈ p :: ps
  | [], p => List.mem_cons_self
  | q :: ps, p => by
    have : PySem.W.maxOf p (q :: ps) = PySem.W.maxOf (if PySem.W.DatumOrd.lt p q = true then q else p) ps := rfl
    rw [this]
    have h := maxOf_mem ps (if PySem.W.DatumOrd.lt p q = true then q else p)
    split at h
    · rename_i c; rw [if_pos c]; exact List.mem_cons_of_mem _ h
    · rename_i c; rw [if_neg c]
      rcases List.mem_cons.mp h with h | h
      · rw [h]; exact List.mem_cons_self
      · exact List.mem_cons_of_mem _ (List.mem_cons_of_mem _ h)
theorem minOf_mem : ∀ (ps : List (Int × Int)) (p : Int × Int), PySem.W.minOf p ps ∈ p :: ps
  | [], p => List.mem_cons_self
  | q :: ps, p => by
    have : PySem.W.minOf p (q :: ps) = PySem.W.minOf (if PySem.W.DatumOrd.lt q p = true then q else p) ps := rfl
    rw [this]
    have h := minOf_mem ps (if PySem.W.DatumOrd.lt q p = true then q else p)
    split at h
    · rename_i c; rw [if_pos c]; exact List.mem_cons_of_mem _ h
    · rename_i c; rw [if_neg c]
      rcases List.mem_cons.mp h with h | h
      · rw [h]; exact List.mem_cons_self
      · exact List.mem_cons_of_mem _ (List.mem_cons_of_mem _ h)
theorem pair_lt (p q : Int × Int) : PySem.W.DatumOrd.lt p q = true ↔ p.1 < q.1 ∨ p.1 = q.1 ∧ p.2 < q.2 := by
  have e : PySem.W.DatumOrd.lt p q = PySem.W.dataLt (.tuple [.int p.1, .int p.2]) (.tuple [.int q.1, .int q.2]) := (PySem.W.DatumOrd.lt_eq p q).symm
  rw [e]
  unfold PySem.W.dataLt
  have h : ∀ a b : Int, itemLt (.inl a) (.inl b) = decide (a < b) := fun _ _ => rfl
  simp [PySem.W.keyToks, PySem.W.keyToksAll, PyProof.Rows.lexLt, itemOrd]
  simp only [h]
  simp
  omega
/-! ### sorted of a list of pairs of small numbers -/
theorem perm_mapB {α β : Type} {f : α → β} {l : List β} {m : List α} (h : l.Perm (m.map f)) : ∃ k : List α, k.Perm m ∧ l = k.map f := by
  have key : ∀ {l l2 : List β}, l.Perm l2 → ∀ {m : List α}, l2 = m.map f → ∃ k : List α, k.Perm m ∧ l = k.map f := by
    intro l l2 h
    induction h with
    | nil => intro m e; exact ⟨m, .refl _, e⟩
    | cons x h ih =>
      intro m e
      cases m with
      | nil => cases e
      | cons y m =>
        rw [List.map_cons] at e
        injection e with e1 e2
        obtain ⟨k, p, q⟩ := ih e2
        exact ⟨y :: k, p.cons _, by rw [List.map_cons, e1, q]⟩
    | swap x y l =>
      intro m e
      match m, e with
      | a :: b :: m, e =>
        simp only [List.map_cons, List.cons.injEq] at e
        obtain ⟨e1, e2, e3⟩ := e
        exact ⟨b :: a :: m, .swap _ _ _, by rw [List.map_cons, List.map_cons, e1, e2, e3]⟩
    | trans h1 h2 ih1 ih2 =>
      intro m e
      obtain ⟨k, p, q⟩ := ih2 e
      obtain ⟨k2, p2, q2⟩ := ih1 q
      exact ⟨k2, p2.trans p, q2⟩
  exact key h rfl
section
variable {K : PySem.W.Frag} {d : Wd} {H : Hp} {μ : Store}
theorem RVs.permB : ∀ {vs ws : List V}, ws.Perm vs → ∀ {xs : List PV}, RVs K d H xs vs → ∃ ys : List PV, ys.Perm xs ∧ RVs K d H ys ws := by
  intro vs ws h
  induction h with
  | nil => intro xs r; exact ⟨xs, .refl _, r⟩
  | cons x h ih =>
    intro xs r
    cases r with
    | cons r t =>
      obtain ⟨ys, p, q⟩ := ih t
      exact ⟨_ :: ys, p.cons _, .cons r q⟩
  | swap x y l =>
    intro xs r
    cases r with
    | cons r t =>
      cases t with
      | cons r2 t => exact ⟨_ :: _ :: _, .swap _ _ _, .cons r2 (.cons r t)⟩
  | trans h1 h2 ih1 ih2 =>
    intro xs r
    obtain ⟨ys, p, q⟩ := ih2 r
    obtain ⟨zs, p2, q2⟩ := ih1 q
    exact ⟨zs, p2.trans p, q2⟩
def pairV (p : Int × Int) : PV := .tup [.int p.1, .int p.2]
def lexP (p q : Int × Int) : Prop := p.1 < q.1 ∨ p.1 = q.1 ∧ p.2 ≤ q.2
def rSortT (K : PySem.W.Frag) : List V → Hp → VK → Prop := rSortU K 2 1000
theorem cb_sortT {X : Cx} : CallR X (.builtin "sorted") (rSortT X.K) := cr_sortT (by decide)
def pSortT : MB := fun xs μ P => match xs with | [.lst ys] => (match pairsP ys with | some ps => ps.length < 64 ∧ (∀ p ∈ ps, 0 ≤ p.1 ∧ p.1 < 1000 ∧ 0 ≤ p.2 ∧ p.2 < 1000) ∧ ∀ qs : List (Int × Int), qs.Perm ps → qs.Pairwise lexP → P (.lst (qs.map pairV)) μ | none => False) | _ => False
theorem code_two (B i j : Int) : TS.code B [i, j] = i * B + j := by
  simp [TS.code, Int.pow_succ]
theorem lex_of {p q : Int × Int} (h1 : 0 ≤ p.1 ∧ p.1 < 1000 ∧ 0 ≤ p.2 ∧ p.2 < 1000) (h2 : 0 ≤ q.1 ∧ q.1 < 1000 ∧ 0 ≤ q.2 ∧ q.2 < 1000) (h : TS.code 1000 [p.1, p.2] ≤ TS.code 1000 [q.1, q.2]) : lexP p q := by
  rw [code_two, code_two] at h
  unfold lexP
  omega
theorem rv_pair {p : Int × Int} {v : V} (r : RV K d H (pairV p) v) : TupI K H v [p.1, p.2] := by
  cases r with
  | tup h1 h2 =>
    have e := RVs.ints (ns := [p.1, p.2]) h2
    subst e
    exact ⟨_, rfl, h1.sq⟩
theorem pw_of : ∀ {qs : List (Int × Int)} {ws : List V}, RVs K d H (qs.map pairV) ws → (∀ p ∈ qs, 0 ≤ p.1 ∧ p.1 < 1000 ∧ 0 ≤ p.2 ∧ p.2 < 1000) → ws.Pairwise (fun x y => ∀ n m, TupI K H x n → TupI K H y m → TS.code 1000 n ≤ TS.code 1000 m) → qs.Pairwise lexP
  | [], _, _, _, _ => .nil
  | p :: qs, _, .cons r t, hb, hp => by
    obtain ⟨h1, h2⟩ := List.pairwise_cons.mp hp
    refine List.pairwise_cons.mpr ⟨fun q hq => ?_, pw_of t (fun x hx => hb x (List.mem_cons_of_mem _ hx)) h2⟩
    obtain ⟨i, hi, rfl⟩ := List.getElem_of_mem hq
    have e : (qs.map pairV)[i]? = some (pairV qs[i]) := by rw [List.getElem?_map, List.getElem?_eq_getElem hi]; rfl
    obtain ⟨v, hv, rv⟩ := t.get e
    exact lex_of (hb p List.mem_cons_self) (hb _ (List.mem_cons_of_mem _ hq)) (h1 v (List.mem_of_getElem? hv) _ _ (rv_pair r) (rv_pair rv))
instance : FB K (rSortT K) pSortT := ⟨fun d H μ xs vs P Q w r q k => by
  match xs, r, q with
  | [.lst ys], .cons (.lst (a := a) (vs := us) h1 h2) .nil, q =>
    unfold pSortT at q
    simp only at q
    cases e : pairsP ys with
    | none => rw [e] at q; exact q.elim
    | some ps =>
      rw [e] at q
      obtain ⟨q1, q2, q3⟩ := q
      have ey := pairsP_of e
      subst ey
      have h2 : RVs K d H (ps.map pairV) us := h2
      have hl := h2.length
      rw [List.length_map] at hl
      refine ⟨a, us, rfl, h1.sq, by omega, fun x hx => ?_, fun ws p hp hs hn => ?_⟩
      · obtain ⟨i, hi, rfl⟩ := List.getElem_of_mem hx
        obtain ⟨y, hy, ry⟩ := h2.getr (List.getElem?_eq_getElem hi)
        rw [List.getElem?_map] at hy
        cases c : ps[i]? with
        | none => rw [c] at hy; cases hy
        | some pp =>
          rw [c] at hy
          simp only [Option.map_some, Option.some.injEq] at hy
          subst hy
          have hb := q2 pp (List.mem_of_getElem? c)
          refine ⟨_, rv_pair ry, rfl, fun m hm => ?_⟩
          simp only [List.mem_cons, List.not_mem_nil, or_false] at hm
          rcases hm with rfl | rfl <;> omega
      · obtain ⟨zs, z1, z2⟩ := RVs.permB hp h2
        have hz : ∃ qs : List (Int × Int), qs.Perm ps ∧ zs = qs.map pairV := by
          have := perm_mapB z1
          exact this
        obtain ⟨qs, p1, rfl⟩ := hz
        have hb : ∀ x ∈ qs, 0 ≤ x.1 ∧ x.1 < 1000 ∧ 0 ≤ x.2 ∧ x.2 < 1000 := fun x hx => q2 x (p1.mem_iff.mp hx)
        exact k d _ μ _ _ (Ext.lay w hn) (w.lay hn) (lay_lst w z2 hn) (q3 qs p1 (pw_of z2 hb hs))⟩
end
end Fx

namespace MR
/-! wants: W is 2 ^ w -/
def wadd (t : Nat) (x : Nat × Nat × Nat × Nat) : Nat × Nat × Nat × Nat := (x.1, x.2.1, x.2.2.1, t + x.2.2.2)
def wlm (W n m : Nat) : Nat := if W ≤ m then m - m / n * n else m
def wlr (W n m r : Nat) : Nat := if W ≤ m then r - m / n * n else r
def wnt (W n : Nat) : List Nat → Nat → Nat → Option (Nat × Nat × Nat × Nat)
  | [], m, r => if W ≤ m ∧ r < m / n * n then some (r % n, m / n, r / n, 0) else none
  | b :: bs, m, r => if W ≤ m ∧ r < m / n * n then some (r % n, m / n, r / n, 0) else (wnt W n bs (2 * wlm W n m) (2 * wlr W n m r + b)).map (wadd 1)
section
variable {W n m r : Nat}
theorem wnt_acc (bs : List Nat) (h1 : W ≤ m) (h2 : r < m / n * n) : wnt W n bs m r = some (r % n, m / n, r / n, 0) := by
  cases bs <;> simp [wnt, h1, h2]
theorem wnt_bit (b : Nat) (bs : List Nat) (h1 : m < W) : wnt W n (b :: bs) m r = (wnt W n bs (2 * m) (2 * r + b)).map (wadd 1) := by
  have h : ¬ W ≤ m := by omega
  simp [wnt, h, wlm, wlr]
theorem wnt_nil (h1 : m < W) : wnt W n [] m r = none := by
  have h : ¬ W ≤ m := by omega
  simp [wnt, h]
theorem mod_lt' (h0 : 0 < n) : m - m / n * n < n := by
  have h1 := Nat.mod_lt m h0
  have h2 := Nat.div_add_mod m n
  rw [Nat.mul_comm] at h2
  omega
theorem wnt_rej (bs : List Nat) (h0 : 0 < n) (hn : n ≤ W) (h1 : W ≤ m) (h2 : ¬ r < m / n * n) : wnt W n bs m r = wnt W n bs (m - m / n * n) (r - m / n * n) := by
  have h3 : m - m / n * n < n := mod_lt' h0
  have h4 : ¬ W ≤ m - m / n * n := by omega
  cases bs <;> simp [wnt, h1, h2, h4, wlm, wlr]
/-- a want whose bits are taken from the place t on -/
def wntT (W n : Nat) (bs : List Nat) (t m r : Nat) : Option (Nat × Nat × Nat × Nat) := (wnt W n (bs.drop t) m r).map (wadd t)
theorem wntT_zero (bs : List Nat) (m r : Nat) : wntT W n bs 0 m r = wnt W n bs m r := by
  unfold wntT
  rw [List.drop_zero]
  cases wnt W n bs m r with
  | none => rfl
  | some x => obtain ⟨a, b, c, d⟩ := x; simp [wadd]
theorem wntT_acc (bs : List Nat) (t : Nat) (h1 : W ≤ m) (h2 : r < m / n * n) : wntT W n bs t m r = some (r % n, m / n, r / n, t) := by
  unfold wntT; rw [wnt_acc _ h1 h2]; rfl
theorem wntT_end (bs : List Nat) (h1 : m < W) : wntT W n bs bs.length m r = none := by
  unfold wntT; rw [List.drop_length, wnt_nil h1]; rfl
theorem wntT_bit {bs : List Nat} {t : Nat} (ht : t < bs.length) (h1 : m < W) : wntT W n bs t m r = wntT W n bs (t + 1) (2 * m) (2 * r + bs.getD t 0) := by
  unfold wntT
  rw [List.drop_eq_getElem_cons ht, wnt_bit _ _ h1, List.getD_eq_getElem?_getD, List.getElem?_eq_getElem ht, Option.getD_some, Option.map_map]
  congr 1
  funext x
  obtain ⟨a, b, c, d⟩ := x
  simp [wadd]; omega
theorem wntT_rej (bs : List Nat) (t : Nat) (h0 : 0 < n) (hn : n ≤ W) (h1 : W ≤ m) (h2 : ¬ r < m / n * n) : wntT W n bs t m r = wntT W n bs t (m - m / n * n) (r - m / n * n) := by
  unfold wntT; rw [wnt_rej _ h0 hn h1 h2]
theorem wl_ok (h0 : 0 < n) (hn : n ≤ W) (hr : r < m) (hm : m < 2 * W) (h : ¬ (W ≤ m ∧ r < m / n * n)) {b : Nat} (hb : b < 2) :
    2 * wlr W n m r + b < 2 * wlm W n m ∧ 2 * wlm W n m < 2 * W := by
  have h3 : m - m / n * n < n := mod_lt' h0
  unfold wlr wlm
  by_cases h1 : W ≤ m
  · have h2 : ¬ r < m / n * n := fun z => h ⟨h1, z⟩
    rw [if_pos h1, if_pos h1]
    have h4 : m / n * n ≤ m := Nat.div_mul_le_self m n
    omega
  · rw [if_neg h1, if_neg h1]
    omega
theorem wnt_ok (h0 : 0 < n) (hn : n ≤ W) : ∀ {bs : List Nat} {m r o q l t : Nat}, (∀ b ∈ bs, b < 2) → r < m → m < 2 * W → wnt W n bs m r = some (o, q, l, t) → o < n ∧ l < q ∧ q * n < 2 * W ∧ t ≤ bs.length := by
  have key : ∀ {m r o q l t : Nat}, r < m / n * n → m < 2 * W → some (r % n, m / n, r / n, 0) = some (o, q, l, t) → o < n ∧ l < q ∧ q * n < 2 * W ∧ t = 0 := by
    intro m r o q l t h2 hm e
    simp only [Option.some.injEq, Prod.mk.injEq] at e
    obtain ⟨rfl, rfl, rfl, rfl⟩ := e
    refine ⟨Nat.mod_lt _ h0, ?_, ?_, rfl⟩
    · rw [Nat.div_lt_iff_lt_mul h0]; exact h2
    · have := Nat.div_mul_le_self m n
      omega
  intro bs
  induction bs with
  | nil =>
    intro m r o q l t hb hr hm e
    unfold wnt at e
    split at e
    · rename_i h
      obtain ⟨a, b, c, d⟩ := key h.2 hm e
      exact ⟨a, b, c, by omega⟩
    · cases e
  | cons b bs ih =>
    intro m r o q l t hb hr hm e
    unfold wnt at e
    split at e
    · rename_i h
      obtain ⟨a, b, c, d⟩ := key h.2 hm e
      exact ⟨a, b, c, by omega⟩
    · rename_i h
      obtain ⟨z1, z2⟩ := wl_ok h0 hn hr hm h (hb b List.mem_cons_self)
      cases c : wnt W n bs (2 * wlm W n m) (2 * wlr W n m r + b) with
      | none => rw [c] at e; cases e
      | some x =>
        obtain ⟨o', q', l', t'⟩ := x
        rw [c] at e
        simp only [Option.map_some, wadd, Option.some.injEq, Prod.mk.injEq] at e
        obtain ⟨rfl, rfl, rfl, rfl⟩ := e
        obtain ⟨a1, a2, a3, a4⟩ := ih (fun b' h' => hb b' (List.mem_cons_of_mem _ h')) z1 z2 c
        exact ⟨a1, a2, a3, by rw [List.length_cons]; omega⟩
theorem wnt_take (more : List Nat) : ∀ {bs : List Nat} {m r o q l t : Nat}, wnt W n bs m r = some (o, q, l, t) → wnt W n (bs.take t ++ more) m r = some (o, q, l, t) := by
  intro bs
  induction bs with
  | nil =>
    intro m r o q l t e
    unfold wnt at e
    split at e
    · rename_i h
      rw [wnt_acc _ h.1 h.2]; exact e
    · cases e
  | cons b bs ih =>
    intro m r o q l t e
    unfold wnt at e
    split at e
    · rename_i h
      rw [wnt_acc _ h.1 h.2]; exact e
    · rename_i h
      cases c : wnt W n bs (2 * wlm W n m) (2 * wlr W n m r + b) with
      | none => rw [c] at e; cases e
      | some x =>
        obtain ⟨o', q', l', t'⟩ := x
        rw [c] at e
        simp only [Option.map_some, wadd, Option.some.injEq, Prod.mk.injEq] at e
        obtain ⟨rfl, rfl, rfl, rfl⟩ := e
        rw [Nat.add_comm 1 t', List.take_succ_cons, List.cons_append]
        unfold wnt
        rw [if_neg h, ih c]
        simp [wadd]; omega
theorem wnt_less : ∀ {bs : List Nat} {m r o q l t k : Nat}, wnt W n bs m r = some (o, q, l, t) → k < t → wnt W n (bs.take k) m r = none := by
  intro bs
  induction bs with
  | nil =>
    intro m r o q l t k e hk
    unfold wnt at e
    split at e
    · simp only [Option.some.injEq, Prod.mk.injEq] at e
      omega
    · cases e
  | cons b bs ih =>
    intro m r o q l t k e hk
    unfold wnt at e
    split at e
    · simp only [Option.some.injEq, Prod.mk.injEq] at e
      omega
    · rename_i h
      cases c : wnt W n bs (2 * wlm W n m) (2 * wlr W n m r + b) with
      | none => rw [c] at e; cases e
      | some x =>
        obtain ⟨o', q', l', t'⟩ := x
        rw [c] at e
        simp only [Option.map_some, wadd, Option.some.injEq, Prod.mk.injEq] at e
        obtain ⟨rfl, rfl, rfl, rfl⟩ := e
        cases k with
        | zero =>
          rw [List.take_zero]
          unfold wnt
          rw [if_neg h]
        | succ k =>
          rw [List.take_succ_cons]
          unfold wnt
          rw [if_neg h, ih c (by omega)]
          rfl
end
end MR

namespace Fx
open PySem PySem.Spec PyProof.Rows L2 RZ MR
theorem fdivN (a b : Nat) : ((a : Nat) : Int).fdiv ((b : Nat) : Int) = ((a / b : Nat) : Int) := by
  rw [Int.fdiv_eq_ediv_of_nonneg _ (by omega), Int.natCast_ediv]
theorem fmodN (a b : Nat) : ((a : Nat) : Int).fmod ((b : Nat) : Int) = ((a % b : Nat) : Int) := by
  rw [Int.fmod_eq_emod_of_nonneg _ (by omega), Int.natCast_emod]
theorem atL {bs : List Nat} {t : Nat} (h : t < bs.length) : L2.atI (bs.map fun (n : Nat) => PV.int n) ((t : Nat) : Int) = some (.int (bs.getD t 0 : Nat)) := by
  have e : (bs.map fun (n : Nat) => PV.int n)[t]? = some (.int (bs.getD t 0 : Nat)) := by
    rw [List.getElem?_map, List.getD_eq_getElem?_getD, List.getElem?_eq_getElem h]
    rfl
  exact atI_some e
def restP (m r : Nat) : PV := .tup [.int (m : Nat), .int (r : Nat)]
def wntP : Option (Nat × Nat × Nat × Nat) → PV
  | none => .non
  | some x => .tup [.int (x.1 : Nat), restP x.2.1 x.2.2.1, .int (x.2.2.2 : Nat)]
def WB (x : Option (Nat × Nat × Nat × Nat)) : Prop := ∀ p, x = some p → p.1 < 2 ^ 100 ∧ p.2.1 < 2 ^ 100 ∧ p.2.2.1 < 2 ^ 100 ∧ p.2.2.2 < 2 ^ 100
theorem isNon_wnt (x : Option (Nat × Nat × Nat × Nat)) : isNonP (wntP x) = x.isNone := by cases x <;> rfl
theorem shb_nat {n : Nat} (h : n < 2 ^ 100) : ShB 0 101 (.int (n : Nat)) := shb_small (k := 100) (by rw [Int.natAbs_natCast]; exact h) (by decide) (by decide)
theorem shb_rest {m r : Nat} (h1 : m < 2 ^ 100) (h2 : r < 2 ^ 100) : ShB 1 300 (restP m r) := by
  refine (shb_tup (d := 0) (l := 101) fun x hx => ?_).mono (by decide) (by simp)
  rcases List.mem_cons.mp hx with rfl | hx
  · exact shb_nat h1
  · rw [List.mem_singleton.mp hx]; exact shb_nat h2
theorem shb_non : ShB 0 10 .non := ⟨.none, rfl, by simp [PyData.showable], by simp [PyData.hasDict], by simp [PyData.depth], by decide⟩
theorem shb_wnt {x : Option (Nat × Nat × Nat × Nat)} (h : WB x) : ShB 2 1000 (wntP x) := by
  cases x with
  | none => exact shb_non.mono (by decide) (by decide)
  | some p =>
    obtain ⟨a, b, c, e⟩ := h p rfl
    refine (shb_tup (d := 1) (l := 300) fun x hx => ?_).mono (by decide) (by simp)
    rcases List.mem_cons.mp hx with rfl | hx
    · exact (shb_nat a).mono (by decide) (by decide)
    rcases List.mem_cons.mp hx with rfl | hx
    · exact shb_rest b c
    · rw [List.mem_singleton.mp hx]; exact (shb_nat e).mono (by decide) (by decide)
theorem pReprA_wnt2 {x : Option (Nat × Nat × Nat × Nat)} {μ : Store} {P : PV → Store → Prop} (h : WB x) (hP : P (.str (shwP (.tup [wntP x, wntP x]))) μ) : pRepr [.tup [wntP x, wntP x]] μ P := by
  refine pRepr_tup (d := 3) (l := 3000) ?_ (by decide) (by decide) hP
  refine (shb_tup (d := 2) (l := 1000) fun y hy => ?_).mono (by decide) (by simp)
  simp only [List.mem_cons, List.not_mem_nil, or_false, or_self] at hy
  rw [hy]; exact shb_wnt h
theorem pReprA_wnt {x : Option (Nat × Nat × Nat × Nat)} {μ : Store} {P : PV → Store → Prop} (h : WB x) (hP : P (.str (shwP (wntP x))) μ) : pReprA [wntP x] μ P := by
  cases x with
  | none => exact hP
  | some p => exact pRepr_tup (shb_wnt h) (by decide) (by decide) hP
theorem wB_of {W n m r : Nat} {bs : List Nat} (h0 : 0 < n) (hn : n ≤ W) (hW : W ≤ 2 ^ 20) (hb : ∀ b ∈ bs, b < 2) (hl : bs.length ≤ 1000) (hr : r < m) (hm : m < 2 * W) : WB (wnt W n bs m r) := fun p hp => by
  obtain ⟨o, q, l, t⟩ := p
  obtain ⟨a1, a2, a3, a4⟩ := wnt_ok h0 hn hb hr hm hp
  have e2 : (2 : Nat) ^ 20 < 2 ^ 99 := by decide
  have e3 : (2 : Nat) ^ 99 * 2 = 2 ^ 100 := by decide
  have e4 : 1000 < 2 ^ 99 := by decide
  have : q ≤ q * n := Nat.le_mul_of_pos_right q h0
  refine ⟨?_, ?_, ?_, ?_⟩ <;> simp only <;> omega
theorem shl1w (w : Nat) : (1 : Int) * 2 ^ ((w : Nat) : Int).toNat = ((2 ^ w : Nat) : Int) := by
  rw [Int.toNat_natCast, Int.one_mul]; simp
theorem shl2w (w : Nat) : (2 : Int) * 2 ^ ((w : Nat) : Int).toNat = ((2 * 2 ^ w : Nat) : Int) := by
  rw [Int.toNat_natCast]; simp
theorem pw_bnd {w : Nat} (h2 : w ≤ 12) : 2 ^ w ≤ 4096 := Nat.le_trans (Nat.pow_le_pow_right (by decide) h2) (by decide)
theorem minM_nat {a M : Int} (ha : 2 ≤ a) (hM : 2 ≤ M) : ∃ n : Nat, (if a < M then a else M) = (n : Int) ∧ 2 ≤ n ∧ (n : Int) ≤ M := by
  split
  · exact ⟨a.toNat, by omega, by omega, by omega⟩
  · exact ⟨M.toNat, by omega, by omega, by omega⟩
theorem flat_rep (k x : Nat) : (List.replicate k [PV.int (x : Nat)]).flatten = (List.replicate k x).map fun (n : Nat) => PV.int n := by
  induction k with
  | zero => rfl
  | succ k ih => rw [List.replicate_succ, List.flatten_cons, ih, List.replicate_succ]; rfl
theorem len_lot (bs : List Nat) (μ : Store) : itemsOf (lotP bs) μ = some (bs.map fun (n : Nat) => PV.int n) := rfl
end Fx
namespace Fx
open PySem PySem.Spec PyProof.Rows L2 RZ MR
theorem eqP_tup3 (a b c d e f : Int) (μ : Store) : eqP (.tup [.int a, .int b, .int c]) (.tup [.int d, .int e, .int f]) μ = some (decide (a = d ∧ b = e ∧ c = f)) := by
  have h : ∀ x y z : Int, SeqAt.shaped (.tuple [.int x, .int y, .int z]) = true := fun x y z => rfl
  unfold eqP
  simp only [scalP, frzP, datP, datPs, Option.map_some, h, and_self, if_true]
  simp only [PyData.eqv, PyData.eqvAll]
  congr 1
  by_cases h1 : a = d <;> by_cases h2 : b = e <;> by_cases h3 : c = f <;> simp [h1, h2, h3]
theorem cl_get {m : Int} {rest G μ : Store} (h : Dk m (rest ++ G) μ) (p : Nat) : μ[rest.length + p + 2]? = G[p]? := by
  rw [h.get, List.getElem?_append_right (by omega), show rest.length + p - rest.length = p by omega]
theorem cl_set {m : Int} {rest G μ : Store} (h : Dk m (rest ++ G) μ) (p : Nat) (x : MO) : Dk m (rest ++ G.set p x) (μ.set (rest.length + p + 2) x) := by
  have := h.set (rest.length + p) x
  rw [List.set_append_right _ _ (by omega), show rest.length + p - rest.length = p by omega] at this
  exact this
theorem cl_app {m : Int} {rest G μ : Store} (h : Dk m (rest ++ G) μ) (x : MO) : Dk m (rest ++ (G ++ [x])) (μ ++ [x]) := by
  rw [← List.append_assoc]; exact h.app [x]
theorem cl_len {m : Int} {rest G μ : Store} (h : Dk m (rest ++ G) μ) : μ.length = rest.length + G.length + 2 := by
  have := h.len
  rw [List.length_append] at this
  omega
theorem for_of {mi : MI} {g : MG} {b : MS} {P : MEnds} {ρ : PEnv} {μ : Store} (h : ∀ F : List PV → Store → Prop, F = (fun xs μ1 => mForL g b P xs ρ μ1) → mi ρ μ F) : mFor mi g b P ρ μ := h _ rfl
/-- a row of drawn bits -/
theorem bits_any {m : Int} {rest μ : Store} {g : MG} {e : ME} {ρ0 : PEnv} {P : List PV → Store → Prop} {k : Nat} (hD : Dk m rest μ)
    (hs : ∀ (a : Nat) (μ' : Store), Dk m rest μ' → ∀ N : PV → Store → Prop, (∀ (n : Int) (μ2 : Store), 0 ≤ n → n < 2 → Dk m rest μ2 → N (.int n) μ2) → g (.int (a : Nat)) ρ0 μ' fun ρ1 μ1 => e ρ1 μ1 N)
    (hP : ∀ (bs : List Nat) (μ' : Store), (∀ b ∈ bs, b < 2) → bs.length = k → Dk m rest μ' → P (bs.map fun (n : Nat) => PV.int n) μ') : mLcL g mYes e ρ0 P ((List.range k).map fun (i : Nat) => PV.int i) [] μ := by
  refine lc_any (fun pre acc μ' => Dk m rest μ' ∧ ∃ ns : List Nat, acc = (ns.map fun (i : Nat) => PV.int i) ∧ ns.length = pre.length ∧ ∀ i ∈ ns, i < 2) (done := []) ⟨hD, [], rfl, rfl, by simp⟩ (fun pre a post acc μ' he hI N hN => ?_) fun acc μ' hI => ?_
  · obtain ⟨hD', ns, rfl, hp, hlt⟩ := hI
    refine hs a μ' hD' _ fun n μ2 h0 h1 hD2 => ?_
    obtain ⟨j, rfl⟩ : ∃ j : Nat, n = (j : Int) := ⟨n.toNat, by omega⟩
    refine hN _ _ ⟨hD2, ns ++ [j], by rw [List.map_append]; rfl, by rw [List.length_append, List.length_append, hp]; rfl, fun i hi => ?_⟩
    rcases List.mem_append.mp hi with hi | hi
    · exact hlt i hi
    · rw [List.mem_singleton.mp hi]; omega
  · obtain ⟨hD', ns, rfl, hp, hlt⟩ := hI
    exact hP ns μ' hlt (by simpa using hp) hD'
/-- a row of drawn numbers -/
theorem nats_any {m c : Int} {rest μ : Store} {g : MG} {e : ME} {ρ0 : PEnv} {P : List PV → Store → Prop} {k : Nat} (hD : Dk m rest μ)
    (hs : ∀ (a : Nat) (μ' : Store), Dk m rest μ' → ∀ N : PV → Store → Prop, (∀ (n : Int) (μ2 : Store), 0 ≤ n → n < c → Dk m rest μ2 → N (.int n) μ2) → g (.int (a : Nat)) ρ0 μ' fun ρ1 μ1 => e ρ1 μ1 N)
    (hP : ∀ (bs : List Nat) (μ' : Store), (∀ b ∈ bs, (b : Int) < c) → bs.length = k → Dk m rest μ' → P (bs.map fun (n : Nat) => PV.int n) μ') : mLcL g mYes e ρ0 P ((List.range k).map fun (i : Nat) => PV.int i) [] μ := by
  refine lc_any (fun pre acc μ' => Dk m rest μ' ∧ ∃ ns : List Nat, acc = (ns.map fun (i : Nat) => PV.int i) ∧ ns.length = pre.length ∧ ∀ i ∈ ns, (i : Int) < c) (done := []) ⟨hD, [], rfl, rfl, by simp⟩ (fun pre a post acc μ' he hI N hN => ?_) fun acc μ' hI => ?_
  · obtain ⟨hD', ns, rfl, hp, hlt⟩ := hI
    refine hs a μ' hD' _ fun n μ2 h0 h1 hD2 => ?_
    obtain ⟨j, rfl⟩ : ∃ j : Nat, n = (j : Int) := ⟨n.toNat, by omega⟩
    refine hN _ _ ⟨hD2, ns ++ [j], by rw [List.map_append]; rfl, by rw [List.length_append, List.length_append, hp]; rfl, fun i hi => ?_⟩
    rcases List.mem_append.mp hi with hi | hi
    · exact hlt i hi
    · rw [List.mem_singleton.mp hi]; exact h1
  · obtain ⟨hD', ns, rfl, hp, hlt⟩ := hI
    exact hP ns μ' hlt (by simpa using hp) hD'
theorem st_get (μ g h : Store) {p : Nat} (hp : p < g.length) : (μ ++ g ++ h)[μ.length + p]? = g[p]? := by
  rw [List.append_assoc, List.getElem?_append_right (by omega), show μ.length + p - μ.length = p by omega, List.getElem?_append_left hp]
theorem lot_appN (w v : List Nat) : PV.tup ((w.map fun (n : Nat) => PV.int n) ++ v.map fun (n : Nat) => PV.int n) = lotP (w ++ v) := by rw [lotP, List.map_append]
theorem eqP_luN (a b : List Nat) (μ : Store) : eqP (.tup (a.map fun (n : Nat) => PV.int n)) (.tup (b.map fun (n : Nat) => PV.int n)) μ = some (decide (a = b)) := eqP_lots a b μ
end Fx

namespace MR
/-! words -/
def apt (a b : List Nat) : Prop := ¬ a <+: b ∧ ¬ b <+: a
theorem apt.symm {a b : List Nat} (h : apt a b) : apt b a := ⟨h.2, h.1⟩
abbrev PFW (ws : List (List Nat)) : Prop := ws.Pairwise apt
theorem PFW.perm {a b : List (List Nat)} (h : List.Perm a b) (p : PFW a) : PFW b := (h.pairwise_iff fun x => apt.symm x).mp p
theorem apt.app {a b : List Nat} (h : apt a b) (v : List Nat) : apt a (b ++ v) := by
  refine ⟨fun z => ?_, fun z => h.2 (List.IsPrefix.trans (List.prefix_append b v) z)⟩
  rcases List.prefix_or_prefix_of_prefix z (List.prefix_append b v) with y | y
  · exact h.1 y
  · exact h.2 y
theorem pf_split {w : List Nat} {ws : List (List Nat)} (h : PFW (w :: ws)) : PFW (ws ++ [w ++ [0], w ++ [1]]) := by
  obtain ⟨h1, h2⟩ := List.pairwise_cons.mp h
  refine List.pairwise_append.mpr ⟨h2, ?_, fun a ha b hb => ?_⟩
  · refine List.pairwise_cons.mpr ⟨fun a ha => ?_, List.pairwise_singleton _ _⟩
    rw [List.mem_singleton.mp ha]
    constructor <;> (intro z; have := (List.prefix_append_right_inj w).mp z; simp at this)
  · have := (h1 a ha).symm
    simp only [List.mem_cons, List.not_mem_nil, or_false] at hb
    rcases hb with rfl | rfl <;> exact this.app _
theorem pf_ext {w : List Nat} {ws : List (List Nat)} (h : PFW (w :: ws)) (v : List Nat) : PFW (ws ++ [w ++ v]) := by
  obtain ⟨h1, h2⟩ := List.pairwise_cons.mp h
  refine List.pairwise_append.mpr ⟨h2, List.pairwise_singleton _ _, fun a ha b hb => ?_⟩
  rw [List.mem_singleton.mp hb]
  exact (h1 a ha).symm.app _
theorem take_pre {a b : List Nat} : b.take a.length = a ↔ a <+: b := by
  rw [List.prefix_iff_eq_take]; exact ⟨fun h => h.symm, fun h => h.symm⟩
theorem pf_count {ws : List (List Nat)} (h : PFW ws) {i : Nat} (hi : i < ws.length) : (ws.filter fun o => decide (o.take (ws.getD i []).length = ws.getD i [])).length = 1 := by
  have e : ws = ws.take i ++ ws.getD i [] :: ws.drop (i + 1) := by
    rw [List.getD_eq_getElem?_getD, List.getElem?_eq_getElem hi, Option.getD_some, ← List.drop_eq_getElem_cons hi, List.take_append_drop]
  generalize ws.getD i [] = w at *
  generalize ws.take i = a at *
  generalize ws.drop (i + 1) = b at *
  subst e
  obtain ⟨_, h2, h3⟩ := List.pairwise_append.mp h
  obtain ⟨h4, _⟩ := List.pairwise_cons.mp h2
  have ea : (a.filter fun o => decide (o.take w.length = w)) = [] := by
    rw [List.filter_eq_nil_iff]
    intro x hx
    simp only [decide_eq_true_eq, take_pre]
    exact (h3 x hx w List.mem_cons_self).2
  have eb : (b.filter fun o => decide (o.take w.length = w)) = [] := by
    rw [List.filter_eq_nil_iff]
    intro x hx
    simp only [decide_eq_true_eq, take_pre]
    exact (h4 x hx).1
  rw [List.filter_append, ea, List.nil_append, List.filter_cons, if_pos (by simp), eb]
  rfl
/-! Kraft -/
def kr (L : Nat) (ws : List (List Nat)) : Nat := (ws.map fun w => 2 ^ (L - w.length)).sum
def tl (c : Nat) : List Nat → Option (List Nat)
  | [] => none
  | b :: t => if b = c then some t else none
theorem kr_tl {L : Nat} : ∀ {ws : List (List Nat)}, (∀ w ∈ ws, w ≠ []) → (∀ w ∈ ws, ∀ b ∈ w, b < 2) → kr (L + 1) ws = kr L (ws.filterMap (tl 0)) + kr L (ws.filterMap (tl 1))
  | [], _, _ => rfl
  | w :: ws, hn, hb => by
    have ih := kr_tl (L := L) (ws := ws) (fun x hx => hn x (List.mem_cons_of_mem _ hx)) fun x hx => hb x (List.mem_cons_of_mem _ hx)
    cases w with
    | nil => exact absurd rfl (hn [] List.mem_cons_self)
    | cons b t =>
      have h2 := hb (b :: t) List.mem_cons_self b List.mem_cons_self
      have : b = 0 ∨ b = 1 := by omega
      unfold kr at *
      have e : L + 1 - (t.length + 1) = L - t.length := by omega
      rcases this with rfl | rfl
      · simp [tl, ih, e]; omega
      · simp [tl, ih, e]; omega
theorem pf_tl {c : Nat} {ws : List (List Nat)} (h : PFW ws) : PFW (ws.filterMap (tl c)) := by
  unfold PFW
  rw [List.pairwise_filterMap]
  refine h.imp fun {a b} hab x hx y hy => ?_
  have key : ∀ {a x : List Nat}, tl c a = some x → a = c :: x := by
    intro a x e
    cases a with
    | nil => cases e
    | cons b t =>
      simp only [tl] at e
      by_cases q : b = c
      · rw [if_pos q] at e; injection e with e; rw [q, e]
      · rw [if_neg q] at e; exact absurd e (by simp)
  rw [key hx, key hy] at hab
  exact ⟨fun z => hab.1 (List.cons_prefix_cons.mpr ⟨rfl, z⟩), fun z => hab.2 (List.cons_prefix_cons.mpr ⟨rfl, z⟩)⟩
theorem mem_tl {c : Nat} {ws : List (List Nat)} {x : List Nat} (h : x ∈ ws.filterMap (tl c)) : c :: x ∈ ws := by
  obtain ⟨a, ha, e⟩ := List.mem_filterMap.mp h
  cases a with
  | nil => cases e
  | cons b t =>
    simp only [tl] at e
    by_cases q : b = c
    · rw [if_pos q] at e; injection e with e; rw [← q, ← e]; exact ha
    · rw [if_neg q] at e; exact absurd e (by simp)
theorem pf_nil {ws : List (List Nat)} (h : PFW ws) (hm : [] ∈ ws) : ws = [[]] := by
  obtain ⟨a, b, rfl⟩ := List.append_of_mem hm
  obtain ⟨_, h2, h3⟩ := List.pairwise_append.mp h
  obtain ⟨h4, _⟩ := List.pairwise_cons.mp h2
  have ea : a = [] := by
    cases a with
    | nil => rfl
    | cons x a => exact absurd (List.nil_prefix) (h3 x List.mem_cons_self [] List.mem_cons_self).2
  have eb : b = [] := by
    cases b with
    | nil => rfl
    | cons x b => exact absurd (List.nil_prefix) (h4 x List.mem_cons_self).1
  rw [ea, eb]; rfl
theorem kraft : ∀ {L : Nat} {ws : List (List Nat)}, PFW ws → (∀ w ∈ ws, ∀ b ∈ w, b < 2) → (∀ w ∈ ws, w.length ≤ L) → kr L ws ≤ 2 ^ L := by
  intro L
  induction L with
  | zero =>
    intro ws h hb hl
    by_cases hm : [] ∈ ws
    · rw [pf_nil h hm]; simp [kr]
    · cases ws with
      | nil => simp [kr]
      | cons w ws =>
        have := hl w List.mem_cons_self
        have : w = [] := List.length_eq_zero_iff.mp (by omega)
        rw [this] at hm
        exact absurd List.mem_cons_self hm
  | succ L ih =>
    intro ws h hb hl
    by_cases hm : [] ∈ ws
    · rw [pf_nil h hm]; simp [kr]
    · rw [kr_tl (fun w hw z => hm (z ▸ hw)) hb]
      have k : ∀ c, kr L (ws.filterMap (tl c)) ≤ 2 ^ L := fun c => ih (pf_tl h) (fun w hw b hb' => hb _ (mem_tl hw) b (List.mem_cons_of_mem _ hb')) fun w hw => by
        have := hl _ (mem_tl hw)
        simp at this; exact this
      have := k 0
      have := k 1
      rw [Nat.pow_succ]; omega
theorem kr_up {L M : Nat} (h : L ≤ M) : ∀ {ws : List (List Nat)}, (∀ w ∈ ws, w.length ≤ L) → kr M ws = 2 ^ (M - L) * kr L ws
  | [], _ => by simp [kr]
  | w :: ws, hl => by
    have ih := kr_up h (ws := ws) fun x hx => hl x (List.mem_cons_of_mem _ hx)
    have := hl w List.mem_cons_self
    unfold kr at *
    simp only [List.map_cons, List.sum_cons, ih, Nat.mul_add]
    congr 1
    rw [← Nat.pow_add]; congr 1; omega
theorem full_goes {L : Nat} {ws : List (List Nat)} {s : List Nat} (h : PFW ws) (hb : ∀ w ∈ ws, ∀ b ∈ w, b < 2) (hl : ∀ w ∈ ws, w.length ≤ L) (hf : kr L ws = 2 ^ L) (hs : ∀ b ∈ s, b < 2) (hn : ∀ w ∈ ws, ¬ w <+: s) : ∃ w ∈ ws, s <+: w := by
  refine Classical.byContradiction fun hc => ?_
  have hc' : ∀ w ∈ ws, ¬ s <+: w := fun w hw z => hc ⟨w, hw, z⟩
  have hp : PFW (s :: ws) := List.pairwise_cons.mpr ⟨fun w hw => ⟨hc' w hw, hn w hw⟩, h⟩
  have k := kraft (L := max L s.length) hp (fun w hw => by
    rcases List.mem_cons.mp hw with rfl | hw
    · exact hs
    · exact hb w hw) (fun w hw => by
    rcases List.mem_cons.mp hw with rfl | hw
    · exact Nat.le_max_right _ _
    · exact Nat.le_trans (hl w hw) (Nat.le_max_left _ _))
  have e := kr_up (L := L) (M := max L s.length) (Nat.le_max_left _ _) hl
  have e2 : kr (max L s.length) (s :: ws) = 2 ^ (max L s.length - s.length) + kr (max L s.length) ws := by simp [kr]
  have e3 : 2 ^ (max L s.length - L) * 2 ^ L = 2 ^ (max L s.length) := by rw [← Nat.pow_add]; congr 1; omega
  have := Nat.two_pow_pos (max L s.length - s.length)
  rw [e2, e, hf, e3] at k
  omega
/-! reading -/
def hitL (ws : List (List Nat)) (bits : List Nat) : List Nat := ((numd 0 ws).filter fun p => decide (p.2 ≠ []) && decide (bits.take p.2.length = p.2)).map (·.1)
def rdF (ws : List (List Nat)) : Nat → List Nat → List Nat × List Nat
  | 0, bits => ([], bits)
  | f + 1, bits => match hitL ws bits with
    | [] => ([], bits)
    | i :: _ => (i :: (rdF ws f (bits.drop (ws.getD i []).length)).1, (rdF ws f (bits.drop (ws.getD i []).length)).2)
def rd (ws : List (List Nat)) (bits : List Nat) : List Nat × List Nat := rdF ws bits.length bits
def spl (ws : List (List Nat)) (row : List Nat) : List Nat := row.flatMap fun i => ws.getD i []
theorem numd_at {α : Type} : ∀ {xs : List α} {j : Nat} {p : Nat × α}, p ∈ numd j xs → xs[p.1 - j]? = some p.2
  | x :: xs, j, p, h => by
    rcases List.mem_cons.mp h with rfl | h
    · simp
    · have h1 := numd_at h
      have h2 := (numd_mem h).2.1
      rw [show p.1 - j = p.1 - (j + 1) + 1 by omega, List.getElem?_cons_succ]
      exact h1
theorem numd_in {α : Type} : ∀ {xs : List α} {j i : Nat} {x : α}, xs[i]? = some x → (j + i, x) ∈ numd j xs
  | [], _, _, _, h => by simp at h
  | x :: xs, j, 0, y, h => by simp at h; subst h; exact List.mem_cons_self
  | x :: xs, j, i + 1, y, h => by
    have := numd_in (j := j + 1) (i := i) (x := y) (xs := xs) (by simpa using h)
    rw [show j + 1 + i = j + (i + 1) by omega] at this
    exact List.mem_cons_of_mem _ this
theorem hit_mem {ws : List (List Nat)} {bits : List Nat} {i : Nat} : i ∈ hitL ws bits ↔ i < ws.length ∧ ws.getD i [] ≠ [] ∧ ws.getD i [] <+: bits := by
  unfold hitL
  rw [List.mem_map]
  constructor
  · rintro ⟨p, hp, rfl⟩
    obtain ⟨h1, h2⟩ := List.mem_filter.mp hp
    have h3 := numd_at h1
    rw [Nat.sub_zero] at h3
    have h4 := (List.getElem?_eq_some_iff.mp h3).1
    rw [List.getD_eq_getElem?_getD, h3, Option.getD_some]
    simp only [Bool.and_eq_true, decide_eq_true_eq, take_pre] at h2
    exact ⟨h4, h2⟩
  · rintro ⟨h1, h2, h3⟩
    have h4 : ws[i]? = some (ws.getD i []) := by rw [List.getD_eq_getElem?_getD, List.getElem?_eq_getElem h1]; rfl
    have h5 := numd_in (j := 0) h4
    rw [Nat.zero_add] at h5
    exact ⟨_, List.mem_filter.mpr ⟨h5, by simp only [Bool.and_eq_true, decide_eq_true_eq, take_pre]; exact ⟨h2, h3⟩⟩, rfl⟩
theorem pf_one {ws : List (List Nat)} (h : PFW ws) {i j : Nat} (hi : i < ws.length) (hj : j < ws.length) (hp : ws.getD i [] <+: ws.getD j []) : i = j := by
  have e : ∀ {k : Nat} (hk : k < ws.length), ws.getD k [] = ws[k] := fun {k} hk => by rw [List.getD_eq_getElem?_getD, List.getElem?_eq_getElem hk]; rfl
  rw [e hi, e hj] at hp
  have hw := List.pairwise_iff_getElem.mp h
  rcases Nat.lt_trichotomy i j with q | q | q
  · exact absurd hp (hw i j hi hj q).1
  · exact q
  · exact absurd hp (hw j i hj hi q).2
theorem hit_one {ws : List (List Nat)} {bits : List Nat} (h : PFW ws) {i : Nat} (hi : i < ws.length) (hn : ws.getD i [] ≠ []) (hp : ws.getD i [] <+: bits) : ∃ l, hitL ws bits = i :: l := by
  have hm : i ∈ hitL ws bits := hit_mem.mpr ⟨hi, hn, hp⟩
  cases c : hitL ws bits with
  | nil => rw [c] at hm; cases hm
  | cons j l =>
    have hj : j ∈ hitL ws bits := by rw [c]; exact List.mem_cons_self
    obtain ⟨h1, h2, h3⟩ := hit_mem.mp hj
    rcases List.prefix_or_prefix_of_prefix h3 hp with y | y
    · rw [pf_one h h1 hi y]; exact ⟨l, rfl⟩
    · rw [pf_one h hi h1 y]; exact ⟨l, rfl⟩
theorem hit_drop {ws : List (List Nat)} {bits l : List Nat} {i : Nat} (h : hitL ws bits = i :: l) : i < ws.length ∧ 0 < (ws.getD i []).length ∧ (ws.getD i []).length ≤ bits.length ∧ bits = ws.getD i [] ++ bits.drop (ws.getD i []).length := by
  obtain ⟨h1, h2, h3⟩ := hit_mem.mp (by rw [h]; exact List.mem_cons_self : i ∈ hitL ws bits)
  refine ⟨h1, List.length_pos_iff.mpr h2, h3.length_le, ?_⟩
  obtain ⟨t, rfl⟩ := h3
  rw [List.drop_left]
theorem rdF_any {ws : List (List Nat)} : ∀ {f g : Nat} {bits : List Nat}, bits.length ≤ f → bits.length ≤ g → rdF ws f bits = rdF ws g bits := by
  have nil : ∀ {bits : List Nat}, bits.length = 0 → hitL ws bits = [] := by
    intro bits hb
    cases c : hitL ws bits with
    | nil => rfl
    | cons i l => have := hit_drop c; omega
  intro f
  induction f with
  | zero =>
    intro g bits h1 h2
    have e := nil (bits := bits) (by omega)
    cases g with
    | zero => rfl
    | succ g => simp only [rdF, e]
  | succ f ih =>
    intro g bits h1 h2
    cases g with
    | zero => simp only [rdF, nil (bits := bits) (by omega)]
    | succ g =>
      simp only [rdF]
      cases c : hitL ws bits with
      | nil => rfl
      | cons i l =>
        have := hit_drop c
        have e := ih (g := g) (bits := bits.drop (ws.getD i []).length) (by rw [List.length_drop]; omega) (by rw [List.length_drop]; omega)
        simp only [e]
theorem rd_nil {ws : List (List Nat)} {bits : List Nat} (h : hitL ws bits = []) : rd ws bits = ([], bits) := by
  unfold rd
  cases bits.length with
  | zero => rfl
  | succ n => simp only [rdF, h]
theorem rd_cons {ws : List (List Nat)} {bits l : List Nat} {i : Nat} (h : hitL ws bits = i :: l) : rd ws bits = (i :: (rd ws (bits.drop (ws.getD i []).length)).1, (rd ws (bits.drop (ws.getD i []).length)).2) := by
  have hd := hit_drop h
  have e : rd ws bits = rdF ws (bits.length - 1 + 1) bits := rdF_any (Nat.le_refl _) (by omega)
  rw [e]
  have e2 : rdF ws (bits.length - 1) (bits.drop (ws.getD i []).length) = rd ws (bits.drop (ws.getD i []).length) := rdF_any (by rw [List.length_drop]; omega) (Nat.le_refl _)
  simp only [rdF, h, e2]
theorem rd_ind {ws : List (List Nat)} {P : List Nat → Prop} (h0 : ∀ bits, hitL ws bits = [] → P bits) (h1 : ∀ bits i l, hitL ws bits = i :: l → P (bits.drop (ws.getD i []).length) → P bits) : ∀ bits, P bits := by
  have key : ∀ n (bits : List Nat), bits.length ≤ n → P bits := by
    intro n
    induction n with
    | zero =>
      intro bits hb
      cases c : hitL ws bits with
      | nil => exact h0 bits c
      | cons i l => have := hit_drop c; omega
    | succ n ih =>
      intro bits hb
      cases c : hitL ws bits with
      | nil => exact h0 bits c
      | cons i l =>
        have := hit_drop c
        exact h1 bits i l c (ih _ (by rw [List.length_drop]; omega))
  exact fun bits => key _ bits (Nat.le_refl _)
theorem rd_spl {ws : List (List Nat)} (bits : List Nat) : spl ws (rd ws bits).1 ++ (rd ws bits).2 = bits := by
  refine rd_ind (ws := ws) (P := fun bits => spl ws (rd ws bits).1 ++ (rd ws bits).2 = bits) (fun bits h => ?_) (fun bits i l h ih => ?_) bits
  · rw [rd_nil h]; rfl
  · rw [rd_cons h]
    simp only [spl, List.flatMap_cons] at ih ⊢
    rw [List.append_assoc, ih]
    exact (hit_drop h).2.2.2.symm
theorem rd_lt {ws : List (List Nat)} (bits : List Nat) : ∀ i ∈ (rd ws bits).1, i < ws.length := by
  refine rd_ind (ws := ws) (P := fun bits => ∀ i ∈ (rd ws bits).1, i < ws.length) (fun bits h => ?_) (fun bits i l h ih => ?_) bits
  · rw [rd_nil h]; simp
  · rw [rd_cons h]
    intro j hj
    rcases List.mem_cons.mp hj with rfl | hj
    · exact (hit_drop h).1
    · exact ih j hj
theorem rd_len {ws : List (List Nat)} (bits : List Nat) : (rd ws bits).1.length ≤ bits.length := by
  refine rd_ind (ws := ws) (P := fun bits => (rd ws bits).1.length ≤ bits.length) (fun bits h => ?_) (fun bits i l h ih => ?_) bits
  · rw [rd_nil h]; simp
  · have := hit_drop h
    rw [rd_cons h, List.length_cons]
    rw [List.length_drop] at ih
    omega
theorem rd_left {ws : List (List Nat)} (bits : List Nat) : hitL ws (rd ws bits).2 = [] := by
  refine rd_ind (ws := ws) (P := fun bits => hitL ws (rd ws bits).2 = []) (fun bits h => ?_) (fun bits i l h ih => ?_) bits
  · rw [rd_nil h]; exact h
  · rw [rd_cons h]; exact ih
theorem rd_back {ws : List (List Nat)} (h : PFW ws) (hn : ∀ w ∈ ws, w ≠ []) : ∀ {row : List Nat}, (∀ i ∈ row, i < ws.length) → rd ws (spl ws row) = (row, [])
  | [], _ => by
    have : hitL ws [] = [] := by
      cases c : hitL ws [] with
      | nil => rfl
      | cons i l => have := hit_drop c; rw [List.length_nil] at this; omega
    rw [show spl ws [] = [] from rfl, rd_nil this]
  | i :: row, hr => by
    have hi := hr i List.mem_cons_self
    have hw : ws.getD i [] ≠ [] := hn _ (by rw [List.getD_eq_getElem?_getD, List.getElem?_eq_getElem hi]; exact List.getElem_mem hi)
    have e : spl ws (i :: row) = ws.getD i [] ++ spl ws row := rfl
    obtain ⟨l, c⟩ := hit_one (bits := spl ws (i :: row)) h hi hw (by rw [e]; exact List.prefix_append _ _)
    rw [rd_cons c, e, List.drop_left, rd_back h hn fun j hj => hr j (List.mem_cons_of_mem _ hj)]
theorem mem_rd {ws : List (List Nat)} {bits : List Nat} : ∀ b ∈ (rd ws bits).2, b ∈ bits := fun b hb => by
  rw [← rd_spl (ws := ws) bits]; exact List.mem_append_right _ hb
theorem left_len {ws : List (List Nat)} {bits : List Nat} : (rd ws bits).2.length ≤ bits.length := by
  have := congrArg List.length (rd_spl (ws := ws) bits)
  rw [List.length_append] at this
  omega
theorem rd_goes {L : Nat} {ws : List (List Nat)} {bits : List Nat} (h : PFW ws) (hn : ∀ w ∈ ws, w ≠ []) (hb : ∀ w ∈ ws, ∀ b ∈ w, b < 2) (hl : ∀ w ∈ ws, w.length ≤ L) (hf : kr L ws = 2 ^ L) (hs : ∀ b ∈ bits, b < 2) : ∃ w ∈ ws, (rd ws bits).2 <+: w := by
  refine full_goes h hb hl hf (fun b hb' => hs b (mem_rd b hb')) fun w hw z => ?_
  obtain ⟨i, hi, rfl⟩ := List.getElem_of_mem hw
  have e : ws.getD i [] = ws[i] := by rw [List.getD_eq_getElem?_getD, List.getElem?_eq_getElem hi]; rfl
  have : i ∈ hitL ws (rd ws bits).2 := hit_mem.mpr ⟨hi, by rw [e]; exact hn _ hw, by rw [e]; exact z⟩
  rw [rd_left] at this
  cases this
end MR

namespace Fx
open PySem PySem.Spec PyProof.Rows L2 RZ MR
def wsP (ws : List (List Nat)) : PV := .tup (ws.map lotP)
structure WsOk (ws : List (List Nat)) : Prop where
  ne : ws ≠ []
  len : ws.length ≤ 8
  pf : PFW ws
  bit : ∀ w ∈ ws, ∀ b ∈ w, b < 2
  sz : ∀ w ∈ ws, w.length ≤ 30
theorem items_ws (ws : List (List Nat)) (μ : Store) : itemsOf (wsP ws) μ = some (ws.map lotP) := rfl
theorem atW {ws : List (List Nat)} {i : Nat} (h : i < ws.length) : L2.atI (ws.map lotP) ((i : Nat) : Int) = some (lotP (ws.getD i [])) := by
  have e : (ws.map lotP)[i]? = some (lotP (ws.getD i [])) := by
    rw [List.getElem?_map, List.getD_eq_getElem?_getD, List.getElem?_eq_getElem h]
    rfl
  exact atI_some e
theorem WsOk.at {ws : List (List Nat)} (h : WsOk ws) {i : Nat} (hi : i < ws.length) : ws.getD i [] ∈ ws := by
  rw [List.getD_eq_getElem?_getD, List.getElem?_eq_getElem hi]; exact List.getElem_mem hi
def mxl (ws : List (List Nat)) : Nat := maxN (ws.map List.length)
theorem le_mxl {ws : List (List Nat)} : ∀ w ∈ ws, w.length ≤ mxl ws := fun w hw => by
  have : ∀ {l : List Nat} {x : Nat}, x ∈ l → x ≤ maxN l := by
    intro l
    induction l with
    | nil => intro x h; cases h
    | cons a l ih =>
      intro x h
      show x ≤ max a (maxN l)
      rcases List.mem_cons.mp h with rfl | h
      · omega
      · have := ih h; omega
  exact this (List.mem_map.mpr ⟨w, hw, rfl⟩)
theorem shb_lot8 {A : List Nat} (h : ∀ x ∈ A, x < 8) (hl : A.length ≤ 3000) : ShB 1 30000 (lotP A) := by
  unfold lotP
  have := shb_tup (xs := A.map fun (n : Nat) => PV.int n) (d := 0) (l := 4) fun x hx => by
    obtain ⟨n, hn, rfl⟩ := List.mem_map.mp hx
    have := h n hn
    exact shb_small (k := 3) (by rw [Int.natAbs_natCast]; omega) (by decide) (by decide)
  refine this.mono (by decide) ?_
  rw [List.length_map]
  omega
def rdP (x : List Nat × List Nat) : PV := .tup [lotP x.1, lotP x.2]
theorem cut_toL (bs : List Nat) (n : Nat) : PV.tup (cutP (bs.map fun (n : Nat) => PV.int n) none (some (n : Int))) = lotP (bs.take n) := by rw [cut_to, ← List.map_take]; rfl
theorem cut_fromL (bs : List Nat) (n : Nat) : PV.tup (cutP (bs.map fun (n : Nat) => PV.int n) (some (n : Int)) none) = lotP (bs.drop n) := by rw [cut_from, ← List.map_drop]; rfl
def wD (ws : List (List Nat)) : List PyData := ws.map fun w => PyData.tuple ((zs w).map PyData.int)
theorem datPs_ws : ∀ ws : List (List Nat), datPs (ws.map lotP) = some (wD ws)
  | [] => rfl
  | w :: ws => by
    have e : datP (lotP w) = some (.tuple ((zs w).map PyData.int)) := by rw [lot_ints]; simp only [datP, datPs_ints, Option.map_some]
    simp [datPs, e, datPs_ws ws, wD]
theorem lay_ws : ∀ ws : List (List Nat), PyData.canLayAll0 (wD ws) = true ∧ PyData.depthAll (wD ws) ≤ 2
  | [] => ⟨rfl, by simp [wD, PyData.depthAll]⟩
  | w :: ws => by
    obtain ⟨h1, h2⟩ := lay_ws ws
    refine ⟨?_, ?_⟩
    · show (PyData.canLay0 (.tuple ((zs w).map PyData.int)) && PyData.canLayAll0 (wD ws)) = true
      rw [h1, PyData.canLay0, canLay_ints]; rfl
    · have h3 : PyData.depth (.tuple ((zs w).map PyData.int)) ≤ 2 := by have := depth_ints (zs w); rw [PyData.depth]; omega
      show PyData.depthAll (_ :: wD ws) ≤ 2
      rw [PyData.depthAll]
      exact Nat.max_le.mpr ⟨h3, h2⟩
theorem shaped_ws (ws : List (List Nat)) : SeqAt.shaped (.tuple (wD ws)) = true := by
  obtain ⟨h1, h2⟩ := lay_ws ws
  have h3 : PyData.depth (.tuple (wD ws)) ≤ 64 := by rw [PyData.depth]; omega
  have h4 : PyData.canLay0 (.tuple (wD ws)) = true := by rw [PyData.canLay0]; exact h1
  unfold SeqAt.shaped
  rw [h4, decide_eq_true h3]
  rfl
theorem zs_inj {a b : List Nat} (e : zs a = zs b) : a = b := by
  have := congrArg (List.map Int.toNat) e
  simpa [zs, Function.comp_def] using this
theorem eqv_ws : ∀ a b : List (List Nat), PyData.eqvAll (wD a) (wD b) = decide (a = b)
  | [], [] => rfl
  | [], _ :: _ => by simp [wD, PyData.eqvAll]
  | _ :: _, [] => by simp [wD, PyData.eqvAll]
  | x :: a, y :: b => by
    show (PyData.eqv (.tuple ((zs x).map PyData.int)) (.tuple ((zs y).map PyData.int)) && PyData.eqvAll (wD a) (wD b)) = _
    rw [eqv_ws a b, PyData.eqv, eqv_ints]
    have e : decide (zs x = zs y) = decide (x = y) := decide_eq_decide.mpr ⟨zs_inj, fun e => by rw [e]⟩
    rw [e]
    by_cases h1 : x = y <;> by_cases h2 : a = b <;> simp [h1, h2]
theorem eqP_ws (a b : List (List Nat)) (μ : Store) : eqP (wsP a) (wsP b) μ = some (decide (a = b)) := by
  unfold eqP wsP
  simp only [scalP, frzP, datP, datPs_ws, Option.map_some, shaped_ws, and_self, if_true, PyData.eqv, eqv_ws]
theorem eqP_ws0 (a : List (List Nat)) (μ : Store) : eqP (.tup (a.map lotP)) (.tup [.tup []]) μ = some (decide (a = [[]])) := eqP_ws a [[]] μ
theorem eqP_lu (a b : List Nat) (μ : Store) : eqP (.tup (a.map fun (n : Nat) => PV.int n)) (.tup (b.map fun (n : Nat) => PV.int n)) μ = some (decide (a = b)) := eqP_lots a b μ
theorem eqP_ln (a : List Nat) (μ : Store) : eqP (.lst (a.map fun (n : Nat) => PV.int n)) (.lst []) μ = some (decide (a = [])) := by
  have := eqP_lnil a (fun (n : Nat) => (n : Int)) μ
  refine Eq.trans this ?_
  congr 1
  cases a <;> rfl
theorem ints_out {α : Type} (l : List α) (f : α → Int) : intsP (([] : List PV) ++ l.map fun a => PV.int (f a)) = some (l.map f) := by
  have := intsP_map (l.map f)
  rw [List.map_map] at this
  exact this
theorem hit_map (ws : List (List Nat)) (bits : List Nat) : (([] : List PV) ++ ((numd 0 ws).filter fun p => decide (p.2 ≠ []) && decide (bits.take p.2.length = p.2)).map fun p => PV.int (p.1 : Nat)) = (hitL ws bits).map fun (n : Nat) => PV.int n := by
  unfold hitL
  rw [List.map_map, List.nil_append]
  rfl
theorem sum_cast {α : Type} (l : List α) (f : α → Nat) : (l.map fun a => ((f a : Nat) : Int)).sum = (((l.map f).sum : Nat) : Int) := by
  induction l with
  | nil => rfl
  | cons a l ih => simp only [List.map_cons, List.sum_cons, ih]; omega
theorem max_lens {ws : List (List Nat)} (h : ws ≠ []) : maxP (ws.map fun w => ((w.length : Nat) : Int)) = ((mxl ws : Nat) : Int) := by
  have := maxP_lot (ns := ws.map List.length) (by simpa using h)
  rw [List.map_map] at this
  exact this
theorem eqP_l0 (μ : Store) : eqP (.lst []) (.lst []) μ = some true := eqP_ln [] μ
theorem eqP_lc (i : Nat) (l : List Nat) (μ : Store) : eqP (.lst (.int (i : Nat) :: l.map fun (n : Nat) => PV.int n)) (.lst []) μ = some false := eqP_ln (i :: l) μ
theorem spl_len {ws : List (List Nat)} (h : WsOk ws) : ∀ {row : List Nat}, (∀ i ∈ row, i < ws.length) → (spl ws row).length ≤ 30 * row.length
  | [], _ => by simp [spl]
  | i :: row, hr => by
    have ih := spl_len h (row := row) fun j hj => hr j (List.mem_cons_of_mem _ hj)
    have := h.sz _ (h.at (hr i List.mem_cons_self))
    simp only [spl, List.flatMap_cons, List.length_append, List.length_cons] at ih ⊢
    omega
theorem spl_bit {ws : List (List Nat)} (h : WsOk ws) {row : List Nat} (hr : ∀ i ∈ row, i < ws.length) : ∀ b ∈ spl ws row, b < 2 := fun b hb => by
  obtain ⟨i, hi, hb⟩ := List.mem_flatMap.mp hb
  exact h.bit _ (h.at (hr i hi)) b hb
theorem spl_map (ws : List (List Nat)) (row : List Nat) : (row.flatMap fun i => (ws.getD i []).map fun (n : Nat) => PV.int n) = (spl ws row).map fun (n : Nat) => PV.int n := by
  unfold spl; rw [List.map_flatMap]
theorem cut_both (xs : List PV) (a b : Nat) (h : a ≤ xs.length) : cutP xs (some (a : Int)) (some ((a : Int) + (b : Int))) = (xs.drop a).take b := by
  unfold cutP
  rw [show ((a : Int) + (b : Int)) = ((a + b : Nat) : Int) by omega, sIx_nat, sIx_nat, Nat.min_eq_left h]
  by_cases h2 : a + b ≤ xs.length
  · rw [Nat.min_eq_left h2, show a + b - a = b by omega]
  · rw [Nat.min_eq_right (by omega), List.take_of_length_le (by rw [List.length_drop]; omega), List.take_of_length_le (by rw [List.length_drop]; omega)]
theorem noRef_rd (a b : List Nat) : noRef (.tup [lotP a, lotP b]) = true := by
  show noRefs [lotP a, lotP b] = true
  simp [noRefs, noRef_lot]
/-! cells behind a deck -/
theorem erase_permW {α : Type} {l : List α} {j : Nat} (h : j < l.length) : List.Perm l (l[j] :: l.eraseIdx j) := by
  have e : l = l.take j ++ l[j] :: l.drop (j + 1) := by rw [← List.drop_eq_getElem_cons h, List.take_append_drop]
  have e2 : l.eraseIdx j = l.take j ++ l.drop (j + 1) := List.eraseIdx_eq_take_drop_succ _ _
  rw [e2]
  conv => lhs; rw [e]
  exact List.perm_middle
theorem map_at {ws : List (List Nat)} {j : Nat} (h : j < ws.length) : (ws.map lotP)[j]? = some (lotP ws[j]) := by
  rw [List.getElem?_map, List.getElem?_eq_getElem h]; rfl
theorem lot_app (w v : List Nat) : PV.tup ((w.map fun (n : Nat) => PV.int n) ++ v.map fun (n : Nat) => PV.int n) = lotP (w ++ v) := by rw [lotP, List.map_append]
theorem pRepr_bits2 {a : List Nat} {μ : Store} {P : PV → Store → Prop} (h : ∀ b ∈ a, b < 2) (hl : a.length ≤ 3000) (hP : P (.str (shwP (.lst [lotP a, lotP a]))) μ) : pRepr [.lst [lotP a, lotP a]] μ P := by
  refine pRepr_lst (d := 2) (l := 50000) ((shb_lst (d := 1) (l := 20000) fun x hx => ?_).mono (by decide) (by simp)) (by decide) (by decide) hP
  simp only [List.mem_cons, List.not_mem_nil, or_false, or_self] at hx
  rw [hx]; exact shb_bits h hl
theorem pRepr_bits {a : List Nat} {μ : Store} {P : PV → Store → Prop} (h : ∀ b ∈ a, b < 2) (hl : a.length ≤ 3000) (hP : P (.str (shwP (lotP a))) μ) : pRepr [lotP a] μ P :=
  pRepr_tup (shb_bits h hl) (by decide) (by decide) hP
structure RdOk (x : List Nat × List Nat) : Prop where
  a : ∀ i ∈ x.1, i < 8
  b : ∀ i ∈ x.2, i < 2
  la : x.1.length ≤ 3000
  lb : x.2.length ≤ 3000
theorem RdOk.of {ws : List (List Nat)} (h : WsOk ws) {bits : List Nat} (hb : ∀ b ∈ bits, b < 2) (hl : bits.length ≤ 3000) : RdOk (rd ws bits) :=
  ⟨fun i hi => Nat.lt_of_lt_of_le (rd_lt bits i hi) h.len, fun b hb' => hb b (mem_rd b hb'), Nat.le_trans (rd_len bits) hl, Nat.le_trans left_len hl⟩
theorem shb_rd {x : List Nat × List Nat} (h : RdOk x) : ShB 2 70000 (rdP x) := by
  refine (shb_tup (d := 1) (l := 30000) fun y hy => ?_).mono (by decide) (by simp)
  rcases List.mem_cons.mp hy with rfl | hy
  · exact shb_lot8 h.a h.la
  · rw [List.mem_singleton.mp hy]
    exact (shb_bits h.b h.lb).mono (by decide) (by decide)
theorem pRepr_rd {x : List Nat × List Nat} {μ : Store} {P : PV → Store → Prop} (h : RdOk x) (hP : P (.str (shwP (rdP x))) μ) : pRepr [rdP x] μ P := pRepr_tup (shb_rd h) (by decide) (by decide) hP
theorem pRepr_rd2 {x : List Nat × List Nat} {μ : Store} {P : PV → Store → Prop} (h : RdOk x) (hP : P (.str (shwP (.lst [rdP x, rdP x]))) μ) : pRepr [.lst [rdP x, rdP x]] μ P := by
  refine pRepr_lst (d := 3) (l := 150000) ((shb_lst (d := 2) (l := 70000) fun y hy => ?_).mono (by decide) (by simp)) (by decide) (by decide) hP
  simp only [List.mem_cons, List.not_mem_nil, or_false, or_self] at hy
  rw [hy]; exact shb_rd h
end Fx

namespace MR
/-! first words -/
def dig (v n : Nat) : List Nat := (List.range n).map fun k => v / 2 ^ (n - 1 - k) % 2
theorem dig_len (v n : Nat) : (dig v n).length = n := by simp [dig]
theorem dig_bit (v n : Nat) : ∀ b ∈ dig v n, b < 2 := fun b hb => by
  obtain ⟨k, _, rfl⟩ := List.mem_map.mp hb
  exact Nat.mod_lt _ (by decide)
theorem dig_succ (v n : Nat) : dig v (n + 1) = dig (v / 2) n ++ [v % 2] := by
  unfold dig
  rw [List.range_succ, List.map_append]
  congr 1
  · refine List.map_congr_left fun k hk => ?_
    have hk := List.mem_range.mp hk
    rw [Nat.div_div_eq_div_mul, show n + 1 - 1 - k = (n - 1 - k) + 1 by omega, Nat.pow_succ, Nat.mul_comm 2]
  · simp
theorem dig_take (m : Nat) : ∀ (k v : Nat), (dig v (m + k)).take m = dig (v / 2 ^ k) m
  | 0, v => by rw [Nat.add_zero, List.take_of_length_le (by rw [dig_len]; exact Nat.le_refl _)]; simp
  | k + 1, v => by
    rw [← Nat.add_assoc, dig_succ, List.take_append_of_le_length (by rw [dig_len]; omega), dig_take m k, Nat.div_div_eq_div_mul, Nat.pow_succ, Nat.mul_comm 2]
theorem dig_inj : ∀ {n v w : Nat}, v < 2 ^ n → w < 2 ^ n → dig v n = dig w n → v = w
  | 0, v, w, hv, hw, _ => by simp at hv hw; omega
  | n + 1, v, w, hv, hw, e => by
    rw [dig_succ, dig_succ] at e
    obtain ⟨e1, e2⟩ := List.append_inj e (by rw [dig_len, dig_len])
    rw [Nat.pow_succ] at hv hw
    have := dig_inj (by omega) (by omega) e1
    simp at e2
    omega
def wt (p : Nat × Nat) : Nat := 2 ^ (30 - p.1)
def wsum (l : List (Nat × Nat)) : Nat := (l.map wt).sum
def plt (q p : Nat × Nat) : Prop := q.1 < p.1 ∨ q.1 = p.1 ∧ q.2 < p.2
instance (q p : Nat × Nat) : Decidable (plt q p) := by unfold plt; infer_instance
def lps (ls : List Nat) : List (Nat × Nat) := (List.range ls.length).map fun i => (ls.getD i 0, i)
def below (ls : List Nat) (p : Nat × Nat) : List (Nat × Nat) := (lps ls).filter fun q => decide (plt q p)
def cod (ls : List Nat) (p : Nat × Nat) : List Nat := dig (wsum (below ls p) / wt p) p.1
def fstW (ls : List Nat) : List (List Nat) := (lps ls).map (cod ls)
theorem getD_range (ls : List Nat) : ((List.range ls.length).map fun i => ls.getD i 0) = ls := by
  apply List.ext_getElem
  · simp
  · intro i h1 h2
    simp [List.getD_eq_getElem?_getD, List.getElem?_eq_getElem h2]
theorem lps_fst (ls : List Nat) : (lps ls).map (·.1) = ls := by
  unfold lps
  rw [List.map_map]
  exact getD_range ls
theorem lps_snd (ls : List Nat) : (lps ls).map (·.2) = List.range ls.length := by
  unfold lps
  rw [List.map_map]
  exact List.map_id' _
theorem lps_len (ls : List Nat) : (lps ls).length = ls.length := by simp [lps]
theorem lps_mem {ls : List Nat} {p : Nat × Nat} (h : p ∈ lps ls) : p.2 < ls.length ∧ p.1 = ls.getD p.2 0 := by
  obtain ⟨i, hi, rfl⟩ := List.mem_map.mp h
  exact ⟨List.mem_range.mp hi, rfl⟩
theorem lps_at {ls : List Nat} {i : Nat} (h : i < ls.length) : (ls.getD i 0, i) ∈ lps ls := List.mem_map.mpr ⟨i, List.mem_range.mpr h, rfl⟩
theorem lps_ex {ls : List Nat} {p q : Nat × Nat} (hp : p ∈ lps ls) (hq : q ∈ lps ls) (e : p.2 = q.2) : p = q := by
  have h1 := (lps_mem hp).2
  have h2 := (lps_mem hq).2
  exact Prod.ext (by rw [h1, h2, e]) e
theorem lps_nd (ls : List Nat) : (lps ls).Pairwise fun p q => p.2 ≠ q.2 := by
  have : ((lps ls).map (·.2)).Nodup := by rw [lps_snd]; exact List.nodup_range
  exact List.pairwise_map.mp this
theorem getD_memN {ls : List Nat} {i : Nat} (h : i < ls.length) : ls.getD i 0 ∈ ls := by
  rw [List.getD_eq_getElem?_getD, List.getElem?_eq_getElem h]; exact List.getElem_mem h
theorem lps_le {ls : List Nat} (hl : ∀ n ∈ ls, n ≤ 30) {p : Nat × Nat} (h : p ∈ lps ls) : p.1 ≤ 30 := by
  rw [(lps_mem h).2]; exact hl _ (getD_memN (lps_mem h).1)
theorem wt_pos (p : Nat × Nat) : 0 < wt p := Nat.two_pow_pos _
theorem wt_dvd {p q : Nat × Nat} (h : q.1 ≤ p.1) : wt p ∣ wt q := Nat.pow_dvd_pow 2 (by omega)
theorem plt_irr (p : Nat × Nat) : ¬ plt p p := by unfold plt; omega
theorem plt_tr {a b c : Nat × Nat} (h : plt a b) (k : plt b c) : plt a c := by unfold plt at *; omega
theorem plt_or {ls : List Nat} {p q : Nat × Nat} (hp : p ∈ lps ls) (hq : q ∈ lps ls) (hn : p ≠ q) : plt p q ∨ plt q p := by
  have : p.2 ≠ q.2 := fun e => hn (lps_ex hp hq e)
  unfold plt; omega
theorem wsum_filter (c : Nat × Nat → Bool) : ∀ l : List (Nat × Nat), wsum (l.filter c) = (l.map fun x => if c x then wt x else 0).sum
  | [] => rfl
  | x :: l => by
    have ih := wsum_filter c l
    unfold wsum at *
    by_cases h : c x = true
    · rw [List.filter_cons_of_pos h, List.map_cons, List.sum_cons, ih, List.map_cons, List.sum_cons, if_pos h]
    · rw [List.filter_cons_of_neg h, ih, List.map_cons, List.sum_cons, if_neg h]; omega
theorem sum_gap {f g : Nat × Nat → Nat} {q : Nat × Nat} {c : Nat} (h : ∀ x, f x ≤ g x) (hq : f q + c ≤ g q) : ∀ {l : List (Nat × Nat)}, q ∈ l → (l.map f).sum + c ≤ (l.map g).sum
  | x :: l, hm => by
    have hle : (l.map f).sum ≤ (l.map g).sum := by
      clear hm
      induction l with
      | nil => exact Nat.le_refl _
      | cons y l ih => simp only [List.map_cons, List.sum_cons]; have := h y; omega
    simp only [List.map_cons, List.sum_cons]
    rcases List.mem_cons.mp hm with rfl | hm
    · omega
    · have := sum_gap h hq hm
      have := h x
      omega
theorem gap {ls : List Nat} {p q : Nat × Nat} (hq : q ∈ lps ls) (h : plt q p) : wsum (below ls q) + wt q ≤ wsum (below ls p) := by
  unfold below
  rw [wsum_filter, wsum_filter]
  refine sum_gap (fun x => ?_) ?_ hq
  · by_cases c : plt x q
    · rw [if_pos (by simpa using c), if_pos (by simpa using plt_tr c h)]; exact Nat.le_refl _
    · rw [if_neg (by simpa using c)]; omega
  · rw [if_neg (by simpa using plt_irr q), if_pos (by simpa using h)]; omega
theorem gap_all {ls : List Nat} {p : Nat × Nat} (hp : p ∈ lps ls) : wsum (below ls p) + wt p ≤ wsum (lps ls) := by
  unfold below
  rw [wsum_filter]
  refine sum_gap (g := wt) (fun x => ?_) ?_ hp
  · split <;> omega
  · rw [if_neg (by simpa using plt_irr p)]; omega
theorem wsum_dvd {d : Nat} : ∀ {l : List (Nat × Nat)}, (∀ q ∈ l, d ∣ wt q) → d ∣ wsum l
  | [], _ => ⟨0, rfl⟩
  | x :: l, h => by
    unfold wsum
    rw [List.map_cons, List.sum_cons]
    exact Nat.dvd_add (h x List.mem_cons_self) (wsum_dvd fun q hq => h q (List.mem_cons_of_mem _ hq))
theorem low_dvd (ls : List Nat) (p : Nat × Nat) : wt p ∣ wsum (below ls p) := wsum_dvd fun q hq => wt_dvd (by
  have := (List.mem_filter.mp hq).2
  simp only [decide_eq_true_eq] at this
  unfold plt at this; omega)
theorem pow30 {n : Nat} (h : n ≤ 30) : 2 ^ n * 2 ^ (30 - n) = 2 ^ 30 := by rw [← Nat.pow_add]; congr 1; omega
section
variable {ls : List Nat} (hl : ∀ n ∈ ls, n ≤ 30) (hf : wsum (lps ls) ≤ 2 ^ 30)
include hl hf
theorem cod_lt {p : Nat × Nat} (hp : p ∈ lps ls) : wsum (below ls p) / wt p < 2 ^ p.1 := by
  have h := gap_all hp
  obtain ⟨v, e⟩ := low_dvd ls p
  have h30 := pow30 (lps_le hl hp)
  have h0 := wt_pos p
  rw [e, Nat.mul_div_cancel_left _ h0]
  have : wt p * (v + 1) ≤ wt p * 2 ^ p.1 := by
    rw [Nat.mul_add, Nat.mul_one, ← e, Nat.mul_comm _ (2 ^ p.1)]
    unfold wt at *
    omega
  exact Nat.le_of_mul_le_mul_left this h0
theorem cod_apt {p q : Nat × Nat} (hp : p ∈ lps ls) (hq : q ∈ lps ls) (hn : p ≠ q) : ¬ cod ls q <+: cod ls p := fun z => by
  have hlen := z.length_le
  unfold cod at z hlen
  rw [dig_len, dig_len] at hlen
  have z := List.prefix_iff_eq_take.mp z
  rw [dig_len] at z
  obtain ⟨k, hk⟩ : ∃ k, p.1 = q.1 + k := ⟨p.1 - q.1, by omega⟩
  have hp30 := lps_le hl hp
  have hcp := cod_lt hl hf hp
  have hcq := cod_lt hl hf hq
  obtain ⟨v, e⟩ := low_dvd ls p
  obtain ⟨u, e2⟩ := low_dvd ls q
  have ev : wsum (below ls p) / wt p = v := by rw [e, Nat.mul_div_cancel_left _ (wt_pos p)]
  have eu : wsum (below ls q) / wt q = u := by rw [e2, Nat.mul_div_cancel_left _ (wt_pos q)]
  rw [ev, eu, hk, dig_take] at z
  rw [ev] at hcp
  rw [eu] at hcq
  rw [hk, Nat.pow_add] at hcp
  have hz := dig_inj hcq (Nat.div_lt_of_lt_mul (by rw [Nat.mul_comm]; exact hcp)) z
  have ew : wt q = 2 ^ k * wt p := by
    unfold wt; rw [← Nat.pow_add]; congr 1; omega
  have hd := Nat.div_add_mod v (2 ^ k)
  have hm := Nat.mod_lt v (Nat.two_pow_pos k)
  rw [← hz] at hd
  -- wsum below q = wt p * (2^k * u), wsum below p = wt p * v, 2^k u ≤ v < 2^k u + 2^k
  have e3 : wsum (below ls q) = wt p * (2 ^ k * u) := by rw [e2, ew, Nat.mul_assoc, Nat.mul_comm (2 ^ k), Nat.mul_assoc, Nat.mul_comm u]
  have e4 : wt q = wt p * 2 ^ k := by rw [ew, Nat.mul_comm]
  have h0 := wt_pos p
  rcases plt_or hp hq hn with h | h
  · have := gap hp h
    rw [e, e3, ← Nat.mul_succ] at this
    have := Nat.le_of_mul_le_mul_left this h0
    omega
  · have := gap hq h
    rw [e, e3, e4, ← Nat.mul_add] at this
    have := Nat.le_of_mul_le_mul_left this h0
    omega
theorem fst_pf : PFW (fstW ls) := by
  unfold fstW PFW
  rw [List.pairwise_map]
  refine List.Pairwise.imp_of_mem (fun {a b} ha hb h => ?_) (lps_nd ls)
  have hn : a ≠ b := fun e => h (by rw [e])
  exact ⟨cod_apt hl hf hb ha (Ne.symm hn), cod_apt hl hf ha hb hn⟩
end
theorem fst_len (ls : List Nat) : (fstW ls).length = ls.length := by rw [fstW, List.length_map, lps_len]
theorem fst_lens (ls : List Nat) : (fstW ls).map List.length = ls := by
  unfold fstW
  rw [List.map_map]
  conv => rhs; rw [← lps_fst ls]
  refine List.map_congr_left fun p _ => ?_
  exact dig_len _ _
theorem fst_bit (ls : List Nat) : ∀ w ∈ fstW ls, ∀ b ∈ w, b < 2 := fun w hw => by
  obtain ⟨p, _, rfl⟩ := List.mem_map.mp hw
  exact dig_bit _ _
theorem fst_sz {ls : List Nat} {m : Nat} (h : ∀ n ∈ ls, n ≤ m) : ∀ w ∈ fstW ls, w.length ≤ m := fun w hw => by
  have : w.length ∈ (fstW ls).map List.length := List.mem_map.mpr ⟨w, hw, rfl⟩
  rw [fst_lens] at this
  exact h _ this
theorem wsum_lps (ls : List Nat) : wsum (lps ls) = (ls.map fun n => 2 ^ (30 - n)).sum := by
  unfold wsum
  conv => rhs; rw [← lps_fst ls]
  rw [List.map_map]
  rfl
theorem kr_lens (L : Nat) (ws : List (List Nat)) : kr L ws = ((ws.map List.length).map fun n => 2 ^ (L - n)).sum := by rw [kr, List.map_map]; rfl
theorem kr_fst (ls : List Nat) : kr 30 (fstW ls) = wsum (lps ls) := by rw [kr_lens, fst_lens, wsum_lps]
/-! one after another -/
def lexN (p q : Nat × Nat) : Prop := p.1 < q.1 ∨ p.1 = q.1 ∧ p.2 ≤ q.2
theorem wsum_perm {a b : List (Nat × Nat)} (h : a.Perm b) : wsum a = wsum b := (h.map wt).sum_nat
theorem wsum_app (a b : List (Nat × Nat)) : wsum (a ++ b) = wsum a + wsum b := by unfold wsum; rw [List.map_append, List.sum_append]
structure Row (ls : List Nat) (l : List (Nat × Nat)) : Prop where
  perm : l.Perm (lps ls)
  up : l.Pairwise plt
theorem row_of {ls : List Nat} {l : List (Nat × Nat)} (h : l.Perm (lps ls)) (s : l.Pairwise lexN) : Row ls l := by
  refine ⟨h, ?_⟩
  have hd : l.Pairwise fun p q => p.2 ≠ q.2 := (h.pairwise_iff fun z e => z e.symm).mpr (lps_nd ls)
  refine (s.and hd).imp fun {a b} hab => ?_
  have := hab.1; have := hab.2
  unfold lexN at *; unfold plt; omega
theorem row_ex (ls : List Nat) : ∃ l, Row ls l := by
  have key : ∀ l : List (Nat × Nat), ∃ k : List (Nat × Nat), k.Perm l ∧ k.Pairwise lexN := by
    intro l
    induction l with
    | nil => exact ⟨[], .refl _, .nil⟩
    | cons x l ih =>
      obtain ⟨k, h1, h2⟩ := ih
      have ins : ∀ k : List (Nat × Nat), k.Pairwise lexN → ∃ k' : List (Nat × Nat), k'.Perm (x :: k) ∧ k'.Pairwise lexN := by
        intro k
        induction k with
        | nil => intro _; exact ⟨[x], .refl _, List.pairwise_singleton _ _⟩
        | cons y k ih =>
          intro h
          obtain ⟨h3, h4⟩ := List.pairwise_cons.mp h
          by_cases c : lexN x y
          · refine ⟨x :: y :: k, .refl _, List.pairwise_cons.mpr ⟨fun z hz => ?_, h⟩⟩
            rcases List.mem_cons.mp hz with rfl | hz
            · exact c
            · have := h3 z hz; unfold lexN at *; omega
          · obtain ⟨k', p1, p2⟩ := ih h4
            refine ⟨y :: k', (p1.cons y).trans (List.Perm.swap _ _ _), List.pairwise_cons.mpr ⟨fun z hz => ?_, p2⟩⟩
            rcases List.mem_cons.mp (p1.mem_iff.mp hz) with rfl | hz
            · unfold lexN at *; omega
            · exact h3 z hz
      obtain ⟨k', p1, p2⟩ := ins k h2
      exact ⟨k', p1.trans (h1.cons x), p2⟩
  obtain ⟨l, h1, h2⟩ := key (lps ls)
  exact ⟨l, row_of h1 h2⟩
section
variable {ls : List Nat} {l pre post : List (Nat × Nat)} {p : Nat × Nat} (h : Row ls l) (e : l = pre ++ p :: post)
include h e
theorem Row.mem : p ∈ lps ls := h.perm.mem_iff.mp (by rw [e]; simp)
theorem Row.below : below ls p |>.Perm pre := by
  have h1 : (MR.below ls p).Perm (l.filter fun q => decide (plt q p)) := (h.perm.filter _).symm
  refine h1.trans ?_
  have hu := h.up
  rw [e] at hu
  obtain ⟨_, h2, h3⟩ := List.pairwise_append.mp hu
  obtain ⟨h4, _⟩ := List.pairwise_cons.mp h2
  have e1 : (pre.filter fun q => decide (plt q p)) = pre := List.filter_eq_self.mpr fun q hq => by simpa using h3 q hq p List.mem_cons_self
  have e2 : ((p :: post).filter fun q => decide (plt q p)) = [] := by
    rw [List.filter_eq_nil_iff]
    intro q hq
    simp only [decide_eq_true_eq]
    rcases List.mem_cons.mp hq with rfl | hq
    · exact plt_irr _
    · exact fun z => plt_irr _ (plt_tr z (h4 q hq))
  rw [e, List.filter_append, e1, e2, List.append_nil]
theorem Row.low : wsum (MR.below ls p) = wsum pre := wsum_perm (h.below e)
theorem Row.le : ∀ q ∈ pre, q.1 ≤ p.1 := fun q hq => by
  have hu := h.up
  rw [e] at hu
  have := (List.pairwise_append.mp hu).2.2 q hq p List.mem_cons_self
  unfold plt at this; omega
theorem Row.new : ∀ q ∈ pre, q.2 ≠ p.2 := fun q hq => by
  have hd : l.Pairwise fun p q => p.2 ≠ q.2 := (h.perm.pairwise_iff fun z e => z e.symm).mpr (lps_nd ls)
  rw [e] at hd
  exact (List.pairwise_append.mp hd).2.2 q hq p List.mem_cons_self
theorem Row.lst : ∀ q ∈ post, q.2 ≠ p.2 := fun q hq z => by
  have hd : l.Pairwise fun p q => p.2 ≠ q.2 := (h.perm.pairwise_iff fun z e => z e.symm).mpr (lps_nd ls)
  rw [e] at hd
  exact (List.pairwise_cons.mp (List.pairwise_append.mp hd).2.1).1 q hq z.symm
theorem Row.min : ∀ q ∈ p :: post, q = p ∨ plt p q := fun q hq => by
  rcases List.mem_cons.mp hq with rfl | hq
  · exact .inl rfl
  · have hu := h.up
    rw [e] at hu
    exact .inr ((List.pairwise_cons.mp (List.pairwise_append.mp hu).2.1).1 q hq)
theorem Row.tot : wsum pre + wt p + wsum post = wsum (lps ls) := by
  rw [← wsum_perm h.perm, e, wsum_app]
  unfold wsum
  simp only [List.map_cons, List.sum_cons]
  omega
end
/-- number and size after a row of pairs -/
def NumOk (pre : List (Nat × Nat)) (N b : Nat) : Prop := b ≤ 30 ∧ (∀ q ∈ pre, q.1 ≤ b) ∧ N * 2 ^ (30 - b) = wsum pre
theorem num_nil : NumOk [] 0 0 := ⟨by decide, by simp, by simp [wsum]⟩
theorem num_shift {pre : List (Nat × Nat)} {N b n : Nat} (h : NumOk pre N b) (h1 : b ≤ n) (h2 : n ≤ 30) : NumOk pre (N * 2 ^ (n - b)) n := by
  refine ⟨h2, fun q hq => Nat.le_trans (h.2.1 q hq) h1, ?_⟩
  rw [← h.2.2, Nat.mul_assoc, ← Nat.pow_add]; congr 2; omega
theorem num_cod {ls : List Nat} {l pre post : List (Nat × Nat)} {p : Nat × Nat} {N : Nat} (h : Row ls l) (e : l = pre ++ p :: post) (k : NumOk pre N p.1) : cod ls p = dig N p.1 := by
  unfold cod
  rw [h.low e, ← k.2.2]
  show dig (N * wt p / wt p) p.1 = _
  rw [Nat.mul_div_cancel _ (wt_pos p)]
theorem num_next {pre : List (Nat × Nat)} {p : Nat × Nat} {N : Nat} (k : NumOk pre N p.1) : NumOk (pre ++ [p]) (N + 1) p.1 := by
  refine ⟨k.1, fun q hq => ?_, ?_⟩
  · rcases List.mem_append.mp hq with hq | hq
    · exact k.2.1 q hq
    · rw [List.mem_singleton.mp hq]; exact Nat.le_refl _
  · rw [wsum_app, ← k.2.2, Nat.add_mul, Nat.one_mul]
    simp [wsum, wt]
theorem num_out {ls : List Nat} {l pre post : List (Nat × Nat)} {p : Nat × Nat} {N : Nat} (h : Row ls l) (e : l = pre ++ p :: post) (k : NumOk pre N p.1) (c : 2 ^ p.1 ≤ N) : 2 ^ 30 < wsum (lps ls) := by
  have h1 := h.tot e
  have h2 := wt_pos p
  have h3 : 2 ^ p.1 * 2 ^ (30 - p.1) ≤ N * 2 ^ (30 - p.1) := Nat.mul_le_mul_right _ c
  rw [pow30 k.1, k.2.2] at h3
  omega
theorem num_fit {pre : List (Nat × Nat)} {p : Nat × Nat} {N : Nat} (k : NumOk pre N p.1) (c : N < 2 ^ p.1) : wsum (pre ++ [p]) ≤ 2 ^ 30 := by
  have h := (num_next k).2.2
  rw [← h, ← pow30 k.1]
  exact Nat.mul_le_mul_right _ c
theorem num_lt {pre : List (Nat × Nat)} {N b : Nat} (k : NumOk pre N b) (c : wsum pre ≤ 2 ^ 30) : N ≤ 2 ^ b := by
  have h := k.2.2
  rw [← h, ← pow30 k.1] at c
  exact Nat.le_of_mul_le_mul_right c (Nat.two_pow_pos _)
theorem lead_zero {ls : List Nat} {i : Nat} (hi : i < ls.length) (h0 : ls.getD i 0 = 0) (hf : wsum (lps ls) ≤ 2 ^ 30) : ls = [0] := by
  rw [wsum_lps] at hf
  have e : ls = ls.take i ++ ls.getD i 0 :: ls.drop (i + 1) := by
    rw [List.getD_eq_getElem?_getD, List.getElem?_eq_getElem hi, Option.getD_some, ← List.drop_eq_getElem_cons hi, List.take_append_drop]
  rw [h0] at e
  generalize ls.take i = a at e
  generalize ls.drop (i + 1) = b at e
  subst e
  rw [List.map_append, List.sum_append, List.map_cons, List.sum_cons] at hf
  have hz : ∀ {l : List Nat}, (l.map fun n => 2 ^ (30 - n)).sum = 0 → l = [] := by
    intro l h
    cases l with
    | nil => rfl
    | cons x l =>
      simp only [List.map_cons, List.sum_cons] at h
      have := Nat.two_pow_pos (30 - x)
      omega
  have ha : a = [] := hz (by omega)
  have hb : b = [] := hz (by omega)
  rw [ha, hb]; rfl
end MR

namespace Fx
open PySem PySem.Spec PyProof.Rows L2 RZ MR
def fwP (ls : List Nat) : PV := if wsum (lps ls) ≤ 2 ^ 30 then wsP (fstW ls) else .non
structure LsOk (ls : List Nat) : Prop where
  ne : ls ≠ []
  len : ls.length ≤ 8
  le : ∀ n ∈ ls, n ≤ 30
theorem LsOk.ws {ls : List Nat} (h : LsOk ls) (hf : wsum (lps ls) ≤ 2 ^ 30) : WsOk (fstW ls) where
  ne := fun z => h.ne (List.length_eq_zero_iff.mp (by rw [← fst_len, z]; rfl))
  len := by rw [fst_len]; exact h.len
  pf := fst_pf h.le hf
  bit := fst_bit ls
  sz := fst_sz h.le
theorem minOf_le : ∀ (ps : List (Int × Int)) (p : Int × Int), ∀ x ∈ p :: ps, PySem.W.DatumOrd.lt x (PySem.W.minOf p ps) = false
  | [], p, x, hx => by
    rw [List.mem_singleton.mp hx, Bool.eq_false_iff]
    show ¬ PySem.W.DatumOrd.lt p p = true
    rw [pair_lt]; omega
  | q :: ps, p, x, hx => by
    have e : PySem.W.minOf p (q :: ps) = PySem.W.minOf (if PySem.W.DatumOrd.lt q p = true then q else p) ps := rfl
    rw [e]
    generalize hm : (if PySem.W.DatumOrd.lt q p = true then q else p) = m
    have ih := minOf_le ps m
    have key : ∀ x, PySem.W.DatumOrd.lt x (PySem.W.minOf m ps) = true → PySem.W.DatumOrd.lt m (PySem.W.minOf m ps) = false → PySem.W.DatumOrd.lt x m = true := by
      intro x h1 h2
      rw [Bool.eq_false_iff] at h2
      have h2 : ¬ _ := h2
      rw [pair_lt] at h2
      rw [pair_lt] at *
      omega
    have hmm := ih m List.mem_cons_self
    rw [Bool.eq_false_iff]
    intro z
    rcases List.mem_cons.mp hx with rfl | hx
    · have := key _ z hmm
      rw [pair_lt] at this
      split at hm
      · rename_i c; rw [pair_lt] at c; subst hm; omega
      · subst hm; omega
    · rcases List.mem_cons.mp hx with rfl | hx
      · have := key _ z hmm
        rw [pair_lt] at this
        split at hm
        · subst hm; omega
        · rename_i c; rw [pair_lt] at c; subst hm; omega
      · have := ih x (List.mem_cons_of_mem _ hx)
        rw [z] at this; exact absurd this (by decide)
def fdP (ls : List Nat) (pre : List (Nat × Nat)) : List (Key × PV) := pre.map fun p => (Sum.inl ((p.2 : Nat) : Int), lotP (cod ls p))
theorem fd_put {ls : List Nat} {pre : List (Nat × Nat)} {p : Nat × Nat} (h : ∀ q ∈ pre, q.2 ≠ p.2) : putP (fdP ls pre) (.inl ((p.2 : Nat) : Int)) (lotP (cod ls p)) = fdP ls (pre ++ [p]) := by
  unfold putP
  rw [if_neg]
  · unfold fdP; rw [List.map_append]; rfl
  · rw [Bool.not_eq_true, List.any_eq_false]
    intro kv hkv
    obtain ⟨q, hq, rfl⟩ := List.mem_map.mp hkv
    have := h q hq
    simp; omega
theorem find_one {α : Type} {c : α → Bool} {p : α} : ∀ {l : List α}, p ∈ l → c p = true → (∀ q ∈ l, c q = true → q = p) → l.find? c = some p
  | x :: l, hm, hc, h => by
    by_cases e : c x = true
    · rw [List.find?_cons_of_pos e, h x List.mem_cons_self e]
    · rw [List.find?_cons_of_neg e]
      rcases List.mem_cons.mp hm with rfl | hm
      · exact absurd hc e
      · exact find_one hm hc fun q hq => h q (List.mem_cons_of_mem _ hq)
theorem fd_get {ls : List Nat} {l : List (Nat × Nat)} (h : Row ls l) {i : Nat} (hi : i < ls.length) : valP (fdP ls l) (.inl ((i : Nat) : Int)) = some (lotP (cod ls (ls.getD i 0, i))) := by
  unfold valP fdP
  have hm : (ls.getD i 0, i) ∈ l := h.perm.mem_iff.mpr (lps_at hi)
  have hs : ∀ q ∈ l, q.2 = i → q = (ls.getD i 0, i) := fun q hq e => lps_ex (h.perm.mem_iff.mp hq) (lps_at hi) e
  have hp : ((ls.getD i 0, i) : Nat × Nat).2 = i := rfl
  generalize ((ls.getD i 0, i) : Nat × Nat) = p at *
  rw [List.find?_map]
  have : l.find? ((fun kv : Key × PV => decide (kv.1 = .inl ((i : Nat) : Int))) ∘ fun p => (Sum.inl ((p.2 : Nat) : Int), lotP (cod ls p))) = some p := by
    refine find_one hm (by simp [hp]) fun q hq c => hs q hq ?_
    simp at c
    omega
  rw [this]; rfl
theorem fd_noRef (ls : List Nat) (pre : List (Nat × Nat)) : noRefs ((fdP ls pre).map (·.2)) = true := by
  unfold fdP
  rw [List.map_map]
  induction pre with
  | nil => rfl
  | cons p pre ih => simp only [List.map_cons, noRefs, ih, Bool.and_true]; exact noRef_lot _
theorem fdP_len (ls : List Nat) (pre : List (Nat × Nat)) : (fdP ls pre).length = pre.length := List.length_map _
theorem fst_out (ls : List Nat) : ((List.range ls.length).map fun i => lotP (cod ls (ls.getD i 0, i))) = (fstW ls).map lotP := by
  unfold fstW lps
  rw [List.map_map, List.map_map]; rfl
theorem shb_ws {ws : List (List Nat)} (h : ∀ w ∈ ws, ∀ b ∈ w, b < 2) (hs : ∀ w ∈ ws, w.length ≤ 30) (hl : ws.length ≤ 8) : ShB 2 200000 (wsP ws) := by
  refine (shb_tup (d := 1) (l := 20000) fun x hx => ?_).mono (by decide) (by rw [List.length_map]; omega)
  obtain ⟨w, hw, rfl⟩ := List.mem_map.mp hx
  have := shb_bits (h w hw) (Nat.le_trans (hs w hw) (by decide : 30 ≤ 3000))
  exact this
theorem shb_fw {ls : List Nat} (h : LsOk ls) : ShB 2 200000 (fwP ls) := by
  unfold fwP
  split
  · exact shb_ws (fst_bit ls) (fst_sz h.le) (by rw [fst_len]; exact h.len)
  · exact shb_non.mono (by decide) (by decide)
theorem pRepr_fw2 {ls : List Nat} {μ : Store} {P : PV → Store → Prop} (h : LsOk ls) (hP : P (.str (shwP (.lst [fwP ls, fwP ls]))) μ) : pRepr [.lst [fwP ls, fwP ls]] μ P := by
  refine pRepr_lst (d := 3) (l := 500000) ((shb_lst (d := 2) (l := 200000) fun x hx => ?_).mono (by decide) (by simp)) (by decide) (by decide) hP
  simp only [List.mem_cons, List.not_mem_nil, or_false, or_self] at hx
  rw [hx]; exact shb_fw h
theorem pReprA_fw2 {ls : List Nat} {μ : Store} {P : PV → Store → Prop} (h : LsOk ls) (hP : P (.str (shwP (.lst [fwP ls, fwP ls]))) μ) : pReprA [.lst [fwP ls, fwP ls]] μ P := pRepr_fw2 h hP
def shFw (ls : List Nat) : Str := if wsum (lps ls) ≤ 2 ^ 30 then shwP (wsP (fstW ls)) else .ofString "None"
theorem pReprA_fw {ls : List Nat} {μ : Store} {P : PV → Store → Prop} (h : LsOk ls) (hP : P (.str (shFw ls)) μ) : pReprA [fwP ls] μ P := by
  unfold fwP shFw at *
  split
  · rename_i c
    rw [if_pos c] at hP
    exact pRepr_tup (shb_ws (fst_bit ls) (fst_sz h.le) (by rw [fst_len]; exact h.len)) (by decide) (by decide) hP
  · rename_i c
    rw [if_neg c] at hP
    exact hP
theorem digP_out (v n : Nat) : PV.tup ((List.range n).map fun i => .int ((v / 2 ^ (n - 1 - i) % 2 : Nat) : Int)) = lotP (dig v n) := by unfold lotP dig; rw [List.map_map]; rfl
theorem numd_rangeN : ∀ (ls : List Nat) (j : Nat), numd j ls = (List.range ls.length).map fun i => (j + i, ls.getD i 0)
  | [], _ => rfl
  | x :: ls, j => by
    rw [numd, numd_rangeN ls (j + 1), List.length_cons, List.range_succ_eq_map, List.map_cons, List.map_map]
    have e : (List.range ls.length).map (fun i => (j + 1 + i, ls.getD i 0)) = (List.range ls.length).map ((fun i => (j + i, (x :: ls).getD i 0)) ∘ Nat.succ) := by
      refine List.map_congr_left fun i _ => ?_
      simp only [Function.comp, List.getD_cons_succ]
      congr 1
      omega
    rw [e]
    rfl
theorem lps_numd (ls : List Nat) : (numd 0 ls).map (fun p => (p.2, p.1)) = lps ls := by
  rw [numd_rangeN, List.map_map]
  refine List.map_congr_left fun i _ => ?_
  simp only [Function.comp, Nat.zero_add]
def zz (p : Nat × Nat) : Int × Int := ((p.1 : Nat), (p.2 : Nat))
theorem lps_pairs (ls : List Nat) : pairsP (([] : List PV) ++ (numd 0 ls).map fun p => PV.tup [.int (p.2 : Nat), .int (p.1 : Nat)]) = some ((lps ls).map zz) := by
  rw [← pairsP_map, ← lps_numd, List.map_map, List.map_map]; rfl
theorem zz_map (l : List (Nat × Nat)) : (l.map zz).map pairV = l.map fun p => PV.tup [.int (p.1 : Nat), .int (p.2 : Nat)] := by rw [List.map_map]; rfl
theorem lexN_of {l : List (Nat × Nat)} (h : (l.map zz).Pairwise lexP) : l.Pairwise lexN := (List.pairwise_map.mp h).imp fun {a b} h => by
  unfold lexP zz at h; unfold lexN; omega
theorem shlN (a w : Nat) : ((a : Nat) : Int) * 2 ^ ((w : Nat) : Int).toNat = ((a * 2 ^ w : Nat) : Int) := by
  rw [Int.toNat_natCast]; simp
theorem shrN (a w : Nat) : ((a : Nat) : Int) / 2 ^ ((w : Nat) : Int).toNat = ((a / 2 ^ w : Nat) : Int) := by
  rw [Int.toNat_natCast]; simp
theorem noRef_ws (ws : List (List Nat)) : noRef (wsP ws) = true := by
  show noRefs (ws.map lotP) = true
  induction ws with
  | nil => rfl
  | cons w ws ih => simp only [List.map_cons, noRefs, ih, Bool.and_true]; exact noRef_lot _
theorem row_pairs (ls L : List Nat) : pairsP (([] : List PV) ++ L.map fun i => PV.tup [.int (ls.getD i 0 : Nat), .int (i : Nat)]) = some (L.map fun i => zz (ls.getD i 0, i)) := by
  rw [← pairsP_map, List.map_map]; rfl
theorem min_row {ls : List Nat} {l pre post : List (Nat × Nat)} {p : Nat × Nat} (hR : Row ls l) (e : l = pre ++ p :: post) {L : List Nat} (hL : ∀ i, i ∈ L ↔ i ∈ (p :: post).map (·.2)) : ∃ x L', L = x :: L' ∧ PySem.W.minOf (zz (ls.getD x 0, x)) (L'.map fun i => zz (ls.getD i 0, i)) = zz p := by
  have hp := hR.mem e
  have hpL : p.2 ∈ L := (hL _).mpr (by simp)
  obtain ⟨x, L', rfl⟩ : ∃ x L', L = x :: L' := by
    cases L with
    | nil => cases hpL
    | cons x L' => exact ⟨x, L', rfl⟩
  refine ⟨x, L', rfl, ?_⟩
  have h1 := minOf_mem (L'.map fun i => zz (ls.getD i 0, i)) (zz (ls.getD x 0, x))
  have h2 := minOf_le (L'.map fun i => zz (ls.getD i 0, i)) (zz (ls.getD x 0, x))
  rw [show zz (ls.getD x 0, x) :: (L'.map fun i => zz (ls.getD i 0, i)) = (x :: L').map fun i => zz (ls.getD i 0, i) from rfl] at h1 h2
  obtain ⟨j, hj, ej⟩ := List.mem_map.mp h1
  rw [← ej] at h2 ⊢
  obtain ⟨q, hq, rfl⟩ := List.mem_map.mp ((hL j).mp hj)
  have hql : q ∈ lps ls := hR.perm.mem_iff.mp (by rw [e]; exact List.mem_append_right _ hq)
  have eq : (ls.getD q.2 0, q.2) = q := Prod.ext (lps_mem hql).2.symm rfl
  have ep : (ls.getD p.2 0, p.2) = p := Prod.ext (lps_mem hp).2.symm rfl
  have h3 := h2 (zz p) (List.mem_map.mpr ⟨p.2, hpL, by simp only [ep]⟩)
  simp only [eq] at h3 ⊢
  rw [Bool.eq_false_iff] at h3
  have h3 : ¬ _ := h3
  rw [pair_lt] at h3
  rcases hR.min e q hq with rfl | h
  · rfl
  · exact absurd (by unfold plt at h; unfold zz; omega) h3
theorem shl_okN {n s : Nat} (h1 : n ≤ 2 ^ 30) (h2 : s ≤ 30) : CShl ((n : Nat) : Int) ((s : Nat) : Int) := by
  exact shl_ok (n := 31) (by rw [Int.natAbs_natCast]; omega) (by omega)
theorem list_setN' (ls : List Nat) (a x : Nat) : (ls.map fun (n : Nat) => PV.int n).set a (.int (x : Nat)) = (ls.set a x).map fun (n : Nat) => PV.int n := by rw [List.map_set]
theorem max_oneN (x : Nat) : (if ((x : Nat) : Int) - 1 > 0 then ((x : Nat) : Int) - 1 else 0) = ((x - 1 : Nat) : Int) := by split <;> omega
theorem full_iff {ws : List (List Nat)} (h : WsOk ws) : decide (kr (mxl ws) ws = 2 ^ mxl ws) = decide (kr 30 ws = 2 ^ 30) := by
  have hm : mxl ws ≤ 30 := maxN_le fun n hn => by obtain ⟨w, hw, rfl⟩ := List.mem_map.mp hn; exact h.sz w hw
  have e := kr_up hm (ws := ws) le_mxl
  have e2 : 2 ^ (30 - mxl ws) * 2 ^ mxl ws = 2 ^ 30 := by rw [← Nat.pow_add]; congr 1; omega
  rw [decide_eq_decide, e, ← e2]
  exact ⟨fun h => by rw [h], fun h => Nat.eq_of_mul_eq_mul_left (Nat.two_pow_pos _) h⟩
theorem eqP_luF (a b : List Nat) (μ : Store) : eqP (.tup (a.map fun (n : Nat) => PV.int n)) (lotP b) μ = some (decide (a = b)) := eqP_lots a b μ
theorem lens_out (ws : List (List Nat)) : (([] : List PV) ++ ws.map fun w => PV.int (w.length : Nat)) = (ws.map List.length).map fun (n : Nat) => PV.int n := by rw [List.nil_append, List.map_map]; rfl
theorem eqP_lns (a b : List Nat) (μ : Store) : eqP (.lst (a.map fun (n : Nat) => PV.int n)) (.lst (b.map fun (n : Nat) => PV.int n)) μ = some (decide (a = b)) := by
  have := eqP_li (zs a) (zs b) μ
  rw [show (zs a).map PV.int = a.map fun (n : Nat) => PV.int n by rw [zs, List.map_map]; rfl, show (zs b).map PV.int = b.map fun (n : Nat) => PV.int n by rw [zs, List.map_map]; rfl] at this
  rw [this]
  exact congrArg some (decide_eq_decide.mpr ⟨zs_inj, fun e => by rw [e]⟩)
theorem eqP_fw {a b : List Nat} (h : a ≠ b) (hf : wsum (lps b) ≤ 2 ^ 30) (μ : Store) : eqP (fwP a) (wsP (fstW b)) μ = some false := by
  unfold fwP
  split
  · rw [eqP_ws, decide_eq_false]
    intro e
    exact h (by rw [← fst_lens a, e, fst_lens])
  · unfold eqP wsP
    simp only [scalP, frzP, datP, datPs_ws, Option.map_some]
    rw [if_pos ⟨rfl, shaped_ws _⟩]
    simp [PyData.eqv]
theorem cut_less {ls : List Nat} {a : Nat} (h : a < ls.length) (h0 : ls.getD a 0 ≠ 0) : PV.tup (cutP (ls.map fun (n : Nat) => PV.int n) none (some (a : Int)) ++ [PV.int ((ls.getD a 0 : Nat) - 1)] ++ cutP (ls.map fun (n : Nat) => PV.int n) (some ((a : Int) + 1)) none) = lotP (ls.set a (ls.getD a 0 - 1)) := by
  rw [cut_to, show (a : Int) + 1 = ((a + 1 : Nat) : Int) by omega, cut_from, List.set_eq_take_append_cons_drop, if_pos h, lotP, List.map_append, List.map_cons, List.map_take, List.map_drop, show ((ls.getD a 0 - 1 : Nat) : Int) = ((ls.getD a 0 : Nat) : Int) - 1 by omega]
  simp
theorem isNon_fw (ls : List Nat) : isNonP (fwP ls) = decide (2 ^ 30 < wsum (lps ls)) := by
  unfold fwP
  split
  · rename_i c; rw [decide_eq_false (by omega)]; rfl
  · rename_i c; rw [decide_eq_true (by omega)]; rfl
end Fx

namespace Fx
open PySem PySem.Spec PyProof.Rows L2 RZ MR
abbrev S_is_integer : PSp := fun xs μ Q => xs.length = 1 ∧ ∃ i, xs = [.int i] ∧ Q (.bl true) μ
abbrev S_is_within : PSp := fun xs μ Q => xs.length = 3 ∧ ∃ (i lo hi : Int), xs = [.int i, .int lo, .int hi] ∧ Q (.bl (decide (lo ≤ i) && decide (i ≤ hi))) μ
abbrev S_are_integers : PSp := fun xs μ Q => xs.length = 3 ∧ ∃ (vs : List Int) (lo hi : Int), xs = [.tup (vs.map PV.int), .int lo, .int hi] ∧ vs.length ≤ lim ∧ Q (.bl (vs.all fun i => decide (lo ≤ i) && decide (i ≤ hi))) μ
abbrev S__law_draw : PSp := fun xs μ Q => xs.length = 2 ∧ ∃ (many m : Int) (rest : Store), xs = [.mr 1, .int many] ∧ Dk m rest μ ∧ 0 < many ∧ many < 2 ^ 60 ∧
  ∀ (n : Int) (μ' : Store), 0 ≤ n → n < many → Dk m rest μ' → Q (.int n) μ' 
abbrev S__law_pick : PSp := fun xs μ Q => xs.length = 2 ∧ ∃ (x : PV) (items : List PV) (m : Int) (rest : Store), xs = [.mr 1, x] ∧ (seqP x = some items ∨ ∃ j, x = .mr (j + 2) ∧ rest[j]? = some (.lst items)) ∧ Dk m rest μ ∧ 0 < items.length ∧ items.length ≤ 1000 ∧
  ∀ v ∈ items, ∀ μ', Dk m rest μ' → Q v μ' 
abbrev S__law_deck : PSp := fun xs μ Q => xs.length = 1 ∧ ∃ (ns : List Int), xs = [.kl (ns.map PV.int)] ∧ μ = [] ∧
  ∀ (m : Int) (μ' : Store), Dk m [] μ' → Q (.mr 1) μ' 
abbrev S_law : PSp := fun xs μ Q => xs.length = 1 ∧ ∃ ns : List Int, xs = [.kl (ns.map PV.int)] ∧ μ = [] ∧ ∀ μ', Q (.bl true) μ' 
abbrev S_are_bits : PSp := fun xs μ Q => xs.length = 1 ∧ ∃ (bs : List Nat), xs = [lotP bs] ∧ bs.length ≤ 200000 ∧ Q (.bl (bs.all (· < 2))) μ
abbrev S_is_begun : PSp := fun xs μ Q => xs.length = 2 ∧ ∃ (ws : List (List Nat)) (i : Nat), xs = [wsP ws, .int (i : Nat)] ∧ i < ws.length ∧ ws.length ≤ 1000 ∧ PFW ws ∧ Q (.bl false) μ
abbrev S_are_words : PSp := fun xs μ Q => xs.length = 1 ∧ ∃ (ws : List (List Nat)), xs = [wsP ws] ∧ WsOk ws ∧ Q (.bl true) μ
abbrev S_check_words : PSp := fun xs μ Q => xs.length = 1 ∧ ∃ (ws : List (List Nat)), xs = [wsP ws] ∧ WsOk ws ∧ Q .non μ
abbrev S_are_full : PSp := fun xs μ Q => xs.length = 1 ∧ ∃ (ws : List (List Nat)), xs = [wsP ws] ∧ WsOk ws ∧ Q (.bl (decide (kr (mxl ws) ws = 2 ^ mxl ws))) μ
abbrev S__law_words : PSp := fun xs μ Q => xs.length = 2 ∧ ∃ (most m : Int) (rest : Store), xs = [.mr 1, .int most] ∧ Dk m rest μ ∧ 0 < most ∧ most ≤ 8 ∧ ∀ (ws : List (List Nat)) (g : Store) (μ' : Store), WsOk ws → (∀ w ∈ ws, w.length ≤ 9) → Dk m (rest ++ g) μ' → Q (wsP ws) μ' 
abbrev S_digits_of : PSp := fun xs μ Q => xs.length = 2 ∧ ∃ (v n : Nat), xs = [.int (v : Nat), .int (n : Nat)] ∧ v < 2 ^ 31 ∧ n ≤ 30 ∧ Q (lotP (dig v n)) μ
abbrev S_first_of : PSp := fun xs μ Q => xs.length = 1 ∧ ∃ (ls : List Nat), xs = [lotP ls] ∧ LsOk ls ∧ Q (fwP ls) μ
abbrev S_first_words : PSp := fun xs μ Q => xs.length = 1 ∧ ∃ (ls : List Nat), xs = [lotP ls] ∧ LsOk ls ∧ Q (fwP ls) μ
abbrev S__law_first : PSp := fun xs μ Q => xs.length = 1 ∧ ∃ (ls : List Nat), xs = [lotP ls] ∧ LsOk ls ∧ Q (fwP ls) μ
abbrev S__law_lengths : PSp := fun xs μ Q => xs.length = 1 ∧ ∃ (m : Int) (rest : Store), xs = [.mr 1] ∧ Dk m rest μ ∧ ∀ (ls : List Nat) (g : Store) (μ' : Store), LsOk ls → Dk m (rest ++ g) μ' → Q (lotP ls) μ' 
abbrev S__law_is_first_right : PSp := fun xs μ Q => xs.length = 2 ∧ ∃ (ls : List Nat) (m : Int) (rest : Store), xs = [.mr 1, lotP ls] ∧ LsOk ls ∧ Dk m rest μ ∧ ∀ (μ' : Store), Dk m rest μ' → Q (.bl true) μ' 
end Fx
namespace K63
open PySem PySem.Spec PyProof.Rows L2 RZ Fx MR

def topS (i : Nat) : Stmt := PySem.Challenge.pw_drawnbits_k63_whole_first_words_with_len.main.body.getD i (.Pass ⟨0, 0, 0, 0⟩)
abbrev s_is_integer : Stmt := topS 5
abbrev s_is_within : Stmt := topS 6
abbrev s_are_integers : Stmt := topS 7
abbrev s_are_bits : Stmt := topS 10
abbrev s_digits_of : Stmt := topS 12
abbrev s_are_words : Stmt := topS 15
abbrev s_is_begun : Stmt := topS 16
abbrev s_check_words : Stmt := topS 17
abbrev s_are_full : Stmt := topS 18
abbrev s_first_words : Stmt := topS 19
abbrev s_first_of : Stmt := topS 20
abbrev s__law_deck : Stmt := topS 22
abbrev s__law_draw : Stmt := topS 23
abbrev s__law_pick : Stmt := topS 24
abbrev s__law_words : Stmt := topS 25
abbrev s__law_first : Stmt := topS 26
abbrev s__law_lengths : Stmt := topS 27
abbrev s__law_is_first_right : Stmt := topS 28
abbrev s_law : Stmt := topS 29
section
variable {P : Program} {w : World} {K : PySem.W.Frag} {mg : Str → Option Value} {base : Heap}
abbrev N__law_deck : List Str := ["_law_script", "_law_mixed", "_law_cell"]
theorem sc__law_deck : FnScope N__law_deck ["_law_script"] (defScope s__law_deck) := ⟨rfl, rfl, rfl, by decide +kernel, rfl, by decide +kernel, by decide +kernel⟩
theorem ok__law_deck (B : Blt mg) (h__law_deck : Own K mg "_law_deck" s__law_deck) : Ok P w K mg base 1 "_law_deck" s__law_deck ["_law_script"] S__law_deck := by
  obtain ⟨f_s, fd_s, F_s, g_s⟩ := h__law_deck
  refine ⟨f_s, fd_s, F_s, g_s, F_s.binds (fun _ _ _ _ _ _ us hl => match us, hl with | [_], _ => rfl), FnG.of F_s sc__law_deck (fun xs μ Q h => by first | exact h.1 | (obtain ⟨⟩ := h)) fun cdv A outer s H hr hgd => ⟨_, _, (pss_cons (ps_set (i := 1) sc__law_deck.nd rfl (Or.inl rfl) pe_int)
 (pss_cons (ps_for PassesOwn.never rfl (pi_seq (pe_slice sl_any (pv 0) po_none (po_some pe_int))) (pg_name (i := 2) sc__law_deck.nd rfl (Or.inl rfl))
 (pss_one (ps_set (i := 1) sc__law_deck.nd rfl (Or.inl rfl) (pe_op op_modX (pe_callTy cb_int1 (by rfl) (B "int" (by decide)) (by decide +kernel) (pa_cons (pe_op op_plus (pe_op op_plus (pe_op op_times (pv 1) pe_int) (pe_op op_modX (pe_callTy cb_int1 (by rfl) (B "int" (by decide)) (by decide +kernel) (pa_cons (pv 2) pa_nil)) pe_int)) pe_int) pa_nil)) pe_int))))
 (pss_one (ps_ret (pe_disp (pps_cons pe_str (peRM (pe_revL (pe_lc (own := [("_law_cell", 2)]) (by rfl) sc__law_deck.nd (pi_seq (pe_slice sl_any (pv 0) po_none (po_some pe_int))) (blkOk_by (own := [("_law_cell", 2)]) (N := N__law_deck) (sc := defScope s__law_deck) (by decide +kernel)) (fun _ _ _ _ _ => (pg_name (i := 2) sc__law_deck.nd rfl (Or.inl rfl))) (fun _ _ _ _ _ => pts_nil) (fun _ _ _ _ _ => (pe_callTy cb_int1 (by rfl) (B "int" (by decide)) (by decide +kernel) (pa_cons (pv 2) pa_nil)))))) (pps_cons pe_str (pv 1) (pps_cons pe_str pe_int pps_nil))) (by rfl) (by rfl) (fun z => by cases z) (by decide)))))), (by (try dsimp only [cxOf]); exact inferInstance), ?_⟩⟩
  intro xs μ Q hS
  obtain ⟨_, ns, rfl, rfl, hQ⟩ := hS
  rw [show startP N__law_deck [.kl (ns.map PV.int)] = [some (.kl (ns.map PV.int)), none, none] from rfl]
  have hc : cutP (ns.map PV.int) none (some 63) = (ns.take 63).map PV.int := by rw [List.map_take]; exact cut_to _ 63
  simp only [pMaxT, pSortT, str_to, str_ot, mPar3, mLockV, mLockE, mItemsC, mKeysC, mDGet2, pIsN, isNonP, pRepLM, mTruD, dkOfP, pPopAt, pIndex, mLstRgM, mTruth, pReprA, pLenD, pLstD, mDNew, pRepL, mLenSetN, mDIn, mSortSet, mSortSetL, mRevT, mForC, mSeqC, mLcC, pAbs, pMax2, pMin2, pInt1, mDGet, mDPut, mBM, mBM0, pPop, pAppend, pExtend, pSetL, mSub, mDisp, mPs, mPs0, mRevL, mRevLM, pLstOfM, mTupRg, mRg1, mRg2, pPlusM, lstItems, dictOfP, keyP, keysP, val_left, val_mixed, val_draws, put_draws, mLc, mLcM, mLc2, mFor, mSeqI, mRng1, mRng2, mZip, mEnum, mSl, mNoPart, mPart, mSeq, mAsg, mAsg2, mCB, mCons, mNil, mVar, mC, mOp, mUn, pU, mTup, mLst, mRet, mRetN, mLstM, getl, setl, mName, mCall, mCallK, mIf, mIfS, mTest, mAnd, mOr, mNot, mYes, mAndV, mOrV, mNotV, mNext, mNever, mBreak, mCont, mDrop, mChain, mPar, mGTup, mGCons, mGNil, pGcd, pI, pI0, pIx, pTimes, pPlus, pEq, pNe, pLen, pSum, pMaxS, pAll, pAny, pTupOf, pLstOf, pIn, pIsB, pIsi, items_tup, items_lst, items_kl, items_mr, items_tab, items_lot, items_fr, decide_true, decide_false, eqP_int, eqP_bl, eqP_str, eqP_tup2, kit_tt, kit_ii, kit_ib, tyP, mEnd, wipeP, List.map_cons, List.map_nil, List.getElem?_cons_zero, List.getElem?_cons_succ, List.set_cons_zero, List.set_cons_succ, atI_zero, atI_one, if_true, if_false, ite_true, ite_false, Bool.false_eq_true, List.length_cons, List.length_nil, Bool.not_true, Bool.not_false, hc]
  refine for_inv (enc := PV.int) (fun pre ρ μ' => (∃ m y, ρ = [some (.kl (ns.map PV.int)), some (.int m), y]) ∧ μ' = []) (done := []) ⟨⟨_, _, rfl⟩, rfl⟩ (fun pre a post ρ μ' e hI N hN => ?_) fun ρ μ' hI => ?_
  · obtain ⟨⟨m, y, rfl⟩, rfl⟩ := hI
    simp only [pMaxT, pSortT, str_to, str_ot, mPar3, mLockV, mLockE, mItemsC, mKeysC, mDGet2, pIsN, isNonP, pRepLM, mTruD, dkOfP, pPopAt, pIndex, mLstRgM, mTruth, pReprA, pLenD, pLstD, mDNew, pRepL, mLenSetN, mDIn, mSortSet, mSortSetL, mRevT, mForC, mSeqC, mLcC, pAbs, pMax2, pMin2, pInt1, mDGet, mDPut, mBM, mBM0, pPop, pAppend, pExtend, pSetL, mSub, mDisp, mPs, mPs0, mRevL, mRevLM, pLstOfM, mTupRg, mRg1, mRg2, pPlusM, lstItems, dictOfP, keyP, keysP, val_left, val_mixed, val_draws, put_draws, mLc, mLcM, mLc2, mFor, mSeqI, mRng1, mRng2, mZip, mEnum, mSl, mNoPart, mPart, mSeq, mAsg, mAsg2, mCB, mCons, mNil, mVar, mC, mOp, mUn, pU, mTup, mLst, mRet, mRetN, mLstM, getl, setl, mName, mCall, mCallK, mIf, mIfS, mTest, mAnd, mOr, mNot, mYes, mAndV, mOrV, mNotV, mNext, mNever, mBreak, mCont, mDrop, mChain, mPar, mGTup, mGCons, mGNil, pGcd, pI, pI0, pIx, pTimes, pPlus, pEq, pNe, pLen, pSum, pMaxS, pAll, pAny, pTupOf, pLstOf, pIn, pIsB, pIsi, items_tup, items_lst, items_kl, items_mr, items_tab, items_lot, items_fr, decide_true, decide_false, eqP_int, eqP_bl, eqP_str, eqP_tup2, kit_tt, kit_ii, kit_ib, tyP, mEnd, wipeP, List.map_cons, List.map_nil, List.getElem?_cons_zero, List.getElem?_cons_succ, List.set_cons_zero, List.set_cons_succ, atI_zero, atI_one, if_true, if_false, ite_true, ite_false, Bool.false_eq_true, List.length_cons, List.length_nil, Bool.not_true, Bool.not_false]
    exact ⟨mulR (by decide) (by decide), by decide, by decide, hN _ _ ⟨⟨_, _, rfl⟩, rfl⟩⟩
  · obtain ⟨⟨m, y, rfl⟩, rfl⟩ := hI
    simp only [pMaxT, pSortT, str_to, str_ot, mPar3, mLockV, mLockE, mItemsC, mKeysC, mDGet2, pIsN, isNonP, pRepLM, mTruD, dkOfP, pPopAt, pIndex, mLstRgM, mTruth, pReprA, pLenD, pLstD, mDNew, pRepL, mLenSetN, mDIn, mSortSet, mSortSetL, mRevT, mForC, mSeqC, mLcC, pAbs, pMax2, pMin2, pInt1, mDGet, mDPut, mBM, mBM0, pPop, pAppend, pExtend, pSetL, mSub, mDisp, mPs, mPs0, mRevL, mRevLM, pLstOfM, mTupRg, mRg1, mRg2, pPlusM, lstItems, dictOfP, keyP, keysP, val_left, val_mixed, val_draws, put_draws, mLc, mLcM, mLc2, mFor, mSeqI, mRng1, mRng2, mZip, mEnum, mSl, mNoPart, mPart, mSeq, mAsg, mAsg2, mCB, mCons, mNil, mVar, mC, mOp, mUn, pU, mTup, mLst, mRet, mRetN, mLstM, getl, setl, mName, mCall, mCallK, mIf, mIfS, mTest, mAnd, mOr, mNot, mYes, mAndV, mOrV, mNotV, mNext, mNever, mBreak, mCont, mDrop, mChain, mPar, mGTup, mGCons, mGNil, pGcd, pI, pI0, pIx, pTimes, pPlus, pEq, pNe, pLen, pSum, pMaxS, pAll, pAny, pTupOf, pLstOf, pIn, pIsB, pIsi, items_tup, items_lst, items_kl, items_mr, items_tab, items_lot, items_fr, decide_true, decide_false, eqP_int, eqP_bl, eqP_str, eqP_tup2, kit_tt, kit_ii, kit_ib, tyP, mEnd, wipeP, List.map_cons, List.map_nil, List.getElem?_cons_zero, List.getElem?_cons_succ, List.set_cons_zero, List.set_cons_succ, atI_zero, atI_one, if_true, if_false, ite_true, ite_false, Bool.false_eq_true, List.length_cons, List.length_nil, Bool.not_true, Bool.not_false, hc]
    refine ⟨by decide, by rw [List.length_map, List.length_take]; unfold lim; omega, lc_map (enc := PV.int) (out := PV.int) (fun a _ k hk => ?_) ⟨by decide, fin_keep ?_⟩⟩
    · simp only [pMaxT, pSortT, str_to, str_ot, mPar3, mLockV, mLockE, mItemsC, mKeysC, mDGet2, pIsN, isNonP, pRepLM, mTruD, dkOfP, pPopAt, pIndex, mLstRgM, mTruth, pReprA, pLenD, pLstD, mDNew, pRepL, mLenSetN, mDIn, mSortSet, mSortSetL, mRevT, mForC, mSeqC, mLcC, pAbs, pMax2, pMin2, pInt1, mDGet, mDPut, mBM, mBM0, pPop, pAppend, pExtend, pSetL, mSub, mDisp, mPs, mPs0, mRevL, mRevLM, pLstOfM, mTupRg, mRg1, mRg2, pPlusM, lstItems, dictOfP, keyP, keysP, val_left, val_mixed, val_draws, put_draws, mLc, mLcM, mLc2, mFor, mSeqI, mRng1, mRng2, mZip, mEnum, mSl, mNoPart, mPart, mSeq, mAsg, mAsg2, mCB, mCons, mNil, mVar, mC, mOp, mUn, pU, mTup, mLst, mRet, mRetN, mLstM, getl, setl, mName, mCall, mCallK, mIf, mIfS, mTest, mAnd, mOr, mNot, mYes, mAndV, mOrV, mNotV, mNext, mNever, mBreak, mCont, mDrop, mChain, mPar, mGTup, mGCons, mGNil, pGcd, pI, pI0, pIx, pTimes, pPlus, pEq, pNe, pLen, pSum, pMaxS, pAll, pAny, pTupOf, pLstOf, pIn, pIsB, pIsi, items_tup, items_lst, items_kl, items_mr, items_tab, items_lot, items_fr, decide_true, decide_false, eqP_int, eqP_bl, eqP_str, eqP_tup2, kit_tt, kit_ii, kit_ib, tyP, mEnd, wipeP, List.map_cons, List.map_nil, List.getElem?_cons_zero, List.getElem?_cons_succ, List.set_cons_zero, List.set_cons_succ, atI_zero, atI_one, if_true, if_false, ite_true, ite_false, Bool.false_eq_true, List.length_cons, List.length_nil, Bool.not_true, Bool.not_false]
      exact hk
    have h := hQ m (DS (ns.take 63).reverse m 0 []) ⟨_, _, by simp; omega, rfl⟩
    have e : DS (ns.take 63).reverse m 0 [] = [MO.lst ((ns.take 63).map PV.int).reverse] ++ [MO.dk (List.foldl (fun acc kv => putP acc kv.1 kv.2) [] [(.inr (Str.ofString "cells"), PV.mr 0), (.inr (Str.ofString "mixed"), PV.int m), (.inr (Str.ofString "turn"), PV.int 0)])] := by
      unfold DS
      rw [List.map_reverse]
      rfl
    rw [e] at h
    exact h
abbrev N__law_draw : List Str := ["_law_deck_here", "_law_below", "_law_figure", "_law_cell"]
theorem sc__law_draw : FnScope N__law_draw ["_law_deck_here", "_law_below"] (defScope s__law_draw) := ⟨rfl, rfl, rfl, by decide +kernel, rfl, by decide +kernel, by decide +kernel⟩
theorem ok__law_draw (B : Blt mg) (h__law_draw : Own K mg "_law_draw" s__law_draw) : Ok P w K mg base 1 "_law_draw" s__law_draw ["_law_deck_here", "_law_below"] S__law_draw := by
  obtain ⟨f_s, fd_s, F_s, g_s⟩ := h__law_draw
  refine ⟨f_s, fd_s, F_s, g_s, F_s.binds (fun _ _ _ _ _ _ us hl => match us, hl with | [_, _], _ => rfl), FnG.of F_s sc__law_draw (fun xs μ Q h => by first | exact h.1 | (obtain ⟨⟩ := h)) fun cdv A outer s H hr hgd => ⟨_, _, (pss_cons (ps_dput (hu_of hr) (pv 0) pe_str (pe_op op_plus (pe_dget (hu_of hr) (pv 0) pe_str (fun _ _ => rfl)) pe_int) (by rfl))
 (pss_cons (ps_set (i := 2) sc__law_draw.nd rfl (Or.inl rfl) (pe_op op_plus (pe_dget (hu_of hr) (pv 0) pe_str (fun _ _ => rfl)) (pe_op op_times pe_int (pe_dget (hu_of hr) (pv 0) pe_str (fun _ _ => rfl)))))
 (pss_cons (ps_if (pt_cmpR (op_neX hr.units) (pe_dget (hu_of hr) (pv 0) pe_str (fun _ _ => rfl)) (pe_lst pa_nil) (nomark _))
 (pss_cons (ps_set (i := 3) sc__law_draw.nd rfl (Or.inl rfl) (pe_bm0 PySem.F.plainAttrs_list PySem.F.slot_list_pop PySem.F.type_list_pop mt_pop (pe_dget (hu_of hr) (pv 0) pe_str (fun _ _ => rfl))))
 (pss_cons (ps_if (pt_cmpR op_ge (pv 3) (pe_op op_pow pe_int pe_int) (nomark _))
 (pss_cons (ps_expr (pe_bm PySem.F.plainAttrs_list PySem.F.slot_list_append PySem.F.type_list_append mt_append (pe_dget (hu_of hr) (pv 0) pe_str (fun _ _ => rfl)) (pa_cons (pe_op op_divX (pv 3) (pe_callB (cb_max2 rfl) (by rfl) (B "max" (by decide)) (by decide +kernel) (pa_cons pe_int (pa_cons (pv 1) pa_nil)))) pa_nil)))
 (pss_one (ps_ret (pe_op op_modX (pe_callTy cb_int1 (by rfl) (B "int" (by decide)) (by decide +kernel) (pa_cons (pv 3) pa_nil)) (pv 1)))))
 pss_nil)
 (pss_one (ps_set (i := 2) sc__law_draw.nd rfl (Or.inl rfl) (pe_op op_plus (pv 2) (pe_op op_modX (pe_callTy cb_int1 (by rfl) (B "int" (by decide)) (by decide +kernel) (pa_cons (pv 3) pa_nil)) pe_int))))))
 pss_nil)
 (pss_cons (ps_set (i := 2) sc__law_draw.nd rfl (Or.inl rfl) (pe_op op_modX (pe_callTy cb_int1 (by rfl) (B "int" (by decide)) (by decide +kernel) (pa_cons (pe_op op_plus (pe_op op_times (pv 2) pe_int) pe_int) pa_nil)) pe_int))
 (pss_cons (ps_set (i := 2) sc__law_draw.nd rfl (Or.inl rfl) (pe_op op_modX (pe_callTy cb_int1 (by rfl) (B "int" (by decide)) (by decide +kernel) (pa_cons (pe_op op_plus (pe_op op_plus (pe_op op_times (pv 2) (pv 2)) (pe_op op_times pe_int (pe_dget (hu_of hr) (pv 0) pe_str (fun _ _ => rfl)))) pe_int) pa_nil)) pe_int))
 (pss_cons (ps_set (i := 2) sc__law_draw.nd rfl (Or.inl rfl) (pe_op op_modX (pe_callTy cb_int1 (by rfl) (B "int" (by decide)) (by decide +kernel) (pa_cons (pe_op op_times (pv 2) pe_int) pa_nil)) pe_int))
 (pss_one (ps_ret (pe_op op_modX (pe_callTy cb_int1 (by rfl) (B "int" (by decide)) (by decide +kernel) (pa_cons (pe_op op_divX (pv 2) pe_int) pa_nil)) (pv 1)))))))))), (by (try dsimp only [cxOf]); exact inferInstance), ?_⟩⟩
  intro xs μ Q hS
  obtain ⟨_, many, m, rest, rfl, ⟨L, k, hL, rfl⟩, hm, hm2, hQ⟩ := hS
  rw [show startP N__law_draw [.mr 1, .int many] = [some (.mr 1), some (.int many), none, none] from rfl]
  have fin : ∀ (x : Int) (L' : List Int) (k' : Int), L'.length ≤ 63 → ∃ y μ', Gc (DS L m k rest) (.int (x.fmod many)) (DS L' m k' rest) y μ' ∧ Q y μ' := fun x L' k' hl => fin_keep (hQ _ _ (fmod_b hm).1 (fmod_b hm).2 ⟨L', k', hl, rfl⟩)
  have m0 : many ≠ 0 := by omega
  have hq : ∀ (x : Int) {m : Int}, 0 < m → m ≤ 2147483647 → MulOk (x.fmod m) (x.fmod m) := fun x m hm0 hm1 => by
    have := fmod_b (x := x) (m := m) hm0
    exact mulR (by omega) (by omega)
  have d64 : ∀ x : Int, DivOk x 64 := fun x => .inl ⟨by decide, by decide⟩
  have DKl : ∀ a b c, (DK a b c).length ≤ lim := fun _ _ _ => by unfold lim DK; simp
  rcases List.eq_nil_or_concat L with rfl | ⟨I, c, rfl⟩
  · simp only [pMaxT, pSortT, str_to, str_ot, mPar3, mLockV, mLockE, mItemsC, mKeysC, mDGet2, pIsN, isNonP, pRepLM, mTruD, dkOfP, pPopAt, pIndex, mLstRgM, mTruth, pReprA, pLenD, pLstD, mDNew, pRepL, mLenSetN, mDIn, mSortSet, mSortSetL, mRevT, mForC, mSeqC, mLcC, pAbs, pMax2, pMin2, pInt1, mDGet, mDPut, mBM, mBM0, pPop, pAppend, pExtend, pSetL, mSub, mDisp, mPs, mPs0, mRevL, mRevLM, pLstOfM, mTupRg, mRg1, mRg2, pPlusM, lstItems, dictOfP, keyP, keysP, val_left, val_mixed, val_draws, put_draws, mLc, mLcM, mLc2, mFor, mSeqI, mRng1, mRng2, mZip, mEnum, mSl, mNoPart, mPart, mSeq, mAsg, mAsg2, mCB, mCons, mNil, mVar, mC, mOp, mUn, pU, mTup, mLst, mRet, mRetN, mLstM, getl, setl, mName, mCall, mCallK, mIf, mIfS, mTest, mAnd, mOr, mNot, mYes, mAndV, mOrV, mNotV, mNext, mNever, mBreak, mCont, mDrop, mChain, mPar, mGTup, mGCons, mGNil, pGcd, pI, pI0, pIx, pTimes, pPlus, pEq, pNe, pLen, pSum, pMaxS, pAll, pAny, pTupOf, pLstOf, pIn, pIsB, pIsi, items_tup, items_lst, items_kl, items_mr, items_tab, items_lot, items_fr, decide_true, decide_false, eqP_int, eqP_bl, eqP_str, eqP_tup2, kit_tt, kit_ii, kit_ib, tyP, mEnd, wipeP, List.map_cons, List.map_nil, List.getElem?_cons_zero, List.getElem?_cons_succ, List.set_cons_zero, List.set_cons_succ, atI_zero, atI_one, if_true, if_false, ite_true, ite_false, Bool.false_eq_true, List.length_cons, List.length_nil, Bool.not_true, Bool.not_false, DS, List.map_nil, eqP_nn]
    exact ⟨DKl _ _ _, mulL (by decide) (by decide), by decide, mulR (by decide) (by decide), by decide, hq _ (by decide) (by decide), mulL (by decide) (by decide), by decide, mulR (by decide) (by decide), by decide, d64 _, m0, fin _ [] _ hL⟩
  · have lI : I.length ≤ 62 := by simp at hL; omega
    by_cases hc : decide ((10 : Int) ^ (18 : Int).toNat ≤ c) = true
    · simp only [pMaxT, pSortT, str_to, str_ot, mPar3, mLockV, mLockE, mItemsC, mKeysC, mDGet2, pIsN, isNonP, pRepLM, mTruD, dkOfP, pPopAt, pIndex, mLstRgM, mTruth, pReprA, pLenD, pLstD, mDNew, pRepL, mLenSetN, mDIn, mSortSet, mSortSetL, mRevT, mForC, mSeqC, mLcC, pAbs, pMax2, pMin2, pInt1, mDGet, mDPut, mBM, mBM0, pPop, pAppend, pExtend, pSetL, mSub, mDisp, mPs, mPs0, mRevL, mRevLM, pLstOfM, mTupRg, mRg1, mRg2, pPlusM, lstItems, dictOfP, keyP, keysP, val_left, val_mixed, val_draws, put_draws, mLc, mLcM, mLc2, mFor, mSeqI, mRng1, mRng2, mZip, mEnum, mSl, mNoPart, mPart, mSeq, mAsg, mAsg2, mCB, mCons, mNil, mVar, mC, mOp, mUn, pU, mTup, mLst, mRet, mRetN, mLstM, getl, setl, mName, mCall, mCallK, mIf, mIfS, mTest, mAnd, mOr, mNot, mYes, mAndV, mOrV, mNotV, mNext, mNever, mBreak, mCont, mDrop, mChain, mPar, mGTup, mGCons, mGNil, pGcd, pI, pI0, pIx, pTimes, pPlus, pEq, pNe, pLen, pSum, pMaxS, pAll, pAny, pTupOf, pLstOf, pIn, pIsB, pIsi, items_tup, items_lst, items_kl, items_mr, items_tab, items_lot, items_fr, decide_true, decide_false, eqP_int, eqP_bl, eqP_str, eqP_tup2, kit_tt, kit_ii, kit_ib, tyP, mEnd, wipeP, List.map_cons, List.map_nil, List.getElem?_cons_zero, List.getElem?_cons_succ, List.set_cons_zero, List.set_cons_succ, atI_zero, atI_one, if_true, if_false, ite_true, ite_false, Bool.false_eq_true, List.length_cons, List.length_nil, Bool.not_true, Bool.not_false, DS, List.concat_eq_append, List.map_append, eqP_nc, last_c, List.dropLast_concat, hc]
      have h := fin c (I ++ [c.fdiv (if many > 2 then many else 2)]) (k + 1) (by simp; omega)
      simp only [DS, List.concat_eq_append, List.map_append, List.map_cons, List.map_nil] at h
      refine ⟨DKl _ _ _, mulL (by decide) (by decide), by decide, ⟨by decide, by decide, by decide⟩, .inl ⟨max2_pos many, ?_⟩, by rw [List.length_map]; unfold lim; omega, m0, h⟩
      have : (if many > 2 then many else 2).natAbs < 2 ^ 60 := by split <;> omega
      have := log_lt this
      omega
    · simp only [pMaxT, pSortT, str_to, str_ot, mPar3, mLockV, mLockE, mItemsC, mKeysC, mDGet2, pIsN, isNonP, pRepLM, mTruD, dkOfP, pPopAt, pIndex, mLstRgM, mTruth, pReprA, pLenD, pLstD, mDNew, pRepL, mLenSetN, mDIn, mSortSet, mSortSetL, mRevT, mForC, mSeqC, mLcC, pAbs, pMax2, pMin2, pInt1, mDGet, mDPut, mBM, mBM0, pPop, pAppend, pExtend, pSetL, mSub, mDisp, mPs, mPs0, mRevL, mRevLM, pLstOfM, mTupRg, mRg1, mRg2, pPlusM, lstItems, dictOfP, keyP, keysP, val_left, val_mixed, val_draws, put_draws, mLc, mLcM, mLc2, mFor, mSeqI, mRng1, mRng2, mZip, mEnum, mSl, mNoPart, mPart, mSeq, mAsg, mAsg2, mCB, mCons, mNil, mVar, mC, mOp, mUn, pU, mTup, mLst, mRet, mRetN, mLstM, getl, setl, mName, mCall, mCallK, mIf, mIfS, mTest, mAnd, mOr, mNot, mYes, mAndV, mOrV, mNotV, mNext, mNever, mBreak, mCont, mDrop, mChain, mPar, mGTup, mGCons, mGNil, pGcd, pI, pI0, pIx, pTimes, pPlus, pEq, pNe, pLen, pSum, pMaxS, pAll, pAny, pTupOf, pLstOf, pIn, pIsB, pIsi, items_tup, items_lst, items_kl, items_mr, items_tab, items_lot, items_fr, decide_true, decide_false, eqP_int, eqP_bl, eqP_str, eqP_tup2, kit_tt, kit_ii, kit_ib, tyP, mEnd, wipeP, List.map_cons, List.map_nil, List.getElem?_cons_zero, List.getElem?_cons_succ, List.set_cons_zero, List.set_cons_succ, atI_zero, atI_one, if_true, if_false, ite_true, ite_false, Bool.false_eq_true, List.length_cons, List.length_nil, Bool.not_true, Bool.not_false, DS, List.concat_eq_append, List.map_append, eqP_nc, last_c, List.dropLast_concat, eq_false_of_ne_true hc]
      have h := fun x => fin x I (k + 1) (by omega)
      simp only [DS, List.concat_eq_append, List.map_append, List.map_cons, List.map_nil] at h
      exact ⟨DKl _ _ _, mulL (by decide) (by decide), by decide, ⟨by decide, by decide, by decide⟩, by decide, mulR (by decide) (by decide), by decide, hq _ (by decide) (by decide), mulL (by decide) (by decide), by decide, mulR (by decide) (by decide), by decide, d64 _, m0, h _⟩
abbrev N_digits_of : List Str := ["number", "many", "k"]
theorem sc_digits_of : FnScope N_digits_of ["number", "many"] (defScope s_digits_of) := ⟨rfl, rfl, rfl, by decide +kernel, rfl, by decide +kernel, by decide +kernel⟩
theorem ok_digits_of (B : Blt mg) (h_digits_of : Own K mg "digits_of" s_digits_of) : Ok P w K mg base 1 "digits_of" s_digits_of ["number", "many"] S_digits_of := by
  obtain ⟨f_s, fd_s, F_s, g_s⟩ := h_digits_of
  refine ⟨f_s, fd_s, F_s, g_s, F_s.binds (fun _ _ _ _ _ _ us hl => match us, hl with | [_, _], _ => rfl), FnG.of F_s sc_digits_of (fun xs μ Q h => by first | exact h.1 | (obtain ⟨⟩ := h)) fun cdv A outer s H hr hgd => ⟨_, _, (pss_one (ps_ret (pe_callTy cb_tup (by rfl) (B "tuple" (by decide)) (by decide +kernel) (pa_cons (pe_lc (own := [("k", 2)]) (by rfl) sc_digits_of.nd (pi_range1 (by rfl) (B "range" (by decide)) (pa_cons (pv 1) pa_nil)) (blkOk_by (own := [("k", 2)]) (N := N_digits_of) (sc := defScope s_digits_of) (by decide +kernel)) (fun _ _ _ _ _ => (pg_name (i := 2) sc_digits_of.nd rfl (Or.inl rfl))) (fun _ _ _ _ _ => pts_nil) (fun _ _ _ _ _ => (pe_op op_and (pe_op op_shr (pv 0) (pe_op op_sub (pe_op op_sub (pv 1) pe_int) (pv 2))) pe_int))) pa_nil)))), (by (try dsimp only [cxOf]); exact inferInstance), ?_⟩⟩
  intro xs μ Q hS
  obtain ⟨_, v, n, rfl, hv, hn, hQ⟩ := hS
  rw [show startP N_digits_of [.int v, .int n] = [some (.int v), some (.int n), none] from rfl]
  simp only [pMaxT, pSortT, str_to, str_ot, mPar3, mLockV, mLockE, mItemsC, mKeysC, mDGet2, pIsN, isNonP, pRepLM, mTruD, dkOfP, pPopAt, pIndex, mLstRgM, mTruth, pReprA, pLenD, pLstD, mDNew, pRepL, mLenSetN, mDIn, mSortSet, mSortSetL, mRevT, mForC, mSeqC, mLcC, pAbs, pMax2, pMin2, pInt1, mDGet, mDPut, mBM, mBM0, pPop, pAppend, pExtend, pSetL, mSub, mDisp, mPs, mPs0, mRevL, mRevLM, pLstOfM, mTupRg, mRg1, mRg2, pPlusM, lstItems, dictOfP, keyP, keysP, val_left, val_mixed, val_draws, put_draws, mLc, mLcM, mLc2, mFor, mSeqI, mRng1, mRng2, mZip, mEnum, mSl, mNoPart, mPart, mSeq, mAsg, mAsg2, mCB, mCons, mNil, mVar, mC, mOp, mUn, pU, mTup, mLst, mRet, mRetN, mLstM, getl, setl, mName, mCall, mCallK, mIf, mIfS, mTest, mAnd, mOr, mNot, mYes, mAndV, mOrV, mNotV, mNext, mNever, mBreak, mCont, mDrop, mChain, mPar, mGTup, mGCons, mGNil, pGcd, pI, pI0, pIx, pTimes, pPlus, pEq, pNe, pLen, pSum, pMaxS, pAll, pAny, pTupOf, pLstOf, pIn, pIsB, pIsi, items_tup, items_lst, items_kl, items_mr, items_tab, items_lot, items_fr, decide_true, decide_false, eqP_int, eqP_bl, eqP_str, eqP_tup2, kit_tt, kit_ii, kit_ib, tyP, mEnd, wipeP, List.map_cons, List.map_nil, List.getElem?_cons_zero, List.getElem?_cons_succ, List.set_cons_zero, List.set_cons_succ, atI_zero, atI_one, if_true, if_false, ite_true, ite_false, Bool.false_eq_true, List.length_cons, List.length_nil, Bool.not_true, Bool.not_false]
  rw [Int.toNat_natCast, rangeP_eq]
  refine ⟨by decide, ⟨by omega, by omega⟩, by rw [List.length_map, List.length_range]; unfold lim; omega, lc_map (enc := fun (i : Nat) => PV.int i) (out := fun i => .int ((v / 2 ^ (n - 1 - i) % 2 : Nat) : Int)) (fun i hi k hk => ?_) ?_⟩
  · have hi := List.mem_range.mp hi
    simp only [pMaxT, pSortT, str_to, str_ot, mPar3, mLockV, mLockE, mItemsC, mKeysC, mDGet2, pIsN, isNonP, pRepLM, mTruD, dkOfP, pPopAt, pIndex, mLstRgM, mTruth, pReprA, pLenD, pLstD, mDNew, pRepL, mLenSetN, mDIn, mSortSet, mSortSetL, mRevT, mForC, mSeqC, mLcC, pAbs, pMax2, pMin2, pInt1, mDGet, mDPut, mBM, mBM0, pPop, pAppend, pExtend, pSetL, mSub, mDisp, mPs, mPs0, mRevL, mRevLM, pLstOfM, mTupRg, mRg1, mRg2, pPlusM, lstItems, dictOfP, keyP, keysP, val_left, val_mixed, val_draws, put_draws, mLc, mLcM, mLc2, mFor, mSeqI, mRng1, mRng2, mZip, mEnum, mSl, mNoPart, mPart, mSeq, mAsg, mAsg2, mCB, mCons, mNil, mVar, mC, mOp, mUn, pU, mTup, mLst, mRet, mRetN, mLstM, getl, setl, mName, mCall, mCallK, mIf, mIfS, mTest, mAnd, mOr, mNot, mYes, mAndV, mOrV, mNotV, mNext, mNever, mBreak, mCont, mDrop, mChain, mPar, mGTup, mGCons, mGNil, pGcd, pI, pI0, pIx, pTimes, pPlus, pEq, pNe, pLen, pSum, pMaxS, pAll, pAny, pTupOf, pLstOf, pIn, pIsB, pIsi, items_tup, items_lst, items_kl, items_mr, items_tab, items_lot, items_fr, decide_true, decide_false, eqP_int, eqP_bl, eqP_str, eqP_tup2, kit_tt, kit_ii, kit_ib, tyP, mEnd, wipeP, List.map_cons, List.map_nil, List.getElem?_cons_zero, List.getElem?_cons_succ, List.set_cons_zero, List.set_cons_succ, atI_zero, atI_one, if_true, if_false, ite_true, ite_false, Bool.false_eq_true, List.length_cons, List.length_nil, Bool.not_true, Bool.not_false, and_one]
    have e1 : (n : Int) - 1 - (i : Int) = ((n - 1 - i : Nat) : Int) := by omega
    rw [e1, Int.toNat_natCast]
    have e2 : ((v : Nat) : Int) / 2 ^ (n - 1 - i) % 2 = ((v / 2 ^ (n - 1 - i) % 2 : Nat) : Int) := by simp
    rw [e2]
    exact ⟨by omega, hk⟩
  · rw [List.nil_append, digP_out]
    exact fin_keep hQ
abbrev N_is_integer : List Str := ["thing"]
theorem sc_is_integer : FnScope N_is_integer ["thing"] (defScope s_is_integer) := ⟨rfl, rfl, rfl, by decide +kernel, rfl, by decide +kernel, by decide +kernel⟩
theorem ok_is_integer (B : Blt mg) (h_is_integer : Own K mg "is_integer" s_is_integer) : Ok P w K mg base 1 "is_integer" s_is_integer ["thing"] S_is_integer := by
  obtain ⟨f_s, fd_s, F_s, g_s⟩ := h_is_integer
  refine ⟨f_s, fd_s, F_s, g_s, F_s.binds (fun _ _ _ _ _ _ us hl => match us, hl with | [_], _ => rfl), FnG.of F_s sc_is_integer (fun xs μ Q h => by first | exact h.1 | (obtain ⟨⟩ := h)) fun cdv A outer s H hr hgd => ⟨_, _, (pss_one (ps_ret (pe_and (pe_callB call_isi (by rfl) (B "isinstance" (by decide)) (by decide +kernel) (pa_cons (pv 0) (pa_cons (pe_bltn (v := .ty "int") (u := .type "int") (by rfl) (B "int" (by decide)) (by decide +kernel) rfl) pa_nil))) (pe_one (pe_not (pe_callB call_isi (by rfl) (B "isinstance" (by decide)) (by decide +kernel) (pa_cons (pv 0) (pa_cons (pe_bltn (v := .ty "bool") (u := .type "bool") (by rfl) (B "bool" (by decide)) (by decide +kernel) rfl) pa_nil)))))))), (by (try dsimp only [cxOf]); exact inferInstance), ?_⟩⟩
  intro xs μ Q hS
  obtain ⟨_, i, rfl, hQ⟩ := hS
  rw [show startP N_is_integer [.int i] = [some (.int i)] from rfl]
  simp only [pMaxT, pSortT, str_to, str_ot, mPar3, mLockV, mLockE, mItemsC, mKeysC, mDGet2, pIsN, isNonP, pRepLM, mTruD, dkOfP, pPopAt, pIndex, mLstRgM, mTruth, pReprA, pLenD, pLstD, mDNew, pRepL, mLenSetN, mDIn, mSortSet, mSortSetL, mRevT, mForC, mSeqC, mLcC, pAbs, pMax2, pMin2, pInt1, mDGet, mDPut, mBM, mBM0, pPop, pAppend, pExtend, pSetL, mSub, mDisp, mPs, mPs0, mRevL, mRevLM, pLstOfM, mTupRg, mRg1, mRg2, pPlusM, lstItems, dictOfP, keyP, keysP, val_left, val_mixed, val_draws, put_draws, mLc, mLcM, mLc2, mFor, mSeqI, mRng1, mRng2, mZip, mEnum, mSl, mNoPart, mPart, mSeq, mAsg, mAsg2, mCB, mCons, mNil, mVar, mC, mOp, mUn, pU, mTup, mLst, mRet, mRetN, mLstM, getl, setl, mName, mCall, mCallK, mIf, mIfS, mTest, mAnd, mOr, mNot, mYes, mAndV, mOrV, mNotV, mNext, mNever, mBreak, mCont, mDrop, mChain, mPar, mGTup, mGCons, mGNil, pGcd, pI, pI0, pIx, pTimes, pPlus, pEq, pNe, pLen, pSum, pMaxS, pAll, pAny, pTupOf, pLstOf, pIn, pIsB, pIsi, items_tup, items_lst, items_kl, items_mr, items_tab, items_lot, items_fr, decide_true, decide_false, eqP_int, eqP_bl, eqP_str, eqP_tup2, kit_tt, kit_ii, kit_ib, tyP, mEnd, wipeP, List.map_cons, List.map_nil, List.getElem?_cons_zero, List.getElem?_cons_succ, List.set_cons_zero, List.set_cons_succ, atI_zero, atI_one, if_true, if_false, ite_true, ite_false, Bool.false_eq_true, List.length_cons, List.length_nil, Bool.not_true, Bool.not_false]
  exact fin_keep hQ
abbrev N__law_first : List Str := ["_law_lengths_here", "_law_left", "_law_found", "_law_number", "_law_size", "_law_go", "_law_at", "_law_i", "_law_place"]
theorem sc__law_first : FnScope N__law_first ["_law_lengths_here"] (defScope s__law_first) := ⟨rfl, rfl, rfl, by decide +kernel, rfl, by decide +kernel, by decide +kernel⟩
theorem ok__law_first (B : Blt mg) (h__law_first : Own K mg "_law_first" s__law_first) : Ok P w K mg base 1 "_law_first" s__law_first ["_law_lengths_here"] S__law_first := by
  obtain ⟨f_s, fd_s, F_s, g_s⟩ := h__law_first
  refine ⟨f_s, fd_s, F_s, g_s, F_s.binds (fun _ _ _ _ _ _ us hl => match us, hl with | [_], _ => rfl), FnG.of F_s sc__law_first (fun xs μ Q h => by first | exact h.1 | (obtain ⟨⟩ := h)) fun cdv A outer s H hr hgd => ⟨_, _, (pss_cons (ps_asg (pe_tup (pa_cons (pe_listRg rfl (by rfl) (B "list" (by decide)) (prg_1 (by rfl) (B "range" (by decide)) (pe_callB cb_len (by rfl) (B "len" (by decide)) (by decide +kernel) (pa_cons (pv 0) pa_nil)))) (pa_cons pe_dnewK (pa_cons pe_int (pa_cons pe_int pa_nil))))) (pg_tup (n := 4) rfl (pgs_cons (pg_name (i := 1) sc__law_first.nd rfl (Or.inl rfl)) (pgs_cons (pg_name (i := 2) sc__law_first.nd rfl (Or.inr rfl)) (pgs_cons (pg_name (i := 3) sc__law_first.nd rfl (Or.inr rfl)) (pgs_cons (pg_name (i := 4) sc__law_first.nd rfl (Or.inr rfl)) pgs_nil))))))
 (pss_cons (ps_for PassesOwn.never rfl (pi_range1 (by rfl) (B "range" (by decide)) (pa_cons (pe_callB cb_len (by rfl) (B "len" (by decide)) (by decide +kernel) (pa_cons (pv 0) pa_nil)) pa_nil)) (pg_name (i := 5) sc__law_first.nd rfl (Or.inl rfl))
 (pss_cons (ps_set (i := 6) sc__law_first.nd rfl (Or.inr rfl) (pe_ix ix_seq (pe_callB (cb_minT rfl hr.units) (by rfl) (B "min" (by decide)) (by decide +kernel) (pa_cons (pe_lc (own := [("_law_i", 7)]) (by rfl) sc__law_first.nd (pi_seq (pv 1)) (blkOk_by (own := [("_law_i", 7)]) (N := N__law_first) (sc := defScope s__law_first) (by decide +kernel)) (fun _ _ _ _ _ => (pg_name (i := 7) sc__law_first.nd rfl (Or.inl rfl))) (fun _ _ _ _ _ => pts_nil) (fun _ _ _ _ _ => (pe_tup (pa_cons (pe_ix (ixk_seq K rfl) (pv 0) (pv 7) (fun _ _ => rfl)) (pa_cons (pv 7) pa_nil))))) pa_nil)) pe_int (fun _ _ => rfl)))
 (pss_cons (ps_setLc (i := 1) (own := [("_law_i", 7)]) rfl sc__law_first.nd rfl rfl (sw_true rfl rfl rfl (by decide +kernel)) (pi_seq (pv 1)) (blkOk_by (own := [("_law_i", 7)]) (N := N__law_first) (sc := defScope s__law_first) (by decide +kernel)) (fun _ _ _ _ _ => (pg_name (i := 7) sc__law_first.nd rfl (Or.inl rfl))) (fun _ _ _ _ _ => pts_one (pt_cmpR (opk_neX K rfl hr.units) (pv 7) (pv 6) (nomark _))) (fun _ _ _ _ _ => (pv 7)))
 (pss_cons (ps_asg (pe_tup (pa_cons (pe_op op_shlW (pv 3) (pe_op op_sub (pe_ix ix_seq (pv 0) (pv 6) (fun _ _ => rfl)) (pv 4))) (pa_cons (pe_ix ix_seq (pv 0) (pv 6) (fun _ _ => rfl)) pa_nil))) (pg_tup (n := 2) rfl (pgs_cons (pg_name (i := 3) sc__law_first.nd rfl (Or.inr rfl)) (pgs_cons (pg_name (i := 4) sc__law_first.nd rfl (Or.inr rfl)) pgs_nil))))
 (pss_cons (ps_if (pt_cmpR op_ge (pv 3) (pe_op op_shlW pe_int (pv 4)) (nomark _))
 (pss_one (ps_ret pe_non))
 pss_nil)
 (pss_cons (ps_dput (hu_of hr) (pv 2) (pv 6) (pe_callTy cb_tup (by rfl) (B "tuple" (by decide)) (by decide +kernel) (pa_cons (pe_lc (own := [("_law_place", 8)]) (by rfl) sc__law_first.nd (pi_range1 (by rfl) (B "range" (by decide)) (pa_cons (pv 4) pa_nil)) (blkOk_by (own := [("_law_place", 8)]) (N := N__law_first) (sc := defScope s__law_first) (by decide +kernel)) (fun _ _ _ _ _ => (pg_name (i := 8) sc__law_first.nd rfl (Or.inl rfl))) (fun _ _ _ _ _ => pts_nil) (fun _ _ _ _ _ => (pe_op op_and (pe_op op_shr (pv 3) (pe_op op_sub (pe_op op_sub (pv 4) pe_int) (pv 8))) pe_int))) pa_nil)) (by rfl))
 (pss_one (ps_set (i := 3) sc__law_first.nd rfl (Or.inr rfl) (pe_op op_plus (pv 3) pe_int)))))))))
 (pss_one (ps_ret (pe_callTy cb_tup (by rfl) (B "tuple" (by decide)) (by decide +kernel) (pa_cons (pe_lc (own := [("_law_i", 7)]) (by rfl) sc__law_first.nd (pi_range1 (by rfl) (B "range" (by decide)) (pa_cons (pe_callB cb_len (by rfl) (B "len" (by decide)) (by decide +kernel) (pa_cons (pv 0) pa_nil)) pa_nil)) (blkOk_by (own := [("_law_i", 7)]) (N := N__law_first) (sc := defScope s__law_first) (by decide +kernel)) (fun _ _ _ _ _ => (pg_name (i := 7) sc__law_first.nd rfl (Or.inl rfl))) (fun _ _ _ _ _ => pts_nil) (fun _ _ _ _ _ => (pe_dget (hu_of hr) (pv 2) (pv 7) (fun _ _ => rfl)))) pa_nil)))))), (by (try dsimp only [cxOf]); exact inferInstance), ?_⟩⟩
  intro xs μ Q hS
  obtain ⟨_, ls, rfl, hL, hQ⟩ := hS
  rw [show startP N__law_first [lotP ls] = [some (lotP ls), none, none, none, none, none, none, none, none] from rfl]
  refine stm_of fun R hR => ?_
  simp only [pMaxT, pSortT, str_to, str_ot, mPar3, mLockV, mLockE, mItemsC, mKeysC, mDGet2, pIsN, isNonP, pRepLM, mTruD, dkOfP, pPopAt, pIndex, mLstRgM, mTruth, pReprA, pLenD, pLstD, mDNew, pRepL, mLenSetN, mDIn, mSortSet, mSortSetL, mRevT, mForC, mSeqC, mLcC, pAbs, pMax2, pMin2, pInt1, mDGet, mDPut, mBM, mBM0, pPop, pAppend, pExtend, pSetL, mSub, mDisp, mPs, mPs0, mRevL, mRevLM, pLstOfM, mTupRg, mRg1, mRg2, pPlusM, lstItems, dictOfP, keyP, keysP, val_left, val_mixed, val_draws, put_draws, mLc, mLcM, mLc2, mFor, mSeqI, mRng1, mRng2, mZip, mEnum, mSl, mNoPart, mPart, mSeq, mAsg, mAsg2, mCB, mCons, mNil, mVar, mC, mOp, mUn, pU, mTup, mLst, mRet, mRetN, mLstM, getl, setl, mName, mCall, mCallK, mIf, mIfS, mTest, mAnd, mOr, mNot, mYes, mAndV, mOrV, mNotV, mNext, mNever, mBreak, mCont, mDrop, mChain, mPar, mGTup, mGCons, mGNil, pGcd, pI, pI0, pIx, pTimes, pPlus, pEq, pNe, pLen, pSum, pMaxS, pAll, pAny, pTupOf, pLstOf, pIn, pIsB, pIsi, items_tup, items_lst, items_kl, items_mr, items_tab, items_lot, items_fr, decide_true, decide_false, eqP_int, eqP_bl, eqP_str, eqP_tup2, kit_tt, kit_ii, kit_ib, tyP, mEnd, wipeP, List.map_cons, List.map_nil, List.getElem?_cons_zero, List.getElem?_cons_succ, List.set_cons_zero, List.set_cons_succ, atI_zero, atI_one, if_true, if_false, ite_true, ite_false, Bool.false_eq_true, List.length_cons, List.length_nil, Bool.not_true, Bool.not_false]
  simp only [pMaxT, pSortT, str_to, str_ot, mPar3, mLockV, mLockE, mItemsC, mKeysC, mDGet2, pIsN, isNonP, pRepLM, mTruD, dkOfP, pPopAt, pIndex, mLstRgM, mTruth, pReprA, pLenD, pLstD, mDNew, pRepL, mLenSetN, mDIn, mSortSet, mSortSetL, mRevT, mForC, mSeqC, mLcC, pAbs, pMax2, pMin2, pInt1, mDGet, mDPut, mBM, mBM0, pPop, pAppend, pExtend, pSetL, mSub, mDisp, mPs, mPs0, mRevL, mRevLM, pLstOfM, mTupRg, mRg1, mRg2, pPlusM, lstItems, dictOfP, keyP, keysP, val_left, val_mixed, val_draws, put_draws, mLc, mLcM, mLc2, mFor, mSeqI, mRng1, mRng2, mZip, mEnum, mSl, mNoPart, mPart, mSeq, mAsg, mAsg2, mCB, mCons, mNil, mVar, mC, mOp, mUn, pU, mTup, mLst, mRet, mRetN, mLstM, getl, setl, mName, mCall, mCallK, mIf, mIfS, mTest, mAnd, mOr, mNot, mYes, mAndV, mOrV, mNotV, mNext, mNever, mBreak, mCont, mDrop, mChain, mPar, mGTup, mGCons, mGNil, pGcd, pI, pI0, pIx, pTimes, pPlus, pEq, pNe, pLen, pSum, pMaxS, pAll, pAny, pTupOf, pLstOf, pIn, pIsB, pIsi, items_tup, items_lst, items_kl, items_mr, items_tab, items_lot, items_fr, decide_true, decide_false, eqP_int, eqP_bl, eqP_str, eqP_tup2, kit_tt, kit_ii, kit_ib, tyP, mEnd, wipeP, List.map_cons, List.map_nil, List.getElem?_cons_zero, List.getElem?_cons_succ, List.set_cons_zero, List.set_cons_succ, atI_zero, atI_one, if_true, if_false, ite_true, ite_false, Bool.false_eq_true, List.length_cons, List.length_nil, Bool.not_true, Bool.not_false, lotP, mRg1, List.length_map]
  simp only [pMaxT, pSortT, str_to, str_ot, mPar3, mLockV, mLockE, mItemsC, mKeysC, mDGet2, pIsN, isNonP, pRepLM, mTruD, dkOfP, pPopAt, pIndex, mLstRgM, mTruth, pReprA, pLenD, pLstD, mDNew, pRepL, mLenSetN, mDIn, mSortSet, mSortSetL, mRevT, mForC, mSeqC, mLcC, pAbs, pMax2, pMin2, pInt1, mDGet, mDPut, mBM, mBM0, pPop, pAppend, pExtend, pSetL, mSub, mDisp, mPs, mPs0, mRevL, mRevLM, pLstOfM, mTupRg, mRg1, mRg2, pPlusM, lstItems, dictOfP, keyP, keysP, val_left, val_mixed, val_draws, put_draws, mLc, mLcM, mLc2, mFor, mSeqI, mRng1, mRng2, mZip, mEnum, mSl, mNoPart, mPart, mSeq, mAsg, mAsg2, mCB, mCons, mNil, mVar, mC, mOp, mUn, pU, mTup, mLst, mRet, mRetN, mLstM, getl, setl, mName, mCall, mCallK, mIf, mIfS, mTest, mAnd, mOr, mNot, mYes, mAndV, mOrV, mNotV, mNext, mNever, mBreak, mCont, mDrop, mChain, mPar, mGTup, mGCons, mGNil, pGcd, pI, pI0, pIx, pTimes, pPlus, pEq, pNe, pLen, pSum, pMaxS, pAll, pAny, pTupOf, pLstOf, pIn, pIsB, pIsi, items_tup, items_lst, items_kl, items_mr, items_tab, items_lot, items_fr, decide_true, decide_false, eqP_int, eqP_bl, eqP_str, eqP_tup2, kit_tt, kit_ii, kit_ib, tyP, mEnd, wipeP, List.map_cons, List.map_nil, List.getElem?_cons_zero, List.getElem?_cons_succ, List.set_cons_zero, List.set_cons_succ, atI_zero, atI_one, if_true, if_false, ite_true, ite_false, Bool.false_eq_true, List.length_cons, List.length_nil, Bool.not_true, Bool.not_false, mLstRg]
  have l8 := hL.len
  rw [List.length_map]
  refine ⟨by omega, by decide, trivial, ?_⟩
  rw [show ((ls.length : Nat) : Int) - 0 = ((ls.length : Nat) : Int) by omega, Int.toNat_natCast, rangeP_eq]
  subst hR
  refine stm_of fun R1 hR1 => ?_
  simp only [pMaxT, pSortT, str_to, str_ot, mPar3, mLockV, mLockE, mItemsC, mKeysC, mDGet2, pIsN, isNonP, pRepLM, mTruD, dkOfP, pPopAt, pIndex, mLstRgM, mTruth, pReprA, pLenD, pLstD, mDNew, pRepL, mLenSetN, mDIn, mSortSet, mSortSetL, mRevT, mForC, mSeqC, mLcC, pAbs, pMax2, pMin2, pInt1, mDGet, mDPut, mBM, mBM0, pPop, pAppend, pExtend, pSetL, mSub, mDisp, mPs, mPs0, mRevL, mRevLM, pLstOfM, mTupRg, mRg1, mRg2, pPlusM, lstItems, dictOfP, keyP, keysP, val_left, val_mixed, val_draws, put_draws, mLc, mLcM, mLc2, mFor, mSeqI, mRng1, mRng2, mZip, mEnum, mSl, mNoPart, mPart, mSeq, mAsg, mAsg2, mCB, mCons, mNil, mVar, mC, mOp, mUn, pU, mTup, mLst, mRet, mRetN, mLstM, getl, setl, mName, mCall, mCallK, mIf, mIfS, mTest, mAnd, mOr, mNot, mYes, mAndV, mOrV, mNotV, mNext, mNever, mBreak, mCont, mDrop, mChain, mPar, mGTup, mGCons, mGNil, pGcd, pI, pI0, pIx, pTimes, pPlus, pEq, pNe, pLen, pSum, pMaxS, pAll, pAny, pTupOf, pLstOf, pIn, pIsB, pIsi, items_tup, items_lst, items_kl, items_mr, items_tab, items_lot, items_fr, decide_true, decide_false, eqP_int, eqP_bl, eqP_str, eqP_tup2, kit_tt, kit_ii, kit_ib, tyP, mEnd, wipeP, List.map_cons, List.map_nil, List.getElem?_cons_zero, List.getElem?_cons_succ, List.set_cons_zero, List.set_cons_succ, atI_zero, atI_one, if_true, if_false, ite_true, ite_false, Bool.false_eq_true, List.length_cons, List.length_nil, Bool.not_true, Bool.not_false, List.length_map]
  obtain ⟨l, hR⟩ := row_ex ls
  have hll : l.length = ls.length := by rw [hR.perm.length_eq, lps_len]
  have hle : ∀ q ∈ l, q.1 ≤ 30 := fun q hq => lps_le hL.le (hR.perm.mem_iff.mp hq)
  have hlt : ∀ q ∈ l, q.2 < ls.length ∧ q.1 = ls.getD q.2 0 := fun q hq => lps_mem (hR.perm.mem_iff.mp hq)
  rw [Int.toNat_natCast, rangeP_eq]
  refine ⟨by omega, for_inv (enc := fun (i : Nat) => PV.int i) (fun pre ρ μ' => ∃ (L : List Nat) (N b : Nat) (y5 y6 y7 y8 : Option PV), ρ = [some (.tup (ls.map fun (n : Nat) => PV.int n)), some (.lst (L.map fun (n : Nat) => PV.int n)), some (.mr μ.length), some (.int (N : Nat)), some (.int (b : Nat)), y5, y6, y7, y8] ∧ μ' = μ ++ [.dk (fdP ls (l.take pre.length))] ∧ NumOk (l.take pre.length) N b ∧ wsum (l.take pre.length) ≤ 2 ^ 30 ∧ (b = 0 ∨ ∃ q ∈ l.take pre.length, q.1 = b) ∧ (∀ i, i ∈ L ↔ i ∈ (l.drop pre.length).map (·.2)) ∧ L.length ≤ 8) (done := []) ⟨List.range ls.length, 0, 0, _, _, _, _, rfl, rfl, num_nil, by simp [wsum], .inl rfl, fun i => by rw [List.length_nil, List.drop_zero, (hR.perm.map (·.2)).mem_iff, lps_snd], by rw [List.length_range]; exact l8⟩ (fun pre a post1 ρ μ' e1 hI N' hN => ?_) fun ρ μ' hI => ?_⟩
  · obtain ⟨L, N, b, y5, y6, y7, y8, rfl, rfl, k1, k2, k3, k4, k5⟩ := hI
    have hpk : pre.length < l.length := by
      have := congrArg List.length e1
      simp at this
      omega
    have hd : l.drop pre.length = l[pre.length] :: l.drop (pre.length + 1) := List.drop_eq_getElem_cons hpk
    have e : l = l.take pre.length ++ l[pre.length] :: l.drop (pre.length + 1) := by rw [← hd, List.take_append_drop]
    have ht : l.take (pre.length + 1) = l.take pre.length ++ [l[pre.length]] := by rw [List.take_add_one, List.getElem?_eq_getElem hpk]; rfl
    rw [hd] at k4
    have hpm : l[pre.length] ∈ l := List.getElem_mem hpk
    have hpl : (l.take pre.length).length ≤ 8 := by rw [List.length_take]; omega
    generalize l[pre.length] = p at *
    obtain ⟨x, L', hx, hmin⟩ := min_row hR e k4
    have hLlt : ∀ i ∈ L, i < ls.length := fun i hi => by
      obtain ⟨q, hq, rfl⟩ := List.mem_map.mp ((k4 i).mp hi)
      exact (hlt q (by rw [e]; exact List.mem_append_right _ hq)).1
    show mSeq _ _ _ _ _
    refine stm_of fun R2 hR2 => ?_
    simp only [pMaxT, pSortT, str_to, str_ot, mPar3, mLockV, mLockE, mItemsC, mKeysC, mDGet2, pIsN, isNonP, pRepLM, mTruD, dkOfP, pPopAt, pIndex, mLstRgM, mTruth, pReprA, pLenD, pLstD, mDNew, pRepL, mLenSetN, mDIn, mSortSet, mSortSetL, mRevT, mForC, mSeqC, mLcC, pAbs, pMax2, pMin2, pInt1, mDGet, mDPut, mBM, mBM0, pPop, pAppend, pExtend, pSetL, mSub, mDisp, mPs, mPs0, mRevL, mRevLM, pLstOfM, mTupRg, mRg1, mRg2, pPlusM, lstItems, dictOfP, keyP, keysP, val_left, val_mixed, val_draws, put_draws, mLc, mLcM, mLc2, mFor, mSeqI, mRng1, mRng2, mZip, mEnum, mSl, mNoPart, mPart, mSeq, mAsg, mAsg2, mCB, mCons, mNil, mVar, mC, mOp, mUn, pU, mTup, mLst, mRet, mRetN, mLstM, getl, setl, mName, mCall, mCallK, mIf, mIfS, mTest, mAnd, mOr, mNot, mYes, mAndV, mOrV, mNotV, mNext, mNever, mBreak, mCont, mDrop, mChain, mPar, mGTup, mGCons, mGNil, pGcd, pI, pI0, pIx, pTimes, pPlus, pEq, pNe, pLen, pSum, pMaxS, pAll, pAny, pTupOf, pLstOf, pIn, pIsB, pIsi, items_tup, items_lst, items_kl, items_mr, items_tab, items_lot, items_fr, decide_true, decide_false, eqP_int, eqP_bl, eqP_str, eqP_tup2, kit_tt, kit_ii, kit_ib, tyP, mEnd, wipeP, List.map_cons, List.map_nil, List.getElem?_cons_zero, List.getElem?_cons_succ, List.set_cons_zero, List.set_cons_succ, atI_zero, atI_one, if_true, if_false, ite_true, ite_false, Bool.false_eq_true, List.length_cons, List.length_nil, Bool.not_true, Bool.not_false]
    refine ⟨by decide, by rw [List.length_map]; unfold lim; omega, lc_map (enc := fun (n : Nat) => PV.int n) (out := fun i => PV.tup [.int (ls.getD i 0 : Nat), .int (i : Nat)]) (fun i hi k hk => ?_) ?_⟩
    · simp only [pMaxT, pSortT, str_to, str_ot, mPar3, mLockV, mLockE, mItemsC, mKeysC, mDGet2, pIsN, isNonP, pRepLM, mTruD, dkOfP, pPopAt, pIndex, mLstRgM, mTruth, pReprA, pLenD, pLstD, mDNew, pRepL, mLenSetN, mDIn, mSortSet, mSortSetL, mRevT, mForC, mSeqC, mLcC, pAbs, pMax2, pMin2, pInt1, mDGet, mDPut, mBM, mBM0, pPop, pAppend, pExtend, pSetL, mSub, mDisp, mPs, mPs0, mRevL, mRevLM, pLstOfM, mTupRg, mRg1, mRg2, pPlusM, lstItems, dictOfP, keyP, keysP, val_left, val_mixed, val_draws, put_draws, mLc, mLcM, mLc2, mFor, mSeqI, mRng1, mRng2, mZip, mEnum, mSl, mNoPart, mPart, mSeq, mAsg, mAsg2, mCB, mCons, mNil, mVar, mC, mOp, mUn, pU, mTup, mLst, mRet, mRetN, mLstM, getl, setl, mName, mCall, mCallK, mIf, mIfS, mTest, mAnd, mOr, mNot, mYes, mAndV, mOrV, mNotV, mNext, mNever, mBreak, mCont, mDrop, mChain, mPar, mGTup, mGCons, mGNil, pGcd, pI, pI0, pIx, pTimes, pPlus, pEq, pNe, pLen, pSum, pMaxS, pAll, pAny, pTupOf, pLstOf, pIn, pIsB, pIsi, items_tup, items_lst, items_kl, items_mr, items_tab, items_lot, items_fr, decide_true, decide_false, eqP_int, eqP_bl, eqP_str, eqP_tup2, kit_tt, kit_ii, kit_ib, tyP, mEnd, wipeP, List.map_cons, List.map_nil, List.getElem?_cons_zero, List.getElem?_cons_succ, List.set_cons_zero, List.set_cons_succ, atI_zero, atI_one, if_true, if_false, ite_true, ite_false, Bool.false_eq_true, List.length_cons, List.length_nil, Bool.not_true, Bool.not_false]
      rw [atL (hLlt i hi)]
      exact ⟨by decide, hk⟩
    rw [row_pairs, hx]
    simp only [List.map_cons]
    rw [hmin]
    simp only [pMaxT, pSortT, str_to, str_ot, mPar3, mLockV, mLockE, mItemsC, mKeysC, mDGet2, pIsN, isNonP, pRepLM, mTruD, dkOfP, pPopAt, pIndex, mLstRgM, mTruth, pReprA, pLenD, pLstD, mDNew, pRepL, mLenSetN, mDIn, mSortSet, mSortSetL, mRevT, mForC, mSeqC, mLcC, pAbs, pMax2, pMin2, pInt1, mDGet, mDPut, mBM, mBM0, pPop, pAppend, pExtend, pSetL, mSub, mDisp, mPs, mPs0, mRevL, mRevLM, pLstOfM, mTupRg, mRg1, mRg2, pPlusM, lstItems, dictOfP, keyP, keysP, val_left, val_mixed, val_draws, put_draws, mLc, mLcM, mLc2, mFor, mSeqI, mRng1, mRng2, mZip, mEnum, mSl, mNoPart, mPart, mSeq, mAsg, mAsg2, mCB, mCons, mNil, mVar, mC, mOp, mUn, pU, mTup, mLst, mRet, mRetN, mLstM, getl, setl, mName, mCall, mCallK, mIf, mIfS, mTest, mAnd, mOr, mNot, mYes, mAndV, mOrV, mNotV, mNext, mNever, mBreak, mCont, mDrop, mChain, mPar, mGTup, mGCons, mGNil, pGcd, pI, pI0, pIx, pTimes, pPlus, pEq, pNe, pLen, pSum, pMaxS, pAll, pAny, pTupOf, pLstOf, pIn, pIsB, pIsi, items_tup, items_lst, items_kl, items_mr, items_tab, items_lot, items_fr, decide_true, decide_false, eqP_int, eqP_bl, eqP_str, eqP_tup2, kit_tt, kit_ii, kit_ib, tyP, mEnd, wipeP, List.map_cons, List.map_nil, List.getElem?_cons_zero, List.getElem?_cons_succ, List.set_cons_zero, List.set_cons_succ, atI_zero, atI_one, if_true, if_false, ite_true, ite_false, Bool.false_eq_true, List.length_cons, List.length_nil, Bool.not_true, Bool.not_false, zz]
    rw [show PV.int (x : Nat) :: (L'.map fun (n : Nat) => PV.int n) = L.map fun (n : Nat) => PV.int n by rw [hx]; rfl]
    subst hR2
    refine stm_of fun R3 hR3 => ?_
    simp only [pMaxT, pSortT, str_to, str_ot, mPar3, mLockV, mLockE, mItemsC, mKeysC, mDGet2, pIsN, isNonP, pRepLM, mTruD, dkOfP, pPopAt, pIndex, mLstRgM, mTruth, pReprA, pLenD, pLstD, mDNew, pRepL, mLenSetN, mDIn, mSortSet, mSortSetL, mRevT, mForC, mSeqC, mLcC, pAbs, pMax2, pMin2, pInt1, mDGet, mDPut, mBM, mBM0, pPop, pAppend, pExtend, pSetL, mSub, mDisp, mPs, mPs0, mRevL, mRevLM, pLstOfM, mTupRg, mRg1, mRg2, pPlusM, lstItems, dictOfP, keyP, keysP, val_left, val_mixed, val_draws, put_draws, mLc, mLcM, mLc2, mFor, mSeqI, mRng1, mRng2, mZip, mEnum, mSl, mNoPart, mPart, mSeq, mAsg, mAsg2, mCB, mCons, mNil, mVar, mC, mOp, mUn, pU, mTup, mLst, mRet, mRetN, mLstM, getl, setl, mName, mCall, mCallK, mIf, mIfS, mTest, mAnd, mOr, mNot, mYes, mAndV, mOrV, mNotV, mNext, mNever, mBreak, mCont, mDrop, mChain, mPar, mGTup, mGCons, mGNil, pGcd, pI, pI0, pIx, pTimes, pPlus, pEq, pNe, pLen, pSum, pMaxS, pAll, pAny, pTupOf, pLstOf, pIn, pIsB, pIsi, items_tup, items_lst, items_kl, items_mr, items_tab, items_lot, items_fr, decide_true, decide_false, eqP_int, eqP_bl, eqP_str, eqP_tup2, kit_tt, kit_ii, kit_ib, tyP, mEnd, wipeP, List.map_cons, List.map_nil, List.getElem?_cons_zero, List.getElem?_cons_succ, List.set_cons_zero, List.set_cons_succ, atI_zero, atI_one, if_true, if_false, ite_true, ite_false, Bool.false_eq_true, List.length_cons, List.length_nil, Bool.not_true, Bool.not_false]
    refine ⟨by decide, by rw [List.length_map]; unfold lim; omega, lc_filter (enc := fun (n : Nat) => PV.int n) (out := fun (n : Nat) => PV.int n) (p := fun i => decide (i ≠ p.2)) (fun i hi k n h1 h2 => ?_) ?_⟩
    · simp only [pMaxT, pSortT, str_to, str_ot, mPar3, mLockV, mLockE, mItemsC, mKeysC, mDGet2, pIsN, isNonP, pRepLM, mTruD, dkOfP, pPopAt, pIndex, mLstRgM, mTruth, pReprA, pLenD, pLstD, mDNew, pRepL, mLenSetN, mDIn, mSortSet, mSortSetL, mRevT, mForC, mSeqC, mLcC, pAbs, pMax2, pMin2, pInt1, mDGet, mDPut, mBM, mBM0, pPop, pAppend, pExtend, pSetL, mSub, mDisp, mPs, mPs0, mRevL, mRevLM, pLstOfM, mTupRg, mRg1, mRg2, pPlusM, lstItems, dictOfP, keyP, keysP, val_left, val_mixed, val_draws, put_draws, mLc, mLcM, mLc2, mFor, mSeqI, mRng1, mRng2, mZip, mEnum, mSl, mNoPart, mPart, mSeq, mAsg, mAsg2, mCB, mCons, mNil, mVar, mC, mOp, mUn, pU, mTup, mLst, mRet, mRetN, mLstM, getl, setl, mName, mCall, mCallK, mIf, mIfS, mTest, mAnd, mOr, mNot, mYes, mAndV, mOrV, mNotV, mNext, mNever, mBreak, mCont, mDrop, mChain, mPar, mGTup, mGCons, mGNil, pGcd, pI, pI0, pIx, pTimes, pPlus, pEq, pNe, pLen, pSum, pMaxS, pAll, pAny, pTupOf, pLstOf, pIn, pIsB, pIsi, items_tup, items_lst, items_kl, items_mr, items_tab, items_lot, items_fr, decide_true, decide_false, eqP_int, eqP_bl, eqP_str, eqP_tup2, kit_tt, kit_ii, kit_ib, tyP, mEnd, wipeP, List.map_cons, List.map_nil, List.getElem?_cons_zero, List.getElem?_cons_succ, List.set_cons_zero, List.set_cons_succ, atI_zero, atI_one, if_true, if_false, ite_true, ite_false, Bool.false_eq_true, List.length_cons, List.length_nil, Bool.not_true, Bool.not_false]
      by_cases c : i = p.2
      · rw [decide_eq_true (by omega), if_neg (by decide)]
        exact h2 (by simp [c])
      · rw [decide_eq_false (by omega), if_pos (by decide)]
        exact h1 (by simp [c])
    · subst hR3
      refine stm_of fun R4 hR4 => ?_
      have hp30 := hle p hpm
      have hb : b ≤ p.1 := by
        rcases k3 with rfl | ⟨q, hq, rfl⟩
        · exact Nat.zero_le _
        · exact hR.le e q hq
      have hN1 := num_lt k1 k2
      have hb30 := Nat.pow_le_pow_right (n := 2) (by decide) k1.1
      have k6 := num_shift k1 hb hp30
      have hpa : L2.atI (ls.map fun (n : Nat) => PV.int n) ((p.2 : Nat) : Int) = some (.int (p.1 : Nat)) := by rw [(hlt p hpm).2]; exact atL (hlt p hpm).1
      simp only [pMaxT, pSortT, str_to, str_ot, mPar3, mLockV, mLockE, mItemsC, mKeysC, mDGet2, pIsN, isNonP, pRepLM, mTruD, dkOfP, pPopAt, pIndex, mLstRgM, mTruth, pReprA, pLenD, pLstD, mDNew, pRepL, mLenSetN, mDIn, mSortSet, mSortSetL, mRevT, mForC, mSeqC, mLcC, pAbs, pMax2, pMin2, pInt1, mDGet, mDPut, mBM, mBM0, pPop, pAppend, pExtend, pSetL, mSub, mDisp, mPs, mPs0, mRevL, mRevLM, pLstOfM, mTupRg, mRg1, mRg2, pPlusM, lstItems, dictOfP, keyP, keysP, val_left, val_mixed, val_draws, put_draws, mLc, mLcM, mLc2, mFor, mSeqI, mRng1, mRng2, mZip, mEnum, mSl, mNoPart, mPart, mSeq, mAsg, mAsg2, mCB, mCons, mNil, mVar, mC, mOp, mUn, pU, mTup, mLst, mRet, mRetN, mLstM, getl, setl, mName, mCall, mCallK, mIf, mIfS, mTest, mAnd, mOr, mNot, mYes, mAndV, mOrV, mNotV, mNext, mNever, mBreak, mCont, mDrop, mChain, mPar, mGTup, mGCons, mGNil, pGcd, pI, pI0, pIx, pTimes, pPlus, pEq, pNe, pLen, pSum, pMaxS, pAll, pAny, pTupOf, pLstOf, pIn, pIsB, pIsi, items_tup, items_lst, items_kl, items_mr, items_tab, items_lot, items_fr, decide_true, decide_false, eqP_int, eqP_bl, eqP_str, eqP_tup2, kit_tt, kit_ii, kit_ib, tyP, mEnd, wipeP, List.map_cons, List.map_nil, List.getElem?_cons_zero, List.getElem?_cons_succ, List.set_cons_zero, List.set_cons_succ, atI_zero, atI_one, if_true, if_false, ite_true, ite_false, Bool.false_eq_true, List.length_cons, List.length_nil, Bool.not_true, Bool.not_false, hpa]
      have e9 : ((p.1 : Nat) : Int) - (b : Int) = ((p.1 - b : Nat) : Int) := by omega
      simp only [e9, shlN]
      refine ⟨shl_okN (by omega) (by omega), by decide, trivial, ?_⟩
      subst hR4
      refine stm_of fun R5 hR5 => ?_
      simp only [pMaxT, pSortT, str_to, str_ot, mPar3, mLockV, mLockE, mItemsC, mKeysC, mDGet2, pIsN, isNonP, pRepLM, mTruD, dkOfP, pPopAt, pIndex, mLstRgM, mTruth, pReprA, pLenD, pLstD, mDNew, pRepL, mLenSetN, mDIn, mSortSet, mSortSetL, mRevT, mForC, mSeqC, mLcC, pAbs, pMax2, pMin2, pInt1, mDGet, mDPut, mBM, mBM0, pPop, pAppend, pExtend, pSetL, mSub, mDisp, mPs, mPs0, mRevL, mRevLM, pLstOfM, mTupRg, mRg1, mRg2, pPlusM, lstItems, dictOfP, keyP, keysP, val_left, val_mixed, val_draws, put_draws, mLc, mLcM, mLc2, mFor, mSeqI, mRng1, mRng2, mZip, mEnum, mSl, mNoPart, mPart, mSeq, mAsg, mAsg2, mCB, mCons, mNil, mVar, mC, mOp, mUn, pU, mTup, mLst, mRet, mRetN, mLstM, getl, setl, mName, mCall, mCallK, mIf, mIfS, mTest, mAnd, mOr, mNot, mYes, mAndV, mOrV, mNotV, mNext, mNever, mBreak, mCont, mDrop, mChain, mPar, mGTup, mGCons, mGNil, pGcd, pI, pI0, pIx, pTimes, pPlus, pEq, pNe, pLen, pSum, pMaxS, pAll, pAny, pTupOf, pLstOf, pIn, pIsB, pIsi, items_tup, items_lst, items_kl, items_mr, items_tab, items_lot, items_fr, decide_true, decide_false, eqP_int, eqP_bl, eqP_str, eqP_tup2, kit_tt, kit_ii, kit_ib, tyP, mEnd, wipeP, List.map_cons, List.map_nil, List.getElem?_cons_zero, List.getElem?_cons_succ, List.set_cons_zero, List.set_cons_succ, atI_zero, atI_one, if_true, if_false, ite_true, ite_false, Bool.false_eq_true, List.length_cons, List.length_nil, Bool.not_true, Bool.not_false]
      have hq : (1 : Int) * 2 ^ ((p.1 : Nat) : Int).toNat = ((2 ^ p.1 : Nat) : Int) := shl1w _
      simp only [hq]
      refine ⟨shl_ok (n := 1) (by decide) (by omega), ?_⟩
      by_cases c : 2 ^ p.1 ≤ N * 2 ^ (p.1 - b)
      · rw [decide_eq_true (by omega), if_pos rfl]
        have hout := num_out hR e k6 c
        refine fin_drop (g := [.dk (fdP ls (l.take pre.length))]) rfl ?_
        rw [fwP, if_neg (by omega)] at hQ
        exact hQ
      · have hlt2 : N * 2 ^ (p.1 - b) < 2 ^ p.1 := by omega
        rw [decide_eq_false (by omega), if_neg (by decide)]
        subst hR5
        have h30 := Nat.pow_le_pow_right (n := 2) (by decide) hp30
        simp only [pMaxT, pSortT, str_to, str_ot, mPar3, mLockV, mLockE, mItemsC, mKeysC, mDGet2, pIsN, isNonP, pRepLM, mTruD, dkOfP, pPopAt, pIndex, mLstRgM, mTruth, pReprA, pLenD, pLstD, mDNew, pRepL, mLenSetN, mDIn, mSortSet, mSortSetL, mRevT, mForC, mSeqC, mLcC, pAbs, pMax2, pMin2, pInt1, mDGet, mDPut, mBM, mBM0, pPop, pAppend, pExtend, pSetL, mSub, mDisp, mPs, mPs0, mRevL, mRevLM, pLstOfM, mTupRg, mRg1, mRg2, pPlusM, lstItems, dictOfP, keyP, keysP, val_left, val_mixed, val_draws, put_draws, mLc, mLcM, mLc2, mFor, mSeqI, mRng1, mRng2, mZip, mEnum, mSl, mNoPart, mPart, mSeq, mAsg, mAsg2, mCB, mCons, mNil, mVar, mC, mOp, mUn, pU, mTup, mLst, mRet, mRetN, mLstM, getl, setl, mName, mCall, mCallK, mIf, mIfS, mTest, mAnd, mOr, mNot, mYes, mAndV, mOrV, mNotV, mNext, mNever, mBreak, mCont, mDrop, mChain, mPar, mGTup, mGCons, mGNil, pGcd, pI, pI0, pIx, pTimes, pPlus, pEq, pNe, pLen, pSum, pMaxS, pAll, pAny, pTupOf, pLstOf, pIn, pIsB, pIsi, items_tup, items_lst, items_kl, items_mr, items_tab, items_lot, items_fr, decide_true, decide_false, eqP_int, eqP_bl, eqP_str, eqP_tup2, kit_tt, kit_ii, kit_ib, tyP, mEnd, wipeP, List.map_cons, List.map_nil, List.getElem?_cons_zero, List.getElem?_cons_succ, List.set_cons_zero, List.set_cons_succ, atI_zero, atI_one, if_true, if_false, ite_true, ite_false, Bool.false_eq_true, List.length_cons, List.length_nil, Bool.not_true, Bool.not_false]
        rw [Int.toNat_natCast, rangeP_eq]
        refine ⟨by decide, ⟨by omega, by omega⟩, by rw [List.length_map, List.length_range]; unfold lim; omega, lc_map (enc := fun (i : Nat) => PV.int i) (out := fun i => .int ((N * 2 ^ (p.1 - b) / 2 ^ (p.1 - 1 - i) % 2 : Nat) : Int)) (fun i hi k hk => ?_) ?_⟩
        · have hi := List.mem_range.mp hi
          simp only [pMaxT, pSortT, str_to, str_ot, mPar3, mLockV, mLockE, mItemsC, mKeysC, mDGet2, pIsN, isNonP, pRepLM, mTruD, dkOfP, pPopAt, pIndex, mLstRgM, mTruth, pReprA, pLenD, pLstD, mDNew, pRepL, mLenSetN, mDIn, mSortSet, mSortSetL, mRevT, mForC, mSeqC, mLcC, pAbs, pMax2, pMin2, pInt1, mDGet, mDPut, mBM, mBM0, pPop, pAppend, pExtend, pSetL, mSub, mDisp, mPs, mPs0, mRevL, mRevLM, pLstOfM, mTupRg, mRg1, mRg2, pPlusM, lstItems, dictOfP, keyP, keysP, val_left, val_mixed, val_draws, put_draws, mLc, mLcM, mLc2, mFor, mSeqI, mRng1, mRng2, mZip, mEnum, mSl, mNoPart, mPart, mSeq, mAsg, mAsg2, mCB, mCons, mNil, mVar, mC, mOp, mUn, pU, mTup, mLst, mRet, mRetN, mLstM, getl, setl, mName, mCall, mCallK, mIf, mIfS, mTest, mAnd, mOr, mNot, mYes, mAndV, mOrV, mNotV, mNext, mNever, mBreak, mCont, mDrop, mChain, mPar, mGTup, mGCons, mGNil, pGcd, pI, pI0, pIx, pTimes, pPlus, pEq, pNe, pLen, pSum, pMaxS, pAll, pAny, pTupOf, pLstOf, pIn, pIsB, pIsi, items_tup, items_lst, items_kl, items_mr, items_tab, items_lot, items_fr, decide_true, decide_false, eqP_int, eqP_bl, eqP_str, eqP_tup2, kit_tt, kit_ii, kit_ib, tyP, mEnd, wipeP, List.map_cons, List.map_nil, List.getElem?_cons_zero, List.getElem?_cons_succ, List.set_cons_zero, List.set_cons_succ, atI_zero, atI_one, if_true, if_false, ite_true, ite_false, Bool.false_eq_true, List.length_cons, List.length_nil, Bool.not_true, Bool.not_false, and_one]
          have e1 : ((p.1 : Nat) : Int) - 1 - (i : Int) = ((p.1 - 1 - i : Nat) : Int) := by omega
          rw [e1, shrN]
          have e2 : ((N * 2 ^ (p.1 - b) / 2 ^ (p.1 - 1 - i) : Nat) : Int) % 2 = ((N * 2 ^ (p.1 - b) / 2 ^ (p.1 - 1 - i) % 2 : Nat) : Int) := by omega
          rw [e2]
          exact ⟨by omega, hk⟩
        · simp only [getl, setl]
          simp only [List.nil_append]
          rw [digP_out, ← num_cod hR e k6, fd_put (hR.new e)]
          refine ⟨by rw [fdP_len]; unfold lim; omega, hN _ _ ⟨L.filter (fun i => decide (i ≠ p.2)), N * 2 ^ (p.1 - b) + 1, p.1, _, _, _, _, rfl, ?_, ?_, ?_, ?_, ?_, ?_⟩⟩
          · rw [List.length_append, List.length_singleton, ht]
          · rw [List.length_append, List.length_singleton, ht]; exact num_next k6
          · rw [List.length_append, List.length_singleton, ht]; exact num_fit k6 hlt2
          · rw [List.length_append, List.length_singleton, ht]; exact .inr ⟨p, by simp, rfl⟩
          · intro i
            rw [List.length_append, List.length_singleton, List.mem_filter, k4 i, List.map_cons, List.mem_cons]
            simp only [decide_eq_true_eq]
            constructor
            · rintro ⟨h | h, h2⟩
              · exact absurd h h2
              · exact h
            · intro h
              obtain ⟨q, hq, rfl⟩ := List.mem_map.mp h
              exact ⟨.inr h, hR.lst e q hq⟩
          · exact Nat.le_trans (List.length_filter_le _ _) k5
  · obtain ⟨L, N, b, y5, y6, y7, y8, rfl, rfl, k1, k2, k3, k4, k5⟩ := hI
    rw [List.nil_append, List.length_range, ← hll, List.take_length] at *
    show R1 _ _
    subst hR1
    simp only [pMaxT, pSortT, str_to, str_ot, mPar3, mLockV, mLockE, mItemsC, mKeysC, mDGet2, pIsN, isNonP, pRepLM, mTruD, dkOfP, pPopAt, pIndex, mLstRgM, mTruth, pReprA, pLenD, pLstD, mDNew, pRepL, mLenSetN, mDIn, mSortSet, mSortSetL, mRevT, mForC, mSeqC, mLcC, pAbs, pMax2, pMin2, pInt1, mDGet, mDPut, mBM, mBM0, pPop, pAppend, pExtend, pSetL, mSub, mDisp, mPs, mPs0, mRevL, mRevLM, pLstOfM, mTupRg, mRg1, mRg2, pPlusM, lstItems, dictOfP, keyP, keysP, val_left, val_mixed, val_draws, put_draws, mLc, mLcM, mLc2, mFor, mSeqI, mRng1, mRng2, mZip, mEnum, mSl, mNoPart, mPart, mSeq, mAsg, mAsg2, mCB, mCons, mNil, mVar, mC, mOp, mUn, pU, mTup, mLst, mRet, mRetN, mLstM, getl, setl, mName, mCall, mCallK, mIf, mIfS, mTest, mAnd, mOr, mNot, mYes, mAndV, mOrV, mNotV, mNext, mNever, mBreak, mCont, mDrop, mChain, mPar, mGTup, mGCons, mGNil, pGcd, pI, pI0, pIx, pTimes, pPlus, pEq, pNe, pLen, pSum, pMaxS, pAll, pAny, pTupOf, pLstOf, pIn, pIsB, pIsi, items_tup, items_lst, items_kl, items_mr, items_tab, items_lot, items_fr, decide_true, decide_false, eqP_int, eqP_bl, eqP_str, eqP_tup2, kit_tt, kit_ii, kit_ib, tyP, mEnd, wipeP, List.map_cons, List.map_nil, List.getElem?_cons_zero, List.getElem?_cons_succ, List.set_cons_zero, List.set_cons_succ, atI_zero, atI_one, if_true, if_false, ite_true, ite_false, Bool.false_eq_true, List.length_cons, List.length_nil, Bool.not_true, Bool.not_false]
    rw [List.length_map, Int.toNat_natCast, rangeP_eq]
    refine ⟨by decide, ⟨by omega, by omega⟩, by rw [List.length_map, List.length_range]; unfold lim; omega, lc_map (enc := fun (i : Nat) => PV.int i) (out := fun i => lotP (cod ls (ls.getD i 0, i))) (fun i hi k hk => ?_) ?_⟩
    · simp only [pMaxT, pSortT, str_to, str_ot, mPar3, mLockV, mLockE, mItemsC, mKeysC, mDGet2, pIsN, isNonP, pRepLM, mTruD, dkOfP, pPopAt, pIndex, mLstRgM, mTruth, pReprA, pLenD, pLstD, mDNew, pRepL, mLenSetN, mDIn, mSortSet, mSortSetL, mRevT, mForC, mSeqC, mLcC, pAbs, pMax2, pMin2, pInt1, mDGet, mDPut, mBM, mBM0, pPop, pAppend, pExtend, pSetL, mSub, mDisp, mPs, mPs0, mRevL, mRevLM, pLstOfM, mTupRg, mRg1, mRg2, pPlusM, lstItems, dictOfP, keyP, keysP, val_left, val_mixed, val_draws, put_draws, mLc, mLcM, mLc2, mFor, mSeqI, mRng1, mRng2, mZip, mEnum, mSl, mNoPart, mPart, mSeq, mAsg, mAsg2, mCB, mCons, mNil, mVar, mC, mOp, mUn, pU, mTup, mLst, mRet, mRetN, mLstM, getl, setl, mName, mCall, mCallK, mIf, mIfS, mTest, mAnd, mOr, mNot, mYes, mAndV, mOrV, mNotV, mNext, mNever, mBreak, mCont, mDrop, mChain, mPar, mGTup, mGCons, mGNil, pGcd, pI, pI0, pIx, pTimes, pPlus, pEq, pNe, pLen, pSum, pMaxS, pAll, pAny, pTupOf, pLstOf, pIn, pIsB, pIsi, items_tup, items_lst, items_kl, items_mr, items_tab, items_lot, items_fr, decide_true, decide_false, eqP_int, eqP_bl, eqP_str, eqP_tup2, kit_tt, kit_ii, kit_ib, tyP, mEnd, wipeP, List.map_cons, List.map_nil, List.getElem?_cons_zero, List.getElem?_cons_succ, List.set_cons_zero, List.set_cons_succ, atI_zero, atI_one, if_true, if_false, ite_true, ite_false, Bool.false_eq_true, List.length_cons, List.length_nil, Bool.not_true, Bool.not_false]
      rw [fd_get hR (List.mem_range.mp hi)]
      exact hk
    · rw [List.nil_append, fst_out]
      rw [wsum_perm hR.perm] at k2
      rw [fwP, if_pos k2] at hQ
      exact fin_drop (noRef_ws _) hQ
abbrev N_is_begun : List Str := ["words", "i", "begun", "other"]
theorem sc_is_begun : FnScope N_is_begun ["words", "i"] (defScope s_is_begun) := ⟨rfl, rfl, rfl, by decide +kernel, rfl, by decide +kernel, by decide +kernel⟩
theorem ok_is_begun (B : Blt mg) (h_is_begun : Own K mg "is_begun" s_is_begun) : Ok P w K mg base 1 "is_begun" s_is_begun ["words", "i"] S_is_begun := by
  obtain ⟨f_s, fd_s, F_s, g_s⟩ := h_is_begun
  refine ⟨f_s, fd_s, F_s, g_s, F_s.binds (fun _ _ _ _ _ _ us hl => match us, hl with | [_, _], _ => rfl), FnG.of F_s sc_is_begun (fun xs μ Q h => by first | exact h.1 | (obtain ⟨⟩ := h)) fun cdv A outer s H hr hgd => ⟨_, _, (pss_cons (ps_setLc (i := 2) (own := [("other", 3)]) rfl sc_is_begun.nd rfl rfl (sw_true rfl rfl rfl (by decide +kernel)) (pi_seq (pv 0)) (blkOk_by (own := [("other", 3)]) (N := N_is_begun) (sc := defScope s_is_begun) (by decide +kernel)) (fun _ _ _ _ _ => (pg_name (i := 3) sc_is_begun.nd rfl (Or.inl rfl))) (fun _ _ _ _ _ => pts_one (pt_cmpR (opk_eqX K rfl hr.units) (pe_slice (slk_any K rfl) (pv 3) po_none (po_some (pe_callB (ck_len K rfl) (by rfl) (B "len" (by decide)) (by decide +kernel) (pa_cons (pe_ix (ixk_seq K rfl) (pv 0) (pv 1) (fun _ _ => rfl)) pa_nil)))) (pe_ix (ixk_seq K rfl) (pv 0) (pv 1) (fun _ _ => rfl)) (nomark _))) (fun _ _ _ _ _ => (pv 3)))
 (pss_one (ps_ret (pe_cmpR op_gt (pe_callB cb_len (by rfl) (B "len" (by decide)) (by decide +kernel) (pa_cons (pv 2) pa_nil)) pe_int (nomark _))))), (by (try dsimp only [cxOf]); exact inferInstance), ?_⟩⟩
  intro xs μ Q hS
  obtain ⟨_, ws, i, rfl, hi, hl, hp, hQ⟩ := hS
  rw [show startP N_is_begun [wsP ws, .int i] = [some (wsP ws), some (.int i), none, none] from rfl]
  refine stm_of fun R hR => ?_
  simp only [pMaxT, pSortT, str_to, str_ot, mPar3, mLockV, mLockE, mItemsC, mKeysC, mDGet2, pIsN, isNonP, pRepLM, mTruD, dkOfP, pPopAt, pIndex, mLstRgM, mTruth, pReprA, pLenD, pLstD, mDNew, pRepL, mLenSetN, mDIn, mSortSet, mSortSetL, mRevT, mForC, mSeqC, mLcC, pAbs, pMax2, pMin2, pInt1, mDGet, mDPut, mBM, mBM0, pPop, pAppend, pExtend, pSetL, mSub, mDisp, mPs, mPs0, mRevL, mRevLM, pLstOfM, mTupRg, mRg1, mRg2, pPlusM, lstItems, dictOfP, keyP, keysP, val_left, val_mixed, val_draws, put_draws, mLc, mLcM, mLc2, mFor, mSeqI, mRng1, mRng2, mZip, mEnum, mSl, mNoPart, mPart, mSeq, mAsg, mAsg2, mCB, mCons, mNil, mVar, mC, mOp, mUn, pU, mTup, mLst, mRet, mRetN, mLstM, getl, setl, mName, mCall, mCallK, mIf, mIfS, mTest, mAnd, mOr, mNot, mYes, mAndV, mOrV, mNotV, mNext, mNever, mBreak, mCont, mDrop, mChain, mPar, mGTup, mGCons, mGNil, pGcd, pI, pI0, pIx, pTimes, pPlus, pEq, pNe, pLen, pSum, pMaxS, pAll, pAny, pTupOf, pLstOf, pIn, pIsB, pIsi, items_tup, items_lst, items_kl, items_mr, items_tab, items_lot, items_fr, decide_true, decide_false, eqP_int, eqP_bl, eqP_str, eqP_tup2, kit_tt, kit_ii, kit_ib, tyP, mEnd, wipeP, List.map_cons, List.map_nil, List.getElem?_cons_zero, List.getElem?_cons_succ, List.set_cons_zero, List.set_cons_succ, atI_zero, atI_one, if_true, if_false, ite_true, ite_false, Bool.false_eq_true, List.length_cons, List.length_nil, Bool.not_true, Bool.not_false, wsP]
  refine ⟨by decide, by rw [List.length_map]; unfold lim; omega, lc_filter (enc := lotP) (out := lotP) (p := fun o => decide (o.take (ws.getD i []).length = ws.getD i [])) (fun o ho k n h1 h2 => ?_) ?_⟩
  · simp only [pMaxT, pSortT, str_to, str_ot, mPar3, mLockV, mLockE, mItemsC, mKeysC, mDGet2, pIsN, isNonP, pRepLM, mTruD, dkOfP, pPopAt, pIndex, mLstRgM, mTruth, pReprA, pLenD, pLstD, mDNew, pRepL, mLenSetN, mDIn, mSortSet, mSortSetL, mRevT, mForC, mSeqC, mLcC, pAbs, pMax2, pMin2, pInt1, mDGet, mDPut, mBM, mBM0, pPop, pAppend, pExtend, pSetL, mSub, mDisp, mPs, mPs0, mRevL, mRevLM, pLstOfM, mTupRg, mRg1, mRg2, pPlusM, lstItems, dictOfP, keyP, keysP, val_left, val_mixed, val_draws, put_draws, mLc, mLcM, mLc2, mFor, mSeqI, mRng1, mRng2, mZip, mEnum, mSl, mNoPart, mPart, mSeq, mAsg, mAsg2, mCB, mCons, mNil, mVar, mC, mOp, mUn, pU, mTup, mLst, mRet, mRetN, mLstM, getl, setl, mName, mCall, mCallK, mIf, mIfS, mTest, mAnd, mOr, mNot, mYes, mAndV, mOrV, mNotV, mNext, mNever, mBreak, mCont, mDrop, mChain, mPar, mGTup, mGCons, mGNil, pGcd, pI, pI0, pIx, pTimes, pPlus, pEq, pNe, pLen, pSum, pMaxS, pAll, pAny, pTupOf, pLstOf, pIn, pIsB, pIsi, items_tup, items_lst, items_kl, items_mr, items_tab, items_lot, items_fr, decide_true, decide_false, eqP_int, eqP_bl, eqP_str, eqP_tup2, kit_tt, kit_ii, kit_ib, tyP, mEnd, wipeP, List.map_cons, List.map_nil, List.getElem?_cons_zero, List.getElem?_cons_succ, List.set_cons_zero, List.set_cons_succ, atI_zero, atI_one, if_true, if_false, ite_true, ite_false, Bool.false_eq_true, List.length_cons, List.length_nil, Bool.not_true, Bool.not_false, atW hi, lotP, List.length_map, cut_to, ← List.map_take, eqP_lu]
    by_cases c : o.take (ws.getD i []).length = ws.getD i []
    · rw [decide_eq_true c, if_pos rfl]
      exact h1 (by simpa using c)
    · rw [decide_eq_false c, if_neg (by decide)]
      exact h2 (by simpa using c)
  · subst hR
    simp only [pMaxT, pSortT, str_to, str_ot, mPar3, mLockV, mLockE, mItemsC, mKeysC, mDGet2, pIsN, isNonP, pRepLM, mTruD, dkOfP, pPopAt, pIndex, mLstRgM, mTruth, pReprA, pLenD, pLstD, mDNew, pRepL, mLenSetN, mDIn, mSortSet, mSortSetL, mRevT, mForC, mSeqC, mLcC, pAbs, pMax2, pMin2, pInt1, mDGet, mDPut, mBM, mBM0, pPop, pAppend, pExtend, pSetL, mSub, mDisp, mPs, mPs0, mRevL, mRevLM, pLstOfM, mTupRg, mRg1, mRg2, pPlusM, lstItems, dictOfP, keyP, keysP, val_left, val_mixed, val_draws, put_draws, mLc, mLcM, mLc2, mFor, mSeqI, mRng1, mRng2, mZip, mEnum, mSl, mNoPart, mPart, mSeq, mAsg, mAsg2, mCB, mCons, mNil, mVar, mC, mOp, mUn, pU, mTup, mLst, mRet, mRetN, mLstM, getl, setl, mName, mCall, mCallK, mIf, mIfS, mTest, mAnd, mOr, mNot, mYes, mAndV, mOrV, mNotV, mNext, mNever, mBreak, mCont, mDrop, mChain, mPar, mGTup, mGCons, mGNil, pGcd, pI, pI0, pIx, pTimes, pPlus, pEq, pNe, pLen, pSum, pMaxS, pAll, pAny, pTupOf, pLstOf, pIn, pIsB, pIsi, items_tup, items_lst, items_kl, items_mr, items_tab, items_lot, items_fr, decide_true, decide_false, eqP_int, eqP_bl, eqP_str, eqP_tup2, kit_tt, kit_ii, kit_ib, tyP, mEnd, wipeP, List.map_cons, List.map_nil, List.getElem?_cons_zero, List.getElem?_cons_succ, List.set_cons_zero, List.set_cons_succ, atI_zero, atI_one, if_true, if_false, ite_true, ite_false, Bool.false_eq_true, List.length_cons, List.length_nil, Bool.not_true, Bool.not_false]
    rw [List.nil_append, List.length_map, pf_count hp hi, show decide ((1 : Int) < ((1 : Nat) : Int)) = false from rfl]
    exact fin_keep hQ
abbrev N__law_words : List Str := ["_law_deck_here", "_law_most", "_law_left", "_law_found", "_law_go", "_law_word", "_law_way", "_law_more"]
theorem sc__law_words : FnScope N__law_words ["_law_deck_here", "_law_most"] (defScope s__law_words) := ⟨rfl, rfl, rfl, by decide +kernel, rfl, by decide +kernel, by decide +kernel⟩
theorem ok__law_words (B : Blt mg) (h__law_words : Own K mg "_law_words" s__law_words) (k__law_draw : Ok P w K mg base 1 "_law_draw" s__law_draw ["_law_deck_here", "_law_below"] S__law_draw) : Ok P w K mg base 2 "_law_words" s__law_words ["_law_deck_here", "_law_most"] S__law_words := by
  obtain ⟨f_s, fd_s, F_s, g_s⟩ := h__law_words
  obtain ⟨f__law_draw, fd__law_draw, F__law_draw, g__law_draw, b__law_draw, G__law_draw⟩ := k__law_draw
  refine ⟨f_s, fd_s, F_s, g_s, F_s.binds (fun _ _ _ _ _ _ us hl => match us, hl with | [_, _], _ => rfl), FnG.of F_s sc__law_words (fun xs μ Q h => by first | exact h.1 | (obtain ⟨⟩ := h)) fun cdv A outer s H hr hgd => ⟨_, _, (pss_cons (ps_par (i := 2) (j := 3) (by rfl) sc__law_words.nd rfl rfl (by decide) rfl rfl (pa_cons (peLM (pe_lst (pa_cons (pe_tup pa_nil) pa_nil))) (pa_cons (peLM (pe_lst pa_nil)) pa_nil)) (by rfl))
 (pss_cons (ps_for PassesOwn.never rfl (pi_range1 (by rfl) (B "range" (by decide)) (pa_cons (pe_callG (G__law_draw.mono (by decide)) hr hgd (by rfl) g__law_draw F__law_draw.kp b__law_draw (pa_cons (pv 0) (pa_cons (pv 1) pa_nil))) pa_nil)) (pg_name (i := 4) sc__law_words.nd rfl (Or.inl rfl))
 (pss_cons (ps_set (i := 5) sc__law_words.nd rfl (Or.inl rfl) (pe_bm PySem.F.plainAttrs_list PySem.F.slot_list_pop PySem.F.type_list_pop mt_popAt (pv 2) (pa_cons (pe_callG (G__law_draw.mono (by decide)) hr hgd (by rfl) g__law_draw F__law_draw.kp b__law_draw (pa_cons (pv 0) (pa_cons (pe_callB cb_len (by rfl) (B "len" (by decide)) (by decide +kernel) (pa_cons (pv 2) pa_nil)) pa_nil))) pa_nil)))
 (pss_one (ps_set (i := 2) sc__law_words.nd rfl (Or.inl rfl) (pe_op op_plusM (pv 2) (pe_lst (pa_cons (pe_op op_plus (pv 5) (pe_tup (pa_cons pe_int pa_nil))) (pa_cons (pe_op op_plus (pv 5) (pe_tup (pa_cons pe_int pa_nil))) pa_nil))))))))
 (pss_cons (ps_set (i := 6) sc__law_words.nd rfl (Or.inl rfl) (pe_callG (G__law_draw.mono (by decide)) hr hgd (by rfl) g__law_draw F__law_draw.kp b__law_draw (pa_cons (pv 0) (pa_cons pe_int pa_nil))))
 (pss_cons (ps_for PassesOwn.never rfl (pi_range1 (by rfl) (B "range" (by decide)) (pa_cons (pe_callB cb_len (by rfl) (B "len" (by decide)) (by decide +kernel) (pa_cons (pv 2) pa_nil)) pa_nil)) (pg_name (i := 4) sc__law_words.nd rfl (Or.inl rfl))
 (pss_cons (ps_set (i := 5) sc__law_words.nd rfl (Or.inl rfl) (pe_bm PySem.F.plainAttrs_list PySem.F.slot_list_pop PySem.F.type_list_pop mt_popAt (pv 2) (pa_cons (pe_callG (G__law_draw.mono (by decide)) hr hgd (by rfl) g__law_draw F__law_draw.kp b__law_draw (pa_cons (pv 0) (pa_cons (pe_callB cb_len (by rfl) (B "len" (by decide)) (by decide +kernel) (pa_cons (pv 2) pa_nil)) pa_nil))) pa_nil)))
 (pss_cons (ps_for PassesOwn.never rfl (pi_range1 (by rfl) (B "range" (by decide)) (pa_cons (pe_ifExp (pt_cmpR (op_eqX hr.units) (pv 6) pe_int (nomark _)) (pe_callG (G__law_draw.mono (by decide)) hr hgd (by rfl) g__law_draw F__law_draw.kp b__law_draw (pa_cons (pv 0) (pa_cons pe_int pa_nil))) pe_int) pa_nil)) (pg_name (i := 7) sc__law_words.nd rfl (Or.inl rfl))
 (pss_one (ps_set (i := 5) sc__law_words.nd rfl (Or.inl rfl) (pe_op op_plus (pv 5) (pe_tup (pa_cons (pe_callG (G__law_draw.mono (by decide)) hr hgd (by rfl) g__law_draw F__law_draw.kp b__law_draw (pa_cons (pv 0) (pa_cons pe_int pa_nil))) pa_nil))))))
 (pss_one (ps_expr (pe_bm PySem.F.plainAttrs_list PySem.F.slot_list_append PySem.F.type_list_append mt_append (pv 3) (pa_cons (pv 5) pa_nil)))))))
 (pss_cons (ps_if (PW.pt (pw_and (pt_cmpR (op_eqX hr.units) (pv 6) pe_int (nomark _)) (pw_and (pt_cmpR op_gt (pe_callB cb_len (by rfl) (B "len" (by decide)) (by decide +kernel) (pa_cons (pv 3) pa_nil)) pe_int (nomark _)) (pw_and1 (pt_cmpR (op_eqX hr.units) (pe_callG (G__law_draw.mono (by decide)) hr hgd (by rfl) g__law_draw F__law_draw.kp b__law_draw (pa_cons (pv 0) (pa_cons pe_int pa_nil))) pe_int (nomark _))))))
 (pss_one (ps_expr (pe_bm PySem.F.plainAttrs_list PySem.F.slot_list_pop PySem.F.type_list_pop mt_popAt (pv 3) (pa_cons pe_int pa_nil))))
 pss_nil)
 (pss_one (ps_ret (pe_callTy cb_tup (by rfl) (B "tuple" (by decide)) (by decide +kernel) (pa_cons (pv 3) pa_nil))))))))), (by (try dsimp only [cxOf]); exact inferInstance), ?_⟩⟩
  intro xs μ Q hS
  obtain ⟨_, most, m, rest, rfl, hD, h0, h1, hQ⟩ := hS
  rw [show startP N__law_words [.mr 1, .int most] = [some (.mr 1), some (.int most), none, none, none, none, none, none] from rfl]
  refine stm_of fun R hR => ?_
  simp only [pMaxT, pSortT, str_to, str_ot, mPar3, mLockV, mLockE, mItemsC, mKeysC, mDGet2, pIsN, isNonP, pRepLM, mTruD, dkOfP, pPopAt, pIndex, mLstRgM, mTruth, pReprA, pLenD, pLstD, mDNew, pRepL, mLenSetN, mDIn, mSortSet, mSortSetL, mRevT, mForC, mSeqC, mLcC, pAbs, pMax2, pMin2, pInt1, mDGet, mDPut, mBM, mBM0, pPop, pAppend, pExtend, pSetL, mSub, mDisp, mPs, mPs0, mRevL, mRevLM, pLstOfM, mTupRg, mRg1, mRg2, pPlusM, lstItems, dictOfP, keyP, keysP, val_left, val_mixed, val_draws, put_draws, mLc, mLcM, mLc2, mFor, mSeqI, mRng1, mRng2, mZip, mEnum, mSl, mNoPart, mPart, mSeq, mAsg, mAsg2, mCB, mCons, mNil, mVar, mC, mOp, mUn, pU, mTup, mLst, mRet, mRetN, mLstM, getl, setl, mName, mCall, mCallK, mIf, mIfS, mTest, mAnd, mOr, mNot, mYes, mAndV, mOrV, mNotV, mNext, mNever, mBreak, mCont, mDrop, mChain, mPar, mGTup, mGCons, mGNil, pGcd, pI, pI0, pIx, pTimes, pPlus, pEq, pNe, pLen, pSum, pMaxS, pAll, pAny, pTupOf, pLstOf, pIn, pIsB, pIsi, items_tup, items_lst, items_kl, items_mr, items_tab, items_lot, items_fr, decide_true, decide_false, eqP_int, eqP_bl, eqP_str, eqP_tup2, kit_tt, kit_ii, kit_ib, tyP, mEnd, wipeP, List.map_cons, List.map_nil, List.getElem?_cons_zero, List.getElem?_cons_succ, List.set_cons_zero, List.set_cons_succ, atI_zero, atI_one, if_true, if_false, ite_true, ite_false, Bool.false_eq_true, List.length_cons, List.length_nil, Bool.not_true, Bool.not_false]
  refine ⟨by decide, by decide, by decide, ?_⟩
  subst hR
  refine stm_of fun R1 hR1 => ?_
  simp only [pMaxT, pSortT, str_to, str_ot, mPar3, mLockV, mLockE, mItemsC, mKeysC, mDGet2, pIsN, isNonP, pRepLM, mTruD, dkOfP, pPopAt, pIndex, mLstRgM, mTruth, pReprA, pLenD, pLstD, mDNew, pRepL, mLenSetN, mDIn, mSortSet, mSortSetL, mRevT, mForC, mSeqC, mLcC, pAbs, pMax2, pMin2, pInt1, mDGet, mDPut, mBM, mBM0, pPop, pAppend, pExtend, pSetL, mSub, mDisp, mPs, mPs0, mRevL, mRevLM, pLstOfM, mTupRg, mRg1, mRg2, pPlusM, lstItems, dictOfP, keyP, keysP, val_left, val_mixed, val_draws, put_draws, mLc, mLcM, mLc2, mFor, mSeqI, mRng1, mRng2, mZip, mEnum, mSl, mNoPart, mPart, mSeq, mAsg, mAsg2, mCB, mCons, mNil, mVar, mC, mOp, mUn, pU, mTup, mLst, mRet, mRetN, mLstM, getl, setl, mName, mCall, mCallK, mIf, mIfS, mTest, mAnd, mOr, mNot, mYes, mAndV, mOrV, mNotV, mNext, mNever, mBreak, mCont, mDrop, mChain, mPar, mGTup, mGCons, mGNil, pGcd, pI, pI0, pIx, pTimes, pPlus, pEq, pNe, pLen, pSum, pMaxS, pAll, pAny, pTupOf, pLstOf, pIn, pIsB, pIsi, items_tup, items_lst, items_kl, items_mr, items_tab, items_lot, items_fr, decide_true, decide_false, eqP_int, eqP_bl, eqP_str, eqP_tup2, kit_tt, kit_ii, kit_ib, tyP, mEnd, wipeP, List.map_cons, List.map_nil, List.getElem?_cons_zero, List.getElem?_cons_succ, List.set_cons_zero, List.set_cons_succ, atI_zero, atI_one, if_true, if_false, ite_true, ite_false, Bool.false_eq_true, List.length_cons, List.length_nil, Bool.not_true, Bool.not_false, S__law_draw]
  have D0 : Dk m (rest ++ [.lst [PV.tup []], .lst []]) (μ ++ [MO.lst [PV.tup []]] ++ [MO.lst []]) := by rw [List.append_assoc]; exact hD.app _
  refine ⟨trivial, most, m, _, rfl, D0, h0, by omega, fun z μ1 z0 z1 D1 => ?_⟩
  obtain ⟨k, rfl⟩ : ∃ k : Nat, z = (k : Int) := ⟨z.toNat, by omega⟩
  rw [Int.toNat_natCast, rangeP_eq]
  have hml := hD.len
  simp only [List.length_append, List.length_singleton, hml]
  refine ⟨⟨by omega, by omega⟩, for_inv (enc := fun (i : Nat) => PV.int i) (fun pre ρ μ' => ∃ (L : List (List Nat)) (G : Store) (pl : Nat) (y4 y5 y6 y7 : Option PV), ρ = [some (.mr 1), some (.int most), some (.mr (rest.length + pl + 2)), some (.mr (rest.length + 1 + 2)), y4, y5, y6, y7] ∧ Dk m (rest ++ G) μ' ∧ G[pl]? = some (.lst (L.map lotP)) ∧ G[1]? = some (.lst []) ∧ pl ≠ 1 ∧ L.length = pre.length + 1 ∧ PFW L ∧ (∀ w ∈ L, ∀ b ∈ w, b < 2) ∧ (∀ w ∈ L, w.length ≤ pre.length)) (done := []) ⟨[[]], _, 0, none, none, none, none, rfl, D1, rfl, rfl, by decide, rfl, List.pairwise_singleton _ _, by simp, by simp⟩ (fun pre a post ρ μ2 e hI N hN => ?_) fun ρ μ2 hI => ?_⟩
  · obtain ⟨L, G, pl, y4, y5, y6, y7, rfl, D2, g1, g2, gne, l1, l2, l3, l4⟩ := hI
    have gl : ∀ {ν : Store}, Dk m (rest ++ G) ν → ν[rest.length + pl + 2]? = some (.lst (L.map lotP)) := fun h => (cl_get h pl).trans g1
    show mSeq _ _ _ _ _
    refine stm_of fun R2 hR2 => ?_
    simp only [pMaxT, pSortT, str_to, str_ot, mPar3, mLockV, mLockE, mItemsC, mKeysC, mDGet2, pIsN, isNonP, pRepLM, mTruD, dkOfP, pPopAt, pIndex, mLstRgM, mTruth, pReprA, pLenD, pLstD, mDNew, pRepL, mLenSetN, mDIn, mSortSet, mSortSetL, mRevT, mForC, mSeqC, mLcC, pAbs, pMax2, pMin2, pInt1, mDGet, mDPut, mBM, mBM0, pPop, pAppend, pExtend, pSetL, mSub, mDisp, mPs, mPs0, mRevL, mRevLM, pLstOfM, mTupRg, mRg1, mRg2, pPlusM, lstItems, dictOfP, keyP, keysP, val_left, val_mixed, val_draws, put_draws, mLc, mLcM, mLc2, mFor, mSeqI, mRng1, mRng2, mZip, mEnum, mSl, mNoPart, mPart, mSeq, mAsg, mAsg2, mCB, mCons, mNil, mVar, mC, mOp, mUn, pU, mTup, mLst, mRet, mRetN, mLstM, getl, setl, mName, mCall, mCallK, mIf, mIfS, mTest, mAnd, mOr, mNot, mYes, mAndV, mOrV, mNotV, mNext, mNever, mBreak, mCont, mDrop, mChain, mPar, mGTup, mGCons, mGNil, pGcd, pI, pI0, pIx, pTimes, pPlus, pEq, pNe, pLen, pSum, pMaxS, pAll, pAny, pTupOf, pLstOf, pIn, pIsB, pIsi, items_tup, items_lst, items_kl, items_mr, items_tab, items_lot, items_fr, decide_true, decide_false, eqP_int, eqP_bl, eqP_str, eqP_tup2, kit_tt, kit_ii, kit_ib, tyP, mEnd, wipeP, List.map_cons, List.map_nil, List.getElem?_cons_zero, List.getElem?_cons_succ, List.set_cons_zero, List.set_cons_succ, atI_zero, atI_one, if_true, if_false, ite_true, ite_false, Bool.false_eq_true, List.length_cons, List.length_nil, Bool.not_true, Bool.not_false, S__law_draw, gl D2]
    have hll : (L.map lotP).length = L.length := List.length_map _
    have hpk : pre.length < k := by
      have := congrArg List.length e
      simp at this
      omega
    rw [hll]
    refine ⟨trivial, _, m, _, rfl, D2, by omega, by omega, fun z μ3 z0 z1 D3 => ?_⟩
    obtain ⟨j, rfl⟩ : ∃ j : Nat, z = (j : Int) := ⟨z.toNat, by omega⟩
    have hj : j < L.length := by omega
    rw [gl D3]
    simp only [hll, ixN_nat hj]
    rw [map_at hj]
    refine ⟨by omega, ?_⟩
    simp only
    have D4 := cl_set D3 pl (MO.lst ((L.map lotP).eraseIdx j))
    have hplG := (List.getElem?_eq_some_iff.mp g1).1
    have g4 : (G.set pl (MO.lst ((L.map lotP).eraseIdx j)))[pl]? = some (.lst ((L.map lotP).eraseIdx j)) := by rw [List.getElem?_set_self hplG]
    have g5 := (cl_get D4 pl).trans g4
    subst hR2
    simp only [pMaxT, pSortT, str_to, str_ot, mPar3, mLockV, mLockE, mItemsC, mKeysC, mDGet2, pIsN, isNonP, pRepLM, mTruD, dkOfP, pPopAt, pIndex, mLstRgM, mTruth, pReprA, pLenD, pLstD, mDNew, pRepL, mLenSetN, mDIn, mSortSet, mSortSetL, mRevT, mForC, mSeqC, mLcC, pAbs, pMax2, pMin2, pInt1, mDGet, mDPut, mBM, mBM0, pPop, pAppend, pExtend, pSetL, mSub, mDisp, mPs, mPs0, mRevL, mRevLM, pLstOfM, mTupRg, mRg1, mRg2, pPlusM, lstItems, dictOfP, keyP, keysP, val_left, val_mixed, val_draws, put_draws, mLc, mLcM, mLc2, mFor, mSeqI, mRng1, mRng2, mZip, mEnum, mSl, mNoPart, mPart, mSeq, mAsg, mAsg2, mCB, mCons, mNil, mVar, mC, mOp, mUn, pU, mTup, mLst, mRet, mRetN, mLstM, getl, setl, mName, mCall, mCallK, mIf, mIfS, mTest, mAnd, mOr, mNot, mYes, mAndV, mOrV, mNotV, mNext, mNever, mBreak, mCont, mDrop, mChain, mPar, mGTup, mGCons, mGNil, pGcd, pI, pI0, pIx, pTimes, pPlus, pEq, pNe, pLen, pSum, pMaxS, pAll, pAny, pTupOf, pLstOf, pIn, pIsB, pIsi, items_tup, items_lst, items_kl, items_mr, items_tab, items_lot, items_fr, decide_true, decide_false, eqP_int, eqP_bl, eqP_str, eqP_tup2, kit_tt, kit_ii, kit_ib, tyP, mEnd, wipeP, List.map_cons, List.map_nil, List.getElem?_cons_zero, List.getElem?_cons_succ, List.set_cons_zero, List.set_cons_succ, atI_zero, atI_one, if_true, if_false, ite_true, ite_false, Bool.false_eq_true, List.length_cons, List.length_nil, Bool.not_true, Bool.not_false, g5, lotP]
    have hE : (L.eraseIdx j).length = L.length - 1 := by rw [List.length_eraseIdx, if_pos hj]
    have hEl : ((L.map lotP).eraseIdx j).length = L.length - 1 := by rw [erase_map, List.length_map, hE]
    have hwl := l4 _ (List.getElem_mem hj)
    refine ⟨by decide, by rw [List.length_map]; unfold lim; omega, by decide, by rw [List.length_map]; unfold lim; omega, by decide, by rw [hEl]; unfold lim; omega, ?_⟩
    have hml3 := cl_len D4
    have D5 := cl_app D4 (.lst ((L.eraseIdx j ++ [L[j] ++ [0], L[j] ++ [1]]).map lotP))
    have e1 : ((L.map lotP).eraseIdx j ++ [PV.tup ((L[j].map fun (n : Nat) => PV.int n) ++ [PV.int 0]), PV.tup ((L[j].map fun (n : Nat) => PV.int n) ++ [PV.int 1])]) = (L.eraseIdx j ++ [L[j] ++ [0], L[j] ++ [1]]).map lotP := by
      rw [erase_map, List.map_append]
      simp only [List.map_cons, List.map_nil, lotP, List.map_append]
      rfl
    rw [e1, hml3]
    have hperm := erase_permW hj
    refine hN _ _ ⟨L.eraseIdx j ++ [L[j] ++ [0], L[j] ++ [1]], _, (G.set pl (MO.lst ((L.map lotP).eraseIdx j))).length, _, _, _, _, rfl, D5, ?_, ?_, ?_, ?_, ?_, ?_, ?_⟩
    · exact getl _ _
    · rw [List.getElem?_append_left (by rw [List.length_set]; exact (List.getElem?_eq_some_iff.mp g2).1), List.getElem?_set_ne (by omega)]; exact g2
    · rw [List.length_set]
      have := (List.getElem?_eq_some_iff.mp g2).1
      omega
    · rw [List.length_append, hE, List.length_append]; simp; omega
    · exact pf_split (l2.perm hperm)
    · intro w hw b hb
      rcases List.mem_append.mp hw with hw | hw
      · exact l3 w (List.mem_of_mem_eraseIdx hw) b hb
      · have hlj := l3 _ (List.getElem_mem hj)
        simp only [List.mem_cons, List.not_mem_nil, or_false] at hw
        rcases hw with rfl | rfl
        · rcases List.mem_append.mp hb with hb | hb
          · exact hlj b hb
          · rw [List.mem_singleton.mp hb]; decide
        · rcases List.mem_append.mp hb with hb | hb
          · exact hlj b hb
          · rw [List.mem_singleton.mp hb]; decide
    · intro w hw
      rw [List.length_append, List.length_singleton]
      rcases List.mem_append.mp hw with hw | hw
      · have := l4 w (List.mem_of_mem_eraseIdx hw)
        omega
      · simp only [List.mem_cons, List.not_mem_nil, or_false] at hw
        rcases hw with rfl | rfl <;> (rw [List.length_append, List.length_singleton]; omega)
  · obtain ⟨L, G, pl, y4, y5, y6, y7, rfl, D2, g1, g2, gne, l1, l2, l3, l4⟩ := hI
    rw [List.nil_append, List.length_range] at l1 l4
    show R1 _ _
    subst hR1
    refine stm_of fun R2 hR2 => ?_
    simp only [pMaxT, pSortT, str_to, str_ot, mPar3, mLockV, mLockE, mItemsC, mKeysC, mDGet2, pIsN, isNonP, pRepLM, mTruD, dkOfP, pPopAt, pIndex, mLstRgM, mTruth, pReprA, pLenD, pLstD, mDNew, pRepL, mLenSetN, mDIn, mSortSet, mSortSetL, mRevT, mForC, mSeqC, mLcC, pAbs, pMax2, pMin2, pInt1, mDGet, mDPut, mBM, mBM0, pPop, pAppend, pExtend, pSetL, mSub, mDisp, mPs, mPs0, mRevL, mRevLM, pLstOfM, mTupRg, mRg1, mRg2, pPlusM, lstItems, dictOfP, keyP, keysP, val_left, val_mixed, val_draws, put_draws, mLc, mLcM, mLc2, mFor, mSeqI, mRng1, mRng2, mZip, mEnum, mSl, mNoPart, mPart, mSeq, mAsg, mAsg2, mCB, mCons, mNil, mVar, mC, mOp, mUn, pU, mTup, mLst, mRet, mRetN, mLstM, getl, setl, mName, mCall, mCallK, mIf, mIfS, mTest, mAnd, mOr, mNot, mYes, mAndV, mOrV, mNotV, mNext, mNever, mBreak, mCont, mDrop, mChain, mPar, mGTup, mGCons, mGNil, pGcd, pI, pI0, pIx, pTimes, pPlus, pEq, pNe, pLen, pSum, pMaxS, pAll, pAny, pTupOf, pLstOf, pIn, pIsB, pIsi, items_tup, items_lst, items_kl, items_mr, items_tab, items_lot, items_fr, decide_true, decide_false, eqP_int, eqP_bl, eqP_str, eqP_tup2, kit_tt, kit_ii, kit_ib, tyP, mEnd, wipeP, List.map_cons, List.map_nil, List.getElem?_cons_zero, List.getElem?_cons_succ, List.set_cons_zero, List.set_cons_succ, atI_zero, atI_one, if_true, if_false, ite_true, ite_false, Bool.false_eq_true, List.length_cons, List.length_nil, Bool.not_true, Bool.not_false, S__law_draw]
    refine ⟨trivial, 3, m, _, rfl, D2, by omega, by omega, fun way μ3 z0 z1 D3 => ?_⟩
    subst hR2
    refine stm_of fun R3 hR3 => ?_
    simp only [pMaxT, pSortT, str_to, str_ot, mPar3, mLockV, mLockE, mItemsC, mKeysC, mDGet2, pIsN, isNonP, pRepLM, mTruD, dkOfP, pPopAt, pIndex, mLstRgM, mTruth, pReprA, pLenD, pLstD, mDNew, pRepL, mLenSetN, mDIn, mSortSet, mSortSetL, mRevT, mForC, mSeqC, mLcC, pAbs, pMax2, pMin2, pInt1, mDGet, mDPut, mBM, mBM0, pPop, pAppend, pExtend, pSetL, mSub, mDisp, mPs, mPs0, mRevL, mRevLM, pLstOfM, mTupRg, mRg1, mRg2, pPlusM, lstItems, dictOfP, keyP, keysP, val_left, val_mixed, val_draws, put_draws, mLc, mLcM, mLc2, mFor, mSeqI, mRng1, mRng2, mZip, mEnum, mSl, mNoPart, mPart, mSeq, mAsg, mAsg2, mCB, mCons, mNil, mVar, mC, mOp, mUn, pU, mTup, mLst, mRet, mRetN, mLstM, getl, setl, mName, mCall, mCallK, mIf, mIfS, mTest, mAnd, mOr, mNot, mYes, mAndV, mOrV, mNotV, mNext, mNever, mBreak, mCont, mDrop, mChain, mPar, mGTup, mGCons, mGNil, pGcd, pI, pI0, pIx, pTimes, pPlus, pEq, pNe, pLen, pSum, pMaxS, pAll, pAny, pTupOf, pLstOf, pIn, pIsB, pIsi, items_tup, items_lst, items_kl, items_mr, items_tab, items_lot, items_fr, decide_true, decide_false, eqP_int, eqP_bl, eqP_str, eqP_tup2, kit_tt, kit_ii, kit_ib, tyP, mEnd, wipeP, List.map_cons, List.map_nil, List.getElem?_cons_zero, List.getElem?_cons_succ, List.set_cons_zero, List.set_cons_succ, atI_zero, atI_one, if_true, if_false, ite_true, ite_false, Bool.false_eq_true, List.length_cons, List.length_nil, Bool.not_true, Bool.not_false, (cl_get D3 pl).trans g1, List.length_map]
    have hfin : L.length = k + 1 := l1
    rw [Int.toNat_natCast, rangeP_eq]
    refine ⟨⟨by omega, by omega⟩, for_inv (enc := fun (i : Nat) => PV.int i) (fun pre ρ μ' => ∃ (L F : List (List Nat)) (G : Store) (y4 y5 y7 : Option PV), ρ = [some (.mr 1), some (.int most), some (.mr (rest.length + pl + 2)), some (.mr (rest.length + 1 + 2)), y4, y5, some (.int way), y7] ∧ Dk m (rest ++ G) μ' ∧ G[pl]? = some (.lst (L.map lotP)) ∧ G[1]? = some (.lst (F.map lotP)) ∧ L.length + pre.length = k + 1 ∧ F.length = pre.length ∧ PFW (L ++ F) ∧ (∀ w ∈ L ++ F, ∀ b ∈ w, b < 2) ∧ (∀ w ∈ L, w.length ≤ k) ∧ (∀ w ∈ F, w.length ≤ k + 2)) (done := []) ⟨L, [], G, y4, y5, y7, rfl, D3, g1, g2, by simp; omega, rfl, by rw [List.append_nil]; exact l2, by rw [List.append_nil]; exact l3, l4, by simp⟩ (fun pre a post ρ μ4 e hI N hN => ?_) fun ρ μ4 hI => ?_⟩
    · clear g1 g2 l1 l2 l3 l4 D2 D3
      obtain ⟨L', F, G, y4, y5, y7, rfl, D3, g1, g2, l1, l1b, l2, l3, l4, l5⟩ := hI
      have hpk : pre.length < L.length := by
        have := congrArg List.length e
        simp at this
        omega
      show mSeq _ _ _ _ _
      refine stm_of fun R4 hR4 => ?_
      simp only [pMaxT, pSortT, str_to, str_ot, mPar3, mLockV, mLockE, mItemsC, mKeysC, mDGet2, pIsN, isNonP, pRepLM, mTruD, dkOfP, pPopAt, pIndex, mLstRgM, mTruth, pReprA, pLenD, pLstD, mDNew, pRepL, mLenSetN, mDIn, mSortSet, mSortSetL, mRevT, mForC, mSeqC, mLcC, pAbs, pMax2, pMin2, pInt1, mDGet, mDPut, mBM, mBM0, pPop, pAppend, pExtend, pSetL, mSub, mDisp, mPs, mPs0, mRevL, mRevLM, pLstOfM, mTupRg, mRg1, mRg2, pPlusM, lstItems, dictOfP, keyP, keysP, val_left, val_mixed, val_draws, put_draws, mLc, mLcM, mLc2, mFor, mSeqI, mRng1, mRng2, mZip, mEnum, mSl, mNoPart, mPart, mSeq, mAsg, mAsg2, mCB, mCons, mNil, mVar, mC, mOp, mUn, pU, mTup, mLst, mRet, mRetN, mLstM, getl, setl, mName, mCall, mCallK, mIf, mIfS, mTest, mAnd, mOr, mNot, mYes, mAndV, mOrV, mNotV, mNext, mNever, mBreak, mCont, mDrop, mChain, mPar, mGTup, mGCons, mGNil, pGcd, pI, pI0, pIx, pTimes, pPlus, pEq, pNe, pLen, pSum, pMaxS, pAll, pAny, pTupOf, pLstOf, pIn, pIsB, pIsi, items_tup, items_lst, items_kl, items_mr, items_tab, items_lot, items_fr, decide_true, decide_false, eqP_int, eqP_bl, eqP_str, eqP_tup2, kit_tt, kit_ii, kit_ib, tyP, mEnd, wipeP, List.map_cons, List.map_nil, List.getElem?_cons_zero, List.getElem?_cons_succ, List.set_cons_zero, List.set_cons_succ, atI_zero, atI_one, if_true, if_false, ite_true, ite_false, Bool.false_eq_true, List.length_cons, List.length_nil, Bool.not_true, Bool.not_false, S__law_draw, (cl_get D3 pl).trans g1, List.length_map]
      refine ⟨trivial, _, m, _, rfl, D3, by omega, by omega, fun z μ5 z0 z1 D5 => ?_⟩
      obtain ⟨j, rfl⟩ : ∃ j : Nat, z = (j : Int) := ⟨z.toNat, by omega⟩
      have hj : j < L'.length := by omega
      simp only [(cl_get D5 pl).trans g1, List.length_map, ixN_nat hj]
      rw [map_at hj]
      refine ⟨by omega, ?_⟩
      simp only
      have D6 := cl_set D5 pl (MO.lst ((L'.map lotP).eraseIdx j))
      have hplG := (List.getElem?_eq_some_iff.mp g1).1
      have g3 : (G.set pl (MO.lst ((L'.map lotP).eraseIdx j)))[pl]? = some (.lst ((L'.map lotP).eraseIdx j)) := by rw [List.getElem?_set_self hplG]
      have g4 : (G.set pl (MO.lst ((L'.map lotP).eraseIdx j)))[1]? = some (.lst (F.map lotP)) := by rw [List.getElem?_set_ne (by omega)]; exact g2
      have hp1G := (List.getElem?_eq_some_iff.mp g4).1
      generalize hG' : G.set pl (MO.lst ((L'.map lotP).eraseIdx j)) = G' at *
      generalize hw : L'[j] = w
      subst hR4
      have g5 : ∀ {ν : Store}, Dk m (rest ++ G') ν → ν[rest.length + 1 + 2]? = some (.lst (F.map lotP)) := fun h => (cl_get h 1).trans g4
      refine stm_of fun R5 hR5 => ?_
      refine for_of fun FF hFF => ?_
      have hloop : ∀ (c : Nat) (ν : Store), c ≤ 2 → Dk m (rest ++ G') ν → FF ((List.range c).map fun (i : Nat) => PV.int i) ν := by
        intro c ν hc D7
        subst hFF
        refine for_inv (enc := fun (i : Nat) => PV.int i) (fun pre ρ μ' => ∃ (v : List Nat) (y7 : Option PV), ρ = [some (.mr 1), some (.int most), some (.mr (rest.length + pl + 2)), some (.mr (rest.length + 1 + 2)), some (.int (a : Nat)), some (lotP (w ++ v)), some (.int way), y7] ∧ Dk m (rest ++ G') μ' ∧ (∀ b ∈ v, b < 2) ∧ v.length = pre.length) (done := []) ⟨[], y7, by rw [List.append_nil], D7, by simp, rfl⟩ (fun pre2 a2 post2 ρ μ8 e2 hI2 N2 hN2 => ?_) fun ρ μ8 hI2 => ?_
        · obtain ⟨v, y7, rfl, D8, v1, v2⟩ := hI2
          have hv : pre2.length < 2 := by
            have := congrArg List.length e2
            simp at this
            omega
          simp only [pMaxT, pSortT, str_to, str_ot, mPar3, mLockV, mLockE, mItemsC, mKeysC, mDGet2, pIsN, isNonP, pRepLM, mTruD, dkOfP, pPopAt, pIndex, mLstRgM, mTruth, pReprA, pLenD, pLstD, mDNew, pRepL, mLenSetN, mDIn, mSortSet, mSortSetL, mRevT, mForC, mSeqC, mLcC, pAbs, pMax2, pMin2, pInt1, mDGet, mDPut, mBM, mBM0, pPop, pAppend, pExtend, pSetL, mSub, mDisp, mPs, mPs0, mRevL, mRevLM, pLstOfM, mTupRg, mRg1, mRg2, pPlusM, lstItems, dictOfP, keyP, keysP, val_left, val_mixed, val_draws, put_draws, mLc, mLcM, mLc2, mFor, mSeqI, mRng1, mRng2, mZip, mEnum, mSl, mNoPart, mPart, mSeq, mAsg, mAsg2, mCB, mCons, mNil, mVar, mC, mOp, mUn, pU, mTup, mLst, mRet, mRetN, mLstM, getl, setl, mName, mCall, mCallK, mIf, mIfS, mTest, mAnd, mOr, mNot, mYes, mAndV, mOrV, mNotV, mNext, mNever, mBreak, mCont, mDrop, mChain, mPar, mGTup, mGCons, mGNil, pGcd, pI, pI0, pIx, pTimes, pPlus, pEq, pNe, pLen, pSum, pMaxS, pAll, pAny, pTupOf, pLstOf, pIn, pIsB, pIsi, items_tup, items_lst, items_kl, items_mr, items_tab, items_lot, items_fr, decide_true, decide_false, eqP_int, eqP_bl, eqP_str, eqP_tup2, kit_tt, kit_ii, kit_ib, tyP, mEnd, wipeP, List.map_cons, List.map_nil, List.getElem?_cons_zero, List.getElem?_cons_succ, List.set_cons_zero, List.set_cons_succ, atI_zero, atI_one, if_true, if_false, ite_true, ite_false, Bool.false_eq_true, List.length_cons, List.length_nil, Bool.not_true, Bool.not_false, S__law_draw, lotP]
          refine ⟨trivial, 2, m, _, rfl, D8, by decide, by decide, fun z μ9 z0 z1 D9 => ?_⟩
          obtain ⟨j2, rfl⟩ : ∃ i : Nat, z = (i : Int) := ⟨z.toNat, by omega⟩
          have hwk := l4 w (by rw [← hw]; exact List.getElem_mem hj)
          refine ⟨by decide, by rw [List.length_map, List.length_append]; unfold lim; omega, hN2 _ _ ⟨v ++ [j2], some (.int (a2 : Nat)), ?_, D9, ?_, ?_⟩⟩
          · rw [← List.append_assoc]
            simp only [lotP, List.map_append, List.map_cons, List.map_nil]
          · intro b hb
            rcases List.mem_append.mp hb with hb | hb
            · exact v1 b hb
            · rw [List.mem_singleton.mp hb]; omega
          · rw [List.length_append, List.length_append, v2]; rfl
        · obtain ⟨v, y7, rfl, D8, v1, v2⟩ := hI2
          rw [List.nil_append, List.length_range] at v2
          show R5 _ _
          subst hR5
          simp only [pMaxT, pSortT, str_to, str_ot, mPar3, mLockV, mLockE, mItemsC, mKeysC, mDGet2, pIsN, isNonP, pRepLM, mTruD, dkOfP, pPopAt, pIndex, mLstRgM, mTruth, pReprA, pLenD, pLstD, mDNew, pRepL, mLenSetN, mDIn, mSortSet, mSortSetL, mRevT, mForC, mSeqC, mLcC, pAbs, pMax2, pMin2, pInt1, mDGet, mDPut, mBM, mBM0, pPop, pAppend, pExtend, pSetL, mSub, mDisp, mPs, mPs0, mRevL, mRevLM, pLstOfM, mTupRg, mRg1, mRg2, pPlusM, lstItems, dictOfP, keyP, keysP, val_left, val_mixed, val_draws, put_draws, mLc, mLcM, mLc2, mFor, mSeqI, mRng1, mRng2, mZip, mEnum, mSl, mNoPart, mPart, mSeq, mAsg, mAsg2, mCB, mCons, mNil, mVar, mC, mOp, mUn, pU, mTup, mLst, mRet, mRetN, mLstM, getl, setl, mName, mCall, mCallK, mIf, mIfS, mTest, mAnd, mOr, mNot, mYes, mAndV, mOrV, mNotV, mNext, mNever, mBreak, mCont, mDrop, mChain, mPar, mGTup, mGCons, mGNil, pGcd, pI, pI0, pIx, pTimes, pPlus, pEq, pNe, pLen, pSum, pMaxS, pAll, pAny, pTupOf, pLstOf, pIn, pIsB, pIsi, items_tup, items_lst, items_kl, items_mr, items_tab, items_lot, items_fr, decide_true, decide_false, eqP_int, eqP_bl, eqP_str, eqP_tup2, kit_tt, kit_ii, kit_ib, tyP, mEnd, wipeP, List.map_cons, List.map_nil, List.getElem?_cons_zero, List.getElem?_cons_succ, List.set_cons_zero, List.set_cons_succ, atI_zero, atI_one, if_true, if_false, ite_true, ite_false, Bool.false_eq_true, List.length_cons, List.length_nil, Bool.not_true, Bool.not_false, g5 D8]
          rw [List.length_map]
          refine ⟨by unfold lim; omega, ?_⟩
          have D9 := cl_set D8 1 (MO.lst (F.map lotP ++ [lotP (w ++ v)]))
          have e1 : F.map lotP ++ [lotP (w ++ v)] = (F ++ [w ++ v]).map lotP := by rw [List.map_append]; rfl
          rw [e1] at D9 ⊢
          have hw' : w ∈ L' := by rw [← hw]; exact List.getElem_mem hj
          have hperm : List.Perm (L' ++ F) (w :: (L'.eraseIdx j ++ F)) := by
            have := (erase_permW hj).append_right F
            rw [hw] at this
            exact this
          refine hN _ _ ⟨L'.eraseIdx j, F ++ [w ++ v], _, _, _, _, rfl, D9, ?_, ?_, ?_, ?_, ?_, ?_, ?_, ?_⟩
          · rw [List.getElem?_set_ne (by omega), ← erase_map]; exact g3
          · rw [List.getElem?_set_self hp1G]
          · rw [List.length_eraseIdx, if_pos hj, List.length_append, List.length_singleton]; omega
          · rw [List.length_append, List.length_append, l1b]; rfl
          · rw [← List.append_assoc]; exact pf_ext (l2.perm hperm) v
          · intro x hx b hb
            rw [← List.append_assoc] at hx
            rcases List.mem_append.mp hx with hx | hx
            · exact l3 x (hperm.mem_iff.mpr (List.mem_cons_of_mem _ hx)) b hb
            · rw [List.mem_singleton.mp hx] at hb
              rcases List.mem_append.mp hb with hb | hb
              · exact l3 w (List.mem_append_left _ hw') b hb
              · exact v1 b hb
          · intro x hx
            exact l4 x (List.mem_of_mem_eraseIdx hx)
          · intro x hx
            rcases List.mem_append.mp hx with hx | hx
            · exact l5 x hx
            · rw [List.mem_singleton.mp hx, List.length_append, v2]
              have := l4 w hw'
              omega
      simp only [pMaxT, pSortT, str_to, str_ot, mPar3, mLockV, mLockE, mItemsC, mKeysC, mDGet2, pIsN, isNonP, pRepLM, mTruD, dkOfP, pPopAt, pIndex, mLstRgM, mTruth, pReprA, pLenD, pLstD, mDNew, pRepL, mLenSetN, mDIn, mSortSet, mSortSetL, mRevT, mForC, mSeqC, mLcC, pAbs, pMax2, pMin2, pInt1, mDGet, mDPut, mBM, mBM0, pPop, pAppend, pExtend, pSetL, mSub, mDisp, mPs, mPs0, mRevL, mRevLM, pLstOfM, mTupRg, mRg1, mRg2, pPlusM, lstItems, dictOfP, keyP, keysP, val_left, val_mixed, val_draws, put_draws, mLc, mLcM, mLc2, mFor, mSeqI, mRng1, mRng2, mZip, mEnum, mSl, mNoPart, mPart, mSeq, mAsg, mAsg2, mCB, mCons, mNil, mVar, mC, mOp, mUn, pU, mTup, mLst, mRet, mRetN, mLstM, getl, setl, mName, mCall, mCallK, mIf, mIfS, mTest, mAnd, mOr, mNot, mYes, mAndV, mOrV, mNotV, mNext, mNever, mBreak, mCont, mDrop, mChain, mPar, mGTup, mGCons, mGNil, pGcd, pI, pI0, pIx, pTimes, pPlus, pEq, pNe, pLen, pSum, pMaxS, pAll, pAny, pTupOf, pLstOf, pIn, pIsB, pIsi, items_tup, items_lst, items_kl, items_mr, items_tab, items_lot, items_fr, decide_true, decide_false, eqP_int, eqP_bl, eqP_str, eqP_tup2, kit_tt, kit_ii, kit_ib, tyP, mEnd, wipeP, List.map_cons, List.map_nil, List.getElem?_cons_zero, List.getElem?_cons_succ, List.set_cons_zero, List.set_cons_succ, atI_zero, atI_one, if_true, if_false, ite_true, ite_false, Bool.false_eq_true, List.length_cons, List.length_nil, Bool.not_true, Bool.not_false, S__law_draw]
      split
      · refine ⟨trivial, 3, m, _, rfl, D6, by decide, by decide, fun c μ6 c0 c1 D7 => ?_⟩
        obtain ⟨c, rfl⟩ : ∃ i : Nat, c = (i : Int) := ⟨c.toNat, by omega⟩
        rw [Int.toNat_natCast, rangeP_eq]
        exact ⟨by omega, hloop c _ (by omega) D7⟩
      · exact ⟨by decide, hloop 0 _ (by decide) D6⟩
    · obtain ⟨L', F, G, y4, y5, y7, rfl, D3, g1, g2, l1, l1b, l2, l3, l4, l5⟩ := hI
      rw [List.nil_append, List.length_range] at l1 l1b
      have hL0 : L' = [] := List.length_eq_zero_iff.mp (by omega)
      subst hL0
      rw [List.nil_append] at l2 l3
      show R3 _ _
      subst hR3
      refine stm_of fun R4 hR4 => ?_
      simp only [pMaxT, pSortT, str_to, str_ot, mPar3, mLockV, mLockE, mItemsC, mKeysC, mDGet2, pIsN, isNonP, pRepLM, mTruD, dkOfP, pPopAt, pIndex, mLstRgM, mTruth, pReprA, pLenD, pLstD, mDNew, pRepL, mLenSetN, mDIn, mSortSet, mSortSetL, mRevT, mForC, mSeqC, mLcC, pAbs, pMax2, pMin2, pInt1, mDGet, mDPut, mBM, mBM0, pPop, pAppend, pExtend, pSetL, mSub, mDisp, mPs, mPs0, mRevL, mRevLM, pLstOfM, mTupRg, mRg1, mRg2, pPlusM, lstItems, dictOfP, keyP, keysP, val_left, val_mixed, val_draws, put_draws, mLc, mLcM, mLc2, mFor, mSeqI, mRng1, mRng2, mZip, mEnum, mSl, mNoPart, mPart, mSeq, mAsg, mAsg2, mCB, mCons, mNil, mVar, mC, mOp, mUn, pU, mTup, mLst, mRet, mRetN, mLstM, getl, setl, mName, mCall, mCallK, mIf, mIfS, mTest, mAnd, mOr, mNot, mYes, mAndV, mOrV, mNotV, mNext, mNever, mBreak, mCont, mDrop, mChain, mPar, mGTup, mGCons, mGNil, pGcd, pI, pI0, pIx, pTimes, pPlus, pEq, pNe, pLen, pSum, pMaxS, pAll, pAny, pTupOf, pLstOf, pIn, pIsB, pIsi, items_tup, items_lst, items_kl, items_mr, items_tab, items_lot, items_fr, decide_true, decide_false, eqP_int, eqP_bl, eqP_str, eqP_tup2, kit_tt, kit_ii, kit_ib, tyP, mEnd, wipeP, List.map_cons, List.map_nil, List.getElem?_cons_zero, List.getElem?_cons_succ, List.set_cons_zero, List.set_cons_succ, atI_zero, atI_one, if_true, if_false, ite_true, ite_false, Bool.false_eq_true, List.length_cons, List.length_nil, Bool.not_true, Bool.not_false, S__law_draw, (cl_get D3 1).trans g2, List.length_map]
      have hfin : ∀ (F' : List (List Nat)) (G' : Store) (μ' : Store), G'[1]? = some (.lst (F'.map lotP)) → Dk m (rest ++ G') μ' → F' ≠ [] → F'.length ≤ 8 → PFW F' → (∀ w ∈ F', ∀ b ∈ w, b < 2) → (∀ w ∈ F', w.length ≤ 9) →
          R4 [some (PV.mr 1), some (PV.int most), some (PV.mr (rest.length + pl + 2)), some (PV.mr (rest.length + 1 + 2)), y4, y5, some (PV.int way), y7] μ' := by
        intro F' G' μ' a1 a2 a3 a4 a5 a6 a7
        subst hR4
        simp only [pMaxT, pSortT, str_to, str_ot, mPar3, mLockV, mLockE, mItemsC, mKeysC, mDGet2, pIsN, isNonP, pRepLM, mTruD, dkOfP, pPopAt, pIndex, mLstRgM, mTruth, pReprA, pLenD, pLstD, mDNew, pRepL, mLenSetN, mDIn, mSortSet, mSortSetL, mRevT, mForC, mSeqC, mLcC, pAbs, pMax2, pMin2, pInt1, mDGet, mDPut, mBM, mBM0, pPop, pAppend, pExtend, pSetL, mSub, mDisp, mPs, mPs0, mRevL, mRevLM, pLstOfM, mTupRg, mRg1, mRg2, pPlusM, lstItems, dictOfP, keyP, keysP, val_left, val_mixed, val_draws, put_draws, mLc, mLcM, mLc2, mFor, mSeqI, mRng1, mRng2, mZip, mEnum, mSl, mNoPart, mPart, mSeq, mAsg, mAsg2, mCB, mCons, mNil, mVar, mC, mOp, mUn, pU, mTup, mLst, mRet, mRetN, mLstM, getl, setl, mName, mCall, mCallK, mIf, mIfS, mTest, mAnd, mOr, mNot, mYes, mAndV, mOrV, mNotV, mNext, mNever, mBreak, mCont, mDrop, mChain, mPar, mGTup, mGCons, mGNil, pGcd, pI, pI0, pIx, pTimes, pPlus, pEq, pNe, pLen, pSum, pMaxS, pAll, pAny, pTupOf, pLstOf, pIn, pIsB, pIsi, items_tup, items_lst, items_kl, items_mr, items_tab, items_lot, items_fr, decide_true, decide_false, eqP_int, eqP_bl, eqP_str, eqP_tup2, kit_tt, kit_ii, kit_ib, tyP, mEnd, wipeP, List.map_cons, List.map_nil, List.getElem?_cons_zero, List.getElem?_cons_succ, List.set_cons_zero, List.set_cons_succ, atI_zero, atI_one, if_true, if_false, ite_true, ite_false, Bool.false_eq_true, List.length_cons, List.length_nil, Bool.not_true, Bool.not_false, (cl_get a2 1).trans a1]
        exact fin_keep (hQ F' G' μ' ⟨a3, a4, a5, a6, fun w hw => Nat.le_trans (a7 w hw) (by decide)⟩ a7 a2)
      have hF0 : F ≠ [] := fun z => by have h : F.length = 0 := congrArg List.length z; omega
      have hF8 : F.length ≤ 8 := by omega
      have h9 : ∀ w ∈ F, w.length ≤ 9 := fun w hw => by have := l5 w hw; omega
      split
      · split
        · rename_i hF1
          have hF1 : 1 < F.length := by have := of_decide_eq_true hF1; omega
          refine ⟨trivial, 2, m, _, rfl, D3, by decide, by decide, fun z μ5 z0 z1 D5 => ?_⟩
          split
          · simp only [(cl_get D5 1).trans g2, List.length_map]
            refine ⟨by omega, ?_⟩
            have e0 : ixN F.length 0 = some 0 := ixN_nat (j := 0) (by omega)
            simp only [e0]
            rw [map_at (j := 0) (by omega)]
            simp only
            have D6 := cl_set D5 1 (MO.lst ((F.map lotP).eraseIdx 0))
            refine hfin (F.eraseIdx 0) _ _ (by rw [List.getElem?_set_self (List.getElem?_eq_some_iff.mp g2).1, erase_map]) D6 ?_ ?_ ?_ ?_ ?_
            · intro z
              have := congrArg List.length z
              rw [List.length_eraseIdx, if_pos (by omega)] at this
              simp at this
              omega
            · rw [List.length_eraseIdx, if_pos (by omega)]; omega
            · exact l2.sublist (List.eraseIdx_sublist _ _)
            · exact fun w hw => l3 w (List.mem_of_mem_eraseIdx hw)
            · exact fun w hw => h9 w (List.mem_of_mem_eraseIdx hw)
          · exact hfin F G _ g2 D5 hF0 hF8 l2 l3 h9
        · exact hfin F G _ g2 D3 hF0 hF8 l2 l3 h9
      · exact hfin F G _ g2 D3 hF0 hF8 l2 l3 h9
abbrev N_first_of : List Str := ["lengths", "found", "number", "before", "length", "i", "at", "many"]
theorem sc_first_of : FnScope N_first_of ["lengths"] (defScope s_first_of) := ⟨rfl, rfl, rfl, by decide +kernel, rfl, by decide +kernel, by decide +kernel⟩
theorem ok_first_of (B : Blt mg) (h_first_of : Own K mg "first_of" s_first_of) (k_digits_of : Ok P w K mg base 1 "digits_of" s_digits_of ["number", "many"] S_digits_of) : Ok P w K mg base 2 "first_of" s_first_of ["lengths"] S_first_of := by
  obtain ⟨f_s, fd_s, F_s, g_s⟩ := h_first_of
  obtain ⟨f_digits_of, fd_digits_of, F_digits_of, g_digits_of, b_digits_of, G_digits_of⟩ := k_digits_of
  refine ⟨f_s, fd_s, F_s, g_s, F_s.binds (fun _ _ _ _ _ _ us hl => match us, hl with | [_], _ => rfl), FnG.of F_s sc_first_of (fun xs μ Q h => by first | exact h.1 | (obtain ⟨⟩ := h)) fun cdv A outer s H hr hgd => ⟨_, _, (pss_cons (ps_set (i := 1) sc_first_of.nd rfl (Or.inr rfl) pe_dnewK)
 (pss_cons (ps_asg2 pe_int (pg_name (i := 2) sc_first_of.nd rfl (Or.inl rfl)) (pg_name (i := 3) sc_first_of.nd rfl (Or.inl rfl)))
 (pss_cons (ps_for PassesOwn.never rfl (pi_seq (pe_callB cb_sortT (by rfl) (B "sorted" (by decide)) (by decide +kernel) (pa_cons (pe_lc (own := [("at", 6), ("many", 7)]) (by rfl) sc_first_of.nd (pi_enumS (by rfl) (B "enumerate" (by decide)) (pa_cons (pv 0) pa_nil)) (blkOk_by (own := [("at", 6), ("many", 7)]) (N := N_first_of) (sc := defScope s_first_of) (by decide +kernel)) (fun _ _ _ _ _ => (pgk_tup K 2 rfl rfl (pgs_cons (pg_name (i := 6) sc_first_of.nd rfl (Or.inl rfl)) (pgs_cons (pg_name (i := 7) sc_first_of.nd rfl (Or.inl rfl)) pgs_nil)) rfl rfl)) (fun _ _ _ _ _ => pts_nil) (fun _ _ _ _ _ => (pe_tup (pa_cons (pv 7) (pa_cons (pv 6) pa_nil))))) pa_nil))) (pg_tup (n := 2) rfl (pgs_cons (pg_name (i := 4) sc_first_of.nd rfl (Or.inl rfl)) (pgs_cons (pg_name (i := 5) sc_first_of.nd rfl (Or.inl rfl)) pgs_nil)))
 (pss_cons (ps_set (i := 2) sc_first_of.nd rfl (Or.inl rfl) (pe_op op_shlW (pv 2) (pe_op op_sub (pv 4) (pv 3))))
 (pss_cons (ps_if (pt_cmpR op_gt (pe_op op_shr (pv 2) (pv 4)) pe_int (nomark _))
 (pss_one (ps_ret pe_non))
 pss_nil)
 (pss_cons (ps_dput (hu_of hr) (pv 1) (pv 5) (pe_callG (G_digits_of.mono (by decide)) hr hgd (by rfl) g_digits_of F_digits_of.kp b_digits_of (pa_cons (pv 2) (pa_cons (pv 4) pa_nil))) (by rfl))
 (pss_one (ps_par (i := 2) (j := 3) (by rfl) sc_first_of.nd rfl rfl (by decide) rfl rfl (pa_cons (pe_op op_plus (pv 2) pe_int) (pa_cons (pv 4) pa_nil)) (by rfl)))))))
 (pss_one (ps_ret (pe_callTy cb_tup (by rfl) (B "tuple" (by decide)) (by decide +kernel) (pa_cons (pe_lc (own := [("i", 5)]) (by rfl) sc_first_of.nd (pi_range1 (by rfl) (B "range" (by decide)) (pa_cons (pe_callB cb_len (by rfl) (B "len" (by decide)) (by decide +kernel) (pa_cons (pv 0) pa_nil)) pa_nil)) (blkOk_by (own := [("i", 5)]) (N := N_first_of) (sc := defScope s_first_of) (by decide +kernel)) (fun _ _ _ _ _ => (pg_name (i := 5) sc_first_of.nd rfl (Or.inl rfl))) (fun _ _ _ _ _ => pts_nil) (fun _ _ _ _ _ => (pe_dget (hu_of hr) (pv 1) (pv 5) (fun _ _ => rfl)))) pa_nil))))))), (by (try dsimp only [cxOf]); exact inferInstance), ?_⟩⟩
  intro xs μ Q hS
  obtain ⟨_, ls, rfl, hL, hQ⟩ := hS
  rw [show startP N_first_of [lotP ls] = [some (lotP ls), none, none, none, none, none, none, none] from rfl]
  refine stm_of fun R hR => ?_
  simp only [pMaxT, pSortT, str_to, str_ot, mPar3, mLockV, mLockE, mItemsC, mKeysC, mDGet2, pIsN, isNonP, pRepLM, mTruD, dkOfP, pPopAt, pIndex, mLstRgM, mTruth, pReprA, pLenD, pLstD, mDNew, pRepL, mLenSetN, mDIn, mSortSet, mSortSetL, mRevT, mForC, mSeqC, mLcC, pAbs, pMax2, pMin2, pInt1, mDGet, mDPut, mBM, mBM0, pPop, pAppend, pExtend, pSetL, mSub, mDisp, mPs, mPs0, mRevL, mRevLM, pLstOfM, mTupRg, mRg1, mRg2, pPlusM, lstItems, dictOfP, keyP, keysP, val_left, val_mixed, val_draws, put_draws, mLc, mLcM, mLc2, mFor, mSeqI, mRng1, mRng2, mZip, mEnum, mSl, mNoPart, mPart, mSeq, mAsg, mAsg2, mCB, mCons, mNil, mVar, mC, mOp, mUn, pU, mTup, mLst, mRet, mRetN, mLstM, getl, setl, mName, mCall, mCallK, mIf, mIfS, mTest, mAnd, mOr, mNot, mYes, mAndV, mOrV, mNotV, mNext, mNever, mBreak, mCont, mDrop, mChain, mPar, mGTup, mGCons, mGNil, pGcd, pI, pI0, pIx, pTimes, pPlus, pEq, pNe, pLen, pSum, pMaxS, pAll, pAny, pTupOf, pLstOf, pIn, pIsB, pIsi, items_tup, items_lst, items_kl, items_mr, items_tab, items_lot, items_fr, decide_true, decide_false, eqP_int, eqP_bl, eqP_str, eqP_tup2, kit_tt, kit_ii, kit_ib, tyP, mEnd, wipeP, List.map_cons, List.map_nil, List.getElem?_cons_zero, List.getElem?_cons_succ, List.set_cons_zero, List.set_cons_succ, atI_zero, atI_one, if_true, if_false, ite_true, ite_false, Bool.false_eq_true, List.length_cons, List.length_nil, Bool.not_true, Bool.not_false]
  subst hR
  refine stm_of fun R1 hR1 => ?_
  simp only [pMaxT, pSortT, str_to, str_ot, mPar3, mLockV, mLockE, mItemsC, mKeysC, mDGet2, pIsN, isNonP, pRepLM, mTruD, dkOfP, pPopAt, pIndex, mLstRgM, mTruth, pReprA, pLenD, pLstD, mDNew, pRepL, mLenSetN, mDIn, mSortSet, mSortSetL, mRevT, mForC, mSeqC, mLcC, pAbs, pMax2, pMin2, pInt1, mDGet, mDPut, mBM, mBM0, pPop, pAppend, pExtend, pSetL, mSub, mDisp, mPs, mPs0, mRevL, mRevLM, pLstOfM, mTupRg, mRg1, mRg2, pPlusM, lstItems, dictOfP, keyP, keysP, val_left, val_mixed, val_draws, put_draws, mLc, mLcM, mLc2, mFor, mSeqI, mRng1, mRng2, mZip, mEnum, mSl, mNoPart, mPart, mSeq, mAsg, mAsg2, mCB, mCons, mNil, mVar, mC, mOp, mUn, pU, mTup, mLst, mRet, mRetN, mLstM, getl, setl, mName, mCall, mCallK, mIf, mIfS, mTest, mAnd, mOr, mNot, mYes, mAndV, mOrV, mNotV, mNext, mNever, mBreak, mCont, mDrop, mChain, mPar, mGTup, mGCons, mGNil, pGcd, pI, pI0, pIx, pTimes, pPlus, pEq, pNe, pLen, pSum, pMaxS, pAll, pAny, pTupOf, pLstOf, pIn, pIsB, pIsi, items_tup, items_lst, items_kl, items_mr, items_tab, items_lot, items_fr, decide_true, decide_false, eqP_int, eqP_bl, eqP_str, eqP_tup2, kit_tt, kit_ii, kit_ib, tyP, mEnd, wipeP, List.map_cons, List.map_nil, List.getElem?_cons_zero, List.getElem?_cons_succ, List.set_cons_zero, List.set_cons_succ, atI_zero, atI_one, if_true, if_false, ite_true, ite_false, Bool.false_eq_true, List.length_cons, List.length_nil, Bool.not_true, Bool.not_false]
  subst hR1
  refine stm_of fun R2 hR2 => ?_
  simp only [pMaxT, pSortT, str_to, str_ot, mPar3, mLockV, mLockE, mItemsC, mKeysC, mDGet2, pIsN, isNonP, pRepLM, mTruD, dkOfP, pPopAt, pIndex, mLstRgM, mTruth, pReprA, pLenD, pLstD, mDNew, pRepL, mLenSetN, mDIn, mSortSet, mSortSetL, mRevT, mForC, mSeqC, mLcC, pAbs, pMax2, pMin2, pInt1, mDGet, mDPut, mBM, mBM0, pPop, pAppend, pExtend, pSetL, mSub, mDisp, mPs, mPs0, mRevL, mRevLM, pLstOfM, mTupRg, mRg1, mRg2, pPlusM, lstItems, dictOfP, keyP, keysP, val_left, val_mixed, val_draws, put_draws, mLc, mLcM, mLc2, mFor, mSeqI, mRng1, mRng2, mZip, mEnum, mSl, mNoPart, mPart, mSeq, mAsg, mAsg2, mCB, mCons, mNil, mVar, mC, mOp, mUn, pU, mTup, mLst, mRet, mRetN, mLstM, getl, setl, mName, mCall, mCallK, mIf, mIfS, mTest, mAnd, mOr, mNot, mYes, mAndV, mOrV, mNotV, mNext, mNever, mBreak, mCont, mDrop, mChain, mPar, mGTup, mGCons, mGNil, pGcd, pI, pI0, pIx, pTimes, pPlus, pEq, pNe, pLen, pSum, pMaxS, pAll, pAny, pTupOf, pLstOf, pIn, pIsB, pIsi, items_tup, items_lst, items_kl, items_mr, items_tab, items_lot, items_fr, decide_true, decide_false, eqP_int, eqP_bl, eqP_str, eqP_tup2, kit_tt, kit_ii, kit_ib, tyP, mEnd, wipeP, List.map_cons, List.map_nil, List.getElem?_cons_zero, List.getElem?_cons_succ, List.set_cons_zero, List.set_cons_succ, atI_zero, atI_one, if_true, if_false, ite_true, ite_false, Bool.false_eq_true, List.length_cons, List.length_nil, Bool.not_true, Bool.not_false, lotP, enumP_map]
  have l8 := hL.len
  refine ⟨by decide, by rw [List.length_map, numd_length]; unfold lim; omega, lc_map (enc := fun (p : Nat × Nat) => PV.tup [.int (p.1 : Nat), .int (p.2 : Nat)]) (out := fun p => PV.tup [.int (p.2 : Nat), .int (p.1 : Nat)]) (fun p hp k hk => ?_) ?_⟩
  · simp only [pMaxT, pSortT, str_to, str_ot, mPar3, mLockV, mLockE, mItemsC, mKeysC, mDGet2, pIsN, isNonP, pRepLM, mTruD, dkOfP, pPopAt, pIndex, mLstRgM, mTruth, pReprA, pLenD, pLstD, mDNew, pRepL, mLenSetN, mDIn, mSortSet, mSortSetL, mRevT, mForC, mSeqC, mLcC, pAbs, pMax2, pMin2, pInt1, mDGet, mDPut, mBM, mBM0, pPop, pAppend, pExtend, pSetL, mSub, mDisp, mPs, mPs0, mRevL, mRevLM, pLstOfM, mTupRg, mRg1, mRg2, pPlusM, lstItems, dictOfP, keyP, keysP, val_left, val_mixed, val_draws, put_draws, mLc, mLcM, mLc2, mFor, mSeqI, mRng1, mRng2, mZip, mEnum, mSl, mNoPart, mPart, mSeq, mAsg, mAsg2, mCB, mCons, mNil, mVar, mC, mOp, mUn, pU, mTup, mLst, mRet, mRetN, mLstM, getl, setl, mName, mCall, mCallK, mIf, mIfS, mTest, mAnd, mOr, mNot, mYes, mAndV, mOrV, mNotV, mNext, mNever, mBreak, mCont, mDrop, mChain, mPar, mGTup, mGCons, mGNil, pGcd, pI, pI0, pIx, pTimes, pPlus, pEq, pNe, pLen, pSum, pMaxS, pAll, pAny, pTupOf, pLstOf, pIn, pIsB, pIsi, items_tup, items_lst, items_kl, items_mr, items_tab, items_lot, items_fr, decide_true, decide_false, eqP_int, eqP_bl, eqP_str, eqP_tup2, kit_tt, kit_ii, kit_ib, tyP, mEnd, wipeP, List.map_cons, List.map_nil, List.getElem?_cons_zero, List.getElem?_cons_succ, List.set_cons_zero, List.set_cons_succ, atI_zero, atI_one, if_true, if_false, ite_true, ite_false, Bool.false_eq_true, List.length_cons, List.length_nil, Bool.not_true, Bool.not_false]
    exact ⟨trivial, by decide, hk⟩
  rw [lps_pairs]
  refine ⟨by rw [List.length_map, lps_len]; omega, fun x hx => ?_, fun qs hp hs => ?_⟩
  · obtain ⟨p, hp, rfl⟩ := List.mem_map.mp hx
    have := lps_le hL.le hp
    have := (lps_mem hp).1
    unfold zz
    omega
  obtain ⟨l, hl, rfl⟩ := perm_mapB hp
  have hR := row_of hl (lexN_of hs)
  rw [zz_map]
  have hle : ∀ q ∈ l, q.1 ≤ 30 := fun q hq => lps_le hL.le (hl.mem_iff.mp hq)
  have hll : l.length ≤ 8 := by rw [hl.length_eq, lps_len]; exact l8
  refine for_inv (enc := fun (p : Nat × Nat) => PV.tup [.int (p.1 : Nat), .int (p.2 : Nat)]) (fun pre ρ μ' => ∃ (N b : Nat) (y4 y5 y6 y7 : Option PV), ρ = [some (.tup (ls.map fun (n : Nat) => PV.int n)), some (.mr μ.length), some (.int (N : Nat)), some (.int (b : Nat)), y4, y5, y6, y7] ∧ μ' = μ ++ [.dk (fdP ls pre)] ∧ NumOk pre N b ∧ wsum pre ≤ 2 ^ 30 ∧ (b = 0 ∨ ∃ q ∈ pre, q.1 = b)) (done := []) ⟨0, 0, _, _, _, _, rfl, rfl, num_nil, by simp [wsum], .inl rfl⟩ (fun pre p post ρ μ' e hI N' hN => ?_) fun ρ μ' hI => ?_
  · obtain ⟨N, b, y4, y5, y6, y7, rfl, rfl, k1, k2, k3⟩ := hI
    rw [List.nil_append] at e
    have hp30 : p.1 ≤ 30 := hle p (by rw [e]; simp)
    have hb : b ≤ p.1 := by
      rcases k3 with rfl | ⟨q, hq, rfl⟩
      · exact Nat.zero_le _
      · exact hR.le e q hq
    have hN1 := num_lt k1 k2
    have k4 := num_shift k1 hb hp30
    simp only [pMaxT, pSortT, str_to, str_ot, mPar3, mLockV, mLockE, mItemsC, mKeysC, mDGet2, pIsN, isNonP, pRepLM, mTruD, dkOfP, pPopAt, pIndex, mLstRgM, mTruth, pReprA, pLenD, pLstD, mDNew, pRepL, mLenSetN, mDIn, mSortSet, mSortSetL, mRevT, mForC, mSeqC, mLcC, pAbs, pMax2, pMin2, pInt1, mDGet, mDPut, mBM, mBM0, pPop, pAppend, pExtend, pSetL, mSub, mDisp, mPs, mPs0, mRevL, mRevLM, pLstOfM, mTupRg, mRg1, mRg2, pPlusM, lstItems, dictOfP, keyP, keysP, val_left, val_mixed, val_draws, put_draws, mLc, mLcM, mLc2, mFor, mSeqI, mRng1, mRng2, mZip, mEnum, mSl, mNoPart, mPart, mSeq, mAsg, mAsg2, mCB, mCons, mNil, mVar, mC, mOp, mUn, pU, mTup, mLst, mRet, mRetN, mLstM, getl, setl, mName, mCall, mCallK, mIf, mIfS, mTest, mAnd, mOr, mNot, mYes, mAndV, mOrV, mNotV, mNext, mNever, mBreak, mCont, mDrop, mChain, mPar, mGTup, mGCons, mGNil, pGcd, pI, pI0, pIx, pTimes, pPlus, pEq, pNe, pLen, pSum, pMaxS, pAll, pAny, pTupOf, pLstOf, pIn, pIsB, pIsi, items_tup, items_lst, items_kl, items_mr, items_tab, items_lot, items_fr, decide_true, decide_false, eqP_int, eqP_bl, eqP_str, eqP_tup2, kit_tt, kit_ii, kit_ib, tyP, mEnd, wipeP, List.map_cons, List.map_nil, List.getElem?_cons_zero, List.getElem?_cons_succ, List.set_cons_zero, List.set_cons_succ, atI_zero, atI_one, if_true, if_false, ite_true, ite_false, Bool.false_eq_true, List.length_cons, List.length_nil, Bool.not_true, Bool.not_false, S_digits_of]
    have e1 : ((p.1 : Nat) : Int) - (b : Int) = ((p.1 - b : Nat) : Int) := by omega
    simp only [e1, shlN, shrN]
    have hb30 := Nat.pow_le_pow_right (n := 2) (by decide) k1.1
    refine ⟨trivial, shl_okN (by omega) (by omega), by omega, ?_⟩
    by_cases c : 2 ^ p.1 ≤ N * 2 ^ (p.1 - b)
    · have hq : 0 < N * 2 ^ (p.1 - b) / 2 ^ p.1 := Nat.div_pos c (Nat.two_pow_pos _)
      rw [decide_eq_true (by omega), if_pos rfl]
      have hout := num_out hR e k4 c
      refine fin_drop (g := [.dk (fdP ls pre)]) rfl ?_
      rw [fwP, if_neg (by omega)] at hQ
      exact hQ
    · have hlt : N * 2 ^ (p.1 - b) < 2 ^ p.1 := by omega
      rw [Nat.div_eq_of_lt hlt, decide_eq_false (by omega), if_neg (by decide)]
      have := Nat.pow_le_pow_right (n := 2) (by decide) hp30
      have hpl : pre.length ≤ 8 := by
        have := congrArg List.length e
        rw [List.length_append, List.length_cons] at this
        omega
      refine ⟨trivial, _, p.1, rfl, by omega, hp30, by rw [fdP_len]; unfold lim; omega, hN _ _ ⟨N * 2 ^ (p.1 - b) + 1, p.1, _, _, _, _, rfl, ?_, num_next k4, num_fit k4 hlt, .inr ⟨p, by simp, rfl⟩⟩⟩
      rw [← num_cod hR e k4, fd_put (hR.new e)]
  · obtain ⟨N, b, y4, y5, y6, y7, rfl, rfl, k1, k2, k3⟩ := hI
    show R2 _ _
    subst hR2
    rw [List.nil_append] at k2 ⊢
    simp only [pMaxT, pSortT, str_to, str_ot, mPar3, mLockV, mLockE, mItemsC, mKeysC, mDGet2, pIsN, isNonP, pRepLM, mTruD, dkOfP, pPopAt, pIndex, mLstRgM, mTruth, pReprA, pLenD, pLstD, mDNew, pRepL, mLenSetN, mDIn, mSortSet, mSortSetL, mRevT, mForC, mSeqC, mLcC, pAbs, pMax2, pMin2, pInt1, mDGet, mDPut, mBM, mBM0, pPop, pAppend, pExtend, pSetL, mSub, mDisp, mPs, mPs0, mRevL, mRevLM, pLstOfM, mTupRg, mRg1, mRg2, pPlusM, lstItems, dictOfP, keyP, keysP, val_left, val_mixed, val_draws, put_draws, mLc, mLcM, mLc2, mFor, mSeqI, mRng1, mRng2, mZip, mEnum, mSl, mNoPart, mPart, mSeq, mAsg, mAsg2, mCB, mCons, mNil, mVar, mC, mOp, mUn, pU, mTup, mLst, mRet, mRetN, mLstM, getl, setl, mName, mCall, mCallK, mIf, mIfS, mTest, mAnd, mOr, mNot, mYes, mAndV, mOrV, mNotV, mNext, mNever, mBreak, mCont, mDrop, mChain, mPar, mGTup, mGCons, mGNil, pGcd, pI, pI0, pIx, pTimes, pPlus, pEq, pNe, pLen, pSum, pMaxS, pAll, pAny, pTupOf, pLstOf, pIn, pIsB, pIsi, items_tup, items_lst, items_kl, items_mr, items_tab, items_lot, items_fr, decide_true, decide_false, eqP_int, eqP_bl, eqP_str, eqP_tup2, kit_tt, kit_ii, kit_ib, tyP, mEnd, wipeP, List.map_cons, List.map_nil, List.getElem?_cons_zero, List.getElem?_cons_succ, List.set_cons_zero, List.set_cons_succ, atI_zero, atI_one, if_true, if_false, ite_true, ite_false, Bool.false_eq_true, List.length_cons, List.length_nil, Bool.not_true, Bool.not_false]
    rw [List.length_map, Int.toNat_natCast, rangeP_eq]
    refine ⟨by decide, ⟨by omega, by omega⟩, by rw [List.length_map, List.length_range]; unfold lim; omega, lc_map (enc := fun (i : Nat) => PV.int i) (out := fun i => lotP (cod ls (ls.getD i 0, i))) (fun i hi k hk => ?_) ?_⟩
    · simp only [pMaxT, pSortT, str_to, str_ot, mPar3, mLockV, mLockE, mItemsC, mKeysC, mDGet2, pIsN, isNonP, pRepLM, mTruD, dkOfP, pPopAt, pIndex, mLstRgM, mTruth, pReprA, pLenD, pLstD, mDNew, pRepL, mLenSetN, mDIn, mSortSet, mSortSetL, mRevT, mForC, mSeqC, mLcC, pAbs, pMax2, pMin2, pInt1, mDGet, mDPut, mBM, mBM0, pPop, pAppend, pExtend, pSetL, mSub, mDisp, mPs, mPs0, mRevL, mRevLM, pLstOfM, mTupRg, mRg1, mRg2, pPlusM, lstItems, dictOfP, keyP, keysP, val_left, val_mixed, val_draws, put_draws, mLc, mLcM, mLc2, mFor, mSeqI, mRng1, mRng2, mZip, mEnum, mSl, mNoPart, mPart, mSeq, mAsg, mAsg2, mCB, mCons, mNil, mVar, mC, mOp, mUn, pU, mTup, mLst, mRet, mRetN, mLstM, getl, setl, mName, mCall, mCallK, mIf, mIfS, mTest, mAnd, mOr, mNot, mYes, mAndV, mOrV, mNotV, mNext, mNever, mBreak, mCont, mDrop, mChain, mPar, mGTup, mGCons, mGNil, pGcd, pI, pI0, pIx, pTimes, pPlus, pEq, pNe, pLen, pSum, pMaxS, pAll, pAny, pTupOf, pLstOf, pIn, pIsB, pIsi, items_tup, items_lst, items_kl, items_mr, items_tab, items_lot, items_fr, decide_true, decide_false, eqP_int, eqP_bl, eqP_str, eqP_tup2, kit_tt, kit_ii, kit_ib, tyP, mEnd, wipeP, List.map_cons, List.map_nil, List.getElem?_cons_zero, List.getElem?_cons_succ, List.set_cons_zero, List.set_cons_succ, atI_zero, atI_one, if_true, if_false, ite_true, ite_false, Bool.false_eq_true, List.length_cons, List.length_nil, Bool.not_true, Bool.not_false]
      rw [fd_get hR (List.mem_range.mp hi)]
      exact hk
    · rw [List.nil_append, fst_out]
      rw [wsum_perm hl] at k2
      rw [fwP, if_pos k2] at hQ
      exact fin_drop (noRef_ws _) hQ
abbrev N_is_within : List Str := ["thing", "low", "high"]
theorem sc_is_within : FnScope N_is_within ["thing", "low", "high"] (defScope s_is_within) := ⟨rfl, rfl, rfl, by decide +kernel, rfl, by decide +kernel, by decide +kernel⟩
theorem ok_is_within (B : Blt mg) (h_is_within : Own K mg "is_within" s_is_within) (k_is_integer : Ok P w K mg base 1 "is_integer" s_is_integer ["thing"] S_is_integer) : Ok P w K mg base 2 "is_within" s_is_within ["thing", "low", "high"] S_is_within := by
  obtain ⟨f_s, fd_s, F_s, g_s⟩ := h_is_within
  obtain ⟨f_is_integer, fd_is_integer, F_is_integer, g_is_integer, b_is_integer, G_is_integer⟩ := k_is_integer
  refine ⟨f_s, fd_s, F_s, g_s, F_s.binds (fun _ _ _ _ _ _ us hl => match us, hl with | [_, _, _], _ => rfl), FnG.of F_s sc_is_within (fun xs μ Q h => by first | exact h.1 | (obtain ⟨⟩ := h)) fun cdv A outer s H hr hgd => ⟨_, _, (pss_one (ps_ret (pe_and (pe_callG (G_is_integer.mono (by decide)) hr hgd (by rfl) g_is_integer F_is_integer.kp b_is_integer (pa_cons (pv 0) pa_nil)) (pe_one (pe_chain op_le op_le (pv 1) (pv 0) (pv 2)))))), (by (try dsimp only [cxOf]); exact inferInstance), ?_⟩⟩
  intro xs μ Q hS
  obtain ⟨_, i, lo, hi, rfl, hQ⟩ := hS
  rw [show startP N_is_within [.int i, .int lo, .int hi] = [some (.int i), some (.int lo), some (.int hi)] from rfl]
  simp only [pMaxT, pSortT, str_to, str_ot, mPar3, mLockV, mLockE, mItemsC, mKeysC, mDGet2, pIsN, isNonP, pRepLM, mTruD, dkOfP, pPopAt, pIndex, mLstRgM, mTruth, pReprA, pLenD, pLstD, mDNew, pRepL, mLenSetN, mDIn, mSortSet, mSortSetL, mRevT, mForC, mSeqC, mLcC, pAbs, pMax2, pMin2, pInt1, mDGet, mDPut, mBM, mBM0, pPop, pAppend, pExtend, pSetL, mSub, mDisp, mPs, mPs0, mRevL, mRevLM, pLstOfM, mTupRg, mRg1, mRg2, pPlusM, lstItems, dictOfP, keyP, keysP, val_left, val_mixed, val_draws, put_draws, mLc, mLcM, mLc2, mFor, mSeqI, mRng1, mRng2, mZip, mEnum, mSl, mNoPart, mPart, mSeq, mAsg, mAsg2, mCB, mCons, mNil, mVar, mC, mOp, mUn, pU, mTup, mLst, mRet, mRetN, mLstM, getl, setl, mName, mCall, mCallK, mIf, mIfS, mTest, mAnd, mOr, mNot, mYes, mAndV, mOrV, mNotV, mNext, mNever, mBreak, mCont, mDrop, mChain, mPar, mGTup, mGCons, mGNil, pGcd, pI, pI0, pIx, pTimes, pPlus, pEq, pNe, pLen, pSum, pMaxS, pAll, pAny, pTupOf, pLstOf, pIn, pIsB, pIsi, items_tup, items_lst, items_kl, items_mr, items_tab, items_lot, items_fr, decide_true, decide_false, eqP_int, eqP_bl, eqP_str, eqP_tup2, kit_tt, kit_ii, kit_ib, tyP, mEnd, wipeP, List.map_cons, List.map_nil, List.getElem?_cons_zero, List.getElem?_cons_succ, List.set_cons_zero, List.set_cons_succ, atI_zero, atI_one, if_true, if_false, ite_true, ite_false, Bool.false_eq_true, List.length_cons, List.length_nil, Bool.not_true, Bool.not_false, S_is_integer]
  refine ⟨trivial, i, rfl, ?_⟩
  by_cases h : lo ≤ i
  · simp only [h, decide_true, if_true, Bool.true_and] at hQ ⊢
    exact fin_keep hQ
  · simp only [h, decide_false, Bool.false_eq_true, if_false, Bool.false_and] at hQ ⊢
    exact fin_keep hQ
abbrev N__law_pick : List Str := ["_law_deck_here", "_law_some"]
theorem sc__law_pick : FnScope N__law_pick ["_law_deck_here", "_law_some"] (defScope s__law_pick) := ⟨rfl, rfl, rfl, by decide +kernel, rfl, by decide +kernel, by decide +kernel⟩
theorem ok__law_pick (B : Blt mg) (h__law_pick : Own K mg "_law_pick" s__law_pick) (k__law_draw : Ok P w K mg base 1 "_law_draw" s__law_draw ["_law_deck_here", "_law_below"] S__law_draw) : Ok P w K mg base 2 "_law_pick" s__law_pick ["_law_deck_here", "_law_some"] S__law_pick := by
  obtain ⟨f_s, fd_s, F_s, g_s⟩ := h__law_pick
  obtain ⟨f__law_draw, fd__law_draw, F__law_draw, g__law_draw, b__law_draw, G__law_draw⟩ := k__law_draw
  refine ⟨f_s, fd_s, F_s, g_s, F_s.binds (fun _ _ _ _ _ _ us hl => match us, hl with | [_, _], _ => rfl), FnG.of F_s sc__law_pick (fun xs μ Q h => by first | exact h.1 | (obtain ⟨⟩ := h)) fun cdv A outer s H hr hgd => ⟨_, _, (pss_one (ps_ret (pe_ix ix_seq (pv 1) (pe_callG (G__law_draw.mono (by decide)) hr hgd (by rfl) g__law_draw F__law_draw.kp b__law_draw (pa_cons (pv 0) (pa_cons (pe_callB cb_len (by rfl) (B "len" (by decide)) (by decide +kernel) (pa_cons (pv 1) pa_nil)) pa_nil))) (fun _ _ => rfl)))), (by (try dsimp only [cxOf]); exact inferInstance), ?_⟩⟩
  intro xs μ Q hS
  obtain ⟨_, x, items, m, rest, rfl, hx, hD, hi, hi2, hQ⟩ := hS
  rw [show startP N__law_pick [.mr 1, x] = [some (.mr 1), some x] from rfl]
  rcases hx with hx | ⟨j, rfl, hj⟩
  · have key : S__law_draw [.mr 1, .int (items.length : Nat)] μ fun y μ2 => match y with | .int i => (match atI items i with | some v => ∃ y μ', Gc μ v μ2 y μ' ∧ Q y μ' | none => False) | _ => False := by
      refine ⟨rfl, _, _, _, rfl, hD, by omega, by omega, fun n μ' h0 h1 hD' => ?_⟩
      obtain ⟨j, rfl⟩ : ∃ j : Nat, n = (j : Int) := ⟨n.toNat, by omega⟩
      have hj : j < items.length := by omega
      simp only [atI_some (List.getElem?_eq_getElem hj)]
      exact fin_keep (hQ _ (List.getElem_mem hj) _ hD')
    cases x <;> simp only [seqP, reduceCtorEq, Option.some.injEq] at hx
    · subst hx
      simp only [pMaxT, pSortT, str_to, str_ot, mPar3, mLockV, mLockE, mItemsC, mKeysC, mDGet2, pIsN, isNonP, pRepLM, mTruD, dkOfP, pPopAt, pIndex, mLstRgM, mTruth, pReprA, pLenD, pLstD, mDNew, pRepL, mLenSetN, mDIn, mSortSet, mSortSetL, mRevT, mForC, mSeqC, mLcC, pAbs, pMax2, pMin2, pInt1, mDGet, mDPut, mBM, mBM0, pPop, pAppend, pExtend, pSetL, mSub, mDisp, mPs, mPs0, mRevL, mRevLM, pLstOfM, mTupRg, mRg1, mRg2, pPlusM, lstItems, dictOfP, keyP, keysP, val_left, val_mixed, val_draws, put_draws, mLc, mLcM, mLc2, mFor, mSeqI, mRng1, mRng2, mZip, mEnum, mSl, mNoPart, mPart, mSeq, mAsg, mAsg2, mCB, mCons, mNil, mVar, mC, mOp, mUn, pU, mTup, mLst, mRet, mRetN, mLstM, getl, setl, mName, mCall, mCallK, mIf, mIfS, mTest, mAnd, mOr, mNot, mYes, mAndV, mOrV, mNotV, mNext, mNever, mBreak, mCont, mDrop, mChain, mPar, mGTup, mGCons, mGNil, pGcd, pI, pI0, pIx, pTimes, pPlus, pEq, pNe, pLen, pSum, pMaxS, pAll, pAny, pTupOf, pLstOf, pIn, pIsB, pIsi, items_tup, items_lst, items_kl, items_mr, items_tab, items_lot, items_fr, decide_true, decide_false, eqP_int, eqP_bl, eqP_str, eqP_tup2, kit_tt, kit_ii, kit_ib, tyP, mEnd, wipeP, List.map_cons, List.map_nil, List.getElem?_cons_zero, List.getElem?_cons_succ, List.set_cons_zero, List.set_cons_succ, atI_zero, atI_one, if_true, if_false, ite_true, ite_false, Bool.false_eq_true, List.length_cons, List.length_nil, Bool.not_true, Bool.not_false]
      exact key
    · subst hx
      simp only [pMaxT, pSortT, str_to, str_ot, mPar3, mLockV, mLockE, mItemsC, mKeysC, mDGet2, pIsN, isNonP, pRepLM, mTruD, dkOfP, pPopAt, pIndex, mLstRgM, mTruth, pReprA, pLenD, pLstD, mDNew, pRepL, mLenSetN, mDIn, mSortSet, mSortSetL, mRevT, mForC, mSeqC, mLcC, pAbs, pMax2, pMin2, pInt1, mDGet, mDPut, mBM, mBM0, pPop, pAppend, pExtend, pSetL, mSub, mDisp, mPs, mPs0, mRevL, mRevLM, pLstOfM, mTupRg, mRg1, mRg2, pPlusM, lstItems, dictOfP, keyP, keysP, val_left, val_mixed, val_draws, put_draws, mLc, mLcM, mLc2, mFor, mSeqI, mRng1, mRng2, mZip, mEnum, mSl, mNoPart, mPart, mSeq, mAsg, mAsg2, mCB, mCons, mNil, mVar, mC, mOp, mUn, pU, mTup, mLst, mRet, mRetN, mLstM, getl, setl, mName, mCall, mCallK, mIf, mIfS, mTest, mAnd, mOr, mNot, mYes, mAndV, mOrV, mNotV, mNext, mNever, mBreak, mCont, mDrop, mChain, mPar, mGTup, mGCons, mGNil, pGcd, pI, pI0, pIx, pTimes, pPlus, pEq, pNe, pLen, pSum, pMaxS, pAll, pAny, pTupOf, pLstOf, pIn, pIsB, pIsi, items_tup, items_lst, items_kl, items_mr, items_tab, items_lot, items_fr, decide_true, decide_false, eqP_int, eqP_bl, eqP_str, eqP_tup2, kit_tt, kit_ii, kit_ib, tyP, mEnd, wipeP, List.map_cons, List.map_nil, List.getElem?_cons_zero, List.getElem?_cons_succ, List.set_cons_zero, List.set_cons_succ, atI_zero, atI_one, if_true, if_false, ite_true, ite_false, Bool.false_eq_true, List.length_cons, List.length_nil, Bool.not_true, Bool.not_false]
      exact key
  · have e1 : ∀ μ', Dk m rest μ' → μ'[j + 2]? = some (.lst items) := fun μ' h => (h.get j).trans hj
    simp only [pMaxT, pSortT, str_to, str_ot, mPar3, mLockV, mLockE, mItemsC, mKeysC, mDGet2, pIsN, isNonP, pRepLM, mTruD, dkOfP, pPopAt, pIndex, mLstRgM, mTruth, pReprA, pLenD, pLstD, mDNew, pRepL, mLenSetN, mDIn, mSortSet, mSortSetL, mRevT, mForC, mSeqC, mLcC, pAbs, pMax2, pMin2, pInt1, mDGet, mDPut, mBM, mBM0, pPop, pAppend, pExtend, pSetL, mSub, mDisp, mPs, mPs0, mRevL, mRevLM, pLstOfM, mTupRg, mRg1, mRg2, pPlusM, lstItems, dictOfP, keyP, keysP, val_left, val_mixed, val_draws, put_draws, mLc, mLcM, mLc2, mFor, mSeqI, mRng1, mRng2, mZip, mEnum, mSl, mNoPart, mPart, mSeq, mAsg, mAsg2, mCB, mCons, mNil, mVar, mC, mOp, mUn, pU, mTup, mLst, mRet, mRetN, mLstM, getl, setl, mName, mCall, mCallK, mIf, mIfS, mTest, mAnd, mOr, mNot, mYes, mAndV, mOrV, mNotV, mNext, mNever, mBreak, mCont, mDrop, mChain, mPar, mGTup, mGCons, mGNil, pGcd, pI, pI0, pIx, pTimes, pPlus, pEq, pNe, pLen, pSum, pMaxS, pAll, pAny, pTupOf, pLstOf, pIn, pIsB, pIsi, items_tup, items_lst, items_kl, items_mr, items_tab, items_lot, items_fr, decide_true, decide_false, eqP_int, eqP_bl, eqP_str, eqP_tup2, kit_tt, kit_ii, kit_ib, tyP, mEnd, wipeP, List.map_cons, List.map_nil, List.getElem?_cons_zero, List.getElem?_cons_succ, List.set_cons_zero, List.set_cons_succ, atI_zero, atI_one, if_true, if_false, ite_true, ite_false, Bool.false_eq_true, List.length_cons, List.length_nil, Bool.not_true, Bool.not_false, e1 μ hD, S__law_draw]
    refine ⟨trivial, _, _, _, rfl, hD, by omega, by omega, fun n μ' h0 h1 hD' => ?_⟩
    obtain ⟨i, rfl⟩ : ∃ i : Nat, n = (i : Int) := ⟨n.toNat, by omega⟩
    have hi : i < items.length := by omega
    simp only [e1 μ' hD', atI_some (List.getElem?_eq_getElem hi)]
    exact fin_keep (hQ _ (List.getElem_mem hi) _ hD')
abbrev N_are_integers : List Str := ["thing", "low", "high", "item"]
theorem sc_are_integers : FnScope N_are_integers ["thing", "low", "high"] (defScope s_are_integers) := ⟨rfl, rfl, rfl, by decide +kernel, rfl, by decide +kernel, by decide +kernel⟩
theorem ok_are_integers (B : Blt mg) (h_are_integers : Own K mg "are_integers" s_are_integers) (k_is_within : Ok P w K mg base 2 "is_within" s_is_within ["thing", "low", "high"] S_is_within) : Ok P w K mg base 3 "are_integers" s_are_integers ["thing", "low", "high"] S_are_integers := by
  obtain ⟨f_s, fd_s, F_s, g_s⟩ := h_are_integers
  obtain ⟨f_is_within, fd_is_within, F_is_within, g_is_within, b_is_within, G_is_within⟩ := k_is_within
  refine ⟨f_s, fd_s, F_s, g_s, F_s.binds (fun _ _ _ _ _ _ us hl => match us, hl with | [_, _, _], _ => rfl), FnG.of F_s sc_are_integers (fun xs μ Q h => by first | exact h.1 | (obtain ⟨⟩ := h)) fun cdv A outer s H hr hgd => ⟨_, _, (pss_one (ps_ret (pe_and (pe_callB call_isi (by rfl) (B "isinstance" (by decide)) (by decide +kernel) (pa_cons (pv 0) (pa_cons (pe_bltn (v := .ty "tuple") (u := .type "tuple") (by rfl) (B "tuple" (by decide)) (by decide +kernel) rfl) pa_nil))) (pe_one (pe_callB (cr_all rfl) (by rfl) (B "all" (by decide)) (by decide +kernel) (pa_cons (pe_lc (own := [("item", 3)]) (by rfl) sc_are_integers.nd (pi_seq (pv 0)) (blkOk_by (own := [("item", 3)]) (N := N_are_integers) (sc := defScope s_are_integers) (by decide +kernel)) (fun _ _ _ _ _ => (pg_name (i := 3) sc_are_integers.nd rfl (Or.inl rfl))) (fun _ _ _ _ _ => pts_nil) (fun _ _ _ _ _ => (pek_call K rfl (G_is_within.mono (by decide)) hr hgd (by rfl) g_is_within F_is_within.kp b_is_within (pa_cons (pv 3) (pa_cons (pv 1) (pa_cons (pv 2) pa_nil)))))) pa_nil)))))), (by (try dsimp only [cxOf]); exact inferInstance), ?_⟩⟩
  intro xs μ Q hS
  obtain ⟨_, vs, lo, hi, rfl, hl, hQ⟩ := hS
  rw [show startP N_are_integers [.tup (vs.map PV.int), .int lo, .int hi] = [some (.tup (vs.map PV.int)), some (.int lo), some (.int hi), none] from rfl]
  simp only [pMaxT, pSortT, str_to, str_ot, mPar3, mLockV, mLockE, mItemsC, mKeysC, mDGet2, pIsN, isNonP, pRepLM, mTruD, dkOfP, pPopAt, pIndex, mLstRgM, mTruth, pReprA, pLenD, pLstD, mDNew, pRepL, mLenSetN, mDIn, mSortSet, mSortSetL, mRevT, mForC, mSeqC, mLcC, pAbs, pMax2, pMin2, pInt1, mDGet, mDPut, mBM, mBM0, pPop, pAppend, pExtend, pSetL, mSub, mDisp, mPs, mPs0, mRevL, mRevLM, pLstOfM, mTupRg, mRg1, mRg2, pPlusM, lstItems, dictOfP, keyP, keysP, val_left, val_mixed, val_draws, put_draws, mLc, mLcM, mLc2, mFor, mSeqI, mRng1, mRng2, mZip, mEnum, mSl, mNoPart, mPart, mSeq, mAsg, mAsg2, mCB, mCons, mNil, mVar, mC, mOp, mUn, pU, mTup, mLst, mRet, mRetN, mLstM, getl, setl, mName, mCall, mCallK, mIf, mIfS, mTest, mAnd, mOr, mNot, mYes, mAndV, mOrV, mNotV, mNext, mNever, mBreak, mCont, mDrop, mChain, mPar, mGTup, mGCons, mGNil, pGcd, pI, pI0, pIx, pTimes, pPlus, pEq, pNe, pLen, pSum, pMaxS, pAll, pAny, pTupOf, pLstOf, pIn, pIsB, pIsi, items_tup, items_lst, items_kl, items_mr, items_tab, items_lot, items_fr, decide_true, decide_false, eqP_int, eqP_bl, eqP_str, eqP_tup2, kit_tt, kit_ii, kit_ib, tyP, mEnd, wipeP, List.map_cons, List.map_nil, List.getElem?_cons_zero, List.getElem?_cons_succ, List.set_cons_zero, List.set_cons_succ, atI_zero, atI_one, if_true, if_false, ite_true, ite_false, Bool.false_eq_true, List.length_cons, List.length_nil, Bool.not_true, Bool.not_false]
  refine ⟨by decide, by rw [List.length_map]; exact hl, lc_map (out := fun (i : Int) => .bl (decide (lo ≤ i) && decide (i ≤ hi))) (fun i _ k hk => ?_) ?_⟩
  · simp only [pMaxT, pSortT, str_to, str_ot, mPar3, mLockV, mLockE, mItemsC, mKeysC, mDGet2, pIsN, isNonP, pRepLM, mTruD, dkOfP, pPopAt, pIndex, mLstRgM, mTruth, pReprA, pLenD, pLstD, mDNew, pRepL, mLenSetN, mDIn, mSortSet, mSortSetL, mRevT, mForC, mSeqC, mLcC, pAbs, pMax2, pMin2, pInt1, mDGet, mDPut, mBM, mBM0, pPop, pAppend, pExtend, pSetL, mSub, mDisp, mPs, mPs0, mRevL, mRevLM, pLstOfM, mTupRg, mRg1, mRg2, pPlusM, lstItems, dictOfP, keyP, keysP, val_left, val_mixed, val_draws, put_draws, mLc, mLcM, mLc2, mFor, mSeqI, mRng1, mRng2, mZip, mEnum, mSl, mNoPart, mPart, mSeq, mAsg, mAsg2, mCB, mCons, mNil, mVar, mC, mOp, mUn, pU, mTup, mLst, mRet, mRetN, mLstM, getl, setl, mName, mCall, mCallK, mIf, mIfS, mTest, mAnd, mOr, mNot, mYes, mAndV, mOrV, mNotV, mNext, mNever, mBreak, mCont, mDrop, mChain, mPar, mGTup, mGCons, mGNil, pGcd, pI, pI0, pIx, pTimes, pPlus, pEq, pNe, pLen, pSum, pMaxS, pAll, pAny, pTupOf, pLstOf, pIn, pIsB, pIsi, items_tup, items_lst, items_kl, items_mr, items_tab, items_lot, items_fr, decide_true, decide_false, eqP_int, eqP_bl, eqP_str, eqP_tup2, kit_tt, kit_ii, kit_ib, tyP, mEnd, wipeP, List.map_cons, List.map_nil, List.getElem?_cons_zero, List.getElem?_cons_succ, List.set_cons_zero, List.set_cons_succ, atI_zero, atI_one, if_true, if_false, ite_true, ite_false, Bool.false_eq_true, List.length_cons, List.length_nil, Bool.not_true, Bool.not_false, S_is_within]
    exact ⟨trivial, i, lo, hi, rfl, hk⟩
  · simp only [bools_out, all_out]
    exact fin_keep hQ
abbrev N__law_lengths : List Str := ["_law_deck_here", "_law_lengths_here", "_law_way", "_law_at", "_law_word", "_law_go"]
theorem sc__law_lengths : FnScope N__law_lengths ["_law_deck_here"] (defScope s__law_lengths) := ⟨rfl, rfl, rfl, by decide +kernel, rfl, by decide +kernel, by decide +kernel⟩
theorem ok__law_lengths (B : Blt mg) (h__law_lengths : Own K mg "_law_lengths" s__law_lengths) (k__law_draw : Ok P w K mg base 1 "_law_draw" s__law_draw ["_law_deck_here", "_law_below"] S__law_draw) (k__law_words : Ok P w K mg base 2 "_law_words" s__law_words ["_law_deck_here", "_law_most"] S__law_words) (k__law_pick : Ok P w K mg base 2 "_law_pick" s__law_pick ["_law_deck_here", "_law_some"] S__law_pick) : Ok P w K mg base 3 "_law_lengths" s__law_lengths ["_law_deck_here"] S__law_lengths := by
  obtain ⟨f_s, fd_s, F_s, g_s⟩ := h__law_lengths
  obtain ⟨f__law_draw, fd__law_draw, F__law_draw, g__law_draw, b__law_draw, G__law_draw⟩ := k__law_draw
  obtain ⟨f__law_words, fd__law_words, F__law_words, g__law_words, b__law_words, G__law_words⟩ := k__law_words
  obtain ⟨f__law_pick, fd__law_pick, F__law_pick, g__law_pick, b__law_pick, G__law_pick⟩ := k__law_pick
  refine ⟨f_s, fd_s, F_s, g_s, F_s.binds (fun _ _ _ _ _ _ us hl => match us, hl with | [_], _ => rfl), FnG.of F_s sc__law_lengths (fun xs μ Q h => by first | exact h.1 | (obtain ⟨⟩ := h)) fun cdv A outer s H hr hgd => ⟨_, _, (pss_cons (ps_par (i := 1) (j := 2) (by rfl) sc__law_lengths.nd rfl rfl (by decide) rfl rfl (pa_cons (peCM (pe_lc (own := [("_law_word", 4)]) (by rfl) sc__law_lengths.nd (pi_seq (pe_callG (G__law_words.mono (by decide)) hr hgd (by rfl) g__law_words F__law_words.kp b__law_words (pa_cons (pv 0) (pa_cons pe_int pa_nil)))) (blkOk_by (own := [("_law_word", 4)]) (N := N__law_lengths) (sc := defScope s__law_lengths) (by decide +kernel)) (fun _ _ _ _ _ => (pg_name (i := 4) sc__law_lengths.nd rfl (Or.inl rfl))) (fun _ _ _ _ _ => pts_nil) (fun _ _ _ _ _ => (pe_callB (ck_len K rfl) (by rfl) (B "len" (by decide)) (by decide +kernel) (pa_cons (pv 4) pa_nil))))) (pa_cons (pe_callG (G__law_draw.mono (by decide)) hr hgd (by rfl) g__law_draw F__law_draw.kp b__law_draw (pa_cons (pv 0) (pa_cons pe_int pa_nil))) pa_nil)) (by rfl))
 (pss_cons (ps_set (i := 3) sc__law_lengths.nd rfl (Or.inl rfl) (pe_callG (G__law_draw.mono (by decide)) hr hgd (by rfl) g__law_draw F__law_draw.kp b__law_draw (pa_cons (pv 0) (pa_cons (pe_callB cb_len (by rfl) (B "len" (by decide)) (by decide +kernel) (pa_cons (pv 1) pa_nil)) pa_nil))))
 (pss_cons (ps_if (pt_cmpR (op_eqX hr.units) (pv 2) pe_int (nomark _))
 (pss_one (ps_asg (pe_op op_plus (pe_ix ix_seq (pv 1) (pv 3) (fun _ _ => rfl)) pe_int) (pg_sub (pv 1) (pv 3) set_list)))
 pss_nil)
 (pss_cons (ps_if (pt_cmpR (op_eqX hr.units) (pv 2) pe_int (nomark _))
 (pss_one (ps_asg (pe_callB (cb_max2 rfl) (by rfl) (B "max" (by decide)) (by decide +kernel) (pa_cons pe_int (pa_cons (pe_op op_sub (pe_ix ix_seq (pv 1) (pv 3) (fun _ _ => rfl)) pe_int) pa_nil))) (pg_sub (pv 1) (pv 3) set_list)))
 pss_nil)
 (pss_cons (ps_if (pt_cmpR (op_eqX hr.units) (pv 2) pe_int (nomark _))
 (pss_one (ps_set (i := 1) sc__law_lengths.nd rfl (Or.inl rfl) (pe_op op_repLM (pe_lst (pa_cons (pe_callG (G__law_draw.mono (by decide)) hr hgd (by rfl) g__law_draw F__law_draw.kp b__law_draw (pa_cons (pv 0) (pa_cons pe_int pa_nil))) pa_nil)) (pe_op op_plus pe_int (pe_callG (G__law_draw.mono (by decide)) hr hgd (by rfl) g__law_draw F__law_draw.kp b__law_draw (pa_cons (pv 0) (pa_cons pe_int pa_nil)))))))
 pss_nil)
 (pss_cons (ps_if (pt_cmpR (op_eqX hr.units) (pv 2) pe_int (nomark _))
 (pss_one (ps_asg (pe_callG (G__law_pick.mono (by decide)) hr hgd (by rfl) g__law_pick F__law_pick.kp b__law_pick (pa_cons (pv 0) (pa_cons (pe_lst (pa_cons pe_int (pa_cons pe_int (pa_cons pe_int (pa_cons pe_int pa_nil))))) pa_nil))) (pg_sub (pv 1) (pv 3) set_list)))
 pss_nil)
 (pss_cons (ps_if (pt_cmpR (op_eqX hr.units) (pv 2) pe_int (nomark _))
 (pss_one (psM (ps_setLc (i := 1) (own := [("_law_go", 5)]) rfl sc__law_lengths.nd rfl rfl (sw_true rfl rfl rfl (by decide +kernel)) (pi_range1 (by rfl) (B "range" (by decide)) (pa_cons (pe_op op_plus pe_int (pe_callG (G__law_draw.mono (by decide)) hr hgd (by rfl) g__law_draw F__law_draw.kp b__law_draw (pa_cons (pv 0) (pa_cons pe_int pa_nil)))) pa_nil)) (blkOk_by (own := [("_law_go", 5)]) (N := N__law_lengths) (sc := defScope s__law_lengths) (by decide +kernel)) (fun _ _ _ _ _ => (pg_name (i := 5) sc__law_lengths.nd rfl (Or.inl rfl))) (fun _ _ _ _ _ => pts_nil) (fun _ _ _ _ _ => (pek_call K rfl (G__law_draw.mono (by decide)) hr hgd (by rfl) g__law_draw F__law_draw.kp b__law_draw (pa_cons (pv 0) (pa_cons (pek_call K rfl (G__law_pick.mono (by decide)) hr hgd (by rfl) g__law_pick F__law_pick.kp b__law_pick (pa_cons (pv 0) (pa_cons (pe_lst (pa_cons pe_int (pa_cons pe_int (pa_cons pe_int pa_nil)))) pa_nil))) pa_nil)))))))
 pss_nil)
 (pss_one (ps_ret (pe_callTy cb_tup (by rfl) (B "tuple" (by decide)) (by decide +kernel) (pa_cons (pv 1) pa_nil))))))))))), (by (try dsimp only [cxOf]); exact inferInstance), ?_⟩⟩
  intro xs μ Q hS
  obtain ⟨_, m, rest, rfl, hD, hQ⟩ := hS
  rw [show startP N__law_lengths [.mr 1] = [some (.mr 1), none, none, none, none, none] from rfl]
  refine stm_of fun R hR => ?_
  simp only [pMaxT, pSortT, str_to, str_ot, mPar3, mLockV, mLockE, mItemsC, mKeysC, mDGet2, pIsN, isNonP, pRepLM, mTruD, dkOfP, pPopAt, pIndex, mLstRgM, mTruth, pReprA, pLenD, pLstD, mDNew, pRepL, mLenSetN, mDIn, mSortSet, mSortSetL, mRevT, mForC, mSeqC, mLcC, pAbs, pMax2, pMin2, pInt1, mDGet, mDPut, mBM, mBM0, pPop, pAppend, pExtend, pSetL, mSub, mDisp, mPs, mPs0, mRevL, mRevLM, pLstOfM, mTupRg, mRg1, mRg2, pPlusM, lstItems, dictOfP, keyP, keysP, val_left, val_mixed, val_draws, put_draws, mLc, mLcM, mLc2, mFor, mSeqI, mRng1, mRng2, mZip, mEnum, mSl, mNoPart, mPart, mSeq, mAsg, mAsg2, mCB, mCons, mNil, mVar, mC, mOp, mUn, pU, mTup, mLst, mRet, mRetN, mLstM, getl, setl, mName, mCall, mCallK, mIf, mIfS, mTest, mAnd, mOr, mNot, mYes, mAndV, mOrV, mNotV, mNext, mNever, mBreak, mCont, mDrop, mChain, mPar, mGTup, mGCons, mGNil, pGcd, pI, pI0, pIx, pTimes, pPlus, pEq, pNe, pLen, pSum, pMaxS, pAll, pAny, pTupOf, pLstOf, pIn, pIsB, pIsi, items_tup, items_lst, items_kl, items_mr, items_tab, items_lot, items_fr, decide_true, decide_false, eqP_int, eqP_bl, eqP_str, eqP_tup2, kit_tt, kit_ii, kit_ib, tyP, mEnd, wipeP, List.map_cons, List.map_nil, List.getElem?_cons_zero, List.getElem?_cons_succ, List.set_cons_zero, List.set_cons_succ, atI_zero, atI_one, if_true, if_false, ite_true, ite_false, Bool.false_eq_true, List.length_cons, List.length_nil, Bool.not_true, Bool.not_false, S__law_words]
  refine ⟨by decide, trivial, 8, m, rest, rfl, hD, by decide, by decide, fun ws g μ1 hW h9 D1 => ?_⟩
  simp only [pMaxT, pSortT, str_to, str_ot, mPar3, mLockV, mLockE, mItemsC, mKeysC, mDGet2, pIsN, isNonP, pRepLM, mTruD, dkOfP, pPopAt, pIndex, mLstRgM, mTruth, pReprA, pLenD, pLstD, mDNew, pRepL, mLenSetN, mDIn, mSortSet, mSortSetL, mRevT, mForC, mSeqC, mLcC, pAbs, pMax2, pMin2, pInt1, mDGet, mDPut, mBM, mBM0, pPop, pAppend, pExtend, pSetL, mSub, mDisp, mPs, mPs0, mRevL, mRevLM, pLstOfM, mTupRg, mRg1, mRg2, pPlusM, lstItems, dictOfP, keyP, keysP, val_left, val_mixed, val_draws, put_draws, mLc, mLcM, mLc2, mFor, mSeqI, mRng1, mRng2, mZip, mEnum, mSl, mNoPart, mPart, mSeq, mAsg, mAsg2, mCB, mCons, mNil, mVar, mC, mOp, mUn, pU, mTup, mLst, mRet, mRetN, mLstM, getl, setl, mName, mCall, mCallK, mIf, mIfS, mTest, mAnd, mOr, mNot, mYes, mAndV, mOrV, mNotV, mNext, mNever, mBreak, mCont, mDrop, mChain, mPar, mGTup, mGCons, mGNil, pGcd, pI, pI0, pIx, pTimes, pPlus, pEq, pNe, pLen, pSum, pMaxS, pAll, pAny, pTupOf, pLstOf, pIn, pIsB, pIsi, items_tup, items_lst, items_kl, items_mr, items_tab, items_lot, items_fr, decide_true, decide_false, eqP_int, eqP_bl, eqP_str, eqP_tup2, kit_tt, kit_ii, kit_ib, tyP, mEnd, wipeP, List.map_cons, List.map_nil, List.getElem?_cons_zero, List.getElem?_cons_succ, List.set_cons_zero, List.set_cons_succ, atI_zero, atI_one, if_true, if_false, ite_true, ite_false, Bool.false_eq_true, List.length_cons, List.length_nil, Bool.not_true, Bool.not_false, wsP]
  have l8 := hW.len
  have l0 := List.length_pos_iff.mpr hW.ne
  refine ⟨by rw [List.length_map]; unfold lim; omega, lc_map (enc := lotP) (out := fun w => .int (w.length : Nat)) (fun w hw k hk => ?_) ?_⟩
  · simp only [pMaxT, pSortT, str_to, str_ot, mPar3, mLockV, mLockE, mItemsC, mKeysC, mDGet2, pIsN, isNonP, pRepLM, mTruD, dkOfP, pPopAt, pIndex, mLstRgM, mTruth, pReprA, pLenD, pLstD, mDNew, pRepL, mLenSetN, mDIn, mSortSet, mSortSetL, mRevT, mForC, mSeqC, mLcC, pAbs, pMax2, pMin2, pInt1, mDGet, mDPut, mBM, mBM0, pPop, pAppend, pExtend, pSetL, mSub, mDisp, mPs, mPs0, mRevL, mRevLM, pLstOfM, mTupRg, mRg1, mRg2, pPlusM, lstItems, dictOfP, keyP, keysP, val_left, val_mixed, val_draws, put_draws, mLc, mLcM, mLc2, mFor, mSeqI, mRng1, mRng2, mZip, mEnum, mSl, mNoPart, mPart, mSeq, mAsg, mAsg2, mCB, mCons, mNil, mVar, mC, mOp, mUn, pU, mTup, mLst, mRet, mRetN, mLstM, getl, setl, mName, mCall, mCallK, mIf, mIfS, mTest, mAnd, mOr, mNot, mYes, mAndV, mOrV, mNotV, mNext, mNever, mBreak, mCont, mDrop, mChain, mPar, mGTup, mGCons, mGNil, pGcd, pI, pI0, pIx, pTimes, pPlus, pEq, pNe, pLen, pSum, pMaxS, pAll, pAny, pTupOf, pLstOf, pIn, pIsB, pIsi, items_tup, items_lst, items_kl, items_mr, items_tab, items_lot, items_fr, decide_true, decide_false, eqP_int, eqP_bl, eqP_str, eqP_tup2, kit_tt, kit_ii, kit_ib, tyP, mEnd, wipeP, List.map_cons, List.map_nil, List.getElem?_cons_zero, List.getElem?_cons_succ, List.set_cons_zero, List.set_cons_succ, atI_zero, atI_one, if_true, if_false, ite_true, ite_false, Bool.false_eq_true, List.length_cons, List.length_nil, Bool.not_true, Bool.not_false, lotP, List.length_map]
    exact hk
  have e0 : (([] : List PV) ++ ws.map fun w => PV.int (w.length : Nat)) = (ws.map List.length).map fun (n : Nat) => PV.int n := by rw [List.nil_append, List.map_map]; rfl
  rw [e0, cl_len D1]
  have D2 := cl_app D1 (.lst ((ws.map List.length).map fun (n : Nat) => PV.int n))
  have hll : (ws.map List.length).length = ws.length := List.length_map _
  have hl9 : ∀ n ∈ ws.map List.length, n ≤ 9 := fun n hn => by obtain ⟨w, hw, rfl⟩ := List.mem_map.mp hn; exact h9 w hw
  generalize ws.map List.length = ls at *
  simp only [pMaxT, pSortT, str_to, str_ot, mPar3, mLockV, mLockE, mItemsC, mKeysC, mDGet2, pIsN, isNonP, pRepLM, mTruD, dkOfP, pPopAt, pIndex, mLstRgM, mTruth, pReprA, pLenD, pLstD, mDNew, pRepL, mLenSetN, mDIn, mSortSet, mSortSetL, mRevT, mForC, mSeqC, mLcC, pAbs, pMax2, pMin2, pInt1, mDGet, mDPut, mBM, mBM0, pPop, pAppend, pExtend, pSetL, mSub, mDisp, mPs, mPs0, mRevL, mRevLM, pLstOfM, mTupRg, mRg1, mRg2, pPlusM, lstItems, dictOfP, keyP, keysP, val_left, val_mixed, val_draws, put_draws, mLc, mLcM, mLc2, mFor, mSeqI, mRng1, mRng2, mZip, mEnum, mSl, mNoPart, mPart, mSeq, mAsg, mAsg2, mCB, mCons, mNil, mVar, mC, mOp, mUn, pU, mTup, mLst, mRet, mRetN, mLstM, getl, setl, mName, mCall, mCallK, mIf, mIfS, mTest, mAnd, mOr, mNot, mYes, mAndV, mOrV, mNotV, mNext, mNever, mBreak, mCont, mDrop, mChain, mPar, mGTup, mGCons, mGNil, pGcd, pI, pI0, pIx, pTimes, pPlus, pEq, pNe, pLen, pSum, pMaxS, pAll, pAny, pTupOf, pLstOf, pIn, pIsB, pIsi, items_tup, items_lst, items_kl, items_mr, items_tab, items_lot, items_fr, decide_true, decide_false, eqP_int, eqP_bl, eqP_str, eqP_tup2, kit_tt, kit_ii, kit_ib, tyP, mEnd, wipeP, List.map_cons, List.map_nil, List.getElem?_cons_zero, List.getElem?_cons_succ, List.set_cons_zero, List.set_cons_succ, atI_zero, atI_one, if_true, if_false, ite_true, ite_false, Bool.false_eq_true, List.length_cons, List.length_nil, Bool.not_true, Bool.not_false, S__law_draw]
  refine ⟨trivial, 6, m, _, rfl, D2, by decide, by decide, fun way μ2 w0 w6 D3 => ?_⟩
  subst hR
  refine stm_of fun R1 hR1 => ?_
  have g3 : (g ++ [MO.lst (ls.map fun (n : Nat) => PV.int n)])[g.length]? = some (.lst (ls.map fun (n : Nat) => PV.int n)) := getl _ _
  simp only [pMaxT, pSortT, str_to, str_ot, mPar3, mLockV, mLockE, mItemsC, mKeysC, mDGet2, pIsN, isNonP, pRepLM, mTruD, dkOfP, pPopAt, pIndex, mLstRgM, mTruth, pReprA, pLenD, pLstD, mDNew, pRepL, mLenSetN, mDIn, mSortSet, mSortSetL, mRevT, mForC, mSeqC, mLcC, pAbs, pMax2, pMin2, pInt1, mDGet, mDPut, mBM, mBM0, pPop, pAppend, pExtend, pSetL, mSub, mDisp, mPs, mPs0, mRevL, mRevLM, pLstOfM, mTupRg, mRg1, mRg2, pPlusM, lstItems, dictOfP, keyP, keysP, val_left, val_mixed, val_draws, put_draws, mLc, mLcM, mLc2, mFor, mSeqI, mRng1, mRng2, mZip, mEnum, mSl, mNoPart, mPart, mSeq, mAsg, mAsg2, mCB, mCons, mNil, mVar, mC, mOp, mUn, pU, mTup, mLst, mRet, mRetN, mLstM, getl, setl, mName, mCall, mCallK, mIf, mIfS, mTest, mAnd, mOr, mNot, mYes, mAndV, mOrV, mNotV, mNext, mNever, mBreak, mCont, mDrop, mChain, mPar, mGTup, mGCons, mGNil, pGcd, pI, pI0, pIx, pTimes, pPlus, pEq, pNe, pLen, pSum, pMaxS, pAll, pAny, pTupOf, pLstOf, pIn, pIsB, pIsi, items_tup, items_lst, items_kl, items_mr, items_tab, items_lot, items_fr, decide_true, decide_false, eqP_int, eqP_bl, eqP_str, eqP_tup2, kit_tt, kit_ii, kit_ib, tyP, mEnd, wipeP, List.map_cons, List.map_nil, List.getElem?_cons_zero, List.getElem?_cons_succ, List.set_cons_zero, List.set_cons_succ, atI_zero, atI_one, if_true, if_false, ite_true, ite_false, Bool.false_eq_true, List.length_cons, List.length_nil, Bool.not_true, Bool.not_false, S__law_draw, (cl_get D3 g.length).trans g3, List.length_map]
  refine ⟨trivial, _, m, _, rfl, D3, by omega, by omega, fun a μ3 a0 a1 D4 => ?_⟩
  obtain ⟨a, rfl⟩ : ∃ k : Nat, a = (k : Int) := ⟨a.toNat, by omega⟩
  generalize g ++ [MO.lst (ls.map fun (n : Nat) => PV.int n)] = G at *
  have hL : LsOk ls := ⟨fun z => by rw [z] at hll; simp at hll; omega, by omega, fun n hn => by have := hl9 n hn; omega⟩
  have ha : way < 4 → way ≠ 2 → a < ls.length := fun _ _ => by omega
  subst hR1
  refine stm_of fun R2 hR2 => ?_
  have h2 : ∀ (ls : List Nat) (G : Store) (pl : Nat) (ν : Store) (y4 y5 : Option PV), G[pl]? = some (.lst (ls.map fun (n : Nat) => PV.int n)) → Dk m (rest ++ G) ν → LsOk ls → (way < 4 → way ≠ 2 → a < ls.length) → R2 [some (.mr 1), some (.mr (rest.length + pl + 2)), some (.int way), some (.int (a : Nat)), y4, y5] ν := by
    clear hL ha D4 g3
    intro ls G pl ν y4 y5 g3 D4 hL ha
    have l8 := hL.len
    have l0 := List.length_pos_iff.mpr hL.ne
    subst hR2
    refine stm_of fun R3 hR3 => ?_
    have h3 : ∀ (ls : List Nat) (G : Store) (pl : Nat) (ν : Store) (y4 y5 : Option PV), G[pl]? = some (.lst (ls.map fun (n : Nat) => PV.int n)) → Dk m (rest ++ G) ν → LsOk ls → (way < 4 → way ≠ 2 → a < ls.length) → R3 [some (.mr 1), some (.mr (rest.length + pl + 2)), some (.int way), some (.int (a : Nat)), y4, y5] ν := by
      intro ls G pl ν y4 y5 g3 D4 hL ha
      have l8 := hL.len
      have l0 := List.length_pos_iff.mpr hL.ne
      subst hR3
      refine stm_of fun R4 hR4 => ?_
      have h4 : ∀ (ls : List Nat) (G : Store) (pl : Nat) (ν : Store) (y4 y5 : Option PV), G[pl]? = some (.lst (ls.map fun (n : Nat) => PV.int n)) → Dk m (rest ++ G) ν → LsOk ls → (way < 4 → way ≠ 2 → a < ls.length) → R4 [some (.mr 1), some (.mr (rest.length + pl + 2)), some (.int way), some (.int (a : Nat)), y4, y5] ν := by
        intro ls G pl ν y4 y5 g3 D4 hL ha
        have l8 := hL.len
        have l0 := List.length_pos_iff.mpr hL.ne
        subst hR4
        refine stm_of fun R5 hR5 => ?_
        have h5 : ∀ (ls : List Nat) (G : Store) (pl : Nat) (ν : Store) (y4 y5 : Option PV), G[pl]? = some (.lst (ls.map fun (n : Nat) => PV.int n)) → Dk m (rest ++ G) ν → LsOk ls → (way < 4 → way ≠ 2 → a < ls.length) → R5 [some (.mr 1), some (.mr (rest.length + pl + 2)), some (.int way), some (.int (a : Nat)), y4, y5] ν := by
          intro ls G pl ν y4 y5 g3 D4 hL ha
          have l8 := hL.len
          have l0 := List.length_pos_iff.mpr hL.ne
          subst hR5
          refine stm_of fun R6 hR6 => ?_
          have h6 : ∀ (ls : List Nat) (G : Store) (pl : Nat) (ν : Store) (y4 y5 : Option PV), G[pl]? = some (.lst (ls.map fun (n : Nat) => PV.int n)) → Dk m (rest ++ G) ν → LsOk ls → (way < 4 → way ≠ 2 → a < ls.length) → R6 [some (.mr 1), some (.mr (rest.length + pl + 2)), some (.int way), some (.int (a : Nat)), y4, y5] ν := by
            intro ls G pl ν y4 y5 g3 D4 hL ha
            have l8 := hL.len
            have l0 := List.length_pos_iff.mpr hL.ne
            subst hR6
            simp only [pMaxT, pSortT, str_to, str_ot, mPar3, mLockV, mLockE, mItemsC, mKeysC, mDGet2, pIsN, isNonP, pRepLM, mTruD, dkOfP, pPopAt, pIndex, mLstRgM, mTruth, pReprA, pLenD, pLstD, mDNew, pRepL, mLenSetN, mDIn, mSortSet, mSortSetL, mRevT, mForC, mSeqC, mLcC, pAbs, pMax2, pMin2, pInt1, mDGet, mDPut, mBM, mBM0, pPop, pAppend, pExtend, pSetL, mSub, mDisp, mPs, mPs0, mRevL, mRevLM, pLstOfM, mTupRg, mRg1, mRg2, pPlusM, lstItems, dictOfP, keyP, keysP, val_left, val_mixed, val_draws, put_draws, mLc, mLcM, mLc2, mFor, mSeqI, mRng1, mRng2, mZip, mEnum, mSl, mNoPart, mPart, mSeq, mAsg, mAsg2, mCB, mCons, mNil, mVar, mC, mOp, mUn, pU, mTup, mLst, mRet, mRetN, mLstM, getl, setl, mName, mCall, mCallK, mIf, mIfS, mTest, mAnd, mOr, mNot, mYes, mAndV, mOrV, mNotV, mNext, mNever, mBreak, mCont, mDrop, mChain, mPar, mGTup, mGCons, mGNil, pGcd, pI, pI0, pIx, pTimes, pPlus, pEq, pNe, pLen, pSum, pMaxS, pAll, pAny, pTupOf, pLstOf, pIn, pIsB, pIsi, items_tup, items_lst, items_kl, items_mr, items_tab, items_lot, items_fr, decide_true, decide_false, eqP_int, eqP_bl, eqP_str, eqP_tup2, kit_tt, kit_ii, kit_ib, tyP, mEnd, wipeP, List.map_cons, List.map_nil, List.getElem?_cons_zero, List.getElem?_cons_succ, List.set_cons_zero, List.set_cons_succ, atI_zero, atI_one, if_true, if_false, ite_true, ite_false, Bool.false_eq_true, List.length_cons, List.length_nil, Bool.not_true, Bool.not_false, (cl_get D4 pl).trans g3]
            exact fin_keep (hQ ls G ν hL D4)
          simp only [pMaxT, pSortT, str_to, str_ot, mPar3, mLockV, mLockE, mItemsC, mKeysC, mDGet2, pIsN, isNonP, pRepLM, mTruD, dkOfP, pPopAt, pIndex, mLstRgM, mTruth, pReprA, pLenD, pLstD, mDNew, pRepL, mLenSetN, mDIn, mSortSet, mSortSetL, mRevT, mForC, mSeqC, mLcC, pAbs, pMax2, pMin2, pInt1, mDGet, mDPut, mBM, mBM0, pPop, pAppend, pExtend, pSetL, mSub, mDisp, mPs, mPs0, mRevL, mRevLM, pLstOfM, mTupRg, mRg1, mRg2, pPlusM, lstItems, dictOfP, keyP, keysP, val_left, val_mixed, val_draws, put_draws, mLc, mLcM, mLc2, mFor, mSeqI, mRng1, mRng2, mZip, mEnum, mSl, mNoPart, mPart, mSeq, mAsg, mAsg2, mCB, mCons, mNil, mVar, mC, mOp, mUn, pU, mTup, mLst, mRet, mRetN, mLstM, getl, setl, mName, mCall, mCallK, mIf, mIfS, mTest, mAnd, mOr, mNot, mYes, mAndV, mOrV, mNotV, mNext, mNever, mBreak, mCont, mDrop, mChain, mPar, mGTup, mGCons, mGNil, pGcd, pI, pI0, pIx, pTimes, pPlus, pEq, pNe, pLen, pSum, pMaxS, pAll, pAny, pTupOf, pLstOf, pIn, pIsB, pIsi, items_tup, items_lst, items_kl, items_mr, items_tab, items_lot, items_fr, decide_true, decide_false, eqP_int, eqP_bl, eqP_str, eqP_tup2, kit_tt, kit_ii, kit_ib, tyP, mEnd, wipeP, List.map_cons, List.map_nil, List.getElem?_cons_zero, List.getElem?_cons_succ, List.set_cons_zero, List.set_cons_succ, atI_zero, atI_one, if_true, if_false, ite_true, ite_false, Bool.false_eq_true, List.length_cons, List.length_nil, Bool.not_true, Bool.not_false, S__law_draw, S__law_pick]
          split
          · rename_i c
            have c := of_decide_eq_true c
            try simp only [pMaxT, pSortT, str_to, str_ot, mPar3, mLockV, mLockE, mItemsC, mKeysC, mDGet2, pIsN, isNonP, pRepLM, mTruD, dkOfP, pPopAt, pIndex, mLstRgM, mTruth, pReprA, pLenD, pLstD, mDNew, pRepL, mLenSetN, mDIn, mSortSet, mSortSetL, mRevT, mForC, mSeqC, mLcC, pAbs, pMax2, pMin2, pInt1, mDGet, mDPut, mBM, mBM0, pPop, pAppend, pExtend, pSetL, mSub, mDisp, mPs, mPs0, mRevL, mRevLM, pLstOfM, mTupRg, mRg1, mRg2, pPlusM, lstItems, dictOfP, keyP, keysP, val_left, val_mixed, val_draws, put_draws, mLc, mLcM, mLc2, mFor, mSeqI, mRng1, mRng2, mZip, mEnum, mSl, mNoPart, mPart, mSeq, mAsg, mAsg2, mCB, mCons, mNil, mVar, mC, mOp, mUn, pU, mTup, mLst, mRet, mRetN, mLstM, getl, setl, mName, mCall, mCallK, mIf, mIfS, mTest, mAnd, mOr, mNot, mYes, mAndV, mOrV, mNotV, mNext, mNever, mBreak, mCont, mDrop, mChain, mPar, mGTup, mGCons, mGNil, pGcd, pI, pI0, pIx, pTimes, pPlus, pEq, pNe, pLen, pSum, pMaxS, pAll, pAny, pTupOf, pLstOf, pIn, pIsB, pIsi, items_tup, items_lst, items_kl, items_mr, items_tab, items_lot, items_fr, decide_true, decide_false, eqP_int, eqP_bl, eqP_str, eqP_tup2, kit_tt, kit_ii, kit_ib, tyP, mEnd, wipeP, List.map_cons, List.map_nil, List.getElem?_cons_zero, List.getElem?_cons_succ, List.set_cons_zero, List.set_cons_succ, atI_zero, atI_one, if_true, if_false, ite_true, ite_false, Bool.false_eq_true, List.length_cons, List.length_nil, Bool.not_true, Bool.not_false, S__law_draw, S__law_pick, (cl_get D4 pl).trans g3]
            refine ⟨by decide, trivial, 8, m, _, rfl, D4, by decide, by decide, fun n μ6 n0 n8 D6 => ?_⟩
            obtain ⟨k, rfl⟩ : ∃ k : Nat, n = (k : Int) := ⟨n.toNat, by omega⟩
            rw [show (1 + (k : Int)) = ((k + 1 : Nat) : Int) by omega, Int.toNat_natCast, rangeP_eq]
            refine ⟨⟨by omega, by omega⟩, by rw [List.length_map, List.length_range]; unfold lim; omega, nats_any (c := 31) D6 (fun b μ7 D7 N hN => ?_) fun bs μ7 b1 b2 D7 => ?_⟩
            · simp only [pMaxT, pSortT, str_to, str_ot, mPar3, mLockV, mLockE, mItemsC, mKeysC, mDGet2, pIsN, isNonP, pRepLM, mTruD, dkOfP, pPopAt, pIndex, mLstRgM, mTruth, pReprA, pLenD, pLstD, mDNew, pRepL, mLenSetN, mDIn, mSortSet, mSortSetL, mRevT, mForC, mSeqC, mLcC, pAbs, pMax2, pMin2, pInt1, mDGet, mDPut, mBM, mBM0, pPop, pAppend, pExtend, pSetL, mSub, mDisp, mPs, mPs0, mRevL, mRevLM, pLstOfM, mTupRg, mRg1, mRg2, pPlusM, lstItems, dictOfP, keyP, keysP, val_left, val_mixed, val_draws, put_draws, mLc, mLcM, mLc2, mFor, mSeqI, mRng1, mRng2, mZip, mEnum, mSl, mNoPart, mPart, mSeq, mAsg, mAsg2, mCB, mCons, mNil, mVar, mC, mOp, mUn, pU, mTup, mLst, mRet, mRetN, mLstM, getl, setl, mName, mCall, mCallK, mIf, mIfS, mTest, mAnd, mOr, mNot, mYes, mAndV, mOrV, mNotV, mNext, mNever, mBreak, mCont, mDrop, mChain, mPar, mGTup, mGCons, mGNil, pGcd, pI, pI0, pIx, pTimes, pPlus, pEq, pNe, pLen, pSum, pMaxS, pAll, pAny, pTupOf, pLstOf, pIn, pIsB, pIsi, items_tup, items_lst, items_kl, items_mr, items_tab, items_lot, items_fr, decide_true, decide_false, eqP_int, eqP_bl, eqP_str, eqP_tup2, kit_tt, kit_ii, kit_ib, tyP, mEnd, wipeP, List.map_cons, List.map_nil, List.getElem?_cons_zero, List.getElem?_cons_succ, List.set_cons_zero, List.set_cons_succ, atI_zero, atI_one, if_true, if_false, ite_true, ite_false, Bool.false_eq_true, List.length_cons, List.length_nil, Bool.not_true, Bool.not_false, S__law_draw, S__law_pick]
              refine ⟨by decide, trivial, _, [.int 4, .int 31, .int 9], m, _, rfl, .inl rfl, D7, by decide, by decide, fun v hv μ8 D8 => ?_⟩
              have hv : v = .int 4 ∨ v = .int 31 ∨ v = .int 9 := by simpa using hv
              rcases hv with rfl | rfl | rfl
              · exact ⟨trivial, 4, m, _, rfl, D8, by decide, by decide, fun n μ9 n0 n1 D9 => hN n μ9 n0 (by omega) D9⟩
              · exact ⟨trivial, 31, m, _, rfl, D8, by decide, by decide, fun n μ9 n0 n1 D9 => hN n μ9 n0 (by omega) D9⟩
              · exact ⟨trivial, 9, m, _, rfl, D8, by decide, by decide, fun n μ9 n0 n1 D9 => hN n μ9 n0 (by omega) D9⟩
            · have D8 := cl_app D7 (.lst (bs.map fun (n : Nat) => PV.int n))
              rw [cl_len D7]
              exact h6 bs _ G.length _ _ _ (getl _ _) D8 ⟨fun z => by rw [z] at b2; simp at b2, by omega, fun n hn => by have := b1 n hn; omega⟩ (fun z _ => absurd z (by omega))
          · exact h6 ls G pl _ _ _ g3 D4 hL ha
        simp only [pMaxT, pSortT, str_to, str_ot, mPar3, mLockV, mLockE, mItemsC, mKeysC, mDGet2, pIsN, isNonP, pRepLM, mTruD, dkOfP, pPopAt, pIndex, mLstRgM, mTruth, pReprA, pLenD, pLstD, mDNew, pRepL, mLenSetN, mDIn, mSortSet, mSortSetL, mRevT, mForC, mSeqC, mLcC, pAbs, pMax2, pMin2, pInt1, mDGet, mDPut, mBM, mBM0, pPop, pAppend, pExtend, pSetL, mSub, mDisp, mPs, mPs0, mRevL, mRevLM, pLstOfM, mTupRg, mRg1, mRg2, pPlusM, lstItems, dictOfP, keyP, keysP, val_left, val_mixed, val_draws, put_draws, mLc, mLcM, mLc2, mFor, mSeqI, mRng1, mRng2, mZip, mEnum, mSl, mNoPart, mPart, mSeq, mAsg, mAsg2, mCB, mCons, mNil, mVar, mC, mOp, mUn, pU, mTup, mLst, mRet, mRetN, mLstM, getl, setl, mName, mCall, mCallK, mIf, mIfS, mTest, mAnd, mOr, mNot, mYes, mAndV, mOrV, mNotV, mNext, mNever, mBreak, mCont, mDrop, mChain, mPar, mGTup, mGCons, mGNil, pGcd, pI, pI0, pIx, pTimes, pPlus, pEq, pNe, pLen, pSum, pMaxS, pAll, pAny, pTupOf, pLstOf, pIn, pIsB, pIsi, items_tup, items_lst, items_kl, items_mr, items_tab, items_lot, items_fr, decide_true, decide_false, eqP_int, eqP_bl, eqP_str, eqP_tup2, kit_tt, kit_ii, kit_ib, tyP, mEnd, wipeP, List.map_cons, List.map_nil, List.getElem?_cons_zero, List.getElem?_cons_succ, List.set_cons_zero, List.set_cons_succ, atI_zero, atI_one, if_true, if_false, ite_true, ite_false, Bool.false_eq_true, List.length_cons, List.length_nil, Bool.not_true, Bool.not_false, S__law_draw, S__law_pick]
        split
        · rename_i c
          have c := of_decide_eq_true c
          try simp only [pMaxT, pSortT, str_to, str_ot, mPar3, mLockV, mLockE, mItemsC, mKeysC, mDGet2, pIsN, isNonP, pRepLM, mTruD, dkOfP, pPopAt, pIndex, mLstRgM, mTruth, pReprA, pLenD, pLstD, mDNew, pRepL, mLenSetN, mDIn, mSortSet, mSortSetL, mRevT, mForC, mSeqC, mLcC, pAbs, pMax2, pMin2, pInt1, mDGet, mDPut, mBM, mBM0, pPop, pAppend, pExtend, pSetL, mSub, mDisp, mPs, mPs0, mRevL, mRevLM, pLstOfM, mTupRg, mRg1, mRg2, pPlusM, lstItems, dictOfP, keyP, keysP, val_left, val_mixed, val_draws, put_draws, mLc, mLcM, mLc2, mFor, mSeqI, mRng1, mRng2, mZip, mEnum, mSl, mNoPart, mPart, mSeq, mAsg, mAsg2, mCB, mCons, mNil, mVar, mC, mOp, mUn, pU, mTup, mLst, mRet, mRetN, mLstM, getl, setl, mName, mCall, mCallK, mIf, mIfS, mTest, mAnd, mOr, mNot, mYes, mAndV, mOrV, mNotV, mNext, mNever, mBreak, mCont, mDrop, mChain, mPar, mGTup, mGCons, mGNil, pGcd, pI, pI0, pIx, pTimes, pPlus, pEq, pNe, pLen, pSum, pMaxS, pAll, pAny, pTupOf, pLstOf, pIn, pIsB, pIsi, items_tup, items_lst, items_kl, items_mr, items_tab, items_lot, items_fr, decide_true, decide_false, eqP_int, eqP_bl, eqP_str, eqP_tup2, kit_tt, kit_ii, kit_ib, tyP, mEnd, wipeP, List.map_cons, List.map_nil, List.getElem?_cons_zero, List.getElem?_cons_succ, List.set_cons_zero, List.set_cons_succ, atI_zero, atI_one, if_true, if_false, ite_true, ite_false, Bool.false_eq_true, List.length_cons, List.length_nil, Bool.not_true, Bool.not_false, S__law_draw, S__law_pick, (cl_get D4 pl).trans g3]
          have hal := ha (by omega) (by omega)
          refine ⟨by decide, trivial, _, [.int 30, .int 0, .int 29, .int 7], m, _, rfl, .inl rfl, D4, by decide, by decide, fun v hv μ6 D6 => ?_⟩
          obtain ⟨x, rfl, hx⟩ : ∃ x : Nat, v = .int (x : Nat) ∧ x ≤ 30 := by
            have hv : v = .int 30 ∨ v = .int 0 ∨ v = .int 29 ∨ v = .int 7 := by simpa using hv
            rcases hv with rfl | rfl | rfl | rfl
            · exact ⟨30, rfl, by decide⟩
            · exact ⟨0, rfl, by decide⟩
            · exact ⟨29, rfl, by decide⟩
            · exact ⟨7, rfl, by decide⟩
          simp only [pMaxT, pSortT, str_to, str_ot, mPar3, mLockV, mLockE, mItemsC, mKeysC, mDGet2, pIsN, isNonP, pRepLM, mTruD, dkOfP, pPopAt, pIndex, mLstRgM, mTruth, pReprA, pLenD, pLstD, mDNew, pRepL, mLenSetN, mDIn, mSortSet, mSortSetL, mRevT, mForC, mSeqC, mLcC, pAbs, pMax2, pMin2, pInt1, mDGet, mDPut, mBM, mBM0, pPop, pAppend, pExtend, pSetL, mSub, mDisp, mPs, mPs0, mRevL, mRevLM, pLstOfM, mTupRg, mRg1, mRg2, pPlusM, lstItems, dictOfP, keyP, keysP, val_left, val_mixed, val_draws, put_draws, mLc, mLcM, mLc2, mFor, mSeqI, mRng1, mRng2, mZip, mEnum, mSl, mNoPart, mPart, mSeq, mAsg, mAsg2, mCB, mCons, mNil, mVar, mC, mOp, mUn, pU, mTup, mLst, mRet, mRetN, mLstM, getl, setl, mName, mCall, mCallK, mIf, mIfS, mTest, mAnd, mOr, mNot, mYes, mAndV, mOrV, mNotV, mNext, mNever, mBreak, mCont, mDrop, mChain, mPar, mGTup, mGCons, mGNil, pGcd, pI, pI0, pIx, pTimes, pPlus, pEq, pNe, pLen, pSum, pMaxS, pAll, pAny, pTupOf, pLstOf, pIn, pIsB, pIsi, items_tup, items_lst, items_kl, items_mr, items_tab, items_lot, items_fr, decide_true, decide_false, eqP_int, eqP_bl, eqP_str, eqP_tup2, kit_tt, kit_ii, kit_ib, tyP, mEnd, wipeP, List.map_cons, List.map_nil, List.getElem?_cons_zero, List.getElem?_cons_succ, List.set_cons_zero, List.set_cons_succ, atI_zero, atI_one, if_true, if_false, ite_true, ite_false, Bool.false_eq_true, List.length_cons, List.length_nil, Bool.not_true, Bool.not_false, (cl_get D6 pl).trans g3, List.length_map, ixN_nat hal]
          rw [list_setN']
          have D7 := cl_set D6 pl (.lst ((ls.set a x).map fun (n : Nat) => PV.int n))
          have hpl := (List.getElem?_eq_some_iff.mp g3).1
          refine h5 (ls.set a x) _ pl _ _ _ (List.getElem?_set_self hpl) D7 ⟨fun z => hL.ne (List.length_eq_zero_iff.mp (by have := congrArg List.length z; rwa [List.length_set] at this)), by rw [List.length_set]; exact hL.len, fun n hn => ?_⟩ (fun _ _ => by rw [List.length_set]; exact hal)
          rcases List.mem_or_eq_of_mem_set hn with hn | rfl
          · exact hL.le n hn
          · exact hx
        · exact h5 ls G pl _ _ _ g3 D4 hL ha
      simp only [pMaxT, pSortT, str_to, str_ot, mPar3, mLockV, mLockE, mItemsC, mKeysC, mDGet2, pIsN, isNonP, pRepLM, mTruD, dkOfP, pPopAt, pIndex, mLstRgM, mTruth, pReprA, pLenD, pLstD, mDNew, pRepL, mLenSetN, mDIn, mSortSet, mSortSetL, mRevT, mForC, mSeqC, mLcC, pAbs, pMax2, pMin2, pInt1, mDGet, mDPut, mBM, mBM0, pPop, pAppend, pExtend, pSetL, mSub, mDisp, mPs, mPs0, mRevL, mRevLM, pLstOfM, mTupRg, mRg1, mRg2, pPlusM, lstItems, dictOfP, keyP, keysP, val_left, val_mixed, val_draws, put_draws, mLc, mLcM, mLc2, mFor, mSeqI, mRng1, mRng2, mZip, mEnum, mSl, mNoPart, mPart, mSeq, mAsg, mAsg2, mCB, mCons, mNil, mVar, mC, mOp, mUn, pU, mTup, mLst, mRet, mRetN, mLstM, getl, setl, mName, mCall, mCallK, mIf, mIfS, mTest, mAnd, mOr, mNot, mYes, mAndV, mOrV, mNotV, mNext, mNever, mBreak, mCont, mDrop, mChain, mPar, mGTup, mGCons, mGNil, pGcd, pI, pI0, pIx, pTimes, pPlus, pEq, pNe, pLen, pSum, pMaxS, pAll, pAny, pTupOf, pLstOf, pIn, pIsB, pIsi, items_tup, items_lst, items_kl, items_mr, items_tab, items_lot, items_fr, decide_true, decide_false, eqP_int, eqP_bl, eqP_str, eqP_tup2, kit_tt, kit_ii, kit_ib, tyP, mEnd, wipeP, List.map_cons, List.map_nil, List.getElem?_cons_zero, List.getElem?_cons_succ, List.set_cons_zero, List.set_cons_succ, atI_zero, atI_one, if_true, if_false, ite_true, ite_false, Bool.false_eq_true, List.length_cons, List.length_nil, Bool.not_true, Bool.not_false, S__law_draw, S__law_pick]
      split
      · rename_i c
        have c := of_decide_eq_true c
        try simp only [pMaxT, pSortT, str_to, str_ot, mPar3, mLockV, mLockE, mItemsC, mKeysC, mDGet2, pIsN, isNonP, pRepLM, mTruD, dkOfP, pPopAt, pIndex, mLstRgM, mTruth, pReprA, pLenD, pLstD, mDNew, pRepL, mLenSetN, mDIn, mSortSet, mSortSetL, mRevT, mForC, mSeqC, mLcC, pAbs, pMax2, pMin2, pInt1, mDGet, mDPut, mBM, mBM0, pPop, pAppend, pExtend, pSetL, mSub, mDisp, mPs, mPs0, mRevL, mRevLM, pLstOfM, mTupRg, mRg1, mRg2, pPlusM, lstItems, dictOfP, keyP, keysP, val_left, val_mixed, val_draws, put_draws, mLc, mLcM, mLc2, mFor, mSeqI, mRng1, mRng2, mZip, mEnum, mSl, mNoPart, mPart, mSeq, mAsg, mAsg2, mCB, mCons, mNil, mVar, mC, mOp, mUn, pU, mTup, mLst, mRet, mRetN, mLstM, getl, setl, mName, mCall, mCallK, mIf, mIfS, mTest, mAnd, mOr, mNot, mYes, mAndV, mOrV, mNotV, mNext, mNever, mBreak, mCont, mDrop, mChain, mPar, mGTup, mGCons, mGNil, pGcd, pI, pI0, pIx, pTimes, pPlus, pEq, pNe, pLen, pSum, pMaxS, pAll, pAny, pTupOf, pLstOf, pIn, pIsB, pIsi, items_tup, items_lst, items_kl, items_mr, items_tab, items_lot, items_fr, decide_true, decide_false, eqP_int, eqP_bl, eqP_str, eqP_tup2, kit_tt, kit_ii, kit_ib, tyP, mEnd, wipeP, List.map_cons, List.map_nil, List.getElem?_cons_zero, List.getElem?_cons_succ, List.set_cons_zero, List.set_cons_succ, atI_zero, atI_one, if_true, if_false, ite_true, ite_false, Bool.false_eq_true, List.length_cons, List.length_nil, Bool.not_true, Bool.not_false, S__law_draw, S__law_pick, (cl_get D4 pl).trans g3]
        refine ⟨trivial, 5, m, _, rfl, D4, by decide, by decide, fun v μ6 v0 v5 D6 => ⟨by decide, trivial, 8, m, _, rfl, D6, by decide, by decide, fun n μ7 n0 n8 D7 => ?_⟩⟩
        obtain ⟨k, rfl⟩ : ∃ k : Nat, n = (k : Int) := ⟨n.toNat, by omega⟩
        obtain ⟨x, rfl⟩ : ∃ x : Nat, v = (x : Int) := ⟨v.toNat, by omega⟩
        rw [show (1 + (k : Int)) = ((k + 1 : Nat) : Int) by omega, Int.toNat_natCast, flat_rep, cl_len D7]
        have D8 := cl_app D7 (.lst ((List.replicate (k + 1) x).map fun (n : Nat) => PV.int n))
        refine ⟨⟨by omega, by omega, by decide⟩, h4 (List.replicate (k + 1) x) _ G.length _ _ _ (getl _ _) D8 ⟨by simp [List.replicate_succ], by simp; omega, fun n hn => by rw [(List.mem_replicate.mp hn).2]; omega⟩ (fun _ z => absurd c z)⟩
      · exact h4 ls G pl _ _ _ g3 D4 hL ha
    simp only [pMaxT, pSortT, str_to, str_ot, mPar3, mLockV, mLockE, mItemsC, mKeysC, mDGet2, pIsN, isNonP, pRepLM, mTruD, dkOfP, pPopAt, pIndex, mLstRgM, mTruth, pReprA, pLenD, pLstD, mDNew, pRepL, mLenSetN, mDIn, mSortSet, mSortSetL, mRevT, mForC, mSeqC, mLcC, pAbs, pMax2, pMin2, pInt1, mDGet, mDPut, mBM, mBM0, pPop, pAppend, pExtend, pSetL, mSub, mDisp, mPs, mPs0, mRevL, mRevLM, pLstOfM, mTupRg, mRg1, mRg2, pPlusM, lstItems, dictOfP, keyP, keysP, val_left, val_mixed, val_draws, put_draws, mLc, mLcM, mLc2, mFor, mSeqI, mRng1, mRng2, mZip, mEnum, mSl, mNoPart, mPart, mSeq, mAsg, mAsg2, mCB, mCons, mNil, mVar, mC, mOp, mUn, pU, mTup, mLst, mRet, mRetN, mLstM, getl, setl, mName, mCall, mCallK, mIf, mIfS, mTest, mAnd, mOr, mNot, mYes, mAndV, mOrV, mNotV, mNext, mNever, mBreak, mCont, mDrop, mChain, mPar, mGTup, mGCons, mGNil, pGcd, pI, pI0, pIx, pTimes, pPlus, pEq, pNe, pLen, pSum, pMaxS, pAll, pAny, pTupOf, pLstOf, pIn, pIsB, pIsi, items_tup, items_lst, items_kl, items_mr, items_tab, items_lot, items_fr, decide_true, decide_false, eqP_int, eqP_bl, eqP_str, eqP_tup2, kit_tt, kit_ii, kit_ib, tyP, mEnd, wipeP, List.map_cons, List.map_nil, List.getElem?_cons_zero, List.getElem?_cons_succ, List.set_cons_zero, List.set_cons_succ, atI_zero, atI_one, if_true, if_false, ite_true, ite_false, Bool.false_eq_true, List.length_cons, List.length_nil, Bool.not_true, Bool.not_false, S__law_draw, S__law_pick]
    split
    · rename_i c
      have c := of_decide_eq_true c
      try simp only [pMaxT, pSortT, str_to, str_ot, mPar3, mLockV, mLockE, mItemsC, mKeysC, mDGet2, pIsN, isNonP, pRepLM, mTruD, dkOfP, pPopAt, pIndex, mLstRgM, mTruth, pReprA, pLenD, pLstD, mDNew, pRepL, mLenSetN, mDIn, mSortSet, mSortSetL, mRevT, mForC, mSeqC, mLcC, pAbs, pMax2, pMin2, pInt1, mDGet, mDPut, mBM, mBM0, pPop, pAppend, pExtend, pSetL, mSub, mDisp, mPs, mPs0, mRevL, mRevLM, pLstOfM, mTupRg, mRg1, mRg2, pPlusM, lstItems, dictOfP, keyP, keysP, val_left, val_mixed, val_draws, put_draws, mLc, mLcM, mLc2, mFor, mSeqI, mRng1, mRng2, mZip, mEnum, mSl, mNoPart, mPart, mSeq, mAsg, mAsg2, mCB, mCons, mNil, mVar, mC, mOp, mUn, pU, mTup, mLst, mRet, mRetN, mLstM, getl, setl, mName, mCall, mCallK, mIf, mIfS, mTest, mAnd, mOr, mNot, mYes, mAndV, mOrV, mNotV, mNext, mNever, mBreak, mCont, mDrop, mChain, mPar, mGTup, mGCons, mGNil, pGcd, pI, pI0, pIx, pTimes, pPlus, pEq, pNe, pLen, pSum, pMaxS, pAll, pAny, pTupOf, pLstOf, pIn, pIsB, pIsi, items_tup, items_lst, items_kl, items_mr, items_tab, items_lot, items_fr, decide_true, decide_false, eqP_int, eqP_bl, eqP_str, eqP_tup2, kit_tt, kit_ii, kit_ib, tyP, mEnd, wipeP, List.map_cons, List.map_nil, List.getElem?_cons_zero, List.getElem?_cons_succ, List.set_cons_zero, List.set_cons_succ, atI_zero, atI_one, if_true, if_false, ite_true, ite_false, Bool.false_eq_true, List.length_cons, List.length_nil, Bool.not_true, Bool.not_false, S__law_draw, S__law_pick, (cl_get D4 pl).trans g3]
      have hal := ha (by omega) (by omega)
      simp only [pMaxT, pSortT, str_to, str_ot, mPar3, mLockV, mLockE, mItemsC, mKeysC, mDGet2, pIsN, isNonP, pRepLM, mTruD, dkOfP, pPopAt, pIndex, mLstRgM, mTruth, pReprA, pLenD, pLstD, mDNew, pRepL, mLenSetN, mDIn, mSortSet, mSortSetL, mRevT, mForC, mSeqC, mLcC, pAbs, pMax2, pMin2, pInt1, mDGet, mDPut, mBM, mBM0, pPop, pAppend, pExtend, pSetL, mSub, mDisp, mPs, mPs0, mRevL, mRevLM, pLstOfM, mTupRg, mRg1, mRg2, pPlusM, lstItems, dictOfP, keyP, keysP, val_left, val_mixed, val_draws, put_draws, mLc, mLcM, mLc2, mFor, mSeqI, mRng1, mRng2, mZip, mEnum, mSl, mNoPart, mPart, mSeq, mAsg, mAsg2, mCB, mCons, mNil, mVar, mC, mOp, mUn, pU, mTup, mLst, mRet, mRetN, mLstM, getl, setl, mName, mCall, mCallK, mIf, mIfS, mTest, mAnd, mOr, mNot, mYes, mAndV, mOrV, mNotV, mNext, mNever, mBreak, mCont, mDrop, mChain, mPar, mGTup, mGCons, mGNil, pGcd, pI, pI0, pIx, pTimes, pPlus, pEq, pNe, pLen, pSum, pMaxS, pAll, pAny, pTupOf, pLstOf, pIn, pIsB, pIsi, items_tup, items_lst, items_kl, items_mr, items_tab, items_lot, items_fr, decide_true, decide_false, eqP_int, eqP_bl, eqP_str, eqP_tup2, kit_tt, kit_ii, kit_ib, tyP, mEnd, wipeP, List.map_cons, List.map_nil, List.getElem?_cons_zero, List.getElem?_cons_succ, List.set_cons_zero, List.set_cons_succ, atI_zero, atI_one, if_true, if_false, ite_true, ite_false, Bool.false_eq_true, List.length_cons, List.length_nil, Bool.not_true, Bool.not_false, atL hal, List.length_map, ixN_nat hal]
      rw [max_oneN, list_setN']
      have D5 := cl_set D4 pl (.lst ((ls.set a (ls.getD a 0 - 1)).map fun (n : Nat) => PV.int n))
      have hpl := (List.getElem?_eq_some_iff.mp g3).1
      refine h3 (ls.set a (ls.getD a 0 - 1)) _ pl _ _ _ (List.getElem?_set_self hpl) D5 ⟨fun z => hL.ne (List.length_eq_zero_iff.mp (by have := congrArg List.length z; rwa [List.length_set] at this)), by rw [List.length_set]; exact hL.len, fun n hn => ?_⟩ (fun _ _ => by rw [List.length_set]; exact hal)
      rcases List.mem_or_eq_of_mem_set hn with hn | rfl
      · exact hL.le n hn
      · have := hL.le _ (getD_memN hal); omega
    · exact h3 ls G pl _ _ _ g3 D4 hL ha
  simp only [pMaxT, pSortT, str_to, str_ot, mPar3, mLockV, mLockE, mItemsC, mKeysC, mDGet2, pIsN, isNonP, pRepLM, mTruD, dkOfP, pPopAt, pIndex, mLstRgM, mTruth, pReprA, pLenD, pLstD, mDNew, pRepL, mLenSetN, mDIn, mSortSet, mSortSetL, mRevT, mForC, mSeqC, mLcC, pAbs, pMax2, pMin2, pInt1, mDGet, mDPut, mBM, mBM0, pPop, pAppend, pExtend, pSetL, mSub, mDisp, mPs, mPs0, mRevL, mRevLM, pLstOfM, mTupRg, mRg1, mRg2, pPlusM, lstItems, dictOfP, keyP, keysP, val_left, val_mixed, val_draws, put_draws, mLc, mLcM, mLc2, mFor, mSeqI, mRng1, mRng2, mZip, mEnum, mSl, mNoPart, mPart, mSeq, mAsg, mAsg2, mCB, mCons, mNil, mVar, mC, mOp, mUn, pU, mTup, mLst, mRet, mRetN, mLstM, getl, setl, mName, mCall, mCallK, mIf, mIfS, mTest, mAnd, mOr, mNot, mYes, mAndV, mOrV, mNotV, mNext, mNever, mBreak, mCont, mDrop, mChain, mPar, mGTup, mGCons, mGNil, pGcd, pI, pI0, pIx, pTimes, pPlus, pEq, pNe, pLen, pSum, pMaxS, pAll, pAny, pTupOf, pLstOf, pIn, pIsB, pIsi, items_tup, items_lst, items_kl, items_mr, items_tab, items_lot, items_fr, decide_true, decide_false, eqP_int, eqP_bl, eqP_str, eqP_tup2, kit_tt, kit_ii, kit_ib, tyP, mEnd, wipeP, List.map_cons, List.map_nil, List.getElem?_cons_zero, List.getElem?_cons_succ, List.set_cons_zero, List.set_cons_succ, atI_zero, atI_one, if_true, if_false, ite_true, ite_false, Bool.false_eq_true, List.length_cons, List.length_nil, Bool.not_true, Bool.not_false, S__law_draw, S__law_pick]
  split
  · rename_i c
    have c := of_decide_eq_true c
    simp only [pMaxT, pSortT, str_to, str_ot, mPar3, mLockV, mLockE, mItemsC, mKeysC, mDGet2, pIsN, isNonP, pRepLM, mTruD, dkOfP, pPopAt, pIndex, mLstRgM, mTruth, pReprA, pLenD, pLstD, mDNew, pRepL, mLenSetN, mDIn, mSortSet, mSortSetL, mRevT, mForC, mSeqC, mLcC, pAbs, pMax2, pMin2, pInt1, mDGet, mDPut, mBM, mBM0, pPop, pAppend, pExtend, pSetL, mSub, mDisp, mPs, mPs0, mRevL, mRevLM, pLstOfM, mTupRg, mRg1, mRg2, pPlusM, lstItems, dictOfP, keyP, keysP, val_left, val_mixed, val_draws, put_draws, mLc, mLcM, mLc2, mFor, mSeqI, mRng1, mRng2, mZip, mEnum, mSl, mNoPart, mPart, mSeq, mAsg, mAsg2, mCB, mCons, mNil, mVar, mC, mOp, mUn, pU, mTup, mLst, mRet, mRetN, mLstM, getl, setl, mName, mCall, mCallK, mIf, mIfS, mTest, mAnd, mOr, mNot, mYes, mAndV, mOrV, mNotV, mNext, mNever, mBreak, mCont, mDrop, mChain, mPar, mGTup, mGCons, mGNil, pGcd, pI, pI0, pIx, pTimes, pPlus, pEq, pNe, pLen, pSum, pMaxS, pAll, pAny, pTupOf, pLstOf, pIn, pIsB, pIsi, items_tup, items_lst, items_kl, items_mr, items_tab, items_lot, items_fr, decide_true, decide_false, eqP_int, eqP_bl, eqP_str, eqP_tup2, kit_tt, kit_ii, kit_ib, tyP, mEnd, wipeP, List.map_cons, List.map_nil, List.getElem?_cons_zero, List.getElem?_cons_succ, List.set_cons_zero, List.set_cons_succ, atI_zero, atI_one, if_true, if_false, ite_true, ite_false, Bool.false_eq_true, List.length_cons, List.length_nil, Bool.not_true, Bool.not_false, S__law_draw, S__law_pick, (cl_get D4 g.length).trans g3]
    have hal := ha (by omega) (by omega)
    simp only [pMaxT, pSortT, str_to, str_ot, mPar3, mLockV, mLockE, mItemsC, mKeysC, mDGet2, pIsN, isNonP, pRepLM, mTruD, dkOfP, pPopAt, pIndex, mLstRgM, mTruth, pReprA, pLenD, pLstD, mDNew, pRepL, mLenSetN, mDIn, mSortSet, mSortSetL, mRevT, mForC, mSeqC, mLcC, pAbs, pMax2, pMin2, pInt1, mDGet, mDPut, mBM, mBM0, pPop, pAppend, pExtend, pSetL, mSub, mDisp, mPs, mPs0, mRevL, mRevLM, pLstOfM, mTupRg, mRg1, mRg2, pPlusM, lstItems, dictOfP, keyP, keysP, val_left, val_mixed, val_draws, put_draws, mLc, mLcM, mLc2, mFor, mSeqI, mRng1, mRng2, mZip, mEnum, mSl, mNoPart, mPart, mSeq, mAsg, mAsg2, mCB, mCons, mNil, mVar, mC, mOp, mUn, pU, mTup, mLst, mRet, mRetN, mLstM, getl, setl, mName, mCall, mCallK, mIf, mIfS, mTest, mAnd, mOr, mNot, mYes, mAndV, mOrV, mNotV, mNext, mNever, mBreak, mCont, mDrop, mChain, mPar, mGTup, mGCons, mGNil, pGcd, pI, pI0, pIx, pTimes, pPlus, pEq, pNe, pLen, pSum, pMaxS, pAll, pAny, pTupOf, pLstOf, pIn, pIsB, pIsi, items_tup, items_lst, items_kl, items_mr, items_tab, items_lot, items_fr, decide_true, decide_false, eqP_int, eqP_bl, eqP_str, eqP_tup2, kit_tt, kit_ii, kit_ib, tyP, mEnd, wipeP, List.map_cons, List.map_nil, List.getElem?_cons_zero, List.getElem?_cons_succ, List.set_cons_zero, List.set_cons_succ, atI_zero, atI_one, if_true, if_false, ite_true, ite_false, Bool.false_eq_true, List.length_cons, List.length_nil, Bool.not_true, Bool.not_false, atL hal, List.length_map, ixN_nat hal]
    rw [show ((ls.getD a 0 : Nat) : Int) + 1 = ((ls.getD a 0 + 1 : Nat) : Int) by omega, list_setN']
    have D5 := cl_set D4 g.length (.lst ((ls.set a (ls.getD a 0 + 1)).map fun (n : Nat) => PV.int n))
    have hpl := (List.getElem?_eq_some_iff.mp g3).1
    refine h2 (ls.set a (ls.getD a 0 + 1)) _ g.length _ _ _ (List.getElem?_set_self hpl) D5 ⟨fun z => hL.ne (List.length_eq_zero_iff.mp (by have := congrArg List.length z; rwa [List.length_set] at this)), by rw [List.length_set]; exact hL.len, fun n hn => ?_⟩ (fun _ _ => by rw [List.length_set]; exact hal)
    rcases List.mem_or_eq_of_mem_set hn with hn | rfl
    · exact hL.le n hn
    · have := hl9 _ (getD_memN hal); omega
  · exact h2 ls G g.length _ _ _ g3 D4 hL ha
abbrev N_first_words : List Str := ["lengths"]
theorem sc_first_words : FnScope N_first_words ["lengths"] (defScope s_first_words) := ⟨rfl, rfl, rfl, by decide +kernel, rfl, by decide +kernel, by decide +kernel⟩
theorem ok_first_words (B : Blt mg) (h_first_words : Own K mg "first_words" s_first_words) (k_are_integers : Ok P w K mg base 3 "are_integers" s_are_integers ["thing", "low", "high"] S_are_integers) (k_first_of : Ok P w K mg base 2 "first_of" s_first_of ["lengths"] S_first_of) {t_MOST_LENGTH : Tok} (c_MOST_LENGTH : mg "MOST_LENGTH" = some (.int 30 t_MOST_LENGTH)) {t_MOST_OUTCOMES : Tok} (c_MOST_OUTCOMES : mg "MOST_OUTCOMES" = some (.int 8 t_MOST_OUTCOMES)) : Ok P w K mg base 4 "first_words" s_first_words ["lengths"] S_first_words := by
  obtain ⟨f_s, fd_s, F_s, g_s⟩ := h_first_words
  obtain ⟨f_are_integers, fd_are_integers, F_are_integers, g_are_integers, b_are_integers, G_are_integers⟩ := k_are_integers
  obtain ⟨f_first_of, fd_first_of, F_first_of, g_first_of, b_first_of, G_first_of⟩ := k_first_of
  refine ⟨f_s, fd_s, F_s, g_s, F_s.binds (fun _ _ _ _ _ _ us hl => match us, hl with | [_], _ => rfl), FnG.of F_s sc_first_words (fun xs μ Q h => by first | exact h.1 | (obtain ⟨⟩ := h)) fun cdv A outer s H hr hgd => ⟨_, _, (pss_cons (ps_if (PW.pt (pw_or (pt_not (pt_val (pe_callG (G_are_integers.mono (by decide)) hr hgd (by rfl) g_are_integers F_are_integers.kp b_are_integers (pa_cons (pv 0) (pa_cons pe_int (pa_cons (pe_glob (v := .int 30) rfl c_MOST_LENGTH ⟨_, rfl⟩) pa_nil)))))) (pw_or1 (pt_not (pt_chain op_le op_le pe_int (pe_callB cb_len (by rfl) (B "len" (by decide)) (by decide +kernel) (pa_cons (pv 0) pa_nil)) (pe_glob (v := .int 8) rfl c_MOST_OUTCOMES ⟨_, rfl⟩))))))
 (pss_one ps_never)
 pss_nil)
 (pss_one (ps_ret (pe_callG (G_first_of.mono (by decide)) hr hgd (by rfl) g_first_of F_first_of.kp b_first_of (pa_cons (pv 0) pa_nil))))), (by (try dsimp only [cxOf]); exact inferInstance), ?_⟩⟩
  intro xs μ Q hS
  obtain ⟨_, ls, rfl, hL, hQ⟩ := hS
  rw [show startP N_first_words [lotP ls] = [some (lotP ls)] from rfl]
  simp only [pMaxT, pSortT, str_to, str_ot, mPar3, mLockV, mLockE, mItemsC, mKeysC, mDGet2, pIsN, isNonP, pRepLM, mTruD, dkOfP, pPopAt, pIndex, mLstRgM, mTruth, pReprA, pLenD, pLstD, mDNew, pRepL, mLenSetN, mDIn, mSortSet, mSortSetL, mRevT, mForC, mSeqC, mLcC, pAbs, pMax2, pMin2, pInt1, mDGet, mDPut, mBM, mBM0, pPop, pAppend, pExtend, pSetL, mSub, mDisp, mPs, mPs0, mRevL, mRevLM, pLstOfM, mTupRg, mRg1, mRg2, pPlusM, lstItems, dictOfP, keyP, keysP, val_left, val_mixed, val_draws, put_draws, mLc, mLcM, mLc2, mFor, mSeqI, mRng1, mRng2, mZip, mEnum, mSl, mNoPart, mPart, mSeq, mAsg, mAsg2, mCB, mCons, mNil, mVar, mC, mOp, mUn, pU, mTup, mLst, mRet, mRetN, mLstM, getl, setl, mName, mCall, mCallK, mIf, mIfS, mTest, mAnd, mOr, mNot, mYes, mAndV, mOrV, mNotV, mNext, mNever, mBreak, mCont, mDrop, mChain, mPar, mGTup, mGCons, mGNil, pGcd, pI, pI0, pIx, pTimes, pPlus, pEq, pNe, pLen, pSum, pMaxS, pAll, pAny, pTupOf, pLstOf, pIn, pIsB, pIsi, items_tup, items_lst, items_kl, items_mr, items_tab, items_lot, items_fr, decide_true, decide_false, eqP_int, eqP_bl, eqP_str, eqP_tup2, kit_tt, kit_ii, kit_ib, tyP, mEnd, wipeP, List.map_cons, List.map_nil, List.getElem?_cons_zero, List.getElem?_cons_succ, List.set_cons_zero, List.set_cons_succ, atI_zero, atI_one, if_true, if_false, ite_true, ite_false, Bool.false_eq_true, List.length_cons, List.length_nil, Bool.not_true, Bool.not_false, S_are_integers, S_first_of]
  have l8 := hL.len
  have l0 := List.length_pos_iff.mpr hL.ne
  refine ⟨trivial, zs ls, _, _, by rw [lot_ints], by rw [zs_length]; unfold lim; omega, ?_⟩
  have e1 : ((zs ls).all fun i => decide ((0 : Int) ≤ i) && decide (i ≤ 30)) = true := by
    rw [List.all_eq_true]
    intro i hi
    obtain ⟨n, hn, rfl⟩ := List.mem_map.mp hi
    have := hL.le n hn
    simp; omega
  rw [e1, if_neg (by decide), List.length_map, decide_eq_true (by omega), if_pos rfl, decide_eq_true (by omega), if_neg (by decide)]
  exact ⟨trivial, ls, rfl, hL, fin_keep hQ⟩
abbrev N_are_bits : List Str := ["thing"]
theorem sc_are_bits : FnScope N_are_bits ["thing"] (defScope s_are_bits) := ⟨rfl, rfl, rfl, by decide +kernel, rfl, by decide +kernel, by decide +kernel⟩
theorem ok_are_bits (B : Blt mg) (h_are_bits : Own K mg "are_bits" s_are_bits) (k_are_integers : Ok P w K mg base 3 "are_integers" s_are_integers ["thing", "low", "high"] S_are_integers) : Ok P w K mg base 4 "are_bits" s_are_bits ["thing"] S_are_bits := by
  obtain ⟨f_s, fd_s, F_s, g_s⟩ := h_are_bits
  obtain ⟨f_are_integers, fd_are_integers, F_are_integers, g_are_integers, b_are_integers, G_are_integers⟩ := k_are_integers
  refine ⟨f_s, fd_s, F_s, g_s, F_s.binds (fun _ _ _ _ _ _ us hl => match us, hl with | [_], _ => rfl), FnG.of F_s sc_are_bits (fun xs μ Q h => by first | exact h.1 | (obtain ⟨⟩ := h)) fun cdv A outer s H hr hgd => ⟨_, _, (pss_one (ps_ret (pe_callG (G_are_integers.mono (by decide)) hr hgd (by rfl) g_are_integers F_are_integers.kp b_are_integers (pa_cons (pv 0) (pa_cons pe_int (pa_cons pe_int pa_nil)))))), (by (try dsimp only [cxOf]); exact inferInstance), ?_⟩⟩
  intro xs μ Q hS
  obtain ⟨_, bs, rfl, hl, hQ⟩ := hS
  rw [show startP N_are_bits [lotP bs] = [some (lotP bs)] from rfl]
  simp only [pMaxT, pSortT, str_to, str_ot, mPar3, mLockV, mLockE, mItemsC, mKeysC, mDGet2, pIsN, isNonP, pRepLM, mTruD, dkOfP, pPopAt, pIndex, mLstRgM, mTruth, pReprA, pLenD, pLstD, mDNew, pRepL, mLenSetN, mDIn, mSortSet, mSortSetL, mRevT, mForC, mSeqC, mLcC, pAbs, pMax2, pMin2, pInt1, mDGet, mDPut, mBM, mBM0, pPop, pAppend, pExtend, pSetL, mSub, mDisp, mPs, mPs0, mRevL, mRevLM, pLstOfM, mTupRg, mRg1, mRg2, pPlusM, lstItems, dictOfP, keyP, keysP, val_left, val_mixed, val_draws, put_draws, mLc, mLcM, mLc2, mFor, mSeqI, mRng1, mRng2, mZip, mEnum, mSl, mNoPart, mPart, mSeq, mAsg, mAsg2, mCB, mCons, mNil, mVar, mC, mOp, mUn, pU, mTup, mLst, mRet, mRetN, mLstM, getl, setl, mName, mCall, mCallK, mIf, mIfS, mTest, mAnd, mOr, mNot, mYes, mAndV, mOrV, mNotV, mNext, mNever, mBreak, mCont, mDrop, mChain, mPar, mGTup, mGCons, mGNil, pGcd, pI, pI0, pIx, pTimes, pPlus, pEq, pNe, pLen, pSum, pMaxS, pAll, pAny, pTupOf, pLstOf, pIn, pIsB, pIsi, items_tup, items_lst, items_kl, items_mr, items_tab, items_lot, items_fr, decide_true, decide_false, eqP_int, eqP_bl, eqP_str, eqP_tup2, kit_tt, kit_ii, kit_ib, tyP, mEnd, wipeP, List.map_cons, List.map_nil, List.getElem?_cons_zero, List.getElem?_cons_succ, List.set_cons_zero, List.set_cons_succ, atI_zero, atI_one, if_true, if_false, ite_true, ite_false, Bool.false_eq_true, List.length_cons, List.length_nil, Bool.not_true, Bool.not_false, S_are_integers]
  refine ⟨trivial, zs bs, 0, 1, by rw [lot_ints], by rw [zs_length]; unfold lim; omega, ?_⟩
  rw [bits_all]
  exact fin_keep hQ
abbrev N_are_words : List Str := ["thing", "word", "i"]
theorem sc_are_words : FnScope N_are_words ["thing"] (defScope s_are_words) := ⟨rfl, rfl, rfl, by decide +kernel, rfl, by decide +kernel, by decide +kernel⟩
theorem ok_are_words (B : Blt mg) (h_are_words : Own K mg "are_words" s_are_words) (k_is_begun : Ok P w K mg base 1 "is_begun" s_is_begun ["words", "i"] S_is_begun) (k_are_bits : Ok P w K mg base 4 "are_bits" s_are_bits ["thing"] S_are_bits) {t_MOST_OUTCOMES : Tok} (c_MOST_OUTCOMES : mg "MOST_OUTCOMES" = some (.int 8 t_MOST_OUTCOMES)) : Ok P w K mg base 5 "are_words" s_are_words ["thing"] S_are_words := by
  obtain ⟨f_s, fd_s, F_s, g_s⟩ := h_are_words
  obtain ⟨f_is_begun, fd_is_begun, F_is_begun, g_is_begun, b_is_begun, G_is_begun⟩ := k_is_begun
  obtain ⟨f_are_bits, fd_are_bits, F_are_bits, g_are_bits, b_are_bits, G_are_bits⟩ := k_are_bits
  refine ⟨f_s, fd_s, F_s, g_s, F_s.binds (fun _ _ _ _ _ _ us hl => match us, hl with | [_], _ => rfl), FnG.of F_s sc_are_words (fun xs μ Q h => by first | exact h.1 | (obtain ⟨⟩ := h)) fun cdv A outer s H hr hgd => ⟨_, _, (pss_cons (ps_if (PW.pt (pw_or (pt_not (pt_val (pe_callB call_isi (by rfl) (B "isinstance" (by decide)) (by decide +kernel) (pa_cons (pv 0) (pa_cons (pe_bltn (v := .ty "tuple") (u := .type "tuple") (by rfl) (B "tuple" (by decide)) (by decide +kernel) rfl) pa_nil))))) (pw_or1 (pt_not (pt_chain op_le op_le pe_int (pe_callB cb_len (by rfl) (B "len" (by decide)) (by decide +kernel) (pa_cons (pv 0) pa_nil)) (pe_glob (v := .int 8) rfl c_MOST_OUTCOMES ⟨_, rfl⟩))))))
 (pss_one (ps_ret pe_bl))
 pss_nil)
 (pss_one (ps_ret (pe_and (pe_callB (cr_all rfl) (by rfl) (B "all" (by decide)) (by decide +kernel) (pa_cons (pe_lc (own := [("word", 1)]) (by rfl) sc_are_words.nd (pi_seq (pv 0)) (blkOk_by (own := [("word", 1)]) (N := N_are_words) (sc := defScope s_are_words) (by decide +kernel)) (fun _ _ _ _ _ => (pg_name (i := 1) sc_are_words.nd rfl (Or.inl rfl))) (fun _ _ _ _ _ => pts_nil) (fun _ _ _ _ _ => (pek_call K rfl (G_are_bits.mono (by decide)) hr hgd (by rfl) g_are_bits F_are_bits.kp b_are_bits (pa_cons (pv 1) pa_nil)))) pa_nil)) (pe_one (pe_not (pe_callB (cr_any rfl) (by rfl) (B "any" (by decide)) (by decide +kernel) (pa_cons (pe_lc (own := [("i", 2)]) (by rfl) sc_are_words.nd (pi_range1 (by rfl) (B "range" (by decide)) (pa_cons (pe_callB cb_len (by rfl) (B "len" (by decide)) (by decide +kernel) (pa_cons (pv 0) pa_nil)) pa_nil)) (blkOk_by (own := [("i", 2)]) (N := N_are_words) (sc := defScope s_are_words) (by decide +kernel)) (fun _ _ _ _ _ => (pg_name (i := 2) sc_are_words.nd rfl (Or.inl rfl))) (fun _ _ _ _ _ => pts_nil) (fun _ _ _ _ _ => (pek_call K rfl (G_is_begun.mono (by decide)) hr hgd (by rfl) g_is_begun F_is_begun.kp b_is_begun (pa_cons (pv 0) (pa_cons (pv 2) pa_nil))))) pa_nil)))))))), (by (try dsimp only [cxOf]); exact inferInstance), ?_⟩⟩
  intro xs μ Q hS
  obtain ⟨_, ws, rfl, hW, hQ⟩ := hS
  rw [show startP N_are_words [wsP ws] = [some (wsP ws), none, none] from rfl]
  simp only [pMaxT, pSortT, str_to, str_ot, mPar3, mLockV, mLockE, mItemsC, mKeysC, mDGet2, pIsN, isNonP, pRepLM, mTruD, dkOfP, pPopAt, pIndex, mLstRgM, mTruth, pReprA, pLenD, pLstD, mDNew, pRepL, mLenSetN, mDIn, mSortSet, mSortSetL, mRevT, mForC, mSeqC, mLcC, pAbs, pMax2, pMin2, pInt1, mDGet, mDPut, mBM, mBM0, pPop, pAppend, pExtend, pSetL, mSub, mDisp, mPs, mPs0, mRevL, mRevLM, pLstOfM, mTupRg, mRg1, mRg2, pPlusM, lstItems, dictOfP, keyP, keysP, val_left, val_mixed, val_draws, put_draws, mLc, mLcM, mLc2, mFor, mSeqI, mRng1, mRng2, mZip, mEnum, mSl, mNoPart, mPart, mSeq, mAsg, mAsg2, mCB, mCons, mNil, mVar, mC, mOp, mUn, pU, mTup, mLst, mRet, mRetN, mLstM, getl, setl, mName, mCall, mCallK, mIf, mIfS, mTest, mAnd, mOr, mNot, mYes, mAndV, mOrV, mNotV, mNext, mNever, mBreak, mCont, mDrop, mChain, mPar, mGTup, mGCons, mGNil, pGcd, pI, pI0, pIx, pTimes, pPlus, pEq, pNe, pLen, pSum, pMaxS, pAll, pAny, pTupOf, pLstOf, pIn, pIsB, pIsi, items_tup, items_lst, items_kl, items_mr, items_tab, items_lot, items_fr, decide_true, decide_false, eqP_int, eqP_bl, eqP_str, eqP_tup2, kit_tt, kit_ii, kit_ib, tyP, mEnd, wipeP, List.map_cons, List.map_nil, List.getElem?_cons_zero, List.getElem?_cons_succ, List.set_cons_zero, List.set_cons_succ, atI_zero, atI_one, if_true, if_false, ite_true, ite_false, Bool.false_eq_true, List.length_cons, List.length_nil, Bool.not_true, Bool.not_false, wsP]
  have l8 := hW.len
  have l0 := List.length_pos_iff.mpr hW.ne
  simp only [List.length_map]
  rw [decide_eq_true (by omega), if_pos rfl, decide_eq_true (by omega), if_neg (by decide)]
  refine ⟨by decide, by unfold lim; omega, lc_map (enc := lotP) (out := fun _ => .bl true) (fun w hw k hk => ?_) ?_⟩
  · simp only [pMaxT, pSortT, str_to, str_ot, mPar3, mLockV, mLockE, mItemsC, mKeysC, mDGet2, pIsN, isNonP, pRepLM, mTruD, dkOfP, pPopAt, pIndex, mLstRgM, mTruth, pReprA, pLenD, pLstD, mDNew, pRepL, mLenSetN, mDIn, mSortSet, mSortSetL, mRevT, mForC, mSeqC, mLcC, pAbs, pMax2, pMin2, pInt1, mDGet, mDPut, mBM, mBM0, pPop, pAppend, pExtend, pSetL, mSub, mDisp, mPs, mPs0, mRevL, mRevLM, pLstOfM, mTupRg, mRg1, mRg2, pPlusM, lstItems, dictOfP, keyP, keysP, val_left, val_mixed, val_draws, put_draws, mLc, mLcM, mLc2, mFor, mSeqI, mRng1, mRng2, mZip, mEnum, mSl, mNoPart, mPart, mSeq, mAsg, mAsg2, mCB, mCons, mNil, mVar, mC, mOp, mUn, pU, mTup, mLst, mRet, mRetN, mLstM, getl, setl, mName, mCall, mCallK, mIf, mIfS, mTest, mAnd, mOr, mNot, mYes, mAndV, mOrV, mNotV, mNext, mNever, mBreak, mCont, mDrop, mChain, mPar, mGTup, mGCons, mGNil, pGcd, pI, pI0, pIx, pTimes, pPlus, pEq, pNe, pLen, pSum, pMaxS, pAll, pAny, pTupOf, pLstOf, pIn, pIsB, pIsi, items_tup, items_lst, items_kl, items_mr, items_tab, items_lot, items_fr, decide_true, decide_false, eqP_int, eqP_bl, eqP_str, eqP_tup2, kit_tt, kit_ii, kit_ib, tyP, mEnd, wipeP, List.map_cons, List.map_nil, List.getElem?_cons_zero, List.getElem?_cons_succ, List.set_cons_zero, List.set_cons_succ, atI_zero, atI_one, if_true, if_false, ite_true, ite_false, Bool.false_eq_true, List.length_cons, List.length_nil, Bool.not_true, Bool.not_false, S_are_bits]
    have hall : w.all (· < 2) = true := by simpa using hW.bit w hw
    have := hW.sz w hw
    exact ⟨trivial, w, rfl, by omega, by rw [hall]; exact hk⟩
  · simp only [all_true, all_id, if_true]
    rw [Int.toNat_natCast, rangeP_eq]
    refine ⟨by decide, ⟨by omega, by omega⟩, by rw [List.length_map, List.length_range]; unfold lim; omega, lc_map (enc := fun (i : Nat) => PV.int i) (out := fun _ => .bl false) (fun i hi k hk => ?_) ?_⟩
    · simp only [pMaxT, pSortT, str_to, str_ot, mPar3, mLockV, mLockE, mItemsC, mKeysC, mDGet2, pIsN, isNonP, pRepLM, mTruD, dkOfP, pPopAt, pIndex, mLstRgM, mTruth, pReprA, pLenD, pLstD, mDNew, pRepL, mLenSetN, mDIn, mSortSet, mSortSetL, mRevT, mForC, mSeqC, mLcC, pAbs, pMax2, pMin2, pInt1, mDGet, mDPut, mBM, mBM0, pPop, pAppend, pExtend, pSetL, mSub, mDisp, mPs, mPs0, mRevL, mRevLM, pLstOfM, mTupRg, mRg1, mRg2, pPlusM, lstItems, dictOfP, keyP, keysP, val_left, val_mixed, val_draws, put_draws, mLc, mLcM, mLc2, mFor, mSeqI, mRng1, mRng2, mZip, mEnum, mSl, mNoPart, mPart, mSeq, mAsg, mAsg2, mCB, mCons, mNil, mVar, mC, mOp, mUn, pU, mTup, mLst, mRet, mRetN, mLstM, getl, setl, mName, mCall, mCallK, mIf, mIfS, mTest, mAnd, mOr, mNot, mYes, mAndV, mOrV, mNotV, mNext, mNever, mBreak, mCont, mDrop, mChain, mPar, mGTup, mGCons, mGNil, pGcd, pI, pI0, pIx, pTimes, pPlus, pEq, pNe, pLen, pSum, pMaxS, pAll, pAny, pTupOf, pLstOf, pIn, pIsB, pIsi, items_tup, items_lst, items_kl, items_mr, items_tab, items_lot, items_fr, decide_true, decide_false, eqP_int, eqP_bl, eqP_str, eqP_tup2, kit_tt, kit_ii, kit_ib, tyP, mEnd, wipeP, List.map_cons, List.map_nil, List.getElem?_cons_zero, List.getElem?_cons_succ, List.set_cons_zero, List.set_cons_succ, atI_zero, atI_one, if_true, if_false, ite_true, ite_false, Bool.false_eq_true, List.length_cons, List.length_nil, Bool.not_true, Bool.not_false, S_is_begun]
      exact ⟨trivial, ws, i, rfl, List.mem_range.mp hi, by omega, hW.pf, hk⟩
    · rw [bools_out (List.range ws.length) fun _ => false]
      simp only [any_out]
      rw [show (List.range ws.length).any (fun _ => false) = false by simp]
      exact fin_keep hQ
abbrev N_check_words : List Str := ["words"]
theorem sc_check_words : FnScope N_check_words ["words"] (defScope s_check_words) := ⟨rfl, rfl, rfl, by decide +kernel, rfl, by decide +kernel, by decide +kernel⟩
theorem ok_check_words (B : Blt mg) (h_check_words : Own K mg "check_words" s_check_words) (k_are_words : Ok P w K mg base 5 "are_words" s_are_words ["thing"] S_are_words) : Ok P w K mg base 6 "check_words" s_check_words ["words"] S_check_words := by
  obtain ⟨f_s, fd_s, F_s, g_s⟩ := h_check_words
  obtain ⟨f_are_words, fd_are_words, F_are_words, g_are_words, b_are_words, G_are_words⟩ := k_are_words
  refine ⟨f_s, fd_s, F_s, g_s, F_s.binds (fun _ _ _ _ _ _ us hl => match us, hl with | [_], _ => rfl), FnG.of F_s sc_check_words (fun xs μ Q h => by first | exact h.1 | (obtain ⟨⟩ := h)) fun cdv A outer s H hr hgd => ⟨_, _, (pss_one (ps_if (pt_not (pt_val (pe_callG (G_are_words.mono (by decide)) hr hgd (by rfl) g_are_words F_are_words.kp b_are_words (pa_cons (pv 0) pa_nil))))
 (pss_one ps_never)
 pss_nil)), (by (try dsimp only [cxOf]); exact inferInstance), ?_⟩⟩
  intro xs μ Q hS
  obtain ⟨_, ws, rfl, hW, hQ⟩ := hS
  rw [show startP N_check_words [wsP ws] = [some (wsP ws)] from rfl]
  simp only [pMaxT, pSortT, str_to, str_ot, mPar3, mLockV, mLockE, mItemsC, mKeysC, mDGet2, pIsN, isNonP, pRepLM, mTruD, dkOfP, pPopAt, pIndex, mLstRgM, mTruth, pReprA, pLenD, pLstD, mDNew, pRepL, mLenSetN, mDIn, mSortSet, mSortSetL, mRevT, mForC, mSeqC, mLcC, pAbs, pMax2, pMin2, pInt1, mDGet, mDPut, mBM, mBM0, pPop, pAppend, pExtend, pSetL, mSub, mDisp, mPs, mPs0, mRevL, mRevLM, pLstOfM, mTupRg, mRg1, mRg2, pPlusM, lstItems, dictOfP, keyP, keysP, val_left, val_mixed, val_draws, put_draws, mLc, mLcM, mLc2, mFor, mSeqI, mRng1, mRng2, mZip, mEnum, mSl, mNoPart, mPart, mSeq, mAsg, mAsg2, mCB, mCons, mNil, mVar, mC, mOp, mUn, pU, mTup, mLst, mRet, mRetN, mLstM, getl, setl, mName, mCall, mCallK, mIf, mIfS, mTest, mAnd, mOr, mNot, mYes, mAndV, mOrV, mNotV, mNext, mNever, mBreak, mCont, mDrop, mChain, mPar, mGTup, mGCons, mGNil, pGcd, pI, pI0, pIx, pTimes, pPlus, pEq, pNe, pLen, pSum, pMaxS, pAll, pAny, pTupOf, pLstOf, pIn, pIsB, pIsi, items_tup, items_lst, items_kl, items_mr, items_tab, items_lot, items_fr, decide_true, decide_false, eqP_int, eqP_bl, eqP_str, eqP_tup2, kit_tt, kit_ii, kit_ib, tyP, mEnd, wipeP, List.map_cons, List.map_nil, List.getElem?_cons_zero, List.getElem?_cons_succ, List.set_cons_zero, List.set_cons_succ, atI_zero, atI_one, if_true, if_false, ite_true, ite_false, Bool.false_eq_true, List.length_cons, List.length_nil, Bool.not_true, Bool.not_false, S_are_words]
  exact ⟨trivial, ws, rfl, hW, fin_keep hQ⟩
abbrev N_are_full : List Str := ["words", "longest", "word"]
theorem sc_are_full : FnScope N_are_full ["words"] (defScope s_are_full) := ⟨rfl, rfl, rfl, by decide +kernel, rfl, by decide +kernel, by decide +kernel⟩
theorem ok_are_full (B : Blt mg) (h_are_full : Own K mg "are_full" s_are_full) (k_check_words : Ok P w K mg base 6 "check_words" s_check_words ["words"] S_check_words) : Ok P w K mg base 7 "are_full" s_are_full ["words"] S_are_full := by
  obtain ⟨f_s, fd_s, F_s, g_s⟩ := h_are_full
  obtain ⟨f_check_words, fd_check_words, F_check_words, g_check_words, b_check_words, G_check_words⟩ := k_check_words
  refine ⟨f_s, fd_s, F_s, g_s, F_s.binds (fun _ _ _ _ _ _ us hl => match us, hl with | [_], _ => rfl), FnG.of F_s sc_are_full (fun xs μ Q h => by first | exact h.1 | (obtain ⟨⟩ := h)) fun cdv A outer s H hr hgd => ⟨_, _, (pss_cons (ps_expr (pe_callG (G_check_words.mono (by decide)) hr hgd (by rfl) g_check_words F_check_words.kp b_check_words (pa_cons (pv 0) pa_nil)))
 (pss_cons (ps_set (i := 1) sc_are_full.nd rfl (Or.inr rfl) (pe_callB (cb_maxS rfl hr.units) (by rfl) (B "max" (by decide)) (by decide +kernel) (pa_cons (pe_lc (own := [("word", 2)]) (by rfl) sc_are_full.nd (pi_seq (pv 0)) (blkOk_by (own := [("word", 2)]) (N := N_are_full) (sc := defScope s_are_full) (by decide +kernel)) (fun _ _ _ _ _ => (pg_name (i := 2) sc_are_full.nd rfl (Or.inl rfl))) (fun _ _ _ _ _ => pts_nil) (fun _ _ _ _ _ => (pe_callB (ck_len K rfl) (by rfl) (B "len" (by decide)) (by decide +kernel) (pa_cons (pv 2) pa_nil)))) pa_nil)))
 (pss_one (ps_ret (pe_cmpR (op_eqX hr.units) (pe_callB (cr_sum rfl) (by rfl) (B "sum" (by decide)) (by decide +kernel) (pa_cons (pe_lc (own := [("word", 2)]) (by rfl) sc_are_full.nd (pi_seq (pv 0)) (blkOk_by (own := [("word", 2)]) (N := N_are_full) (sc := defScope s_are_full) (by decide +kernel)) (fun _ _ _ _ _ => (pg_name (i := 2) sc_are_full.nd rfl (Or.inl rfl))) (fun _ _ _ _ _ => pts_nil) (fun _ _ _ _ _ => (pe_op op_shlW pe_int (pe_op op_sub (pv 1) (pe_callB (ck_len K rfl) (by rfl) (B "len" (by decide)) (by decide +kernel) (pa_cons (pv 2) pa_nil)))))) pa_nil)) (pe_op op_shlW pe_int (pv 1)) (nomark _)))))), (by (try dsimp only [cxOf]); exact inferInstance), ?_⟩⟩
  intro xs μ Q hS
  obtain ⟨_, ws, rfl, hW, hQ⟩ := hS
  rw [show startP N_are_full [wsP ws] = [some (wsP ws), none, none] from rfl]
  simp only [pMaxT, pSortT, str_to, str_ot, mPar3, mLockV, mLockE, mItemsC, mKeysC, mDGet2, pIsN, isNonP, pRepLM, mTruD, dkOfP, pPopAt, pIndex, mLstRgM, mTruth, pReprA, pLenD, pLstD, mDNew, pRepL, mLenSetN, mDIn, mSortSet, mSortSetL, mRevT, mForC, mSeqC, mLcC, pAbs, pMax2, pMin2, pInt1, mDGet, mDPut, mBM, mBM0, pPop, pAppend, pExtend, pSetL, mSub, mDisp, mPs, mPs0, mRevL, mRevLM, pLstOfM, mTupRg, mRg1, mRg2, pPlusM, lstItems, dictOfP, keyP, keysP, val_left, val_mixed, val_draws, put_draws, mLc, mLcM, mLc2, mFor, mSeqI, mRng1, mRng2, mZip, mEnum, mSl, mNoPart, mPart, mSeq, mAsg, mAsg2, mCB, mCons, mNil, mVar, mC, mOp, mUn, pU, mTup, mLst, mRet, mRetN, mLstM, getl, setl, mName, mCall, mCallK, mIf, mIfS, mTest, mAnd, mOr, mNot, mYes, mAndV, mOrV, mNotV, mNext, mNever, mBreak, mCont, mDrop, mChain, mPar, mGTup, mGCons, mGNil, pGcd, pI, pI0, pIx, pTimes, pPlus, pEq, pNe, pLen, pSum, pMaxS, pAll, pAny, pTupOf, pLstOf, pIn, pIsB, pIsi, items_tup, items_lst, items_kl, items_mr, items_tab, items_lot, items_fr, decide_true, decide_false, eqP_int, eqP_bl, eqP_str, eqP_tup2, kit_tt, kit_ii, kit_ib, tyP, mEnd, wipeP, List.map_cons, List.map_nil, List.getElem?_cons_zero, List.getElem?_cons_succ, List.set_cons_zero, List.set_cons_succ, atI_zero, atI_one, if_true, if_false, ite_true, ite_false, Bool.false_eq_true, List.length_cons, List.length_nil, Bool.not_true, Bool.not_false, S_check_words]
  refine ⟨trivial, ws, rfl, hW, ?_⟩
  have l8 := hW.len
  have l0 := List.length_pos_iff.mpr hW.ne
  simp only [pMaxT, pSortT, str_to, str_ot, mPar3, mLockV, mLockE, mItemsC, mKeysC, mDGet2, pIsN, isNonP, pRepLM, mTruD, dkOfP, pPopAt, pIndex, mLstRgM, mTruth, pReprA, pLenD, pLstD, mDNew, pRepL, mLenSetN, mDIn, mSortSet, mSortSetL, mRevT, mForC, mSeqC, mLcC, pAbs, pMax2, pMin2, pInt1, mDGet, mDPut, mBM, mBM0, pPop, pAppend, pExtend, pSetL, mSub, mDisp, mPs, mPs0, mRevL, mRevLM, pLstOfM, mTupRg, mRg1, mRg2, pPlusM, lstItems, dictOfP, keyP, keysP, val_left, val_mixed, val_draws, put_draws, mLc, mLcM, mLc2, mFor, mSeqI, mRng1, mRng2, mZip, mEnum, mSl, mNoPart, mPart, mSeq, mAsg, mAsg2, mCB, mCons, mNil, mVar, mC, mOp, mUn, pU, mTup, mLst, mRet, mRetN, mLstM, getl, setl, mName, mCall, mCallK, mIf, mIfS, mTest, mAnd, mOr, mNot, mYes, mAndV, mOrV, mNotV, mNext, mNever, mBreak, mCont, mDrop, mChain, mPar, mGTup, mGCons, mGNil, pGcd, pI, pI0, pIx, pTimes, pPlus, pEq, pNe, pLen, pSum, pMaxS, pAll, pAny, pTupOf, pLstOf, pIn, pIsB, pIsi, items_tup, items_lst, items_kl, items_mr, items_tab, items_lot, items_fr, decide_true, decide_false, eqP_int, eqP_bl, eqP_str, eqP_tup2, kit_tt, kit_ii, kit_ib, tyP, mEnd, wipeP, List.map_cons, List.map_nil, List.getElem?_cons_zero, List.getElem?_cons_succ, List.set_cons_zero, List.set_cons_succ, atI_zero, atI_one, if_true, if_false, ite_true, ite_false, Bool.false_eq_true, List.length_cons, List.length_nil, Bool.not_true, Bool.not_false, wsP]
  refine ⟨by decide, by rw [List.length_map]; unfold lim; omega, lc_map (enc := lotP) (out := fun w => .int (w.length : Nat)) (fun w hw k hk => ?_) ?_⟩
  · simp only [pMaxT, pSortT, str_to, str_ot, mPar3, mLockV, mLockE, mItemsC, mKeysC, mDGet2, pIsN, isNonP, pRepLM, mTruD, dkOfP, pPopAt, pIndex, mLstRgM, mTruth, pReprA, pLenD, pLstD, mDNew, pRepL, mLenSetN, mDIn, mSortSet, mSortSetL, mRevT, mForC, mSeqC, mLcC, pAbs, pMax2, pMin2, pInt1, mDGet, mDPut, mBM, mBM0, pPop, pAppend, pExtend, pSetL, mSub, mDisp, mPs, mPs0, mRevL, mRevLM, pLstOfM, mTupRg, mRg1, mRg2, pPlusM, lstItems, dictOfP, keyP, keysP, val_left, val_mixed, val_draws, put_draws, mLc, mLcM, mLc2, mFor, mSeqI, mRng1, mRng2, mZip, mEnum, mSl, mNoPart, mPart, mSeq, mAsg, mAsg2, mCB, mCons, mNil, mVar, mC, mOp, mUn, pU, mTup, mLst, mRet, mRetN, mLstM, getl, setl, mName, mCall, mCallK, mIf, mIfS, mTest, mAnd, mOr, mNot, mYes, mAndV, mOrV, mNotV, mNext, mNever, mBreak, mCont, mDrop, mChain, mPar, mGTup, mGCons, mGNil, pGcd, pI, pI0, pIx, pTimes, pPlus, pEq, pNe, pLen, pSum, pMaxS, pAll, pAny, pTupOf, pLstOf, pIn, pIsB, pIsi, items_tup, items_lst, items_kl, items_mr, items_tab, items_lot, items_fr, decide_true, decide_false, eqP_int, eqP_bl, eqP_str, eqP_tup2, kit_tt, kit_ii, kit_ib, tyP, mEnd, wipeP, List.map_cons, List.map_nil, List.getElem?_cons_zero, List.getElem?_cons_succ, List.set_cons_zero, List.set_cons_succ, atI_zero, atI_one, if_true, if_false, ite_true, ite_false, Bool.false_eq_true, List.length_cons, List.length_nil, Bool.not_true, Bool.not_false, lotP, List.length_map]
    exact hk
  · rw [ints_out ws fun w => ((w.length : Nat) : Int)]
    simp only [max_lens hW.ne]
    have hmx : mxl ws ≤ 30 := maxN_le fun n hn => by obtain ⟨w, hw, rfl⟩ := List.mem_map.mp hn; exact hW.sz w hw
    refine ⟨by simpa using hW.ne, by decide, by rw [List.length_map]; unfold lim; omega, lc_map (enc := lotP) (out := fun w => .int ((2 ^ (mxl ws - w.length) : Nat) : Int)) (fun w hw k hk => ?_) ?_⟩
    · simp only [pMaxT, pSortT, str_to, str_ot, mPar3, mLockV, mLockE, mItemsC, mKeysC, mDGet2, pIsN, isNonP, pRepLM, mTruD, dkOfP, pPopAt, pIndex, mLstRgM, mTruth, pReprA, pLenD, pLstD, mDNew, pRepL, mLenSetN, mDIn, mSortSet, mSortSetL, mRevT, mForC, mSeqC, mLcC, pAbs, pMax2, pMin2, pInt1, mDGet, mDPut, mBM, mBM0, pPop, pAppend, pExtend, pSetL, mSub, mDisp, mPs, mPs0, mRevL, mRevLM, pLstOfM, mTupRg, mRg1, mRg2, pPlusM, lstItems, dictOfP, keyP, keysP, val_left, val_mixed, val_draws, put_draws, mLc, mLcM, mLc2, mFor, mSeqI, mRng1, mRng2, mZip, mEnum, mSl, mNoPart, mPart, mSeq, mAsg, mAsg2, mCB, mCons, mNil, mVar, mC, mOp, mUn, pU, mTup, mLst, mRet, mRetN, mLstM, getl, setl, mName, mCall, mCallK, mIf, mIfS, mTest, mAnd, mOr, mNot, mYes, mAndV, mOrV, mNotV, mNext, mNever, mBreak, mCont, mDrop, mChain, mPar, mGTup, mGCons, mGNil, pGcd, pI, pI0, pIx, pTimes, pPlus, pEq, pNe, pLen, pSum, pMaxS, pAll, pAny, pTupOf, pLstOf, pIn, pIsB, pIsi, items_tup, items_lst, items_kl, items_mr, items_tab, items_lot, items_fr, decide_true, decide_false, eqP_int, eqP_bl, eqP_str, eqP_tup2, kit_tt, kit_ii, kit_ib, tyP, mEnd, wipeP, List.map_cons, List.map_nil, List.getElem?_cons_zero, List.getElem?_cons_succ, List.set_cons_zero, List.set_cons_succ, atI_zero, atI_one, if_true, if_false, ite_true, ite_false, Bool.false_eq_true, List.length_cons, List.length_nil, Bool.not_true, Bool.not_false, lotP, List.length_map]
      have := le_mxl w hw
      rw [show ((mxl ws : Nat) : Int) - ((w.length : Nat) : Int) = ((mxl ws - w.length : Nat) : Int) by omega, shl1w]
      exact ⟨shl_ok (n := 1) (by decide) (by omega), hk⟩
    · rw [ints_out ws fun w => ((2 ^ (mxl ws - w.length) : Nat) : Int)]
      simp only [shl1w]
      refine ⟨shl_ok (n := 1) (by decide) (by omega), ?_⟩
      rw [sum_cast]
      have e : decide ((((ws.map fun w => 2 ^ (mxl ws - w.length)).sum : Nat) : Int) = ((2 ^ mxl ws : Nat) : Int)) = decide (kr (mxl ws) ws = 2 ^ mxl ws) := decide_eq_decide.mpr ⟨fun h => by have := Int.ofNat_inj.mp h; exact this, fun h => by rw [← h]; rfl⟩
      rw [e]
      exact fin_keep hQ
abbrev N__law_is_first_right : List Str := ["_law_deck_here", "_law_lengths_here", "_law_due", "_law_many", "_law_at", "_law_lesser", "_law_told", "_law_length"]
theorem sc__law_is_first_right : FnScope N__law_is_first_right ["_law_deck_here", "_law_lengths_here"] (defScope s__law_is_first_right) := ⟨rfl, rfl, rfl, by decide +kernel, rfl, by decide +kernel, by decide +kernel⟩
theorem ok__law_is_first_right (B : Blt mg) (h__law_is_first_right : Own K mg "_law_is_first_right" s__law_is_first_right) (k__law_first : Ok P w K mg base 1 "_law_first" s__law_first ["_law_lengths_here"] S__law_first) (k_first_words : Ok P w K mg base 4 "first_words" s_first_words ["lengths"] S_first_words) (k_are_full : Ok P w K mg base 7 "are_full" s_are_full ["words"] S_are_full) (k_are_words : Ok P w K mg base 5 "are_words" s_are_words ["thing"] S_are_words) (k__law_draw : Ok P w K mg base 1 "_law_draw" s__law_draw ["_law_deck_here", "_law_below"] S__law_draw) : Ok P w K mg base 8 "_law_is_first_right" s__law_is_first_right ["_law_deck_here", "_law_lengths_here"] S__law_is_first_right := by
  obtain ⟨f_s, fd_s, F_s, g_s⟩ := h__law_is_first_right
  obtain ⟨f__law_first, fd__law_first, F__law_first, g__law_first, b__law_first, G__law_first⟩ := k__law_first
  obtain ⟨f_first_words, fd_first_words, F_first_words, g_first_words, b_first_words, G_first_words⟩ := k_first_words
  obtain ⟨f_are_full, fd_are_full, F_are_full, g_are_full, b_are_full, G_are_full⟩ := k_are_full
  obtain ⟨f_are_words, fd_are_words, F_are_words, g_are_words, b_are_words, G_are_words⟩ := k_are_words
  obtain ⟨f__law_draw, fd__law_draw, F__law_draw, g__law_draw, b__law_draw, G__law_draw⟩ := k__law_draw
  have kb_first_words_lengths : KBs fd_first_words ["lengths"] ["lengths"] 0 [0] := kbs_mk F_first_words fun _ _ _ _ _ _ us ws hu hw => match us, ws, hu, hw with | [], [_], _, _ => rfl
  refine ⟨f_s, fd_s, F_s, g_s, F_s.binds (fun _ _ _ _ _ _ us hl => match us, hl with | [_, _], _ => rfl), FnG.of F_s sc__law_is_first_right (fun xs μ Q h => by first | exact h.1 | (obtain ⟨⟩ := h)) fun cdv A outer s H hr hgd => ⟨_, _, (pss_cons (ps_set (i := 2) sc__law_is_first_right.nd rfl (Or.inl rfl) (pe_callG (G__law_first.mono (by decide)) hr hgd (by rfl) g__law_first F__law_first.kp b__law_first (pa_cons (pv 1) pa_nil)))
 (pss_cons (ps_if (pt_cmpR (op_neX hr.units) (pe_callB (cb_reprA hgd hr.units) (by rfl) (B "repr" (by decide)) (by decide +kernel) (pa_cons (pe_lst (pa_cons (pe_callG (G_first_words.mono (by decide)) hr hgd (by rfl) g_first_words F_first_words.kp b_first_words (pa_cons (pv 1) pa_nil)) (pa_cons (pe_callK0G (G_first_words.mono (by decide)) hr hgd (by rfl) g_first_words F_first_words.kp kb_first_words_lengths (pk_cons (pv 1) pk_nil)) pa_nil))) pa_nil)) (pe_callB (cb_reprA hgd hr.units) (by rfl) (B "repr" (by decide)) (by decide +kernel) (pa_cons (pe_op op_repL (pe_lst (pa_cons (pv 2) pa_nil)) pe_int) pa_nil)) (nomark _))
 (pss_one (ps_ret pe_bl))
 pss_nil)
 (pss_cons (ps_set (i := 3) sc__law_is_first_right.nd rfl (Or.inl rfl) (pe_callB (cr_sum rfl) (by rfl) (B "sum" (by decide)) (by decide +kernel) (pa_cons (pe_lc (own := [("_law_length", 7)]) (by rfl) sc__law_is_first_right.nd (pi_seq (pv 1)) (blkOk_by (own := [("_law_length", 7)]) (N := N__law_is_first_right) (sc := defScope s__law_is_first_right) (by decide +kernel)) (fun _ _ _ _ _ => (pg_name (i := 7) sc__law_is_first_right.nd rfl (Or.inl rfl))) (fun _ _ _ _ _ => pts_nil) (fun _ _ _ _ _ => (pe_op op_shlW pe_int (pe_op op_sub pe_int (pv 7))))) pa_nil)))
 (pss_cons (ps_if (pt_cmpR (op_neX hr.units) (pe_cmpR op_isNn (pv 2) pe_non (nomark _)) (pe_cmpR op_gt (pv 3) (pe_op op_shlW pe_int pe_int) (nomark _)) (nomark _))
 (pss_one (ps_ret pe_bl))
 pss_nil)
 (pss_cons (ps_if (pt_cmpR op_isNn (pv 2) pe_non (nomark _))
 (pss_one (ps_ret pe_bl))
 pss_nil)
 (pss_cons (ps_if (PW.pt (pw_or (pt_cmpR op_notBl (pe_callG (G_are_words.mono (by decide)) hr hgd (by rfl) g_are_words F_are_words.kp b_are_words (pa_cons (pv 2) pa_nil)) pe_bl (nomark _)) (pw_or1 (pt_cmpR (op_neX hr.units) (pe_callB (cb_reprA hgd hr.units) (by rfl) (B "repr" (by decide)) (by decide +kernel) (pa_cons (pe_callG (G_are_full.mono (by decide)) hr hgd (by rfl) g_are_full F_are_full.kp b_are_full (pa_cons (pv 2) pa_nil)) pa_nil)) (pe_callB (cb_reprA hgd hr.units) (by rfl) (B "repr" (by decide)) (by decide +kernel) (pa_cons (pe_cmpR (op_eqX hr.units) (pv 3) (pe_op op_shlW pe_int pe_int) (nomark _)) pa_nil)) (nomark _)))))
 (pss_one (ps_ret pe_bl))
 pss_nil)
 (pss_cons (ps_set (i := 4) sc__law_is_first_right.nd rfl (Or.inl rfl) (pe_callG (G__law_draw.mono (by decide)) hr hgd (by rfl) g__law_draw F__law_draw.kp b__law_draw (pa_cons (pv 0) (pa_cons (pe_callB cb_len (by rfl) (B "len" (by decide)) (by decide +kernel) (pa_cons (pv 1) pa_nil)) pa_nil))))
 (pss_cons (ps_if (pt_cmpR (op_eqX hr.units) (pe_ix ix_seq (pv 1) (pv 4) (fun _ _ => rfl)) pe_int (nomark _))
 (pss_one (ps_ret (pe_cmpR (op_eqX hr.units) (pv 1) (pe_tup (pa_cons pe_int pa_nil)) (nomark _))))
 pss_nil)
 (pss_cons (ps_set (i := 5) sc__law_is_first_right.nd rfl (Or.inl rfl) (pe_op op_plus (pe_op op_plus (pe_slice sl_any (pv 1) po_none (po_some (pv 4))) (pe_tup (pa_cons (pe_op op_sub (pe_ix ix_seq (pv 1) (pv 4) (fun _ _ => rfl)) pe_int) pa_nil))) (pe_slice sl_any (pv 1) (po_some (pe_op op_plus (pv 4) pe_int)) po_none)))
 (pss_cons (ps_set (i := 6) sc__law_is_first_right.nd rfl (Or.inl rfl) (pe_callG (G_first_words.mono (by decide)) hr hgd (by rfl) g_first_words F_first_words.kp b_first_words (pa_cons (pv 5) pa_nil)))
 (pss_one (ps_ret (pe_and (pe_cmpR (op_eqX hr.units) (pe_callB (cb_reprA hgd hr.units) (by rfl) (B "repr" (by decide)) (by decide +kernel) (pa_cons (pv 6) pa_nil)) (pe_callB (cb_reprA hgd hr.units) (by rfl) (B "repr" (by decide)) (by decide +kernel) (pa_cons (pe_callG (G__law_first.mono (by decide)) hr hgd (by rfl) g__law_first F__law_first.kp b__law_first (pa_cons (pv 5) pa_nil)) pa_nil)) (nomark _)) (pe_one (pe_cmpR (op_neX hr.units) (pv 6) (pv 2) (nomark _)))))))))))))))), (by (try dsimp only [cxOf]); exact inferInstance), ?_⟩⟩
  intro xs μ Q hS
  obtain ⟨_, ls, m, rest, rfl, hL, hD, hQ⟩ := hS
  rw [show startP N__law_is_first_right [.mr 1, lotP ls] = [some (.mr 1), some (lotP ls), none, none, none, none, none, none] from rfl]
  refine stm_of fun R hR => ?_
  simp only [pMaxT, pSortT, str_to, str_ot, mPar3, mLockV, mLockE, mItemsC, mKeysC, mDGet2, pIsN, isNonP, pRepLM, mTruD, dkOfP, pPopAt, pIndex, mLstRgM, mTruth, pReprA, pLenD, pLstD, mDNew, pRepL, mLenSetN, mDIn, mSortSet, mSortSetL, mRevT, mForC, mSeqC, mLcC, pAbs, pMax2, pMin2, pInt1, mDGet, mDPut, mBM, mBM0, pPop, pAppend, pExtend, pSetL, mSub, mDisp, mPs, mPs0, mRevL, mRevLM, pLstOfM, mTupRg, mRg1, mRg2, pPlusM, lstItems, dictOfP, keyP, keysP, val_left, val_mixed, val_draws, put_draws, mLc, mLcM, mLc2, mFor, mSeqI, mRng1, mRng2, mZip, mEnum, mSl, mNoPart, mPart, mSeq, mAsg, mAsg2, mCB, mCons, mNil, mVar, mC, mOp, mUn, pU, mTup, mLst, mRet, mRetN, mLstM, getl, setl, mName, mCall, mCallK, mIf, mIfS, mTest, mAnd, mOr, mNot, mYes, mAndV, mOrV, mNotV, mNext, mNever, mBreak, mCont, mDrop, mChain, mPar, mGTup, mGCons, mGNil, pGcd, pI, pI0, pIx, pTimes, pPlus, pEq, pNe, pLen, pSum, pMaxS, pAll, pAny, pTupOf, pLstOf, pIn, pIsB, pIsi, items_tup, items_lst, items_kl, items_mr, items_tab, items_lot, items_fr, decide_true, decide_false, eqP_int, eqP_bl, eqP_str, eqP_tup2, kit_tt, kit_ii, kit_ib, tyP, mEnd, wipeP, List.map_cons, List.map_nil, List.getElem?_cons_zero, List.getElem?_cons_succ, List.set_cons_zero, List.set_cons_succ, atI_zero, atI_one, if_true, if_false, ite_true, ite_false, Bool.false_eq_true, List.length_cons, List.length_nil, Bool.not_true, Bool.not_false, S__law_first]
  refine ⟨trivial, ls, rfl, hL, ?_⟩
  subst hR
  refine stm_of fun R1 hR1 => ?_
  simp only [pMaxT, pSortT, str_to, str_ot, mPar3, mLockV, mLockE, mItemsC, mKeysC, mDGet2, pIsN, isNonP, pRepLM, mTruD, dkOfP, pPopAt, pIndex, mLstRgM, mTruth, pReprA, pLenD, pLstD, mDNew, pRepL, mLenSetN, mDIn, mSortSet, mSortSetL, mRevT, mForC, mSeqC, mLcC, pAbs, pMax2, pMin2, pInt1, mDGet, mDPut, mBM, mBM0, pPop, pAppend, pExtend, pSetL, mSub, mDisp, mPs, mPs0, mRevL, mRevLM, pLstOfM, mTupRg, mRg1, mRg2, pPlusM, lstItems, dictOfP, keyP, keysP, val_left, val_mixed, val_draws, put_draws, mLc, mLcM, mLc2, mFor, mSeqI, mRng1, mRng2, mZip, mEnum, mSl, mNoPart, mPart, mSeq, mAsg, mAsg2, mCB, mCons, mNil, mVar, mC, mOp, mUn, pU, mTup, mLst, mRet, mRetN, mLstM, getl, setl, mName, mCall, mCallK, mIf, mIfS, mTest, mAnd, mOr, mNot, mYes, mAndV, mOrV, mNotV, mNext, mNever, mBreak, mCont, mDrop, mChain, mPar, mGTup, mGCons, mGNil, pGcd, pI, pI0, pIx, pTimes, pPlus, pEq, pNe, pLen, pSum, pMaxS, pAll, pAny, pTupOf, pLstOf, pIn, pIsB, pIsi, items_tup, items_lst, items_kl, items_mr, items_tab, items_lot, items_fr, decide_true, decide_false, eqP_int, eqP_bl, eqP_str, eqP_tup2, kit_tt, kit_ii, kit_ib, tyP, mEnd, wipeP, List.map_cons, List.map_nil, List.getElem?_cons_zero, List.getElem?_cons_succ, List.set_cons_zero, List.set_cons_succ, atI_zero, atI_one, if_true, if_false, ite_true, ite_false, Bool.false_eq_true, List.length_cons, List.length_nil, Bool.not_true, Bool.not_false, S_first_words]
  refine ⟨trivial, ls, rfl, hL, trivial, rfl, ls, rfl, hL, by decide, pRepr_fw2 hL ⟨by decide, by decide, pRepr_fw2 hL ?_⟩⟩
  simp only [pMaxT, pSortT, str_to, str_ot, mPar3, mLockV, mLockE, mItemsC, mKeysC, mDGet2, pIsN, isNonP, pRepLM, mTruD, dkOfP, pPopAt, pIndex, mLstRgM, mTruth, pReprA, pLenD, pLstD, mDNew, pRepL, mLenSetN, mDIn, mSortSet, mSortSetL, mRevT, mForC, mSeqC, mLcC, pAbs, pMax2, pMin2, pInt1, mDGet, mDPut, mBM, mBM0, pPop, pAppend, pExtend, pSetL, mSub, mDisp, mPs, mPs0, mRevL, mRevLM, pLstOfM, mTupRg, mRg1, mRg2, pPlusM, lstItems, dictOfP, keyP, keysP, val_left, val_mixed, val_draws, put_draws, mLc, mLcM, mLc2, mFor, mSeqI, mRng1, mRng2, mZip, mEnum, mSl, mNoPart, mPart, mSeq, mAsg, mAsg2, mCB, mCons, mNil, mVar, mC, mOp, mUn, pU, mTup, mLst, mRet, mRetN, mLstM, getl, setl, mName, mCall, mCallK, mIf, mIfS, mTest, mAnd, mOr, mNot, mYes, mAndV, mOrV, mNotV, mNext, mNever, mBreak, mCont, mDrop, mChain, mPar, mGTup, mGCons, mGNil, pGcd, pI, pI0, pIx, pTimes, pPlus, pEq, pNe, pLen, pSum, pMaxS, pAll, pAny, pTupOf, pLstOf, pIn, pIsB, pIsi, items_tup, items_lst, items_kl, items_mr, items_tab, items_lot, items_fr, decide_true, decide_false, eqP_int, eqP_bl, eqP_str, eqP_tup2, kit_tt, kit_ii, kit_ib, tyP, mEnd, wipeP, List.map_cons, List.map_nil, List.getElem?_cons_zero, List.getElem?_cons_succ, List.set_cons_zero, List.set_cons_succ, atI_zero, atI_one, if_true, if_false, ite_true, ite_false, Bool.false_eq_true, List.length_cons, List.length_nil, Bool.not_true, Bool.not_false, eqP_str]
  subst hR1
  refine stm_of fun R2 hR2 => ?_
  simp only [pMaxT, pSortT, str_to, str_ot, mPar3, mLockV, mLockE, mItemsC, mKeysC, mDGet2, pIsN, isNonP, pRepLM, mTruD, dkOfP, pPopAt, pIndex, mLstRgM, mTruth, pReprA, pLenD, pLstD, mDNew, pRepL, mLenSetN, mDIn, mSortSet, mSortSetL, mRevT, mForC, mSeqC, mLcC, pAbs, pMax2, pMin2, pInt1, mDGet, mDPut, mBM, mBM0, pPop, pAppend, pExtend, pSetL, mSub, mDisp, mPs, mPs0, mRevL, mRevLM, pLstOfM, mTupRg, mRg1, mRg2, pPlusM, lstItems, dictOfP, keyP, keysP, val_left, val_mixed, val_draws, put_draws, mLc, mLcM, mLc2, mFor, mSeqI, mRng1, mRng2, mZip, mEnum, mSl, mNoPart, mPart, mSeq, mAsg, mAsg2, mCB, mCons, mNil, mVar, mC, mOp, mUn, pU, mTup, mLst, mRet, mRetN, mLstM, getl, setl, mName, mCall, mCallK, mIf, mIfS, mTest, mAnd, mOr, mNot, mYes, mAndV, mOrV, mNotV, mNext, mNever, mBreak, mCont, mDrop, mChain, mPar, mGTup, mGCons, mGNil, pGcd, pI, pI0, pIx, pTimes, pPlus, pEq, pNe, pLen, pSum, pMaxS, pAll, pAny, pTupOf, pLstOf, pIn, pIsB, pIsi, items_tup, items_lst, items_kl, items_mr, items_tab, items_lot, items_fr, decide_true, decide_false, eqP_int, eqP_bl, eqP_str, eqP_tup2, kit_tt, kit_ii, kit_ib, tyP, mEnd, wipeP, List.map_cons, List.map_nil, List.getElem?_cons_zero, List.getElem?_cons_succ, List.set_cons_zero, List.set_cons_succ, atI_zero, atI_one, if_true, if_false, ite_true, ite_false, Bool.false_eq_true, List.length_cons, List.length_nil, Bool.not_true, Bool.not_false]
  simp only [pMaxT, pSortT, str_to, str_ot, mPar3, mLockV, mLockE, mItemsC, mKeysC, mDGet2, pIsN, isNonP, pRepLM, mTruD, dkOfP, pPopAt, pIndex, mLstRgM, mTruth, pReprA, pLenD, pLstD, mDNew, pRepL, mLenSetN, mDIn, mSortSet, mSortSetL, mRevT, mForC, mSeqC, mLcC, pAbs, pMax2, pMin2, pInt1, mDGet, mDPut, mBM, mBM0, pPop, pAppend, pExtend, pSetL, mSub, mDisp, mPs, mPs0, mRevL, mRevLM, pLstOfM, mTupRg, mRg1, mRg2, pPlusM, lstItems, dictOfP, keyP, keysP, val_left, val_mixed, val_draws, put_draws, mLc, mLcM, mLc2, mFor, mSeqI, mRng1, mRng2, mZip, mEnum, mSl, mNoPart, mPart, mSeq, mAsg, mAsg2, mCB, mCons, mNil, mVar, mC, mOp, mUn, pU, mTup, mLst, mRet, mRetN, mLstM, getl, setl, mName, mCall, mCallK, mIf, mIfS, mTest, mAnd, mOr, mNot, mYes, mAndV, mOrV, mNotV, mNext, mNever, mBreak, mCont, mDrop, mChain, mPar, mGTup, mGCons, mGNil, pGcd, pI, pI0, pIx, pTimes, pPlus, pEq, pNe, pLen, pSum, pMaxS, pAll, pAny, pTupOf, pLstOf, pIn, pIsB, pIsi, items_tup, items_lst, items_kl, items_mr, items_tab, items_lot, items_fr, decide_true, decide_false, eqP_int, eqP_bl, eqP_str, eqP_tup2, kit_tt, kit_ii, kit_ib, tyP, mEnd, wipeP, List.map_cons, List.map_nil, List.getElem?_cons_zero, List.getElem?_cons_succ, List.set_cons_zero, List.set_cons_succ, atI_zero, atI_one, if_true, if_false, ite_true, ite_false, Bool.false_eq_true, List.length_cons, List.length_nil, Bool.not_true, Bool.not_false, lotP]
  refine ⟨by decide, by rw [List.length_map]; have := hL.len; unfold lim; omega, lc_map (enc := fun (n : Nat) => PV.int n) (out := fun n => .int ((2 ^ (30 - n) : Nat) : Int)) (fun n hn k hk => ?_) ?_⟩
  · simp only [pMaxT, pSortT, str_to, str_ot, mPar3, mLockV, mLockE, mItemsC, mKeysC, mDGet2, pIsN, isNonP, pRepLM, mTruD, dkOfP, pPopAt, pIndex, mLstRgM, mTruth, pReprA, pLenD, pLstD, mDNew, pRepL, mLenSetN, mDIn, mSortSet, mSortSetL, mRevT, mForC, mSeqC, mLcC, pAbs, pMax2, pMin2, pInt1, mDGet, mDPut, mBM, mBM0, pPop, pAppend, pExtend, pSetL, mSub, mDisp, mPs, mPs0, mRevL, mRevLM, pLstOfM, mTupRg, mRg1, mRg2, pPlusM, lstItems, dictOfP, keyP, keysP, val_left, val_mixed, val_draws, put_draws, mLc, mLcM, mLc2, mFor, mSeqI, mRng1, mRng2, mZip, mEnum, mSl, mNoPart, mPart, mSeq, mAsg, mAsg2, mCB, mCons, mNil, mVar, mC, mOp, mUn, pU, mTup, mLst, mRet, mRetN, mLstM, getl, setl, mName, mCall, mCallK, mIf, mIfS, mTest, mAnd, mOr, mNot, mYes, mAndV, mOrV, mNotV, mNext, mNever, mBreak, mCont, mDrop, mChain, mPar, mGTup, mGCons, mGNil, pGcd, pI, pI0, pIx, pTimes, pPlus, pEq, pNe, pLen, pSum, pMaxS, pAll, pAny, pTupOf, pLstOf, pIn, pIsB, pIsi, items_tup, items_lst, items_kl, items_mr, items_tab, items_lot, items_fr, decide_true, decide_false, eqP_int, eqP_bl, eqP_str, eqP_tup2, kit_tt, kit_ii, kit_ib, tyP, mEnd, wipeP, List.map_cons, List.map_nil, List.getElem?_cons_zero, List.getElem?_cons_succ, List.set_cons_zero, List.set_cons_succ, atI_zero, atI_one, if_true, if_false, ite_true, ite_false, Bool.false_eq_true, List.length_cons, List.length_nil, Bool.not_true, Bool.not_false]
    have := hL.le n hn
    have e1 : (30 : Int) - (n : Int) = ((30 - n : Nat) : Int) := by omega
    rw [e1, shl1w]
    exact ⟨shl_ok (n := 1) (by decide) (by omega), hk⟩
  rw [ints_out ls fun n => ((2 ^ (30 - n) : Nat) : Int)]
  simp only [pMaxT, pSortT, str_to, str_ot, mPar3, mLockV, mLockE, mItemsC, mKeysC, mDGet2, pIsN, isNonP, pRepLM, mTruD, dkOfP, pPopAt, pIndex, mLstRgM, mTruth, pReprA, pLenD, pLstD, mDNew, pRepL, mLenSetN, mDIn, mSortSet, mSortSetL, mRevT, mForC, mSeqC, mLcC, pAbs, pMax2, pMin2, pInt1, mDGet, mDPut, mBM, mBM0, pPop, pAppend, pExtend, pSetL, mSub, mDisp, mPs, mPs0, mRevL, mRevLM, pLstOfM, mTupRg, mRg1, mRg2, pPlusM, lstItems, dictOfP, keyP, keysP, val_left, val_mixed, val_draws, put_draws, mLc, mLcM, mLc2, mFor, mSeqI, mRng1, mRng2, mZip, mEnum, mSl, mNoPart, mPart, mSeq, mAsg, mAsg2, mCB, mCons, mNil, mVar, mC, mOp, mUn, pU, mTup, mLst, mRet, mRetN, mLstM, getl, setl, mName, mCall, mCallK, mIf, mIfS, mTest, mAnd, mOr, mNot, mYes, mAndV, mOrV, mNotV, mNext, mNever, mBreak, mCont, mDrop, mChain, mPar, mGTup, mGCons, mGNil, pGcd, pI, pI0, pIx, pTimes, pPlus, pEq, pNe, pLen, pSum, pMaxS, pAll, pAny, pTupOf, pLstOf, pIn, pIsB, pIsi, items_tup, items_lst, items_kl, items_mr, items_tab, items_lot, items_fr, decide_true, decide_false, eqP_int, eqP_bl, eqP_str, eqP_tup2, kit_tt, kit_ii, kit_ib, tyP, mEnd, wipeP, List.map_cons, List.map_nil, List.getElem?_cons_zero, List.getElem?_cons_succ, List.set_cons_zero, List.set_cons_succ, atI_zero, atI_one, if_true, if_false, ite_true, ite_false, Bool.false_eq_true, List.length_cons, List.length_nil, Bool.not_true, Bool.not_false]
  rw [sum_cast, ← wsum_lps]
  subst hR2
  refine stm_of fun R3 hR3 => ?_
  simp only [pMaxT, pSortT, str_to, str_ot, mPar3, mLockV, mLockE, mItemsC, mKeysC, mDGet2, pIsN, isNonP, pRepLM, mTruD, dkOfP, pPopAt, pIndex, mLstRgM, mTruth, pReprA, pLenD, pLstD, mDNew, pRepL, mLenSetN, mDIn, mSortSet, mSortSetL, mRevT, mForC, mSeqC, mLcC, pAbs, pMax2, pMin2, pInt1, mDGet, mDPut, mBM, mBM0, pPop, pAppend, pExtend, pSetL, mSub, mDisp, mPs, mPs0, mRevL, mRevLM, pLstOfM, mTupRg, mRg1, mRg2, pPlusM, lstItems, dictOfP, keyP, keysP, val_left, val_mixed, val_draws, put_draws, mLc, mLcM, mLc2, mFor, mSeqI, mRng1, mRng2, mZip, mEnum, mSl, mNoPart, mPart, mSeq, mAsg, mAsg2, mCB, mCons, mNil, mVar, mC, mOp, mUn, pU, mTup, mLst, mRet, mRetN, mLstM, getl, setl, mName, mCall, mCallK, mIf, mIfS, mTest, mAnd, mOr, mNot, mYes, mAndV, mOrV, mNotV, mNext, mNever, mBreak, mCont, mDrop, mChain, mPar, mGTup, mGCons, mGNil, pGcd, pI, pI0, pIx, pTimes, pPlus, pEq, pNe, pLen, pSum, pMaxS, pAll, pAny, pTupOf, pLstOf, pIn, pIsB, pIsi, items_tup, items_lst, items_kl, items_mr, items_tab, items_lot, items_fr, decide_true, decide_false, eqP_int, eqP_bl, eqP_str, eqP_tup2, kit_tt, kit_ii, kit_ib, tyP, mEnd, wipeP, List.map_cons, List.map_nil, List.getElem?_cons_zero, List.getElem?_cons_succ, List.set_cons_zero, List.set_cons_succ, atI_zero, atI_one, if_true, if_false, ite_true, ite_false, Bool.false_eq_true, List.length_cons, List.length_nil, Bool.not_true, Bool.not_false, isNon_fw, -isNonP]
  have e30 : (1 : Int) * 2 ^ Int.toNat 30 = ((2 ^ 30 : Nat) : Int) := by decide
  rw [e30]
  have e31 : decide (((2 ^ 30 : Nat) : Int) < ((wsum (lps ls) : Nat) : Int)) = decide (2 ^ 30 < wsum (lps ls)) := decide_eq_decide.mpr (by omega)
  rw [e31, decide_eq_true rfl, if_neg (by decide)]
  refine ⟨shl_ok (n := 1) (i := 1) (j := 30) (by decide) (by decide), ?_⟩
  subst hR3
  refine stm_of fun R4 hR4 => ?_
  simp only [pMaxT, pSortT, str_to, str_ot, mPar3, mLockV, mLockE, mItemsC, mKeysC, mDGet2, pIsN, isNonP, pRepLM, mTruD, dkOfP, pPopAt, pIndex, mLstRgM, mTruth, pReprA, pLenD, pLstD, mDNew, pRepL, mLenSetN, mDIn, mSortSet, mSortSetL, mRevT, mForC, mSeqC, mLcC, pAbs, pMax2, pMin2, pInt1, mDGet, mDPut, mBM, mBM0, pPop, pAppend, pExtend, pSetL, mSub, mDisp, mPs, mPs0, mRevL, mRevLM, pLstOfM, mTupRg, mRg1, mRg2, pPlusM, lstItems, dictOfP, keyP, keysP, val_left, val_mixed, val_draws, put_draws, mLc, mLcM, mLc2, mFor, mSeqI, mRng1, mRng2, mZip, mEnum, mSl, mNoPart, mPart, mSeq, mAsg, mAsg2, mCB, mCons, mNil, mVar, mC, mOp, mUn, pU, mTup, mLst, mRet, mRetN, mLstM, getl, setl, mName, mCall, mCallK, mIf, mIfS, mTest, mAnd, mOr, mNot, mYes, mAndV, mOrV, mNotV, mNext, mNever, mBreak, mCont, mDrop, mChain, mPar, mGTup, mGCons, mGNil, pGcd, pI, pI0, pIx, pTimes, pPlus, pEq, pNe, pLen, pSum, pMaxS, pAll, pAny, pTupOf, pLstOf, pIn, pIsB, pIsi, items_tup, items_lst, items_kl, items_mr, items_tab, items_lot, items_fr, decide_true, decide_false, eqP_int, eqP_bl, eqP_str, eqP_tup2, kit_tt, kit_ii, kit_ib, tyP, mEnd, wipeP, List.map_cons, List.map_nil, List.getElem?_cons_zero, List.getElem?_cons_succ, List.set_cons_zero, List.set_cons_succ, atI_zero, atI_one, if_true, if_false, ite_true, ite_false, Bool.false_eq_true, List.length_cons, List.length_nil, Bool.not_true, Bool.not_false, isNon_fw, -isNonP]
  by_cases cf : 2 ^ 30 < wsum (lps ls)
  · rw [decide_eq_true cf, if_pos rfl]
    exact fin_keep (hQ _ hD)
  · rw [decide_eq_false cf, if_neg (by decide)]
    have hf : wsum (lps ls) ≤ 2 ^ 30 := by omega
    have hfw : fwP ls = wsP (fstW ls) := by rw [fwP, if_pos hf]
    rw [hfw]
    subst hR4
    refine stm_of fun R5 hR5 => ?_
    simp only [pMaxT, pSortT, str_to, str_ot, mPar3, mLockV, mLockE, mItemsC, mKeysC, mDGet2, pIsN, isNonP, pRepLM, mTruD, dkOfP, pPopAt, pIndex, mLstRgM, mTruth, pReprA, pLenD, pLstD, mDNew, pRepL, mLenSetN, mDIn, mSortSet, mSortSetL, mRevT, mForC, mSeqC, mLcC, pAbs, pMax2, pMin2, pInt1, mDGet, mDPut, mBM, mBM0, pPop, pAppend, pExtend, pSetL, mSub, mDisp, mPs, mPs0, mRevL, mRevLM, pLstOfM, mTupRg, mRg1, mRg2, pPlusM, lstItems, dictOfP, keyP, keysP, val_left, val_mixed, val_draws, put_draws, mLc, mLcM, mLc2, mFor, mSeqI, mRng1, mRng2, mZip, mEnum, mSl, mNoPart, mPart, mSeq, mAsg, mAsg2, mCB, mCons, mNil, mVar, mC, mOp, mUn, pU, mTup, mLst, mRet, mRetN, mLstM, getl, setl, mName, mCall, mCallK, mIf, mIfS, mTest, mAnd, mOr, mNot, mYes, mAndV, mOrV, mNotV, mNext, mNever, mBreak, mCont, mDrop, mChain, mPar, mGTup, mGCons, mGNil, pGcd, pI, pI0, pIx, pTimes, pPlus, pEq, pNe, pLen, pSum, pMaxS, pAll, pAny, pTupOf, pLstOf, pIn, pIsB, pIsi, items_tup, items_lst, items_kl, items_mr, items_tab, items_lot, items_fr, decide_true, decide_false, eqP_int, eqP_bl, eqP_str, eqP_tup2, kit_tt, kit_ii, kit_ib, tyP, mEnd, wipeP, List.map_cons, List.map_nil, List.getElem?_cons_zero, List.getElem?_cons_succ, List.set_cons_zero, List.set_cons_succ, atI_zero, atI_one, if_true, if_false, ite_true, ite_false, Bool.false_eq_true, List.length_cons, List.length_nil, Bool.not_true, Bool.not_false, S_are_words, S_are_full]
    have hW := hL.ws hf
    refine ⟨trivial, fstW ls, rfl, hW, trivial, fstW ls, rfl, hW, shl_ok (n := 1) (i := 1) (j := 30) (by decide) (by decide), ?_⟩
    rw [full_iff hW, kr_fst, e30]
    have e32 : decide (((wsum (lps ls) : Nat) : Int) = ((2 ^ 30 : Nat) : Int)) = decide (wsum (lps ls) = 2 ^ 30) := decide_eq_decide.mpr (by omega)
    rw [e32, decide_eq_true rfl, if_neg (by decide)]
    subst hR5
    refine stm_of fun R6 hR6 => ?_
    simp only [pMaxT, pSortT, str_to, str_ot, mPar3, mLockV, mLockE, mItemsC, mKeysC, mDGet2, pIsN, isNonP, pRepLM, mTruD, dkOfP, pPopAt, pIndex, mLstRgM, mTruth, pReprA, pLenD, pLstD, mDNew, pRepL, mLenSetN, mDIn, mSortSet, mSortSetL, mRevT, mForC, mSeqC, mLcC, pAbs, pMax2, pMin2, pInt1, mDGet, mDPut, mBM, mBM0, pPop, pAppend, pExtend, pSetL, mSub, mDisp, mPs, mPs0, mRevL, mRevLM, pLstOfM, mTupRg, mRg1, mRg2, pPlusM, lstItems, dictOfP, keyP, keysP, val_left, val_mixed, val_draws, put_draws, mLc, mLcM, mLc2, mFor, mSeqI, mRng1, mRng2, mZip, mEnum, mSl, mNoPart, mPart, mSeq, mAsg, mAsg2, mCB, mCons, mNil, mVar, mC, mOp, mUn, pU, mTup, mLst, mRet, mRetN, mLstM, getl, setl, mName, mCall, mCallK, mIf, mIfS, mTest, mAnd, mOr, mNot, mYes, mAndV, mOrV, mNotV, mNext, mNever, mBreak, mCont, mDrop, mChain, mPar, mGTup, mGCons, mGNil, pGcd, pI, pI0, pIx, pTimes, pPlus, pEq, pNe, pLen, pSum, pMaxS, pAll, pAny, pTupOf, pLstOf, pIn, pIsB, pIsi, items_tup, items_lst, items_kl, items_mr, items_tab, items_lot, items_fr, decide_true, decide_false, eqP_int, eqP_bl, eqP_str, eqP_tup2, kit_tt, kit_ii, kit_ib, tyP, mEnd, wipeP, List.map_cons, List.map_nil, List.getElem?_cons_zero, List.getElem?_cons_succ, List.set_cons_zero, List.set_cons_succ, atI_zero, atI_one, if_true, if_false, ite_true, ite_false, Bool.false_eq_true, List.length_cons, List.length_nil, Bool.not_true, Bool.not_false, S__law_draw, List.length_map]
    have l0 := List.length_pos_iff.mpr hL.ne
    have l8 := hL.len
    refine ⟨trivial, _, m, rest, rfl, hD, by omega, by omega, fun a μ2 a0 a1 D2 => ?_⟩
    obtain ⟨a, rfl⟩ : ∃ k : Nat, a = (k : Int) := ⟨a.toNat, by omega⟩
    have hal : a < ls.length := by omega
    subst hR6
    refine stm_of fun R7 hR7 => ?_
    simp only [pMaxT, pSortT, str_to, str_ot, mPar3, mLockV, mLockE, mItemsC, mKeysC, mDGet2, pIsN, isNonP, pRepLM, mTruD, dkOfP, pPopAt, pIndex, mLstRgM, mTruth, pReprA, pLenD, pLstD, mDNew, pRepL, mLenSetN, mDIn, mSortSet, mSortSetL, mRevT, mForC, mSeqC, mLcC, pAbs, pMax2, pMin2, pInt1, mDGet, mDPut, mBM, mBM0, pPop, pAppend, pExtend, pSetL, mSub, mDisp, mPs, mPs0, mRevL, mRevLM, pLstOfM, mTupRg, mRg1, mRg2, pPlusM, lstItems, dictOfP, keyP, keysP, val_left, val_mixed, val_draws, put_draws, mLc, mLcM, mLc2, mFor, mSeqI, mRng1, mRng2, mZip, mEnum, mSl, mNoPart, mPart, mSeq, mAsg, mAsg2, mCB, mCons, mNil, mVar, mC, mOp, mUn, pU, mTup, mLst, mRet, mRetN, mLstM, getl, setl, mName, mCall, mCallK, mIf, mIfS, mTest, mAnd, mOr, mNot, mYes, mAndV, mOrV, mNotV, mNext, mNever, mBreak, mCont, mDrop, mChain, mPar, mGTup, mGCons, mGNil, pGcd, pI, pI0, pIx, pTimes, pPlus, pEq, pNe, pLen, pSum, pMaxS, pAll, pAny, pTupOf, pLstOf, pIn, pIsB, pIsi, items_tup, items_lst, items_kl, items_mr, items_tab, items_lot, items_fr, decide_true, decide_false, eqP_int, eqP_bl, eqP_str, eqP_tup2, kit_tt, kit_ii, kit_ib, tyP, mEnd, wipeP, List.map_cons, List.map_nil, List.getElem?_cons_zero, List.getElem?_cons_succ, List.set_cons_zero, List.set_cons_succ, atI_zero, atI_one, if_true, if_false, ite_true, ite_false, Bool.false_eq_true, List.length_cons, List.length_nil, Bool.not_true, Bool.not_false, atL hal]
    by_cases c0 : ls.getD a 0 = 0
    · have hls := lead_zero hal c0 hf
      rw [decide_eq_true (by omega), if_pos rfl, show PV.tup [PV.int 0] = lotP [0] from rfl, eqP_luF]
      subst hls
      exact ⟨by decide, fin_keep (hQ _ D2)⟩
    rw [decide_eq_false (by omega), if_neg (by decide)]
    subst hR7
    refine stm_of fun R8 hR8 => ?_
    simp only [pMaxT, pSortT, str_to, str_ot, mPar3, mLockV, mLockE, mItemsC, mKeysC, mDGet2, pIsN, isNonP, pRepLM, mTruD, dkOfP, pPopAt, pIndex, mLstRgM, mTruth, pReprA, pLenD, pLstD, mDNew, pRepL, mLenSetN, mDIn, mSortSet, mSortSetL, mRevT, mForC, mSeqC, mLcC, pAbs, pMax2, pMin2, pInt1, mDGet, mDPut, mBM, mBM0, pPop, pAppend, pExtend, pSetL, mSub, mDisp, mPs, mPs0, mRevL, mRevLM, pLstOfM, mTupRg, mRg1, mRg2, pPlusM, lstItems, dictOfP, keyP, keysP, val_left, val_mixed, val_draws, put_draws, mLc, mLcM, mLc2, mFor, mSeqI, mRng1, mRng2, mZip, mEnum, mSl, mNoPart, mPart, mSeq, mAsg, mAsg2, mCB, mCons, mNil, mVar, mC, mOp, mUn, pU, mTup, mLst, mRet, mRetN, mLstM, getl, setl, mName, mCall, mCallK, mIf, mIfS, mTest, mAnd, mOr, mNot, mYes, mAndV, mOrV, mNotV, mNext, mNever, mBreak, mCont, mDrop, mChain, mPar, mGTup, mGCons, mGNil, pGcd, pI, pI0, pIx, pTimes, pPlus, pEq, pNe, pLen, pSum, pMaxS, pAll, pAny, pTupOf, pLstOf, pIn, pIsB, pIsi, items_tup, items_lst, items_kl, items_mr, items_tab, items_lot, items_fr, decide_true, decide_false, eqP_int, eqP_bl, eqP_str, eqP_tup2, kit_tt, kit_ii, kit_ib, tyP, mEnd, wipeP, List.map_cons, List.map_nil, List.getElem?_cons_zero, List.getElem?_cons_succ, List.set_cons_zero, List.set_cons_succ, atI_zero, atI_one, if_true, if_false, ite_true, ite_false, Bool.false_eq_true, List.length_cons, List.length_nil, Bool.not_true, Bool.not_false, atL hal]
    rw [cut_less hal c0]
    have hlen : ∀ x y, (cutP (ls.map fun (n : Nat) => PV.int n) x y).length ≤ 8 := fun x y => by
      unfold cutP
      refine Nat.le_trans (List.length_take_le' _ _) ?_
      rw [List.length_drop, List.length_map]; omega
    refine ⟨by decide, by have := hlen none (some (a : Int)); unfold lim; omega, by have := hlen none (some (a : Int)); have := hlen (some ((a : Int) + 1)) none; rw [List.length_append]; simp only [List.length_cons, List.length_nil]; unfold lim; omega, ?_⟩
    have hL2 : LsOk (ls.set a (ls.getD a 0 - 1)) := ⟨fun z => hL.ne (List.length_eq_zero_iff.mp (by have := congrArg List.length z; rwa [List.length_set] at this)), by rw [List.length_set]; exact hL.len, fun n hn => by
      rcases List.mem_or_eq_of_mem_set hn with hn | rfl
      · exact hL.le n hn
      · have := hL.le _ (getD_memN hal); omega⟩
    have hne : ls.set a (ls.getD a 0 - 1) ≠ ls := fun z => by
      have e : (ls.set a (ls.getD a 0 - 1)).getD a 0 = ls.getD a 0 - 1 := by rw [List.getD_eq_getElem?_getD, List.getElem?_set_self hal]; rfl
      rw [z] at e
      omega
    generalize ls.set a (ls.getD a 0 - 1) = ls' at *
    subst hR8
    refine stm_of fun R9 hR9 => ?_
    simp only [pMaxT, pSortT, str_to, str_ot, mPar3, mLockV, mLockE, mItemsC, mKeysC, mDGet2, pIsN, isNonP, pRepLM, mTruD, dkOfP, pPopAt, pIndex, mLstRgM, mTruth, pReprA, pLenD, pLstD, mDNew, pRepL, mLenSetN, mDIn, mSortSet, mSortSetL, mRevT, mForC, mSeqC, mLcC, pAbs, pMax2, pMin2, pInt1, mDGet, mDPut, mBM, mBM0, pPop, pAppend, pExtend, pSetL, mSub, mDisp, mPs, mPs0, mRevL, mRevLM, pLstOfM, mTupRg, mRg1, mRg2, pPlusM, lstItems, dictOfP, keyP, keysP, val_left, val_mixed, val_draws, put_draws, mLc, mLcM, mLc2, mFor, mSeqI, mRng1, mRng2, mZip, mEnum, mSl, mNoPart, mPart, mSeq, mAsg, mAsg2, mCB, mCons, mNil, mVar, mC, mOp, mUn, pU, mTup, mLst, mRet, mRetN, mLstM, getl, setl, mName, mCall, mCallK, mIf, mIfS, mTest, mAnd, mOr, mNot, mYes, mAndV, mOrV, mNotV, mNext, mNever, mBreak, mCont, mDrop, mChain, mPar, mGTup, mGCons, mGNil, pGcd, pI, pI0, pIx, pTimes, pPlus, pEq, pNe, pLen, pSum, pMaxS, pAll, pAny, pTupOf, pLstOf, pIn, pIsB, pIsi, items_tup, items_lst, items_kl, items_mr, items_tab, items_lot, items_fr, decide_true, decide_false, eqP_int, eqP_bl, eqP_str, eqP_tup2, kit_tt, kit_ii, kit_ib, tyP, mEnd, wipeP, List.map_cons, List.map_nil, List.getElem?_cons_zero, List.getElem?_cons_succ, List.set_cons_zero, List.set_cons_succ, atI_zero, atI_one, if_true, if_false, ite_true, ite_false, Bool.false_eq_true, List.length_cons, List.length_nil, Bool.not_true, Bool.not_false, S_first_words]
    refine ⟨trivial, ls', rfl, hL2, ?_⟩
    subst hR9
    simp only [pMaxT, pSortT, str_to, str_ot, mPar3, mLockV, mLockE, mItemsC, mKeysC, mDGet2, pIsN, isNonP, pRepLM, mTruD, dkOfP, pPopAt, pIndex, mLstRgM, mTruth, pReprA, pLenD, pLstD, mDNew, pRepL, mLenSetN, mDIn, mSortSet, mSortSetL, mRevT, mForC, mSeqC, mLcC, pAbs, pMax2, pMin2, pInt1, mDGet, mDPut, mBM, mBM0, pPop, pAppend, pExtend, pSetL, mSub, mDisp, mPs, mPs0, mRevL, mRevLM, pLstOfM, mTupRg, mRg1, mRg2, pPlusM, lstItems, dictOfP, keyP, keysP, val_left, val_mixed, val_draws, put_draws, mLc, mLcM, mLc2, mFor, mSeqI, mRng1, mRng2, mZip, mEnum, mSl, mNoPart, mPart, mSeq, mAsg, mAsg2, mCB, mCons, mNil, mVar, mC, mOp, mUn, pU, mTup, mLst, mRet, mRetN, mLstM, getl, setl, mName, mCall, mCallK, mIf, mIfS, mTest, mAnd, mOr, mNot, mYes, mAndV, mOrV, mNotV, mNext, mNever, mBreak, mCont, mDrop, mChain, mPar, mGTup, mGCons, mGNil, pGcd, pI, pI0, pIx, pTimes, pPlus, pEq, pNe, pLen, pSum, pMaxS, pAll, pAny, pTupOf, pLstOf, pIn, pIsB, pIsi, items_tup, items_lst, items_kl, items_mr, items_tab, items_lot, items_fr, decide_true, decide_false, eqP_int, eqP_bl, eqP_str, eqP_tup2, kit_tt, kit_ii, kit_ib, tyP, mEnd, wipeP, List.map_cons, List.map_nil, List.getElem?_cons_zero, List.getElem?_cons_succ, List.set_cons_zero, List.set_cons_succ, atI_zero, atI_one, if_true, if_false, ite_true, ite_false, Bool.false_eq_true, List.length_cons, List.length_nil, Bool.not_true, Bool.not_false, S__law_first, eqP_fw hne hf, -pReprA]
    refine pReprA_fw hL2 ⟨trivial, ls', rfl, hL2, pReprA_fw hL2 ?_⟩
    simp only [pMaxT, pSortT, str_to, str_ot, mPar3, mLockV, mLockE, mItemsC, mKeysC, mDGet2, pIsN, isNonP, pRepLM, mTruD, dkOfP, pPopAt, pIndex, mLstRgM, mTruth, pReprA, pLenD, pLstD, mDNew, pRepL, mLenSetN, mDIn, mSortSet, mSortSetL, mRevT, mForC, mSeqC, mLcC, pAbs, pMax2, pMin2, pInt1, mDGet, mDPut, mBM, mBM0, pPop, pAppend, pExtend, pSetL, mSub, mDisp, mPs, mPs0, mRevL, mRevLM, pLstOfM, mTupRg, mRg1, mRg2, pPlusM, lstItems, dictOfP, keyP, keysP, val_left, val_mixed, val_draws, put_draws, mLc, mLcM, mLc2, mFor, mSeqI, mRng1, mRng2, mZip, mEnum, mSl, mNoPart, mPart, mSeq, mAsg, mAsg2, mCB, mCons, mNil, mVar, mC, mOp, mUn, pU, mTup, mLst, mRet, mRetN, mLstM, getl, setl, mName, mCall, mCallK, mIf, mIfS, mTest, mAnd, mOr, mNot, mYes, mAndV, mOrV, mNotV, mNext, mNever, mBreak, mCont, mDrop, mChain, mPar, mGTup, mGCons, mGNil, pGcd, pI, pI0, pIx, pTimes, pPlus, pEq, pNe, pLen, pSum, pMaxS, pAll, pAny, pTupOf, pLstOf, pIn, pIsB, pIsi, items_tup, items_lst, items_kl, items_mr, items_tab, items_lot, items_fr, decide_true, decide_false, eqP_int, eqP_bl, eqP_str, eqP_tup2, kit_tt, kit_ii, kit_ib, tyP, mEnd, wipeP, List.map_cons, List.map_nil, List.getElem?_cons_zero, List.getElem?_cons_succ, List.set_cons_zero, List.set_cons_succ, atI_zero, atI_one, if_true, if_false, ite_true, ite_false, Bool.false_eq_true, List.length_cons, List.length_nil, Bool.not_true, Bool.not_false, eqP_str]
    exact fin_keep (hQ _ D2)
abbrev N_law : List Str := ["_law_script", "_law_deck_here", "_law_go", "_law_words_here", "_law_told", "_law_word"]
theorem sc_law : FnScope N_law ["_law_script"] (defScope s_law) := ⟨rfl, rfl, rfl, by decide +kernel, rfl, by decide +kernel, by decide +kernel⟩
theorem ok_law (B : Blt mg) (h_law : Own K mg "law" s_law) (k__law_deck : Ok P w K mg base 1 "_law_deck" s__law_deck ["_law_script"] S__law_deck) (k__law_is_first_right : Ok P w K mg base 8 "_law_is_first_right" s__law_is_first_right ["_law_deck_here", "_law_lengths_here"] S__law_is_first_right) (k__law_lengths : Ok P w K mg base 3 "_law_lengths" s__law_lengths ["_law_deck_here"] S__law_lengths) (k__law_words : Ok P w K mg base 2 "_law_words" s__law_words ["_law_deck_here", "_law_most"] S__law_words) (k_first_words : Ok P w K mg base 4 "first_words" s_first_words ["lengths"] S_first_words) (k_are_words : Ok P w K mg base 5 "are_words" s_are_words ["thing"] S_are_words) : Ok P w K mg base 9 "law" s_law ["_law_script"] S_law := by
  obtain ⟨f_s, fd_s, F_s, g_s⟩ := h_law
  obtain ⟨f__law_deck, fd__law_deck, F__law_deck, g__law_deck, b__law_deck, G__law_deck⟩ := k__law_deck
  obtain ⟨f__law_is_first_right, fd__law_is_first_right, F__law_is_first_right, g__law_is_first_right, b__law_is_first_right, G__law_is_first_right⟩ := k__law_is_first_right
  obtain ⟨f__law_lengths, fd__law_lengths, F__law_lengths, g__law_lengths, b__law_lengths, G__law_lengths⟩ := k__law_lengths
  obtain ⟨f__law_words, fd__law_words, F__law_words, g__law_words, b__law_words, G__law_words⟩ := k__law_words
  obtain ⟨f_first_words, fd_first_words, F_first_words, g_first_words, b_first_words, G_first_words⟩ := k_first_words
  obtain ⟨f_are_words, fd_are_words, F_are_words, g_are_words, b_are_words, G_are_words⟩ := k_are_words
  refine ⟨f_s, fd_s, F_s, g_s, F_s.binds (fun _ _ _ _ _ _ us hl => match us, hl with | [_], _ => rfl), FnG.of F_s sc_law (fun xs μ Q h => by first | exact h.1 | (obtain ⟨⟩ := h)) fun cdv A outer s H hr hgd => ⟨_, _, (pss_cons (ps_set (i := 1) sc_law.nd rfl (Or.inl rfl) (pe_callG (G__law_deck.mono (by decide)) hr hgd (by rfl) g__law_deck F__law_deck.kp b__law_deck (pa_cons (pv 0) pa_nil)))
 (pss_cons (ps_for PassesOwn.never rfl (pi_range1 (by rfl) (B "range" (by decide)) (pa_cons pe_int pa_nil)) (pg_name (i := 2) sc_law.nd rfl (Or.inl rfl))
 (pss_cons (ps_if (pt_not (pt_val (pe_callG (G__law_is_first_right.mono (by decide)) hr hgd (by rfl) g__law_is_first_right F__law_is_first_right.kp b__law_is_first_right (pa_cons (pv 1) (pa_cons (pe_callG (G__law_lengths.mono (by decide)) hr hgd (by rfl) g__law_lengths F__law_lengths.kp b__law_lengths (pa_cons (pv 1) pa_nil)) pa_nil)))))
 (pss_one (ps_ret pe_bl))
 pss_nil)
 (pss_cons (ps_set (i := 3) sc_law.nd rfl (Or.inl rfl) (pe_callG (G__law_words.mono (by decide)) hr hgd (by rfl) g__law_words F__law_words.kp b__law_words (pa_cons (pv 1) (pa_cons pe_int pa_nil))))
 (pss_cons (ps_set (i := 4) sc_law.nd rfl (Or.inl rfl) (pe_callG (G_first_words.mono (by decide)) hr hgd (by rfl) g_first_words F_first_words.kp b_first_words (pa_cons (pe_callTy cb_tup (by rfl) (B "tuple" (by decide)) (by decide +kernel) (pa_cons (pe_lc (own := [("_law_word", 5)]) (by rfl) sc_law.nd (pi_seq (pv 3)) (blkOk_by (own := [("_law_word", 5)]) (N := N_law) (sc := defScope s_law) (by decide +kernel)) (fun _ _ _ _ _ => (pg_name (i := 5) sc_law.nd rfl (Or.inl rfl))) (fun _ _ _ _ _ => pts_nil) (fun _ _ _ _ _ => (pe_callB (ck_len K rfl) (by rfl) (B "len" (by decide)) (by decide +kernel) (pa_cons (pv 5) pa_nil)))) pa_nil)) pa_nil)))
 (pss_cons (ps_if (PW.pt (pw_or (pt_cmpR op_isNn (pv 4) pe_non (nomark _)) (pw_or1 (pt_cmpR (op_neX hr.units) (pe_lc (own := [("_law_word", 5)]) (by rfl) sc_law.nd (pi_seq (pv 4)) (blkOk_by (own := [("_law_word", 5)]) (N := N_law) (sc := defScope s_law) (by decide +kernel)) (fun _ _ _ _ _ => (pg_name (i := 5) sc_law.nd rfl (Or.inl rfl))) (fun _ _ _ _ _ => pts_nil) (fun _ _ _ _ _ => (pe_callB (ck_len K rfl) (by rfl) (B "len" (by decide)) (by decide +kernel) (pa_cons (pv 5) pa_nil)))) (pe_lc (own := [("_law_word", 5)]) (by rfl) sc_law.nd (pi_seq (pv 3)) (blkOk_by (own := [("_law_word", 5)]) (N := N_law) (sc := defScope s_law) (by decide +kernel)) (fun _ _ _ _ _ => (pg_name (i := 5) sc_law.nd rfl (Or.inl rfl))) (fun _ _ _ _ _ => pts_nil) (fun _ _ _ _ _ => (pe_callB (ck_len K rfl) (by rfl) (B "len" (by decide)) (by decide +kernel) (pa_cons (pv 5) pa_nil)))) (nomark _)))))
 (pss_one (ps_ret pe_bl))
 pss_nil)
 (pss_one (ps_if (pt_cmpR op_notBl (pe_callG (G_are_words.mono (by decide)) hr hgd (by rfl) g_are_words F_are_words.kp b_are_words (pa_cons (pv 3) pa_nil)) pe_bl (nomark _))
 (pss_one (ps_ret pe_bl))
 pss_nil)))))))
 (pss_one (ps_ret pe_bl)))), (by (try dsimp only [cxOf]); exact inferInstance), ?_⟩⟩
  intro xs μ Q hS
  obtain ⟨_, ns, rfl, rfl, hQ⟩ := hS
  rw [show startP N_law [.kl (ns.map PV.int)] = [some (.kl (ns.map PV.int)), none, none, none, none, none] from rfl]
  refine stm_of fun R hR => ?_
  simp only [pMaxT, pSortT, str_to, str_ot, mPar3, mLockV, mLockE, mItemsC, mKeysC, mDGet2, pIsN, isNonP, pRepLM, mTruD, dkOfP, pPopAt, pIndex, mLstRgM, mTruth, pReprA, pLenD, pLstD, mDNew, pRepL, mLenSetN, mDIn, mSortSet, mSortSetL, mRevT, mForC, mSeqC, mLcC, pAbs, pMax2, pMin2, pInt1, mDGet, mDPut, mBM, mBM0, pPop, pAppend, pExtend, pSetL, mSub, mDisp, mPs, mPs0, mRevL, mRevLM, pLstOfM, mTupRg, mRg1, mRg2, pPlusM, lstItems, dictOfP, keyP, keysP, val_left, val_mixed, val_draws, put_draws, mLc, mLcM, mLc2, mFor, mSeqI, mRng1, mRng2, mZip, mEnum, mSl, mNoPart, mPart, mSeq, mAsg, mAsg2, mCB, mCons, mNil, mVar, mC, mOp, mUn, pU, mTup, mLst, mRet, mRetN, mLstM, getl, setl, mName, mCall, mCallK, mIf, mIfS, mTest, mAnd, mOr, mNot, mYes, mAndV, mOrV, mNotV, mNext, mNever, mBreak, mCont, mDrop, mChain, mPar, mGTup, mGCons, mGNil, pGcd, pI, pI0, pIx, pTimes, pPlus, pEq, pNe, pLen, pSum, pMaxS, pAll, pAny, pTupOf, pLstOf, pIn, pIsB, pIsi, items_tup, items_lst, items_kl, items_mr, items_tab, items_lot, items_fr, decide_true, decide_false, eqP_int, eqP_bl, eqP_str, eqP_tup2, kit_tt, kit_ii, kit_ib, tyP, mEnd, wipeP, List.map_cons, List.map_nil, List.getElem?_cons_zero, List.getElem?_cons_succ, List.set_cons_zero, List.set_cons_succ, atI_zero, atI_one, if_true, if_false, ite_true, ite_false, Bool.false_eq_true, List.length_cons, List.length_nil, Bool.not_true, Bool.not_false, S__law_deck]
  refine ⟨trivial, ns, rfl, trivial, fun m μ1 D1 => ?_⟩
  subst hR
  refine stm_of fun R1 hR1 => ?_
  simp only [pMaxT, pSortT, str_to, str_ot, mPar3, mLockV, mLockE, mItemsC, mKeysC, mDGet2, pIsN, isNonP, pRepLM, mTruD, dkOfP, pPopAt, pIndex, mLstRgM, mTruth, pReprA, pLenD, pLstD, mDNew, pRepL, mLenSetN, mDIn, mSortSet, mSortSetL, mRevT, mForC, mSeqC, mLcC, pAbs, pMax2, pMin2, pInt1, mDGet, mDPut, mBM, mBM0, pPop, pAppend, pExtend, pSetL, mSub, mDisp, mPs, mPs0, mRevL, mRevLM, pLstOfM, mTupRg, mRg1, mRg2, pPlusM, lstItems, dictOfP, keyP, keysP, val_left, val_mixed, val_draws, put_draws, mLc, mLcM, mLc2, mFor, mSeqI, mRng1, mRng2, mZip, mEnum, mSl, mNoPart, mPart, mSeq, mAsg, mAsg2, mCB, mCons, mNil, mVar, mC, mOp, mUn, pU, mTup, mLst, mRet, mRetN, mLstM, getl, setl, mName, mCall, mCallK, mIf, mIfS, mTest, mAnd, mOr, mNot, mYes, mAndV, mOrV, mNotV, mNext, mNever, mBreak, mCont, mDrop, mChain, mPar, mGTup, mGCons, mGNil, pGcd, pI, pI0, pIx, pTimes, pPlus, pEq, pNe, pLen, pSum, pMaxS, pAll, pAny, pTupOf, pLstOf, pIn, pIsB, pIsi, items_tup, items_lst, items_kl, items_mr, items_tab, items_lot, items_fr, decide_true, decide_false, eqP_int, eqP_bl, eqP_str, eqP_tup2, kit_tt, kit_ii, kit_ib, tyP, mEnd, wipeP, List.map_cons, List.map_nil, List.getElem?_cons_zero, List.getElem?_cons_succ, List.set_cons_zero, List.set_cons_succ, atI_zero, atI_one, if_true, if_false, ite_true, ite_false, Bool.false_eq_true, List.length_cons, List.length_nil, Bool.not_true, Bool.not_false]
  rw [show rangeP 0 (Int.toNat 6) = (List.range 6).map fun (i : Nat) => PV.int i from rangeP_eq 6]
  refine ⟨by decide, for_inv (enc := fun (i : Nat) => PV.int i) (fun pre ρ μ' => ∃ (G : Store) (y2 y3 y4 y5 : Option PV), ρ = [some (.kl (ns.map PV.int)), some (.mr 1), y2, y3, y4, y5] ∧ Dk m G μ') (done := []) ⟨[], _, _, _, _, rfl, D1⟩ (fun pre a post ρ μ2 e hI N hN => ?_) fun ρ μ2 hI => ?_⟩
  · obtain ⟨G, y2, y3, y4, y5, rfl, D2⟩ := hI
    show mSeq _ _ _ _ _
    refine stm_of fun R2 hR2 => ?_
    simp only [pMaxT, pSortT, str_to, str_ot, mPar3, mLockV, mLockE, mItemsC, mKeysC, mDGet2, pIsN, isNonP, pRepLM, mTruD, dkOfP, pPopAt, pIndex, mLstRgM, mTruth, pReprA, pLenD, pLstD, mDNew, pRepL, mLenSetN, mDIn, mSortSet, mSortSetL, mRevT, mForC, mSeqC, mLcC, pAbs, pMax2, pMin2, pInt1, mDGet, mDPut, mBM, mBM0, pPop, pAppend, pExtend, pSetL, mSub, mDisp, mPs, mPs0, mRevL, mRevLM, pLstOfM, mTupRg, mRg1, mRg2, pPlusM, lstItems, dictOfP, keyP, keysP, val_left, val_mixed, val_draws, put_draws, mLc, mLcM, mLc2, mFor, mSeqI, mRng1, mRng2, mZip, mEnum, mSl, mNoPart, mPart, mSeq, mAsg, mAsg2, mCB, mCons, mNil, mVar, mC, mOp, mUn, pU, mTup, mLst, mRet, mRetN, mLstM, getl, setl, mName, mCall, mCallK, mIf, mIfS, mTest, mAnd, mOr, mNot, mYes, mAndV, mOrV, mNotV, mNext, mNever, mBreak, mCont, mDrop, mChain, mPar, mGTup, mGCons, mGNil, pGcd, pI, pI0, pIx, pTimes, pPlus, pEq, pNe, pLen, pSum, pMaxS, pAll, pAny, pTupOf, pLstOf, pIn, pIsB, pIsi, items_tup, items_lst, items_kl, items_mr, items_tab, items_lot, items_fr, decide_true, decide_false, eqP_int, eqP_bl, eqP_str, eqP_tup2, kit_tt, kit_ii, kit_ib, tyP, mEnd, wipeP, List.map_cons, List.map_nil, List.getElem?_cons_zero, List.getElem?_cons_succ, List.set_cons_zero, List.set_cons_succ, atI_zero, atI_one, if_true, if_false, ite_true, ite_false, Bool.false_eq_true, List.length_cons, List.length_nil, Bool.not_true, Bool.not_false, S__law_lengths, S__law_is_first_right]
    refine ⟨trivial, m, G, trivial, D2, fun ls g μ3 hL D3 => ⟨trivial, ls, m, _, rfl, hL, D3, fun μ4 D4 => ?_⟩⟩
    subst hR2
    refine stm_of fun R3 hR3 => ?_
    simp only [pMaxT, pSortT, str_to, str_ot, mPar3, mLockV, mLockE, mItemsC, mKeysC, mDGet2, pIsN, isNonP, pRepLM, mTruD, dkOfP, pPopAt, pIndex, mLstRgM, mTruth, pReprA, pLenD, pLstD, mDNew, pRepL, mLenSetN, mDIn, mSortSet, mSortSetL, mRevT, mForC, mSeqC, mLcC, pAbs, pMax2, pMin2, pInt1, mDGet, mDPut, mBM, mBM0, pPop, pAppend, pExtend, pSetL, mSub, mDisp, mPs, mPs0, mRevL, mRevLM, pLstOfM, mTupRg, mRg1, mRg2, pPlusM, lstItems, dictOfP, keyP, keysP, val_left, val_mixed, val_draws, put_draws, mLc, mLcM, mLc2, mFor, mSeqI, mRng1, mRng2, mZip, mEnum, mSl, mNoPart, mPart, mSeq, mAsg, mAsg2, mCB, mCons, mNil, mVar, mC, mOp, mUn, pU, mTup, mLst, mRet, mRetN, mLstM, getl, setl, mName, mCall, mCallK, mIf, mIfS, mTest, mAnd, mOr, mNot, mYes, mAndV, mOrV, mNotV, mNext, mNever, mBreak, mCont, mDrop, mChain, mPar, mGTup, mGCons, mGNil, pGcd, pI, pI0, pIx, pTimes, pPlus, pEq, pNe, pLen, pSum, pMaxS, pAll, pAny, pTupOf, pLstOf, pIn, pIsB, pIsi, items_tup, items_lst, items_kl, items_mr, items_tab, items_lot, items_fr, decide_true, decide_false, eqP_int, eqP_bl, eqP_str, eqP_tup2, kit_tt, kit_ii, kit_ib, tyP, mEnd, wipeP, List.map_cons, List.map_nil, List.getElem?_cons_zero, List.getElem?_cons_succ, List.set_cons_zero, List.set_cons_succ, atI_zero, atI_one, if_true, if_false, ite_true, ite_false, Bool.false_eq_true, List.length_cons, List.length_nil, Bool.not_true, Bool.not_false, S__law_words]
    refine ⟨trivial, 8, m, _, rfl, D4, by decide, by decide, fun ws g2 μ5 hW h9 D5 => ?_⟩
    subst hR3
    refine stm_of fun R4 hR4 => ?_
    simp only [pMaxT, pSortT, str_to, str_ot, mPar3, mLockV, mLockE, mItemsC, mKeysC, mDGet2, pIsN, isNonP, pRepLM, mTruD, dkOfP, pPopAt, pIndex, mLstRgM, mTruth, pReprA, pLenD, pLstD, mDNew, pRepL, mLenSetN, mDIn, mSortSet, mSortSetL, mRevT, mForC, mSeqC, mLcC, pAbs, pMax2, pMin2, pInt1, mDGet, mDPut, mBM, mBM0, pPop, pAppend, pExtend, pSetL, mSub, mDisp, mPs, mPs0, mRevL, mRevLM, pLstOfM, mTupRg, mRg1, mRg2, pPlusM, lstItems, dictOfP, keyP, keysP, val_left, val_mixed, val_draws, put_draws, mLc, mLcM, mLc2, mFor, mSeqI, mRng1, mRng2, mZip, mEnum, mSl, mNoPart, mPart, mSeq, mAsg, mAsg2, mCB, mCons, mNil, mVar, mC, mOp, mUn, pU, mTup, mLst, mRet, mRetN, mLstM, getl, setl, mName, mCall, mCallK, mIf, mIfS, mTest, mAnd, mOr, mNot, mYes, mAndV, mOrV, mNotV, mNext, mNever, mBreak, mCont, mDrop, mChain, mPar, mGTup, mGCons, mGNil, pGcd, pI, pI0, pIx, pTimes, pPlus, pEq, pNe, pLen, pSum, pMaxS, pAll, pAny, pTupOf, pLstOf, pIn, pIsB, pIsi, items_tup, items_lst, items_kl, items_mr, items_tab, items_lot, items_fr, decide_true, decide_false, eqP_int, eqP_bl, eqP_str, eqP_tup2, kit_tt, kit_ii, kit_ib, tyP, mEnd, wipeP, List.map_cons, List.map_nil, List.getElem?_cons_zero, List.getElem?_cons_succ, List.set_cons_zero, List.set_cons_succ, atI_zero, atI_one, if_true, if_false, ite_true, ite_false, Bool.false_eq_true, List.length_cons, List.length_nil, Bool.not_true, Bool.not_false, S_first_words, wsP]
    have l8 := hW.len
    have l0 := List.length_pos_iff.mpr hW.ne
    refine ⟨by decide, by rw [List.length_map]; unfold lim; omega, lc_map (enc := lotP) (out := fun w => .int (w.length : Nat)) (fun w hw k hk => ?_) ?_⟩
    · simp only [pMaxT, pSortT, str_to, str_ot, mPar3, mLockV, mLockE, mItemsC, mKeysC, mDGet2, pIsN, isNonP, pRepLM, mTruD, dkOfP, pPopAt, pIndex, mLstRgM, mTruth, pReprA, pLenD, pLstD, mDNew, pRepL, mLenSetN, mDIn, mSortSet, mSortSetL, mRevT, mForC, mSeqC, mLcC, pAbs, pMax2, pMin2, pInt1, mDGet, mDPut, mBM, mBM0, pPop, pAppend, pExtend, pSetL, mSub, mDisp, mPs, mPs0, mRevL, mRevLM, pLstOfM, mTupRg, mRg1, mRg2, pPlusM, lstItems, dictOfP, keyP, keysP, val_left, val_mixed, val_draws, put_draws, mLc, mLcM, mLc2, mFor, mSeqI, mRng1, mRng2, mZip, mEnum, mSl, mNoPart, mPart, mSeq, mAsg, mAsg2, mCB, mCons, mNil, mVar, mC, mOp, mUn, pU, mTup, mLst, mRet, mRetN, mLstM, getl, setl, mName, mCall, mCallK, mIf, mIfS, mTest, mAnd, mOr, mNot, mYes, mAndV, mOrV, mNotV, mNext, mNever, mBreak, mCont, mDrop, mChain, mPar, mGTup, mGCons, mGNil, pGcd, pI, pI0, pIx, pTimes, pPlus, pEq, pNe, pLen, pSum, pMaxS, pAll, pAny, pTupOf, pLstOf, pIn, pIsB, pIsi, items_tup, items_lst, items_kl, items_mr, items_tab, items_lot, items_fr, decide_true, decide_false, eqP_int, eqP_bl, eqP_str, eqP_tup2, kit_tt, kit_ii, kit_ib, tyP, mEnd, wipeP, List.map_cons, List.map_nil, List.getElem?_cons_zero, List.getElem?_cons_succ, List.set_cons_zero, List.set_cons_succ, atI_zero, atI_one, if_true, if_false, ite_true, ite_false, Bool.false_eq_true, List.length_cons, List.length_nil, Bool.not_true, Bool.not_false, lotP, List.length_map]
      exact hk
    have e0 : (([] : List PV) ++ ws.map fun w => PV.int (w.length : Nat)) = (ws.map List.length).map fun (n : Nat) => PV.int n := by rw [List.nil_append, List.map_map]; rfl
    rw [e0]
    have hL2 : LsOk (ws.map List.length) := ⟨by simpa using hW.ne, by rw [List.length_map]; exact l8, fun n hn => by obtain ⟨w, hw, rfl⟩ := List.mem_map.mp hn; exact hW.sz w hw⟩
    refine ⟨trivial, ws.map List.length, rfl, hL2, ?_⟩
    have hf : wsum (lps (ws.map List.length)) ≤ 2 ^ 30 := by
      rw [wsum_lps, ← kr_lens]; exact kraft hW.pf hW.bit hW.sz
    have hfw : fwP (ws.map List.length) = .tup ((fstW (ws.map List.length)).map lotP) := by rw [fwP, if_pos hf]; rfl
    rw [hfw]
    subst hR4
    refine stm_of fun R5 hR5 => ?_
    simp only [pMaxT, pSortT, str_to, str_ot, mPar3, mLockV, mLockE, mItemsC, mKeysC, mDGet2, pIsN, isNonP, pRepLM, mTruD, dkOfP, pPopAt, pIndex, mLstRgM, mTruth, pReprA, pLenD, pLstD, mDNew, pRepL, mLenSetN, mDIn, mSortSet, mSortSetL, mRevT, mForC, mSeqC, mLcC, pAbs, pMax2, pMin2, pInt1, mDGet, mDPut, mBM, mBM0, pPop, pAppend, pExtend, pSetL, mSub, mDisp, mPs, mPs0, mRevL, mRevLM, pLstOfM, mTupRg, mRg1, mRg2, pPlusM, lstItems, dictOfP, keyP, keysP, val_left, val_mixed, val_draws, put_draws, mLc, mLcM, mLc2, mFor, mSeqI, mRng1, mRng2, mZip, mEnum, mSl, mNoPart, mPart, mSeq, mAsg, mAsg2, mCB, mCons, mNil, mVar, mC, mOp, mUn, pU, mTup, mLst, mRet, mRetN, mLstM, getl, setl, mName, mCall, mCallK, mIf, mIfS, mTest, mAnd, mOr, mNot, mYes, mAndV, mOrV, mNotV, mNext, mNever, mBreak, mCont, mDrop, mChain, mPar, mGTup, mGCons, mGNil, pGcd, pI, pI0, pIx, pTimes, pPlus, pEq, pNe, pLen, pSum, pMaxS, pAll, pAny, pTupOf, pLstOf, pIn, pIsB, pIsi, items_tup, items_lst, items_kl, items_mr, items_tab, items_lot, items_fr, decide_true, decide_false, eqP_int, eqP_bl, eqP_str, eqP_tup2, kit_tt, kit_ii, kit_ib, tyP, mEnd, wipeP, List.map_cons, List.map_nil, List.getElem?_cons_zero, List.getElem?_cons_succ, List.set_cons_zero, List.set_cons_succ, atI_zero, atI_one, if_true, if_false, ite_true, ite_false, Bool.false_eq_true, List.length_cons, List.length_nil, Bool.not_true, Bool.not_false]
    refine ⟨by decide, by rw [List.length_map, fst_len, List.length_map]; unfold lim; omega, lc_map (enc := lotP) (out := fun w => .int (w.length : Nat)) (fun w hw k hk => ?_) ?_⟩
    · simp only [pMaxT, pSortT, str_to, str_ot, mPar3, mLockV, mLockE, mItemsC, mKeysC, mDGet2, pIsN, isNonP, pRepLM, mTruD, dkOfP, pPopAt, pIndex, mLstRgM, mTruth, pReprA, pLenD, pLstD, mDNew, pRepL, mLenSetN, mDIn, mSortSet, mSortSetL, mRevT, mForC, mSeqC, mLcC, pAbs, pMax2, pMin2, pInt1, mDGet, mDPut, mBM, mBM0, pPop, pAppend, pExtend, pSetL, mSub, mDisp, mPs, mPs0, mRevL, mRevLM, pLstOfM, mTupRg, mRg1, mRg2, pPlusM, lstItems, dictOfP, keyP, keysP, val_left, val_mixed, val_draws, put_draws, mLc, mLcM, mLc2, mFor, mSeqI, mRng1, mRng2, mZip, mEnum, mSl, mNoPart, mPart, mSeq, mAsg, mAsg2, mCB, mCons, mNil, mVar, mC, mOp, mUn, pU, mTup, mLst, mRet, mRetN, mLstM, getl, setl, mName, mCall, mCallK, mIf, mIfS, mTest, mAnd, mOr, mNot, mYes, mAndV, mOrV, mNotV, mNext, mNever, mBreak, mCont, mDrop, mChain, mPar, mGTup, mGCons, mGNil, pGcd, pI, pI0, pIx, pTimes, pPlus, pEq, pNe, pLen, pSum, pMaxS, pAll, pAny, pTupOf, pLstOf, pIn, pIsB, pIsi, items_tup, items_lst, items_kl, items_mr, items_tab, items_lot, items_fr, decide_true, decide_false, eqP_int, eqP_bl, eqP_str, eqP_tup2, kit_tt, kit_ii, kit_ib, tyP, mEnd, wipeP, List.map_cons, List.map_nil, List.getElem?_cons_zero, List.getElem?_cons_succ, List.set_cons_zero, List.set_cons_succ, atI_zero, atI_one, if_true, if_false, ite_true, ite_false, Bool.false_eq_true, List.length_cons, List.length_nil, Bool.not_true, Bool.not_false, lotP, List.length_map]
      exact hk
    refine ⟨by decide, by rw [List.length_map]; unfold lim; omega, lc_map (enc := lotP) (out := fun w => .int (w.length : Nat)) (fun w hw k hk => ?_) ?_⟩
    · simp only [pMaxT, pSortT, str_to, str_ot, mPar3, mLockV, mLockE, mItemsC, mKeysC, mDGet2, pIsN, isNonP, pRepLM, mTruD, dkOfP, pPopAt, pIndex, mLstRgM, mTruth, pReprA, pLenD, pLstD, mDNew, pRepL, mLenSetN, mDIn, mSortSet, mSortSetL, mRevT, mForC, mSeqC, mLcC, pAbs, pMax2, pMin2, pInt1, mDGet, mDPut, mBM, mBM0, pPop, pAppend, pExtend, pSetL, mSub, mDisp, mPs, mPs0, mRevL, mRevLM, pLstOfM, mTupRg, mRg1, mRg2, pPlusM, lstItems, dictOfP, keyP, keysP, val_left, val_mixed, val_draws, put_draws, mLc, mLcM, mLc2, mFor, mSeqI, mRng1, mRng2, mZip, mEnum, mSl, mNoPart, mPart, mSeq, mAsg, mAsg2, mCB, mCons, mNil, mVar, mC, mOp, mUn, pU, mTup, mLst, mRet, mRetN, mLstM, getl, setl, mName, mCall, mCallK, mIf, mIfS, mTest, mAnd, mOr, mNot, mYes, mAndV, mOrV, mNotV, mNext, mNever, mBreak, mCont, mDrop, mChain, mPar, mGTup, mGCons, mGNil, pGcd, pI, pI0, pIx, pTimes, pPlus, pEq, pNe, pLen, pSum, pMaxS, pAll, pAny, pTupOf, pLstOf, pIn, pIsB, pIsi, items_tup, items_lst, items_kl, items_mr, items_tab, items_lot, items_fr, decide_true, decide_false, eqP_int, eqP_bl, eqP_str, eqP_tup2, kit_tt, kit_ii, kit_ib, tyP, mEnd, wipeP, List.map_cons, List.map_nil, List.getElem?_cons_zero, List.getElem?_cons_succ, List.set_cons_zero, List.set_cons_succ, atI_zero, atI_one, if_true, if_false, ite_true, ite_false, Bool.false_eq_true, List.length_cons, List.length_nil, Bool.not_true, Bool.not_false, lotP, List.length_map]
      exact hk
    rw [lens_out, lens_out, fst_lens, eqP_lns, decide_eq_true rfl]
    simp only [Bool.not_true, Bool.false_eq_true, if_false]
    subst hR5
    simp only [pMaxT, pSortT, str_to, str_ot, mPar3, mLockV, mLockE, mItemsC, mKeysC, mDGet2, pIsN, isNonP, pRepLM, mTruD, dkOfP, pPopAt, pIndex, mLstRgM, mTruth, pReprA, pLenD, pLstD, mDNew, pRepL, mLenSetN, mDIn, mSortSet, mSortSetL, mRevT, mForC, mSeqC, mLcC, pAbs, pMax2, pMin2, pInt1, mDGet, mDPut, mBM, mBM0, pPop, pAppend, pExtend, pSetL, mSub, mDisp, mPs, mPs0, mRevL, mRevLM, pLstOfM, mTupRg, mRg1, mRg2, pPlusM, lstItems, dictOfP, keyP, keysP, val_left, val_mixed, val_draws, put_draws, mLc, mLcM, mLc2, mFor, mSeqI, mRng1, mRng2, mZip, mEnum, mSl, mNoPart, mPart, mSeq, mAsg, mAsg2, mCB, mCons, mNil, mVar, mC, mOp, mUn, pU, mTup, mLst, mRet, mRetN, mLstM, getl, setl, mName, mCall, mCallK, mIf, mIfS, mTest, mAnd, mOr, mNot, mYes, mAndV, mOrV, mNotV, mNext, mNever, mBreak, mCont, mDrop, mChain, mPar, mGTup, mGCons, mGNil, pGcd, pI, pI0, pIx, pTimes, pPlus, pEq, pNe, pLen, pSum, pMaxS, pAll, pAny, pTupOf, pLstOf, pIn, pIsB, pIsi, items_tup, items_lst, items_kl, items_mr, items_tab, items_lot, items_fr, decide_true, decide_false, eqP_int, eqP_bl, eqP_str, eqP_tup2, kit_tt, kit_ii, kit_ib, tyP, mEnd, wipeP, List.map_cons, List.map_nil, List.getElem?_cons_zero, List.getElem?_cons_succ, List.set_cons_zero, List.set_cons_succ, atI_zero, atI_one, if_true, if_false, ite_true, ite_false, Bool.false_eq_true, List.length_cons, List.length_nil, Bool.not_true, Bool.not_false, S_are_words]
    refine ⟨trivial, ws, rfl, hW, ?_⟩
    exact hN _ _ ⟨_, _, _, _, _, rfl, D5⟩
  · obtain ⟨G, y2, y3, y4, y5, rfl, D2⟩ := hI
    show R1 _ _
    subst hR1
    simp only [pMaxT, pSortT, str_to, str_ot, mPar3, mLockV, mLockE, mItemsC, mKeysC, mDGet2, pIsN, isNonP, pRepLM, mTruD, dkOfP, pPopAt, pIndex, mLstRgM, mTruth, pReprA, pLenD, pLstD, mDNew, pRepL, mLenSetN, mDIn, mSortSet, mSortSetL, mRevT, mForC, mSeqC, mLcC, pAbs, pMax2, pMin2, pInt1, mDGet, mDPut, mBM, mBM0, pPop, pAppend, pExtend, pSetL, mSub, mDisp, mPs, mPs0, mRevL, mRevLM, pLstOfM, mTupRg, mRg1, mRg2, pPlusM, lstItems, dictOfP, keyP, keysP, val_left, val_mixed, val_draws, put_draws, mLc, mLcM, mLc2, mFor, mSeqI, mRng1, mRng2, mZip, mEnum, mSl, mNoPart, mPart, mSeq, mAsg, mAsg2, mCB, mCons, mNil, mVar, mC, mOp, mUn, pU, mTup, mLst, mRet, mRetN, mLstM, getl, setl, mName, mCall, mCallK, mIf, mIfS, mTest, mAnd, mOr, mNot, mYes, mAndV, mOrV, mNotV, mNext, mNever, mBreak, mCont, mDrop, mChain, mPar, mGTup, mGCons, mGNil, pGcd, pI, pI0, pIx, pTimes, pPlus, pEq, pNe, pLen, pSum, pMaxS, pAll, pAny, pTupOf, pLstOf, pIn, pIsB, pIsi, items_tup, items_lst, items_kl, items_mr, items_tab, items_lot, items_fr, decide_true, decide_false, eqP_int, eqP_bl, eqP_str, eqP_tup2, kit_tt, kit_ii, kit_ib, tyP, mEnd, wipeP, List.map_cons, List.map_nil, List.getElem?_cons_zero, List.getElem?_cons_succ, List.set_cons_zero, List.set_cons_succ, atI_zero, atI_one, if_true, if_false, ite_true, ite_false, Bool.false_eq_true, List.length_cons, List.length_nil, Bool.not_true, Bool.not_false]
    exact fin_keep (hQ _)
theorem all_ok (B : Blt mg) (o__law_deck : Own K mg "_law_deck" s__law_deck) (o__law_draw : Own K mg "_law_draw" s__law_draw) (o_digits_of : Own K mg "digits_of" s_digits_of) (o_is_integer : Own K mg "is_integer" s_is_integer) (o__law_first : Own K mg "_law_first" s__law_first) (o_is_begun : Own K mg "is_begun" s_is_begun) (o__law_words : Own K mg "_law_words" s__law_words) (o_first_of : Own K mg "first_of" s_first_of) (o_is_within : Own K mg "is_within" s_is_within) (o__law_pick : Own K mg "_law_pick" s__law_pick) (o_are_integers : Own K mg "are_integers" s_are_integers) (o__law_lengths : Own K mg "_law_lengths" s__law_lengths) (o_first_words : Own K mg "first_words" s_first_words) (o_are_bits : Own K mg "are_bits" s_are_bits) (o_are_words : Own K mg "are_words" s_are_words) (o_check_words : Own K mg "check_words" s_check_words) (o_are_full : Own K mg "are_full" s_are_full) (o__law_is_first_right : Own K mg "_law_is_first_right" s__law_is_first_right) (o_law : Own K mg "law" s_law) {t_MOST_LENGTH : Tok} (c_MOST_LENGTH : mg "MOST_LENGTH" = some (.int 30 t_MOST_LENGTH)) {t_MOST_OUTCOMES : Tok} (c_MOST_OUTCOMES : mg "MOST_OUTCOMES" = some (.int 8 t_MOST_OUTCOMES)) : Ok P w K mg base 9 "law" s_law ["_law_script"] S_law := by
  have k__law_deck : Ok P w K mg base 1 "_law_deck" s__law_deck ["_law_script"] S__law_deck := ok__law_deck B o__law_deck 
  have k__law_draw : Ok P w K mg base 1 "_law_draw" s__law_draw ["_law_deck_here", "_law_below"] S__law_draw := ok__law_draw B o__law_draw 
  have k_digits_of : Ok P w K mg base 1 "digits_of" s_digits_of ["number", "many"] S_digits_of := ok_digits_of B o_digits_of 
  have k_is_integer : Ok P w K mg base 1 "is_integer" s_is_integer ["thing"] S_is_integer := ok_is_integer B o_is_integer 
  have k__law_first : Ok P w K mg base 1 "_law_first" s__law_first ["_law_lengths_here"] S__law_first := ok__law_first B o__law_first 
  have k_is_begun : Ok P w K mg base 1 "is_begun" s_is_begun ["words", "i"] S_is_begun := ok_is_begun B o_is_begun 
  have k__law_words : Ok P w K mg base 2 "_law_words" s__law_words ["_law_deck_here", "_law_most"] S__law_words := ok__law_words B o__law_words k__law_draw
  have k_first_of : Ok P w K mg base 2 "first_of" s_first_of ["lengths"] S_first_of := ok_first_of B o_first_of k_digits_of
  have k_is_within : Ok P w K mg base 2 "is_within" s_is_within ["thing", "low", "high"] S_is_within := ok_is_within B o_is_within k_is_integer
  have k__law_pick : Ok P w K mg base 2 "_law_pick" s__law_pick ["_law_deck_here", "_law_some"] S__law_pick := ok__law_pick B o__law_pick k__law_draw
  have k_are_integers : Ok P w K mg base 3 "are_integers" s_are_integers ["thing", "low", "high"] S_are_integers := ok_are_integers B o_are_integers k_is_within
  have k__law_lengths : Ok P w K mg base 3 "_law_lengths" s__law_lengths ["_law_deck_here"] S__law_lengths := ok__law_lengths B o__law_lengths k__law_draw k__law_words k__law_pick
  have k_first_words : Ok P w K mg base 4 "first_words" s_first_words ["lengths"] S_first_words := ok_first_words B o_first_words k_are_integers k_first_of c_MOST_LENGTH c_MOST_OUTCOMES
  have k_are_bits : Ok P w K mg base 4 "are_bits" s_are_bits ["thing"] S_are_bits := ok_are_bits B o_are_bits k_are_integers
  have k_are_words : Ok P w K mg base 5 "are_words" s_are_words ["thing"] S_are_words := ok_are_words B o_are_words k_is_begun k_are_bits c_MOST_OUTCOMES
  have k_check_words : Ok P w K mg base 6 "check_words" s_check_words ["words"] S_check_words := ok_check_words B o_check_words k_are_words
  have k_are_full : Ok P w K mg base 7 "are_full" s_are_full ["words"] S_are_full := ok_are_full B o_are_full k_check_words
  have k__law_is_first_right : Ok P w K mg base 8 "_law_is_first_right" s__law_is_first_right ["_law_deck_here", "_law_lengths_here"] S__law_is_first_right := ok__law_is_first_right B o__law_is_first_right k__law_first k_first_words k_are_full k_are_words k__law_draw
  have k_law : Ok P w K mg base 9 "law" s_law ["_law_script"] S_law := ok_law B o_law k__law_deck k__law_is_first_right k__law_lengths k__law_words k_first_words k_are_words
  exact k_law
end
end K63
namespace K63
open PySem PySem.Spec PyProof.Rows L2 RZ Fx MR
theorem all_mk {P : Program} {w : World} {K : PySem.W.Frag} {h : Heap} {mg : Str → Option Value} {fa : Addr} (X : K.In h) (G : h.Ns mainGlobals mg) (hfa : mg "law" = some (.ref fa))
    (o__law_deck : Own K mg "_law_deck" s__law_deck)
    (o__law_draw : Own K mg "_law_draw" s__law_draw)
    (o_digits_of : Own K mg "digits_of" s_digits_of)
    (o_is_integer : Own K mg "is_integer" s_is_integer)
    (o__law_first : Own K mg "_law_first" s__law_first)
    (o_is_begun : Own K mg "is_begun" s_is_begun)
    (o__law_words : Own K mg "_law_words" s__law_words)
    (o_first_of : Own K mg "first_of" s_first_of)
    (o_is_within : Own K mg "is_within" s_is_within)
    (o__law_pick : Own K mg "_law_pick" s__law_pick)
    (o_are_integers : Own K mg "are_integers" s_are_integers)
    (o__law_lengths : Own K mg "_law_lengths" s__law_lengths)
    (o_first_words : Own K mg "first_words" s_first_words)
    (o_are_bits : Own K mg "are_bits" s_are_bits)
    (o_are_words : Own K mg "are_words" s_are_words)
    (o_check_words : Own K mg "check_words" s_check_words)
    (o_are_full : Own K mg "are_full" s_are_full)
    (o__law_is_first_right : Own K mg "_law_is_first_right" s__law_is_first_right)
    (o_law : Own K mg "law" s_law)
    (z_abs : PySem.W.nsIn K mainGlobals "abs" = some none)
    (z_len : PySem.W.nsIn K mainGlobals "len" = some none)
    (z_sum : PySem.W.nsIn K mainGlobals "sum" = some none)
    (z_all : PySem.W.nsIn K mainGlobals "all" = some none)
    (z_any : PySem.W.nsIn K mainGlobals "any" = some none)
    (z_isinstance : PySem.W.nsIn K mainGlobals "isinstance" = some none)
    (z_repr : PySem.W.nsIn K mainGlobals "repr" = some none)
    (z_int : PySem.W.nsIn K mainGlobals "int" = some none)
    (z_tuple : PySem.W.nsIn K mainGlobals "tuple" = some none)
    (z_list : PySem.W.nsIn K mainGlobals "list" = some none)
    (z_bool : PySem.W.nsIn K mainGlobals "bool" = some none)
    (z_str : PySem.W.nsIn K mainGlobals "str" = some none)
    (z_range : PySem.W.nsIn K mainGlobals "range" = some none)
    (z_zip : PySem.W.nsIn K mainGlobals "zip" = some none)
    (z_enumerate : PySem.W.nsIn K mainGlobals "enumerate" = some none)
    (z_max : PySem.W.nsIn K mainGlobals "max" = some none)
    (z_min : PySem.W.nsIn K mainGlobals "min" = some none)
    (z_sorted : PySem.W.nsIn K mainGlobals "sorted" = some none)
    (z_reversed : PySem.W.nsIn K mainGlobals "reversed" = some none)
    (z_set : PySem.W.nsIn K mainGlobals "set" = some none)
    (z_dict : PySem.W.nsIn K mainGlobals "dict" = some none)
    {t_MOST_LENGTH : Tok} (c_MOST_LENGTH : PySem.W.nsIn K mainGlobals "MOST_LENGTH" = some (some (.int 30 t_MOST_LENGTH)))
    {t_MOST_OUTCOMES : Tok} (c_MOST_OUTCOMES : PySem.W.nsIn K mainGlobals "MOST_OUTCOMES" = some (some (.int 8 t_MOST_OUTCOMES))) :
    ∃ fd : FuncData, (∀ (s : Shared) (u : Value), BindsTo s fd ⟨[u], []⟩ [("_law_script", u)]) ∧ ∀ base : Heap, K.In base → base.Ns mainGlobals mg → FnG P w K mg base 9 fa fd ["_law_script"] (lawS 63) := by
  have B : Blt mg := blt_mk X G (fun x hx => by
    simp only [names0, List.mem_cons, List.not_mem_nil, or_false] at hx
    rcases hx with rfl | rfl | rfl | rfl | rfl | rfl | rfl | rfl | rfl | rfl | rfl | rfl | rfl | rfl | rfl | rfl | rfl | rfl | rfl | rfl | rfl <;> assumption)
  refine law_fin hfa o_law (fun _ _ _ _ _ _ _ _ => .of_eq rfl) (fun base hK hg => all_ok B o__law_deck o__law_draw o_digits_of o_is_integer o__law_first o_is_begun o__law_words o_first_of o_is_within o__law_pick o_are_integers o__law_lengths o_first_words o_are_bits o_are_words o_check_words o_are_full o__law_is_first_right o_law  (PySem.W.mg_of X G c_MOST_LENGTH) (PySem.W.mg_of X G c_MOST_OUTCOMES)) ?_
  rintro xs μ Q ⟨rfl, ns, rfl, hl, hQ⟩
  exact ⟨rfl, ns, rfl, rfl, hQ⟩
end K63
open PySem PySem.W PyProof.Rows
set_option maxHeartbeats 0 in
theorem PySem.Challenge.cw_drawnbits_k63_whole_first_words_with_len_holds : PySem.Challenge.rw_drawnbits_k63_whole_first_words_with_len.Holds := by
  w_on; o_law; k_head; (case hw => w_witness2)
  k_fill
  refine Fx.walk_law (l := PySem.Challenge.rw_drawnbits_k63_whole_first_words_with_len) (n := 63) (k := 9) (x := "_law_script") rfl (by decide) rfl ⟨rfl, by decide, by decide⟩ (fun w h Y => PySem.W.kIn_of Y) ?F
  case F =>
    intro w mg fa h KX G hmg
    refine' K63.all_mk KX G hmg ?o__law_deck ?o__law_draw ?o_digits_of ?o_is_integer ?o__law_first ?o_is_begun ?o__law_words ?o_first_of ?o_is_within ?o__law_pick ?o_are_integers ?o__law_lengths ?o_first_words ?o_are_bits ?o_are_words ?o_check_words ?o_are_full ?o__law_is_first_right ?o_law ?z_abs ?z_len ?z_sum ?z_all ?z_any ?z_isinstance ?z_repr ?z_int ?z_tuple ?z_list ?z_bool ?z_str ?z_range ?z_zip ?z_enumerate ?z_max ?z_min ?z_sorted ?z_reversed ?z_set ?z_dict ?c_MOST_LENGTH ?c_MOST_OUTCOMES
    (case o__law_deck => refine' Fx.own_mk KX G ?a ?l ?c ?k; (case a => k_is); (case l => k_is); (case c => k_is); (case k => k_is))
    (case o__law_draw => refine' Fx.own_mk KX G ?a ?l ?c ?k; (case a => k_is); (case l => k_is); (case c => k_is); (case k => k_is))
    (case o_digits_of => refine' Fx.own_mk KX G ?a ?l ?c ?k; (case a => k_is); (case l => k_is); (case c => k_is); (case k => k_is))
    (case o_is_integer => refine' Fx.own_mk KX G ?a ?l ?c ?k; (case a => k_is); (case l => k_is); (case c => k_is); (case k => k_is))
    (case o__law_first => refine' Fx.own_mk KX G ?a ?l ?c ?k; (case a => k_is); (case l => k_is); (case c => k_is); (case k => k_is))
    (case o_is_begun => refine' Fx.own_mk KX G ?a ?l ?c ?k; (case a => k_is); (case l => k_is); (case c => k_is); (case k => k_is))
    (case o__law_words => refine' Fx.own_mk KX G ?a ?l ?c ?k; (case a => k_is); (case l => k_is); (case c => k_is); (case k => k_is))
    (case o_first_of => refine' Fx.own_mk KX G ?a ?l ?c ?k; (case a => k_is); (case l => k_is); (case c => k_is); (case k => k_is))
    (case o_is_within => refine' Fx.own_mk KX G ?a ?l ?c ?k; (case a => k_is); (case l => k_is); (case c => k_is); (case k => k_is))
    (case o__law_pick => refine' Fx.own_mk KX G ?a ?l ?c ?k; (case a => k_is); (case l => k_is); (case c => k_is); (case k => k_is))
    (case o_are_integers => refine' Fx.own_mk KX G ?a ?l ?c ?k; (case a => k_is); (case l => k_is); (case c => k_is); (case k => k_is))
    (case o__law_lengths => refine' Fx.own_mk KX G ?a ?l ?c ?k; (case a => k_is); (case l => k_is); (case c => k_is); (case k => k_is))
    (case o_first_words => refine' Fx.own_mk KX G ?a ?l ?c ?k; (case a => k_is); (case l => k_is); (case c => k_is); (case k => k_is))
    (case o_are_bits => refine' Fx.own_mk KX G ?a ?l ?c ?k; (case a => k_is); (case l => k_is); (case c => k_is); (case k => k_is))
    (case o_are_words => refine' Fx.own_mk KX G ?a ?l ?c ?k; (case a => k_is); (case l => k_is); (case c => k_is); (case k => k_is))
    (case o_check_words => refine' Fx.own_mk KX G ?a ?l ?c ?k; (case a => k_is); (case l => k_is); (case c => k_is); (case k => k_is))
    (case o_are_full => refine' Fx.own_mk KX G ?a ?l ?c ?k; (case a => k_is); (case l => k_is); (case c => k_is); (case k => k_is))
    (case o__law_is_first_right => refine' Fx.own_mk KX G ?a ?l ?c ?k; (case a => k_is); (case l => k_is); (case c => k_is); (case k => k_is))
    (case o_law => refine' Fx.own_mk KX G ?a ?l ?c ?k; (case a => k_is); (case l => k_is); (case c => k_is); (case k => k_is))
    (case z_abs => k_is)
    (case z_len => k_is)
    (case z_sum => k_is)
    (case z_all => k_is)
    (case z_any => k_is)
    (case z_isinstance => k_is)
    (case z_repr => k_is)
    (case z_int => k_is)
    (case z_tuple => k_is)
    (case z_list => k_is)
    (case z_bool => k_is)
    (case z_str => k_is)
    (case z_range => k_is)
    (case z_zip => k_is)
    (case z_enumerate => k_is)
    (case z_max => k_is)
    (case z_min => k_is)
    (case z_sorted => k_is)
    (case z_reversed => k_is)
    (case z_set => k_is)
    (case z_dict => k_is)
    (case c_MOST_LENGTH => k_is)
    (case c_MOST_OUTCOMES => k_is)
