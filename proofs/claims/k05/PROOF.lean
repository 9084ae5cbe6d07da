import PyProof.Rows.All
import Wide.All
import OpenK.AllK
import Wide.FinOn
import HandS.List
import HandS.TupAny
import KE.DataFind
import HandS.Iter
import HandS.Zip
import HandS.Conv
import HandS.TupMul
import HandS.Walk
import HandS.TupSets
import HandS.TupLen
import KE.KeyNested
import KE.KDictWalk
import HandS.ForMost
import HandS.IsInst
import HandS.Gcd
import HandS.Wide
import HandS.TupLe
import HandS.Style
import HandS.Flow
import KE.KMathG
import KE.DatumOrd
import PyProof.ReprRoads
import KE.GoesEnum
import HandS.Comp
import HandS.SetFor
import HandS.Strs
import HandS.WordsDict
import HandS.WideBits
import HandS.RaiseMore
import KE.BitLaws
import HandS.Dict
import KE.KMathGC
import PyProof.StrLawsRepr
import HandS.Small
import HandS.More
import HandS.DictComp
import KE.SortData
import PyProof.Rows.Digits
import PyProof.Rows.StrOr
import PySem.Challenge.RW_drawnbits_k05_whole_row_chances_and_coun
set_option Elab.async false
set_option linter.all false
set_option maxRecDepth 100000
set_option maxHeartbeats 4000000
set_option synthInstance.maxHeartbeats 400000
set_option synthInstance.maxSize 4096
namespace MR
def Sm (n : Nat) (q : Rat) : Prop := q.num.natAbs < 2 ^ n ∧ q.den < 2 ^ n
theorem Sm.mono {m n : Nat} {q : Rat} (h : Sm m q) (l : m ≤ n) : Sm n q :=
  ⟨Nat.lt_of_lt_of_le h.1 (Nat.pow_le_pow_right (by decide) l), Nat.lt_of_lt_of_le h.2 (Nat.pow_le_pow_right (by decide) l)⟩
theorem divInt_parts (a b : Int) (hb : 0 < b) : (Rat.divInt a b).num = a / ((Nat.gcd a.natAbs b.natAbs : Nat) : Int) ∧ (((Rat.divInt a b).den : Nat) : Int) = b / ((Nat.gcd a.natAbs b.natAbs : Nat) : Int) := by
  obtain ⟨n, rfl⟩ : ∃ n : Nat, b = (n : Int) := ⟨b.toNat, by omega⟩
  have hn : n ≠ 0 := by omega
  have e : (Rat.divInt a (n : Int)) = Rat.normalize a n hn := by
    rw [Rat.normalize_eq_mkRat]
    rfl
  rw [e, Rat.normalize_eq]
  simp only [Int.natAbs_natCast]
  refine ⟨trivial, ?_⟩
  rw [Int.natCast_ediv]
theorem lowest_eq (a b : Int) (hb : 0 < b) : a.fdiv ((Nat.gcd a.natAbs b.natAbs : Nat) : Int) = (Rat.divInt a b).num ∧ b.fdiv ((Nat.gcd a.natAbs b.natAbs : Nat) : Int) = (((Rat.divInt a b).den : Nat) : Int) := by
  obtain ⟨h1, h2⟩ := divInt_parts a b hb
  rw [h1, h2, Int.fdiv_eq_ediv_of_nonneg _ (Int.natCast_nonneg _), Int.fdiv_eq_ediv_of_nonneg _ (Int.natCast_nonneg _)]
  exact ⟨rfl, rfl⟩
theorem sm_divInt {a b : Int} {n : Nat} (ha : a.natAbs < 2 ^ n) (h0 : 0 < b) (hb : b.natAbs < 2 ^ n) : Sm n (Rat.divInt a b) := by
  obtain ⟨h1, h2⟩ := divInt_parts a b h0
  constructor
  · rw [h1, Int.natAbs_ediv_of_dvd]
    · exact Nat.lt_of_le_of_lt (Nat.div_le_self _ _) ha
    · exact Int.ofNat_dvd_left.mpr (Nat.gcd_dvd_left _ _)
  · have : ((Rat.divInt a b).den : Int).natAbs < 2 ^ n := by
      rw [h2, Int.natAbs_ediv_of_dvd]
      · exact Nat.lt_of_le_of_lt (Nat.div_le_self _ _) hb
      · exact Int.ofNat_dvd_left.mpr (Nat.gcd_dvd_right _ _)
    simpa using this
theorem mul_eq (p q : Rat) : p * q = Rat.divInt (p.num * q.num) ((p.den : Int) * (q.den : Int)) := by
  conv => lhs; rw [← Rat.num_divInt_den p, ← Rat.num_divInt_den q]
  rw [Rat.divInt_mul_divInt]
theorem add_eq (p q : Rat) : p + q = Rat.divInt (p.num * (q.den : Int) + q.num * (p.den : Int)) ((p.den : Int) * (q.den : Int)) := by
  conv => lhs; rw [← Rat.num_divInt_den p, ← Rat.num_divInt_den q]
  rw [Rat.divInt_add_divInt _ _ (by have := p.den_nz; omega) (by have := q.den_nz; omega)]
theorem den_pos (p : Rat) : 0 < (p.den : Int) := by have := p.den_nz; omega
theorem natAbs_mul_lt {x y : Int} {m n : Nat} (hx : x.natAbs < 2 ^ m) (hy : y.natAbs < 2 ^ n) : (x * y).natAbs < 2 ^ (m + n) := by
  rw [Int.natAbs_mul, Nat.pow_add]
  exact Nat.mul_lt_mul'' hx hy
theorem natAbs_add_lt {x y : Int} {n : Nat} (hx : x.natAbs < 2 ^ n) (hy : y.natAbs < 2 ^ n) : (x + y).natAbs < 2 ^ (n + 1) := by
  rw [Nat.pow_succ]
  omega
theorem Sm.mul {m n : Nat} {p q : Rat} (hp : Sm m p) (hq : Sm n q) : Sm (m + n) (p * q) := by
  rw [mul_eq]
  refine sm_divInt (natAbs_mul_lt hp.1 hq.1) (Int.mul_pos (den_pos p) (den_pos q)) ?_
  exact natAbs_mul_lt (x := (p.den : Int)) (y := (q.den : Int)) (by simpa using hp.2) (by simpa using hq.2)
theorem Sm.add {m n : Nat} {p q : Rat} (hp : Sm m p) (hq : Sm n q) : Sm (m + n + 1) (p + q) := by
  rw [add_eq]
  have h1 := natAbs_mul_lt (y := (q.den : Int)) hp.1 (by simpa using hq.2)
  have h2 := natAbs_mul_lt (y := (p.den : Int)) hq.1 (by simpa using hp.2)
  rw [Nat.add_comm n m] at h2
  refine sm_divInt (natAbs_add_lt h1 h2) (Int.mul_pos (den_pos p) (den_pos q)) ?_
  have := natAbs_mul_lt (x := (p.den : Int)) (y := (q.den : Int)) (by simpa using hp.2) (by simpa using hq.2)
  exact Nat.lt_of_lt_of_le this (Nat.pow_le_pow_right (by decide) (by omega))
end MR
namespace MR
theorem mul_den (q : Rat) : q * (q.den : Rat) = (q.num : Rat) := by
  have h : Rat.divInt q.num q.den = q := Rat.num_divInt_den q
  rw [Rat.divInt_eq_div] at h
  have h0 : (((q.den : Nat) : Int) : Rat) ≠ 0 := by
    have := q.den_nz
    intro e
    rw [Rat.intCast_natCast] at e
    exact this (Rat.natCast_inj.mp e)
  rw [Rat.intCast_natCast] at h h0
  generalize (q.den : Rat) = x at *
  generalize (q.num : Rat) = y at *
  rw [← h]
  grind
def Cm (D : Nat) (q : Rat) : Prop := ∃ k : Int, q * (D : Rat) = (k : Rat)
theorem cm_den {D : Nat} {q : Rat} (h : Cm D q) : q.den ∣ D := by
  obtain ⟨k, h⟩ := h
  have e : q * (q.den : Rat) = (q.num : Rat) := mul_den q
  have h2 : (q.num : Rat) * ((D : Int) : Rat) = (k : Rat) * ((q.den : Int) : Rat) := by
    rw [Rat.intCast_natCast, Rat.intCast_natCast]
    grind
  rw [← Rat.intCast_mul, ← Rat.intCast_mul, Rat.intCast_inj] at h2
  have h3 : q.den ∣ q.num.natAbs * D := by
    have : (q.den : Int) ∣ q.num * (D : Int) := ⟨k, by rw [h2]; exact Int.mul_comm _ _⟩
    have := Int.natAbs_dvd_natAbs.mpr this
    rw [Int.natAbs_mul] at this
    exact this
  exact (Nat.Coprime.dvd_of_dvd_mul_left q.reduced.symm h3)
theorem cm_int (D : Nat) (k : Int) : Cm D (k : Rat) := ⟨k * D, by rw [Rat.intCast_mul, Rat.intCast_natCast]⟩
theorem Cm.add {D : Nat} {p q : Rat} (hp : Cm D p) (hq : Cm D q) : Cm D (p + q) := by
  obtain ⟨k, hk⟩ := hp
  obtain ⟨l, hl⟩ := hq
  exact ⟨k + l, by rw [Rat.intCast_add]; grind⟩
theorem Cm.sub {D : Nat} {p q : Rat} (hp : Cm D p) (hq : Cm D q) : Cm D (p - q) := by
  obtain ⟨k, hk⟩ := hp
  obtain ⟨l, hl⟩ := hq
  exact ⟨k - l, by rw [Rat.intCast_sub]; grind⟩
theorem Cm.mul {D E : Nat} {p q : Rat} (hp : Cm D p) (hq : Cm E q) : Cm (D * E) (p * q) := by
  obtain ⟨k, hk⟩ := hp
  obtain ⟨l, hl⟩ := hq
  exact ⟨k * l, by rw [Rat.intCast_mul, Rat.natCast_mul]; grind⟩
theorem Cm.dvd {D E : Nat} {p : Rat} (hp : Cm D p) (h : D ∣ E) : Cm E p := by
  obtain ⟨k, hk⟩ := hp
  obtain ⟨c, rfl⟩ := h
  exact ⟨k * c, by rw [Rat.intCast_mul, Rat.natCast_mul, Rat.intCast_natCast]; grind⟩
theorem Cm.sum {D : Nat} : ∀ {qs : List Rat}, (∀ q ∈ qs, Cm D q) → Cm D qs.sum
  | [], _ => cm_int D 0
  | q :: qs, h => by
    rw [List.sum_cons]
    exact (h q List.mem_cons_self).add (Cm.sum fun x hx => h x (List.mem_cons_of_mem _ hx))
theorem Cm.sm {D n : Nat} {q : Rat} (h : Cm D q) (hD : 0 < D) (hn : D < 2 ^ n) {m : Nat} (h0 : 0 ≤ q) (h1 : q < (2 ^ m : Nat)) : Sm (n + m) q := by
  have hd : q.den ≤ D := Nat.le_of_dvd hD (cm_den h)
  have hm : 0 < 2 ^ m := Nat.pow_pos (by decide)
  have hl : q.den < 2 ^ n := Nat.lt_of_le_of_lt hd hn
  have hb : 2 ^ n ≤ 2 ^ (n + m) := Nat.pow_le_pow_right (by decide) (by omega)
  refine ⟨?_, Nat.lt_of_lt_of_le hl hb⟩
  have hp : 0 ≤ q.num := Rat.num_nonneg.mpr h0
  have := (Rat.lt_iff _ _).mp h1
  rw [Rat.num_natCast, Rat.den_natCast] at this
  have h2 : q.num < ((2 ^ m * q.den : Nat) : Int) := by
    rw [Int.natCast_mul]
    simpa using this
  have h3 : q.num.natAbs < 2 ^ m * q.den := by omega
  have h4 : 2 ^ m * q.den < 2 ^ m * 2 ^ n := Nat.mul_lt_mul_of_pos_left hl hm
  rw [Nat.pow_add, Nat.mul_comm (2 ^ n)]
  exact Nat.lt_trans h3 h4
theorem sum_nonneg : ∀ {qs : List Rat}, (∀ q ∈ qs, 0 ≤ q) → 0 ≤ qs.sum
  | [], _ => by decide
  | q :: qs, h => by
    rw [List.sum_cons]
    have h1 := h q List.mem_cons_self
    have h2 := sum_nonneg fun x hx => h x (List.mem_cons_of_mem _ hx)
    grind
theorem sub_sum {ps qs : List Rat} (s : List.Sublist ps qs) (h : ∀ q ∈ qs, 0 ≤ q) : ps.sum ≤ qs.sum := by
  induction s with
  | slnil => exact Rat.le_refl
  | cons a s ih =>
    rw [List.sum_cons]
    have h1 := h a List.mem_cons_self
    have h2 := ih fun x hx => h x (List.mem_cons_of_mem _ hx)
    grind
  | cons_cons a s ih =>
    rw [List.sum_cons, List.sum_cons]
    have h2 := ih fun x hx => h x (List.mem_cons_of_mem _ hx)
    grind
theorem mem_le_sum {qs : List Rat} {q : Rat} (hq : q ∈ qs) (h : ∀ q ∈ qs, 0 ≤ q) : q ≤ qs.sum := by
  have := sub_sum (List.singleton_sublist.mpr hq) h
  rw [List.sum_cons] at this
  have e : ([] : List Rat).sum = 0 := rfl
  rw [e] at this
  grind
structure Sb (n : Nat) (qs : List Rat) : Prop where
  pos : ∀ q ∈ qs, 0 ≤ q
  top : qs.sum < (2 ^ 40 : Nat)
  com : ∃ D : Nat, 0 < D ∧ D < 2 ^ n ∧ ∀ q ∈ qs, Cm D q
theorem Sb.mono {m n : Nat} {qs : List Rat} (h : Sb m qs) (l : m ≤ n) : Sb n qs :=
  ⟨h.pos, h.top, let ⟨D, h1, h2, h3⟩ := h.com; ⟨D, h1, Nat.lt_of_lt_of_le h2 (Nat.pow_le_pow_right (by decide) l), h3⟩⟩
theorem Sb.sub {n : Nat} {ps qs : List Rat} (h : Sb n qs) (s : List.Sublist ps qs) : Sb n ps :=
  ⟨fun q hq => h.pos q (s.subset hq), by have := sub_sum s h.pos; have := h.top; grind, let ⟨D, h1, h2, h3⟩ := h.com; ⟨D, h1, h2, fun q hq => h3 q (s.subset hq)⟩⟩
theorem Sb.sum_sm {n : Nat} {qs : List Rat} (h : Sb n qs) : Sm (n + 40) qs.sum := by
  obtain ⟨D, h1, h2, h3⟩ := h.com
  exact (Cm.sum h3).sm h1 h2 (sum_nonneg h.pos) h.top
theorem Sb.mem_sm {n : Nat} {qs : List Rat} (h : Sb n qs) {q : Rat} (hq : q ∈ qs) : Sm (n + 40) q := by
  obtain ⟨D, h1, h2, h3⟩ := h.com
  have := mem_le_sum hq h.pos
  have := h.top
  exact (h3 q hq).sm h1 h2 (h.pos q hq) (by grind)
structure Tab (n : Nat) (qs : List Rat) : Prop where
  ne : qs ≠ []
  len : qs.length ≤ 8
  pos : ∀ q ∈ qs, 0 ≤ q
  one : qs.sum = 1
  com : ∃ D : Nat, 0 < D ∧ D < 2 ^ n ∧ ∀ q ∈ qs, Cm D q
theorem Tab.mono {m n : Nat} {qs : List Rat} (h : Tab m qs) (l : m ≤ n) : Tab n qs :=
  ⟨h.ne, h.len, h.pos, h.one, let ⟨D, h1, h2, h3⟩ := h.com; ⟨D, h1, Nat.lt_of_lt_of_le h2 (Nat.pow_le_pow_right (by decide) l), h3⟩⟩
theorem Tab.sb {n : Nat} {qs : List Rat} (h : Tab n qs) : Sb n qs := ⟨h.pos, by rw [h.one]; exact Rat.lt_iff_le_and_ne.mpr ⟨by decide, by decide⟩, h.com⟩
theorem Tab.le1 {n : Nat} {qs : List Rat} (h : Tab n qs) {q : Rat} (hq : q ∈ qs) : q ≤ 1 := by
  have := mem_le_sum hq h.pos
  rw [h.one] at this
  exact this
theorem Tab.sm {n : Nat} {qs : List Rat} (h : Tab n qs) {q : Rat} (hq : q ∈ qs) : Sm (n + 1) q := by
  obtain ⟨D, h1, h2, h3⟩ := h.com
  have := h.le1 hq
  exact (h3 q hq).sm (m := 1) h1 h2 (h.pos q hq) (by
    have : (1 : Rat) < ((2 ^ 1 : Nat) : Rat) := Rat.lt_iff_le_and_ne.mpr ⟨by decide, by decide⟩
    grind)
structure Lot (many : Nat) (ns : List Nat) : Prop where
  asc : ns.Pairwise (· < ·)
  lt : ∀ n ∈ ns, n < many
  le : many ≤ 8
def lotQ (qs : List Rat) (ns : List Nat) : List Rat := ns.map fun i => qs.getD i 0
theorem lot_sub0 : ∀ (qs : List Rat) (a : Nat) (ns : List Nat), ns.Pairwise (· < ·) → (∀ n ∈ ns, a ≤ n ∧ n < a + qs.length) → (ns.map fun i => qs.getD (i - a) 0).Sublist qs
  | [], a, ns, _, h => by
    cases ns with
    | nil => exact .slnil
    | cons n ns => have := h n List.mem_cons_self; simp at this; omega
  | q :: qs, a, [], _, _ => List.nil_sublist _
  | q :: qs, a, n :: ns, hp, h => by
    have hn := h n List.mem_cons_self
    rw [List.pairwise_cons] at hp
    have step : ∀ ms : List Nat, ms.Pairwise (· < ·) → (∀ m ∈ ms, a + 1 ≤ m ∧ m < a + (qs.length + 1)) → (ms.map fun i => (q :: qs).getD (i - a) 0).Sublist qs := fun ms h1 h2 => by
      have ih := lot_sub0 qs (a + 1) ms h1 fun m hm => by have := h2 m hm; omega
      have e : (ms.map fun i => (q :: qs).getD (i - a) 0) = ms.map fun i => qs.getD (i - (a + 1)) 0 := by
        refine List.map_congr_left fun m hm => ?_
        have := h2 m hm
        rw [show m - a = (m - (a + 1)) + 1 by omega]
        rfl
      rw [e]; exact ih
    by_cases e : n = a
    · subst e
      have hs := step ns hp.2 fun m hm => by
        have h1 := hp.1 m hm
        have h2 := h m (List.mem_cons_of_mem _ hm)
        rw [List.length_cons] at h2
        omega
      rw [List.map_cons]
      have e0 : (q :: qs).getD (n - n) 0 = q := by rw [Nat.sub_self]; rfl
      rw [e0]
      exact .cons_cons _ hs
    · refine .cons _ (step (n :: ns) (List.pairwise_cons.mpr hp) fun m hm => ?_)
      have h2 := h m hm
      rw [List.length_cons] at h2
      rcases List.mem_cons.mp hm with rfl | hm
      · omega
      · have := hp.1 m hm; omega
theorem Lot.sub {qs : List Rat} {ns : List Nat} (h : Lot qs.length ns) : (lotQ qs ns).Sublist qs := by
  have := lot_sub0 qs 0 ns h.asc fun n hn => by have := h.lt n hn; omega
  simpa [lotQ] using this
theorem Lot.len {many : Nat} {ns : List Nat} (h : Lot many ns) : ns.length ≤ 8 := by
  have key : ∀ (ns : List Nat) (a : Nat), ns.Pairwise (· < ·) → (∀ n ∈ ns, a ≤ n ∧ n < 8) → ns.length ≤ 8 - a := by
    intro ns
    induction ns with
    | nil => intro a _ _; simp
    | cons n ns ih =>
      intro a hp h
      rw [List.pairwise_cons] at hp
      have h1 := h n List.mem_cons_self
      have := ih (n + 1) hp.2 fun m hm => by
        have h2 := hp.1 m hm
        have h3 := h m (List.mem_cons_of_mem _ hm)
        omega
      rw [List.length_cons]
      omega
  have := key ns 0 h.asc fun n hn => by have := h.lt n hn; have := h.le; omega
  omega
def named (qs : List Rat) (ns : List Nat) (x : Nat) : List Rat := ((qs.zip ns).filter fun p => decide (p.2 = x)).map (·.1)
def maxN (ns : List Nat) : Nat := ns.foldr max 0
def ren (qs : List Rat) (ns : List Nat) : List Rat := (List.range (maxN ns + 1)).map fun x => (named qs ns x).sum
theorem named_sub (qs : List Rat) (ns : List Nat) (x : Nat) : (named qs ns x).Sublist qs := by
  unfold named
  refine List.Sublist.trans (List.filter_sublist.map _) ?_
  clear x
  induction qs generalizing ns with
  | nil => simp
  | cons q qs ih =>
    cases ns with
    | nil => simp
    | cons n ns => simpa using ih ns
theorem maxN_le {ns : List Nat} {m : Nat} (h : ∀ n ∈ ns, n ≤ m) : maxN ns ≤ m := by
  unfold maxN
  induction ns with
  | nil => simp
  | cons n ns ih =>
    have := h n List.mem_cons_self
    have := ih fun x hx => h x (List.mem_cons_of_mem _ hx)
    simp only [List.foldr_cons]
    omega
theorem le_maxN {ns : List Nat} {n : Nat} (h : n ∈ ns) : n ≤ maxN ns := by
  unfold maxN
  induction ns with
  | nil => cases h
  | cons m ns ih =>
    simp only [List.foldr_cons]
    rcases List.mem_cons.mp h with rfl | h
    · omega
    · have := ih h; omega
theorem maxN_mem {ns : List Nat} (h : ns ≠ []) : maxN ns ∈ ns := by
  induction ns with
  | nil => exact absurd rfl h
  | cons n ns ih =>
    by_cases e : ns = []
    · subst e; simp [maxN]
    · have := ih e
      show max n (maxN ns) ∈ _
      by_cases hl : n ≤ maxN ns
      · rw [Nat.max_eq_right hl]; exact List.mem_cons_of_mem _ this
      · rw [Nat.max_eq_left (by omega)]; exact List.mem_cons_self
theorem sum_parts {α : Type} (f : α → Rat) (g : α → Nat) (n : Nat) : ∀ (l : List α), (∀ a ∈ l, g a < n) → ((List.range n).map fun x => ((l.filter fun a => decide (g a = x)).map f).sum).sum = (l.map f).sum
  | [], _ => by
    have : ∀ (m : List Nat), (m.map fun _ => (0 : Rat)).sum = 0 := fun m => by
      induction m with
      | nil => rfl
      | cons a m ih => rw [List.map_cons, List.sum_cons, ih]; exact Rat.zero_add 0
    exact this _
  | a :: l, h => by
    have ih := sum_parts f g n l fun b hb => h b (List.mem_cons_of_mem _ hb)
    have ha := h a List.mem_cons_self
    rw [List.map_cons, List.sum_cons, ← ih]
    have key : ∀ (m : List Nat), m.Nodup → ((m.map fun x => (((a :: l).filter fun a => decide (g a = x)).map f).sum).sum) = (if g a ∈ m then f a else 0) + (m.map fun x => ((l.filter fun a => decide (g a = x)).map f).sum).sum := fun m hm => by
      induction m with
      | nil =>
        show (0 : Rat) = 0 + 0
        exact (Rat.zero_add 0).symm
      | cons x m ihm =>
        rw [List.nodup_cons] at hm
        rw [List.map_cons, List.sum_cons, ihm hm.2, List.map_cons, List.sum_cons]
        by_cases e : g a = x
        · subst e
          rw [List.filter_cons, if_pos (by simp), if_neg hm.1, if_pos List.mem_cons_self, List.map_cons, List.sum_cons]
          grind
        · rw [List.filter_cons, if_neg (by simpa using e)]
          by_cases e2 : g a ∈ m
          · rw [if_pos e2, if_pos (List.mem_cons_of_mem _ e2)]
            grind
          · rw [if_neg e2, if_neg (by simp [e, e2])]
            grind
    rw [key _ List.nodup_range, if_pos (List.mem_range.mpr ha)]
theorem zip_fst {qs : List Rat} {ns : List Nat} (h : ns.length = qs.length) : (qs.zip ns).map (·.1) = qs := by
  rw [List.map_fst_zip (by omega)]
theorem ren_tab {n : Nat} {qs : List Rat} {ns : List Nat} (h : Tab n qs) (hl : ns.length = qs.length) (h7 : ∀ x ∈ ns, x ≤ 7) : Tab n (ren qs ns) := by
  have hp : ∀ x, ∀ q ∈ named qs ns x, 0 ≤ q := fun x q hq => h.pos q ((named_sub qs ns x).subset hq)
  refine ⟨?_, ?_, ?_, ?_, ?_⟩
  · unfold ren
    rw [List.range_succ]
    simp
  · unfold ren
    rw [List.length_map, List.length_range]
    have := maxN_le h7
    omega
  · intro q hq
    obtain ⟨x, _, rfl⟩ := List.mem_map.mp hq
    exact sum_nonneg (hp x)
  · have := sum_parts (fun p : Rat × Nat => p.1) (fun p => p.2) (maxN ns + 1) (qs.zip ns) fun p hp => by
      have : p.2 ∈ ns := (List.of_mem_zip (a := p.1) (b := p.2) hp).2
      have := le_maxN this
      omega
    rw [zip_fst hl, h.one] at this
    exact this
  · obtain ⟨D, h1, h2, h3⟩ := h.com
    refine ⟨D, h1, h2, fun q hq => ?_⟩
    obtain ⟨x, _, rfl⟩ := List.mem_map.mp hq
    exact Cm.sum fun q hq => h3 q ((named_sub qs ns x).subset hq)
def numd {α : Type} : Nat → List α → List (Nat × α)
  | _, [] => []
  | i, x :: xs => (i, x) :: numd (i + 1) xs
theorem div_self' {W : Rat} (h : W ≠ 0) : W / W = 1 := by
  rw [Rat.div_def]; exact Rat.mul_inv_cancel W h
theorem sum_add {α : Type} (f g : α → Rat) : ∀ (l : List α), (l.map fun a => f a + g a).sum = (l.map f).sum + (l.map g).sum
  | [] => (Rat.zero_add 0).symm
  | a :: l => by
    rw [List.map_cons, List.sum_cons, List.map_cons, List.sum_cons, List.map_cons, List.sum_cons, sum_add f g l]
    grind
theorem sum_zero {α : Type} : ∀ (l : List α), (l.map fun _ => (0 : Rat)).sum = 0
  | [] => rfl
  | a :: l => by rw [List.map_cons, List.sum_cons, sum_zero l]; exact Rat.zero_add 0
theorem sum_mulL {α : Type} (c : Rat) (f : α → Rat) : ∀ (l : List α), (l.map fun a => c * f a).sum = c * (l.map f).sum
  | [] => (Rat.mul_zero c).symm
  | a :: l => by
    rw [List.map_cons, List.sum_cons, List.map_cons, List.sum_cons, sum_mulL c f l]
    grind
theorem sum_swap {α β : Type} (F : α → β → Rat) (is : List β) : ∀ (l : List α), (is.map fun i => (l.map fun a => F a i).sum).sum = (l.map fun a => (is.map fun i => F a i).sum).sum
  | [] => sum_zero is
  | a :: l => by
    rw [List.map_cons, List.sum_cons, ← sum_swap F is l, ← sum_add]
    congr 1
theorem range_getD : ∀ (t : List Rat), ((List.range t.length).map fun i => t.getD i 0) = t := fun t => by
  apply List.ext_getElem
  · simp
  · intro i h1 h2
    simp
    rw [List.getElem?_eq_getElem h2]
    rfl
def mixc (qs : List Rat) (ts : List (List Rat)) (i : Nat) : List Rat := (qs.zip ts).map fun p => p.1 * p.2.getD i 0
def mix (qs : List Rat) (ts : List (List Rat)) (k : Nat) : List Rat := (List.range k).map fun i => (mixc qs ts i).sum
theorem common_all {n : Nat} : ∀ (ts : List (List Rat)), (∀ t ∈ ts, Tab n t) → ∃ D : Nat, 0 < D ∧ D < 2 ^ (n * ts.length + 1) ∧ ∀ t ∈ ts, ∀ q ∈ t, Cm D q
  | [], _ => ⟨1, by decide, by simp, fun _ h => by cases h⟩
  | t :: ts, h => by
    obtain ⟨D, h1, h2, h3⟩ := common_all ts fun x hx => h x (List.mem_cons_of_mem _ hx)
    obtain ⟨E, g1, g2, g3⟩ := (h t List.mem_cons_self).com
    refine ⟨E * D, Nat.mul_pos g1 h1, ?_, fun x hx q hq => ?_⟩
    · have := Nat.mul_lt_mul'' g2 h2
      rw [← Nat.pow_add] at this
      rw [List.length_cons, Nat.mul_add, Nat.mul_one]
      exact Nat.lt_of_lt_of_le this (Nat.pow_le_pow_right (by decide) (by omega))
    · rcases List.mem_cons.mp hx with rfl | hx
      · exact (g3 q hq).dvd ⟨D, rfl⟩
      · exact (h3 x hx q hq).dvd ⟨E, Nat.mul_comm _ _⟩
theorem getD_cases (t : List Rat) (i : Nat) : t.getD i 0 ∈ t ∨ t.getD i 0 = 0 := by
  by_cases h : i < t.length
  · left
    rw [List.getD_eq_getElem?_getD, List.getElem?_eq_getElem h]
    exact List.getElem_mem h
  · right
    rw [List.getD_eq_getElem?_getD, List.getElem?_eq_none (by omega)]
    rfl
structure Mixes (m n k : Nat) (qs : List Rat) (ts : List (List Rat)) : Prop where
  tab : Tab m qs
  tabs : ∀ t ∈ ts, Tab n t
  len : ts.length = qs.length
  wid : ∀ t ∈ ts, t.length = k
theorem Mixes.le8 {m n k : Nat} {qs : List Rat} {ts : List (List Rat)} (h : Mixes m n k qs ts) : ts.length ≤ 8 := by rw [h.len]; exact h.tab.len
theorem Mixes.comL {m n k : Nat} {qs : List Rat} {ts : List (List Rat)} (h : Mixes m n k qs ts) : ∃ D : Nat, 0 < D ∧ D < 2 ^ (m + (n * ts.length + 1)) ∧ ∀ i, ∀ q ∈ mixc qs ts i, Cm D q := by
  obtain ⟨D, h1, h2, h3⟩ := common_all ts h.tabs
  obtain ⟨E, g1, g2, g3⟩ := h.tab.com
  refine ⟨E * D, Nat.mul_pos g1 h1, ?_, fun i q hq => ?_⟩
  · have := Nat.mul_lt_mul'' g2 h2
    rw [← Nat.pow_add] at this
    exact this
  · obtain ⟨p, hp, rfl⟩ := List.mem_map.mp hq
    have := List.of_mem_zip (a := p.1) (b := p.2) hp
    refine (g3 _ this.1).mul ?_
    rcases getD_cases p.2 i with z | z
    · exact h3 _ this.2 _ z
    · rw [z]; exact cm_int D 0
theorem Mixes.com {m n k : Nat} {qs : List Rat} {ts : List (List Rat)} (h : Mixes m n k qs ts) : ∃ D : Nat, 0 < D ∧ D < 2 ^ (m + (n * 8 + 1)) ∧ ∀ i, ∀ q ∈ mixc qs ts i, Cm D q := by
  obtain ⟨D, h1, h2, h3⟩ := h.comL
  have l8 := Nat.mul_le_mul_left n h.le8
  exact ⟨D, h1, Nat.lt_of_lt_of_le h2 (Nat.pow_le_pow_right (by decide) (by omega)), h3⟩
theorem Mixes.pos {m n k : Nat} {qs : List Rat} {ts : List (List Rat)} (h : Mixes m n k qs ts) (i : Nat) : ∀ q ∈ mixc qs ts i, 0 ≤ q := fun q hq => by
  obtain ⟨p, hp, rfl⟩ := List.mem_map.mp hq
  have := List.of_mem_zip (a := p.1) (b := p.2) hp
  refine Rat.mul_nonneg (h.tab.pos _ this.1) ?_
  rcases getD_cases p.2 i with z | z
  · exact (h.tabs _ this.2).pos _ z
  · rw [z]; decide
theorem Mixes.one {m n k : Nat} {qs : List Rat} {ts : List (List Rat)} (h : Mixes m n k qs ts) : (mix qs ts k).sum = 1 := by
  unfold mix mixc
  rw [sum_swap (fun (p : Rat × List Rat) i => p.1 * p.2.getD i 0)]
  rw [← h.tab.one]
  conv => rhs; rw [← zip_fst (qs := qs) (ns := List.replicate qs.length 0) (by simp)]
  have : ∀ (qs : List Rat) (ts : List (List Rat)), ts.length = qs.length → (∀ t ∈ ts, t.sum = 1 ∧ t.length = k) → ((qs.zip ts).map fun a => ((List.range k).map fun i => a.1 * a.2.getD i 0).sum) = (qs.zip (List.replicate qs.length 0)).map (·.1) := by
    intro qs
    induction qs with
    | nil => intro ts _ _; rfl
    | cons q qs ih =>
      intro ts hl ht
      cases ts with
      | nil => cases hl
      | cons t ts =>
        have h1 := ht t List.mem_cons_self
        simp only [List.zip_cons_cons, List.map_cons, List.length_cons, List.replicate_succ]
        rw [ih ts (by simpa using hl) fun x hx => ht x (List.mem_cons_of_mem _ hx), sum_mulL, ← h1.2, range_getD, h1.1, Rat.mul_one]
  rw [this qs ts h.len fun t ht => ⟨(h.tabs t ht).one, h.wid t ht⟩]
theorem Mixes.k8 {m n k : Nat} {qs : List Rat} {ts : List (List Rat)} (h : Mixes m n k qs ts) : 0 < k ∧ k ≤ 8 := by
  cases ts with
  | nil => have := h.len; exact absurd (List.length_eq_zero_iff.mp this.symm) h.tab.ne
  | cons t ts =>
    have h1 := h.tabs t List.mem_cons_self
    have h2 := h.wid t List.mem_cons_self
    rw [← h2]
    exact ⟨List.length_pos_iff.mpr h1.ne, h1.len⟩
theorem Mixes.res {m n k : Nat} {qs : List Rat} {ts : List (List Rat)} (h : Mixes m n k qs ts) : Tab (m + (n * 8 + 1)) (mix qs ts k) := by
  obtain ⟨D, h1, h2, h3⟩ := h.com
  have k8 := h.k8
  refine ⟨?_, ?_, ?_, h.one, D, h1, h2, ?_⟩
  · intro z
    have := congrArg List.length z
    unfold mix at this
    rw [List.length_map, List.length_range] at this
    simp at this; omega
  · unfold mix; rw [List.length_map, List.length_range]; exact k8.2
  · intro q hq
    obtain ⟨i, _, rfl⟩ := List.mem_map.mp hq
    exact sum_nonneg (h.pos i)
  · intro q hq
    obtain ⟨i, _, rfl⟩ := List.mem_map.mp hq
    exact Cm.sum (h3 i)
theorem Mixes.sb {m n k : Nat} {qs : List Rat} {ts : List (List Rat)} (h : Mixes m n k qs ts) {i : Nat} (hi : i < k) : Sb (m + (n * 8 + 1)) (mixc qs ts i) := by
  obtain ⟨D, h1, h2, h3⟩ := h.com
  refine ⟨h.pos i, ?_, D, h1, h2, h3 i⟩
  have : (mixc qs ts i).sum ∈ mix qs ts k := List.mem_map.mpr ⟨i, List.mem_range.mpr hi, rfl⟩
  have := h.res.le1 this
  have : (1 : Rat) < ((2 ^ 40 : Nat) : Rat) := Rat.lt_iff_le_and_ne.mpr ⟨by decide, by decide⟩
  grind
theorem sum_append (l m : List Rat) : (l ++ m).sum = l.sum + m.sum := by
  induction l with
  | nil => exact (Rat.zero_add _).symm
  | cons a l ih => rw [List.cons_append, List.sum_cons, List.sum_cons, ih, Rat.add_assoc]
theorem sum_step {t b : Int} {q : Rat} (hb : 0 < b) : Rat.divInt (t * (q.den : Int) + q.num * b) (b * (q.den : Int)) = Rat.divInt t b + q := by
  conv => rhs; rw [← Rat.num_divInt_den q]
  rw [Rat.divInt_add_divInt _ _ (by omega) (by have := q.den_nz; omega)]
structure Parts (n : Nat) (b : Int) (ps : List Int) : Prop where
  len : ps.length = n
  pos : ∀ p ∈ ps, 0 ≤ p
  le : ∀ p ∈ ps, p ≤ b
  ex : ∃ p ∈ ps, 0 < p
theorem isum_le {b : Int} : ∀ (ps : List Int), (∀ p ∈ ps, p ≤ b) → ps.sum ≤ ps.length * b
  | [], _ => by simp
  | p :: ps, h => by
    have h1 := h p List.mem_cons_self
    have h2 := isum_le ps fun x hx => h x (List.mem_cons_of_mem _ hx)
    rw [List.sum_cons, List.length_cons, Int.natCast_add, Int.add_mul]
    omega
theorem isum_pos : ∀ (ps : List Int), (∀ p ∈ ps, 0 ≤ p) → 0 ≤ ps.sum ∧ ∀ q ∈ ps, q ≤ ps.sum
  | [], _ => by simp
  | p :: ps, h => by
    have h1 := h p List.mem_cons_self
    obtain ⟨h2, h3⟩ := isum_pos ps fun x hx => h x (List.mem_cons_of_mem _ hx)
    rw [List.sum_cons]
    refine ⟨by omega, fun q hq => ?_⟩
    rcases List.mem_cons.mp hq with rfl | hq
    · omega
    · have := h3 q hq; omega
theorem rsum_map (W : Int) : ∀ (ps : List Int), (ps.map fun p => Rat.divInt p W).sum = (ps.sum : Rat) / (W : Rat)
  | [] => by
    show (0 : Rat) = ((0 : Int) : Rat) / (W : Rat)
    rw [Rat.div_def]
    exact (Rat.zero_mul _).symm
  | p :: ps => by
    rw [List.map_cons, List.sum_cons, List.sum_cons, rsum_map W ps, Rat.divInt_eq_div, Rat.intCast_add, Rat.div_def, Rat.div_def, Rat.div_def, Rat.add_mul]
def ptab (ps : List Int) : List Rat := ps.map fun p => Rat.divInt p ps.sum
theorem Parts.sum {n : Nat} {b : Int} {ps : List Int} (h : Parts n b ps) : 0 < ps.sum ∧ ps.sum ≤ n * b := by
  obtain ⟨q, hq, h0⟩ := h.ex
  have h1 := (isum_pos ps h.pos).2 q hq
  have h2 := isum_le ps h.le
  rw [h.len] at h2
  exact ⟨by omega, h2⟩
theorem Parts.tab {n : Nat} {b : Int} {ps : List Int} (h : Parts n b ps) (hn : n ≤ 8) (hb : b ≤ 1000000000100) : Tab 44 (ptab ps) := by
  obtain ⟨h0, h1⟩ := h.sum
  obtain ⟨q, hq, _⟩ := h.ex
  have hW : ((ps.sum : Int) : Rat) ≠ 0 := by
    intro e
    have := Rat.intCast_inj.mp (show ((ps.sum : Int) : Rat) = ((0 : Int) : Rat) from e)
    omega
  have hWp : (0 : Rat) < ((ps.sum : Int) : Rat) := Rat.intCast_pos.mpr h0
  refine ⟨?_, ?_, ?_, ?_, ps.sum.toNat, by omega, ?_, ?_⟩
  · intro e
    have := congrArg List.length e
    unfold ptab at this
    rw [List.length_map] at this
    rw [List.length_eq_zero_iff.mp this] at hq
    cases hq
  · unfold ptab; rw [List.length_map, h.len]; exact hn
  · intro x hx
    obtain ⟨p, hp, rfl⟩ := List.mem_map.mp hx
    rw [Rat.divInt_eq_div, Rat.div_def]
    exact Rat.mul_nonneg (by have := h.pos p hp; exact_mod_cast this) (Rat.le_of_lt (Rat.inv_pos.mpr hWp))
  · unfold ptab
    rw [rsum_map]
    exact div_self' hW
  · have hb0 : 0 ≤ b := by have := h.le q hq; have := h.pos q hq; omega
    have : (n : Int) * b ≤ 8 * 1000000000100 := Int.mul_le_mul (by omega) hb hb0 (by decide)
    omega
  · intro x hx
    obtain ⟨p, hp, rfl⟩ := List.mem_map.mp hx
    refine ⟨p, ?_⟩
    have e : ((ps.sum.toNat : Nat) : Rat) = ((ps.sum : Int) : Rat) := by
      rw [← Rat.intCast_natCast]
      congr 1
      omega
    rw [e, Rat.divInt_eq_div, Rat.div_def, Rat.mul_assoc, Rat.inv_mul_cancel _ hW, Rat.mul_one]
end MR
namespace MR
def rs (k : Nat) (F : Nat → Rat) : Rat := ((List.range k).map F).sum
theorem rs_zero (F : Nat → Rat) : rs 0 F = 0 := rfl
theorem rs_succ (k : Nat) (F : Nat → Rat) : rs (k + 1) F = rs k F + F k := by
  unfold rs
  rw [List.range_succ, List.map_append, sum_append]
  show _ = _
  rw [List.map_cons, List.map_nil, List.sum_cons]
  show _ + (F k + 0) = _
  rw [Rat.add_zero]
theorem rs_congr {k : Nat} {F G : Nat → Rat} (h : ∀ i, i < k → F i = G i) : rs k F = rs k G := by
  unfold rs
  congr 1
  exact List.map_congr_left fun i hi => h i (List.mem_range.mp hi)
theorem rs_add (k : Nat) (F G : Nat → Rat) : rs k (fun i => F i + G i) = rs k F + rs k G := sum_add F G _
theorem rs_const0 (k : Nat) : rs k (fun _ => 0) = 0 := sum_zero _
theorem rs_mul (k : Nat) (c : Rat) (F : Nat → Rat) : rs k (fun i => c * F i) = c * rs k F := sum_mulL c F _
theorem rs_split (k l : Nat) (F : Nat → Rat) : rs (k + l) F = rs k F + rs l fun i => F (k + i) := by
  induction l with
  | zero => rw [Nat.add_zero, rs_zero, Rat.add_zero]
  | succ l ih => rw [Nat.add_succ, rs_succ, ih, rs_succ, Rat.add_assoc]
theorem rs_one {k x : Nat} (h : x < k) (F : Nat → Rat) : rs k (fun i => if i = x then F i else 0) = F x := by
  induction k with
  | zero => omega
  | succ k ih =>
    rw [rs_succ]
    by_cases e : x = k
    · subst e
      rw [if_pos rfl]
      have : rs x (fun i => if i = x then F i else 0) = rs x fun _ => 0 := rs_congr fun i hi => by rw [if_neg (by omega)]
      rw [this, rs_const0, Rat.zero_add]
    · rw [ih (by omega), if_neg (Ne.symm e), Rat.add_zero]
theorem as_range (qs : List Rat) : (List.range qs.length).map (fun i => qs.getD i 0) = qs := range_getD qs
theorem sum_rs (qs : List Rat) : qs.sum = rs qs.length fun i => qs.getD i 0 := by
  unfold rs; rw [as_range]
theorem getD_map_range {k i : Nat} (F : Nat → Rat) (h : i < k) : ((List.range k).map F).getD i 0 = F i := by
  rw [List.getD_eq_getElem?_getD, List.getElem?_map, List.getElem?_range h]
  rfl
theorem sum_ite {α : Type} (p : α → Bool) (f : α → Rat) : ∀ l : List α, ((l.filter p).map f).sum = (l.map fun a => if p a = true then f a else 0).sum
  | [] => rfl
  | a :: l => by
    rw [List.filter_cons, List.map_cons, List.sum_cons, ← sum_ite p f l]
    by_cases h : p a = true
    · rw [if_pos h, if_pos h, List.map_cons, List.sum_cons]
    · rw [if_neg h, if_neg h, Rat.zero_add]
theorem nat_as_range (ns : List Nat) : (List.range ns.length).map (fun i => ns.getD i 0) = ns := by
  apply List.ext_getElem
  · simp
  · intro i h1 h2
    simp
    rw [List.getElem?_eq_getElem h2]
    rfl
theorem zip_range {qs : List Rat} {ns : List Nat} (h : ns.length = qs.length) : qs.zip ns = (List.range qs.length).map fun i => (qs.getD i 0, ns.getD i 0) := by
  conv => lhs; rw [← as_range qs, ← nat_as_range ns, h]
  rw [List.zip_map']
theorem named_sum {qs : List Rat} {ns : List Nat} (h : ns.length = qs.length) (x : Nat) : (named qs ns x).sum = rs qs.length fun i => if ns.getD i 0 = x then qs.getD i 0 else 0 := by
  unfold named
  rw [sum_ite, zip_range h, List.map_map]
  unfold rs
  congr 1
  refine List.map_congr_left fun i _ => ?_
  simp
theorem ren_getD {qs : List Rat} {ns : List Nat} (h : ns.length = qs.length) {x : Nat} (hx : x ≤ maxN ns) : (ren qs ns).getD x 0 = rs qs.length fun i => if ns.getD i 0 = x then qs.getD i 0 else 0 := by
  unfold ren
  rw [getD_map_range _ (by omega), named_sum h]
theorem ren_length (qs : List Rat) (ns : List Nat) : (ren qs ns).length = maxN ns + 1 := by unfold ren; simp
theorem ext_getD {qs rs : List Rat} (hl : qs.length = rs.length) (h : ∀ i, i < qs.length → qs.getD i 0 = rs.getD i 0) : qs = rs := by
  rw [← as_range qs, ← as_range rs, ← hl]
  exact List.map_congr_left fun i hi => h i (List.mem_range.mp hi)
def mergedN (n : Nat) : List Nat := 0 :: 0 :: (List.range (n - 2)).map fun i => i + 1
theorem mergedN_ren {q0 q1 : Rat} {qs : List Rat} : ren (q0 :: q1 :: qs) (mergedN (qs.length + 2)) = (q0 + q1) :: qs := by
  have hl : (mergedN (qs.length + 2)).length = (q0 :: q1 :: qs).length := by simp [mergedN]
  have hm : maxN (mergedN (qs.length + 2)) = qs.length := by
    have h1 := maxN_le (ns := mergedN (qs.length + 2)) (m := qs.length) fun x hx => by
      simp only [mergedN, List.mem_cons, List.mem_map, List.mem_range] at hx
      rcases hx with rfl | rfl | ⟨i, hi, rfl⟩
      · omega
      · omega
      · omega
    have h2 : qs.length ∈ mergedN (qs.length + 2) := by
      cases qs with
      | nil => simp [mergedN]
      | cons a l =>
        simp only [mergedN, List.mem_cons, List.mem_map, List.mem_range, List.length_cons]
        exact .inr (.inr ⟨l.length, by omega, rfl⟩)
    have := le_maxN h2
    omega
  refine ext_getD (by rw [ren_length, hm]; simp) fun x hx => ?_
  rw [ren_length, hm] at hx
  rw [ren_getD hl (by omega)]
  have e2 : ∀ F : Nat → Rat, rs (qs.length + 2) F = F 0 + F 1 + rs qs.length fun i => F (i + 2) := fun F => by
    rw [Nat.add_comm, rs_split]
    congr 1
    · show rs 2 F = _
      rw [rs_succ, rs_succ, rs_zero, Rat.zero_add]
    · exact rs_congr fun i _ => by rw [Nat.add_comm]
  rw [show (q0 :: q1 :: qs).length = qs.length + 2 from rfl, e2]
  have e3 : (mergedN (qs.length + 2)).getD 0 0 = 0 := rfl
  have e4 : (mergedN (qs.length + 2)).getD 1 0 = 0 := rfl
  have e5 : ∀ i, i < qs.length → (mergedN (qs.length + 2)).getD (i + 2) 0 = i + 1 := fun i hi => by
    show ((List.range (qs.length + 2 - 2)).map fun i => i + 1).getD i 0 = _
    rw [List.getD_eq_getElem?_getD, List.getElem?_map, List.getElem?_range (by omega)]
    rfl
  rw [e3, e4]
  cases x with
  | zero =>
    have : (rs qs.length fun i => if (mergedN (qs.length + 2)).getD (i + 2) 0 = 0 then (q0 :: q1 :: qs).getD (i + 2) 0 else 0) = rs qs.length fun _ => 0 := rs_congr fun i hi => by rw [e5 i hi, if_neg (by omega)]
    rw [this, rs_const0, Rat.add_zero]
    rfl
  | succ x =>
    rw [if_neg (by omega), if_neg (by omega)]
    have : (rs qs.length fun i => if (mergedN (qs.length + 2)).getD (i + 2) 0 = x + 1 then (q0 :: q1 :: qs).getD (i + 2) 0 else 0) = rs qs.length fun i => if i = x then qs.getD i 0 else 0 := rs_congr fun i hi => by
      rw [e5 i hi]
      by_cases e : i = x
      · rw [if_pos (by omega), if_pos e]; rfl
      · rw [if_neg (by omega), if_neg e]
    rw [this, rs_one (by omega)]
    show 0 + 0 + qs.getD x 0 = qs.getD x 0
    rw [Rat.add_zero, Rat.zero_add]
theorem Mixes.ren {m n k : Nat} {qs : List Rat} {ts : List (List Rat)} (h : Mixes m n k qs ts) {ls : List Nat} (hl : ls.length = k) (h7 : ∀ x ∈ ls, x ≤ 7) : Mixes m n (maxN ls + 1) qs (ts.map fun t => ren t ls) := by
  refine ⟨h.tab, fun t ht => ?_, by rw [List.length_map]; exact h.len, fun t ht => ?_⟩
  · obtain ⟨u, hu, rfl⟩ := List.mem_map.mp ht
    exact ren_tab (h.tabs u hu) (by rw [hl, h.wid u hu]) h7
  · obtain ⟨u, hu, rfl⟩ := List.mem_map.mp ht
    exact ren_length _ _
end MR
namespace MR
def rab (q : Rat) : Rat := if q < 0 then -q else q
def d2 (a b : List Rat) : Rat := rs a.length fun i => rab (a.getD i 0 - b.getD i 0)
def more (a b : List Rat) : List Nat := (List.range a.length).filter fun i => decide (b.getD i 0 < a.getD i 0)
theorem Cm.rab {D : Nat} {q : Rat} (h : Cm D q) : Cm D (MR.rab q) := by
  unfold MR.rab
  split
  · obtain ⟨k, hk⟩ := h
    exact ⟨-k, by rw [Rat.intCast_neg]; grind⟩
  · exact h
end MR
namespace MR
def rst (a b : Nat) : Nat → Nat
  | 0 => a % b
  | j + 1 => 2 * rst a b j % b
def dgt (a b j : Nat) : Nat := 2 * rst a b j / b
structure Ends (f : Nat → Nat) (m s : Nat) : Prop where
  lt : s < m
  eq : f m = f s
  inj : ∀ i j, i < j → j < m → f i ≠ f j
section
variable {a b : Nat}
theorem rst_lt (hb : 0 < b) : ∀ j, rst a b j < b
  | 0 => Nat.mod_lt _ hb
  | _ + 1 => Nat.mod_lt _ hb
theorem dgt_eq (j : Nat) : 2 * rst a b j = b * dgt a b j + rst a b (j + 1) := (Nat.div_add_mod _ _).symm
theorem dgt_lt (hb : 0 < b) (j : Nat) : dgt a b j < 2 := by
  unfold dgt
  have := rst_lt (a := a) hb j
  exact Nat.div_lt_of_lt_mul (by omega)
def digs (a b j n : Nat) : List Nat := (List.range n).map fun i => dgt a b (j + i)
theorem rst_step {i j : Nat} (h : rst a b i = rst a b j) : ∀ n, rst a b (i + n) = rst a b (j + n)
  | 0 => h
  | n + 1 => by
    show 2 * rst a b (i + n) % b = 2 * rst a b (j + n) % b
    rw [rst_step h n]
theorem per {m s : Nat} (h : Ends (rst a b) m s) (n : Nat) : rst a b (s + n + (m - s)) = rst a b (s + n) := by
  have := rst_step h.eq n
  have := h.lt
  rw [show s + n + (m - s) = m + n by omega]
  assumption
theorem perN {m s : Nat} (h : Ends (rst a b) m s) (n : Nat) : ∀ k, rst a b (s + n + (m - s) * k) = rst a b (s + n)
  | 0 => by simp
  | k + 1 => by
    rw [← perN h n k, Nat.add_assoc s n ((m - s) * k), ← per h (n + (m - s) * k), Nat.mul_succ]
    congr 1
    omega
theorem rst_zero {j : Nat} (h : rst a b j = 0) : ∀ n, rst a b (j + n) = 0
  | 0 => h
  | n + 1 => by
    show 2 * rst a b (j + n) % b = 0
    rw [rst_zero h n]
    simp
theorem nz {m s : Nat} (h : Ends (rst a b) m s) (h0 : rst a b s ≠ 0) (j : Nat) : rst a b j ≠ 0 := fun e => by
  have h1 := perN h 0 j
  have h2 : j ≤ (m - s) * j := Nat.le_mul_of_pos_left _ (by have := h.lt; omega)
  have h3 := rst_zero e (s + 0 + (m - s) * j - j)
  rw [show j + (s + 0 + (m - s) * j - j) = s + 0 + (m - s) * j by omega, h1] at h3
  exact h0 h3
end
structure Fg (a b W : Nat) (A C : List Nat) : Prop where
  pos : 0 < b
  whole : W = a / b
  ends : ∃ m s, Ends (rst a b) m s ∧ A = digs a b 0 s ∧ C = if rst a b s = 0 then [] else digs a b s (m - s)
theorem Fg.scale {a b W : Nat} {A C : List Nat} {g : Nat} (hg : 0 < g) : Fg (g * a) (g * b) W A C ↔ Fg a b W A C := by
  have hr : ∀ j, rst (g * a) (g * b) j = g * rst a b j := fun j => by
    induction j with
    | zero => exact Nat.mul_mod_mul_left ..
    | succ j ih => show 2 * _ % _ = _; rw [ih, ← Nat.mul_assoc, Nat.mul_comm 2 g, Nat.mul_assoc, Nat.mul_mod_mul_left]; rfl
  have hd : ∀ j, dgt (g * a) (g * b) j = dgt a b j := fun j => by
    unfold dgt; rw [hr, ← Nat.mul_assoc, Nat.mul_comm 2 g, Nat.mul_assoc, Nat.mul_div_mul_left _ _ hg]
  have hD : ∀ j n, digs (g * a) (g * b) j n = digs a b j n := fun j n => by unfold digs; exact List.map_congr_left fun i _ => hd _
  have hz : ∀ j, (rst (g * a) (g * b) j = 0) ↔ rst a b j = 0 := fun j => by
    rw [hr, Nat.mul_eq_zero]; omega
  have hE : ∀ m s, Ends (rst (g * a) (g * b)) m s ↔ Ends (rst a b) m s := fun m s => by
    constructor
    · intro e
      refine ⟨e.lt, ?_, fun i j h1 h2 q => e.inj i j h1 h2 (by rw [hr, hr, q])⟩
      have := e.eq
      rw [hr, hr] at this
      exact Nat.eq_of_mul_eq_mul_left hg this
    · intro e
      refine ⟨e.lt, by rw [hr, hr, e.eq], fun i j h1 h2 q => e.inj i j h1 h2 ?_⟩
      rw [hr, hr] at q
      exact Nat.eq_of_mul_eq_mul_left hg q
  constructor
  · rintro ⟨hb, w, m, s, e, ea, ec⟩
    refine ⟨Nat.pos_of_mul_pos_left hb, by rw [w, Nat.mul_div_mul_left _ _ hg], m, s, (hE m s).mp e, by rw [ea, hD], ?_⟩
    rw [ec, hD]
    by_cases c : rst a b s = 0
    · rw [if_pos c, if_pos ((hz s).mpr c)]
    · rw [if_neg c, if_neg fun q => c ((hz s).mp q)]
  · rintro ⟨hb, w, m, s, e, ea, ec⟩
    refine ⟨Nat.mul_pos hg hb, by rw [w, Nat.mul_div_mul_left _ _ hg], m, s, (hE m s).mpr e, by rw [ea, hD], ?_⟩
    rw [ec, hD]
    by_cases c : rst a b s = 0
    · rw [if_pos c, if_pos ((hz s).mpr c)]
    · rw [if_neg c, if_neg fun q => c ((hz s).mp q)]
end MR
namespace MR
section
variable {a b W : Nat} {A C : List Nat}
theorem Fg.turn (h : Fg a b W A C) (h1 : a < b) (hC : C ≠ []) : Fg (b - a) b 0 (A.map fun d => 1 - d) (C.map fun d => 1 - d) := by
  obtain ⟨hb, rfl, m, s, e, rfl, ec⟩ := h
  have hlt := e.lt
  have h0 : rst a b s ≠ 0 := fun z => by rw [if_pos z] at ec; exact hC ec
  rw [if_neg h0] at ec
  have hz := nz e h0
  have ha : rst a b 0 = a := Nat.mod_eq_of_lt h1
  have ha0 := hz 0
  rw [ha] at ha0
  have hstep : ∀ j, 2 * (b - rst a b j) = b * (1 - dgt a b j) + (b - rst a b (j + 1)) := fun j => by
    have e2 := dgt_eq (a := a) (b := b) j
    have l1 := rst_lt (a := a) hb j
    have l2 := rst_lt (a := a) hb (j + 1)
    have l3 := dgt_lt (a := a) hb j
    have : dgt a b j = 0 ∨ dgt a b j = 1 := by omega
    rcases this with c | c <;> rw [c] at e2 ⊢ <;> omega
  have hr : ∀ j, rst (b - a) b j = b - rst a b j := fun j => by
    induction j with
    | zero => rw [ha]; exact Nat.mod_eq_of_lt (by omega)
    | succ j ih =>
      show 2 * _ % b = _
      rw [ih, hstep, Nat.mul_add_mod, Nat.mod_eq_of_lt]
      have := hz (j + 1)
      omega
  have hd : ∀ j, dgt (b - a) b j = 1 - dgt a b j := fun j => by
    unfold dgt
    rw [hr, hstep, Nat.mul_add_div hb, Nat.div_eq_of_lt]
    · rfl
    · have := hz (j + 1)
      omega
  have hD : ∀ j n, digs (b - a) b j n = (digs a b j n).map fun d => 1 - d := fun j n => by
    unfold digs
    rw [List.map_map]
    exact List.map_congr_left fun i _ => hd _
  refine ⟨hb, (Nat.div_eq_of_lt (by omega)).symm, m, s, ⟨hlt, by rw [hr, hr, e.eq], fun i j q1 q2 q => ?_⟩, (hD _ _).symm, ?_⟩
  · rw [hr, hr] at q
    have l1 := rst_lt (a := a) hb i
    have l2 := rst_lt (a := a) hb j
    exact e.inj i j q1 q2 (by omega)
  · rw [hr, if_neg (by have := rst_lt (a := a) hb s; omega), hD, ec]
end
end MR
namespace MR
def FgQ (q : Rat) (W : Nat) (A C : List Nat) : Prop := Fg q.num.toNat q.den W A C
theorem fgq {x y W : Nat} {A C : List Nat} (hy : 0 < y) : FgQ (Rat.divInt (x : Int) (y : Int)) W A C ↔ Fg x y W A C := by
  obtain ⟨e1, e2⟩ := divInt_parts (x : Int) (y : Int) (by omega)
  rw [Int.natAbs_natCast, Int.natAbs_natCast] at e1 e2
  have hg : 0 < Nat.gcd x y := Nat.gcd_pos_of_pos_right _ hy
  obtain ⟨u, hu⟩ := Nat.gcd_dvd_left x y
  obtain ⟨v, hv⟩ := Nat.gcd_dvd_right x y
  generalize Nat.gcd x y = g at *
  have e3 : ((Rat.divInt (x : Int) (y : Int)).num).toNat = u := by
    rw [e1, hu, ← Int.natCast_ediv, Int.toNat_natCast, Nat.mul_div_cancel_left _ hg]
  have e4 : (Rat.divInt (x : Int) (y : Int)).den = v := by
    have : (((Rat.divInt (x : Int) (y : Int)).den : Nat) : Int) = (v : Nat) := by
      rw [e2, hv, ← Int.natCast_ediv, Nat.mul_div_cancel_left _ hg]
    omega
  unfold FgQ
  rw [e3, e4]
  conv => rhs; rw [hu, hv]
  exact (Fg.scale hg).symm
theorem one_sub_fr {q : Rat} (h0 : 0 ≤ q) (h1 : q.num.toNat < q.den) : ((1 : Int) : Rat) - q = Rat.divInt ((q.den - q.num.toNat : Nat) : Int) (q.den : Int) := by
  have hn : q.num = ((q.num.toNat : Nat) : Int) := (Int.toNat_of_nonneg (Rat.num_nonneg.mpr h0)).symm
  have hd := q.den_pos
  conv => lhs; rw [← Rat.num_divInt_den q, hn]
  rw [show ((1 : Int) : Rat) = Rat.divInt 1 1 from rfl, Rat.divInt_sub_divInt _ _ (by omega) (by omega), Rat.divInt_eq_divInt_iff (by omega) (by omega), Int.natCast_sub (by omega)]
  grind
theorem FgQ.turn {q : Rat} {A C : List Nat} (h : FgQ q 0 A C) (h0 : 0 ≤ q) (hC : C ≠ []) : FgQ (((1 : Int) : Rat) - q) 0 (A.map fun d => 1 - d) (C.map fun d => 1 - d) := by
  have h1 : q.num.toNat < q.den := by
    have := h.whole
    have hd := q.den_pos
    rcases Nat.lt_or_ge q.num.toNat q.den with c | c
    · exact c
    · have := Nat.div_pos c hd
      omega
  rw [one_sub_fr h0 h1, fgq q.den_pos]
  exact Fg.turn h h1 hC
end MR
namespace MR
inductive Sd where
  | toss (a b : Nat) | out (i : Nat)
  deriving DecidableEq, Inhabited
abbrev Mch := List Sd
def Sd.ok (n many : Nat) : Sd → Prop
  | .toss a b => a < many ∧ b < many
  | .out i => i < n
def at' (S : Mch) (s : Nat) : Sd := S.getD s (.out 0)
def fols : Sd → List Nat | .toss a b => [a, b] | .out _ => []
def endN (S : Mch) (i : Nat) : Nat → Nat → Nat
  | 0, s => match at' S s with | .out j => if j = i then 1 else 0 | _ => 0
  | k + 1, s => match at' S s with | .toss a b => endN S i k a + endN S i k b | _ => 0
abbrev Rows := List (Nat × Nat)
def bmp (r : Rows) (a m : Nat) : Rows := if (r.any fun p => p.1 == a) = true then r.map fun p => if p.1 = a then (p.1, p.2 + m) else p else r ++ [(a, m)]
def ledOn (S : Mch) (r : Rows) : Rows := r.foldl (fun f p => (fols (at' S p.1)).foldl (fun f a => bmp f a p.2) f) []
def rowsAt (S : Mch) : Nat → Rows
  | 0 => [(0, 1)]
  | k + 1 => ledOn S (rowsAt S k)
def Sd.map (f : Nat → Nat) : Sd → Sd
  | .toss a b => .toss (f a) (f b)
  | .out i => .out i
end MR
namespace MR
end MR
namespace L2
open PySem PySem.Spec PyProof.Rows
section
variable {X : Cx} {es : List Expr} {pos : Pos} {t : TA}
def MadeT (H : Hp) (xs : List V) (Q : VK) : Prop := ∀ (p : Addr) (o : Obj), H p = none → o.cls = .type "tuple" → o.dict = none → Q (.ref p) (upd H p (.frz o (.tup xs)))
def tTupF (t : TA) : TE := fun σ H Q => t σ H fun xs H1 => xs.length ≤ sizeLine ∧ MadeT H1 xs Q
theorem pe_tupF {x1} (h : PA X es t) : PE X (.Tuple es x1 pos) (tTupF t) := by
  refine ⟨fun pins s σ H Q I hq => ?_⟩
  refine wpAny_Tuple_spliced (thn (h.run pos pins s σ H _ I hq) fun us s1 ⟨xs, H1, I1, r, z, q⟩ => ⟨by rw [← r.length]; exact z, ?_⟩)
  have hf : H1 s1.heap.objs.size = none := I1.hok.fresh (Nat.le_refl _)
  refine ⟨.ref s1.heap.objs.size, upd H1 s1.heap.objs.size (.frz { cls := .type "tuple", data := .seq us.toArray } (.tup xs)), I1.laid (t' := s1.toks) (fun b u e => Heap.get?_push_of_some _ e) (Nat.le_refl _) ?_, rfl, q _ { cls := .type "tuple", data := .seq us.toArray } hf rfl rfl⟩
  exact ⟨Heap.get?_push_size _ rfl, z, us, r, ⟨_, Heap.get?_push_size _ rfl, rfl, _, rfl⟩⟩
theorem call_tuple_ofF : CallR X (.type "tuple") (fun xs H Q => ∃ p ys, xs = [.ref p] ∧ ((SqL X.K H p ys ∧ MadeT H ys Q) ∨ (SqT X.K H p ys ∧ Q (.ref p) H))) := by
  intro pins s σ H xs us Q I r h
  obtain ⟨p, ys, rfl, h⟩ := h
  obtain ⟨u, rfl, rx⟩ := vals1 r
  cases rx
  rcases h with ⟨hq, q⟩ | ⟨hq, q⟩
  · obtain ⟨its, r', pl, hz⟩ := I.list hq
    have hlen := r'.length
    refine call_tuple_list pl.isList (fun h' kp => ?_) (by simp only [List.size_toArray] <;> omega)
    have I1 : Inv X pins σ H { s with heap := h' } := I.kept (t' := s.toks) kp
    have I2 : Inv X pins σ (upd H h'.objs.size (.frz { cls := .type "tuple", data := .seq its.toArray } (.tup ys))) { s with heap := h'.push { cls := .type "tuple", data := .seq its.toArray } } :=
      I1.laid (t' := s.toks) (fun b o e => Heap.get?_push_of_some _ e) (Nat.le_refl _) (show ObjOk X.prog X.w _ _ _ (.frz _ (.tup ys)) from ⟨Heap.get?_push_size _ rfl, hz, its, r', IsTup.new _ _⟩)
    exact ⟨.ref h'.objs.size, _, I2, rfl, q _ _ (I1.hok.fresh (Nat.le_refl _)) rfl rfl⟩
  · obtain ⟨its, r', pl, hz⟩ := I.tuple hq
    exact call_tuple_same pl ⟨.ref p, H, I, rfl, q⟩
def rCatF (K : PySem.W.Frag) : R2 := fun x y H Q => ∃ a b xs ys, x = .ref a ∧ y = .ref b ∧ SqT K H a xs ∧ SqT K H b ys ∧ xs.length + ys.length ≤ sizeLine ∧
  (xs = [] → Q (.ref b) H) ∧ (xs ≠ [] → ys = [] → Q (.ref a) H) ∧ (xs ≠ [] → ys ≠ [] → MadeT H (xs ++ ys) Q)
theorem op_catF : OpR X (binaryOp .Add) (rCatF X.K) := by
  intro pins s σ H x y v u Q I rx ry h
  obtain ⟨a, b, xs, ys, rfl, rfl, ha, hb, hz, q0, q1, q2⟩ := h
  cases rx
  cases ry
  obtain ⟨its, r1, p1, _⟩ := I.tuple ha
  obtain ⟨its2, r2, p2, _⟩ := I.tuple hb
  by_cases hx : xs = []
  · subst hx
    cases r1
    exact cat_tup0 p1 p2 ⟨.ref b, H, I, rfl, q0 rfl⟩
  · refine HT.cat_tup p1 p2 (fun z => hx (r1.nil_iff.mp z)) (fun z => ⟨.ref a, H, I, rfl, q1 hx (r2.nil_iff.mp z)⟩) (fun z => ?_) (by rw [← r1.length, ← r2.length]; exact hz)
    refine ⟨.ref s.heap.objs.size, upd H s.heap.objs.size (.frz { cls := Value.type "tuple", data := Data.seq (its ++ its2).toArray } (.tup (xs ++ ys))), I.laid (t' := s.toks) (fun b ob q => Heap.get?_push_of_some _ q) (Nat.le_refl _) ?A, rfl, ?B⟩
    case A => exact ⟨Heap.get?_push_size _ rfl, by rw [List.length_append]; exact hz, _, r1.append r2, IsTup.new _ _⟩
    case B => exact q2 hx (fun w => z (r2.nil_iff.mpr w)) _ _ (I.hok.fresh (Nat.le_refl _)) rfl rfl
def rSlF (K : PySem.W.Frag) : V → Option Int → Option Int → Hp → VK → Prop := fun x lo hi H Q => ∃ a xs, x = .ref a ∧ SqT K H a xs ∧
  (HT.sIx xs.length 0 lo = 0 ∧ HT.sIx xs.length xs.length hi = xs.length → Q (.ref a) H) ∧ (¬ (HT.sIx xs.length 0 lo = 0 ∧ HT.sIx xs.length xs.length hi = xs.length) → MadeT H (cutV xs lo hi) Q)
theorem sl_tupF : SlR X (rSlF X.K) := by
  intro pins s σ H x v vl vu lo hi sl Q I rx hs pl pu h
  obtain ⟨a, xs, rfl, hx, q1, q2⟩ := h
  cases rx
  obtain ⟨its, r, ht, hz⟩ := I.tuple hx
  have hlen : its.toArray.size = xs.length := by rw [List.size_toArray]; exact r.length.symm
  refine ⟨"tuple", _, PyProof.Rows.slot_tuple_getitem.lookup, ht.typeIs, ?_⟩
  by_cases hw : HT.sIx xs.length 0 lo = 0 ∧ HT.sIx xs.length xs.length hi = xs.length
  · exact getItem_tuple_whole ht hs pl pu (by rw [hlen]; exact hw) ⟨.ref a, H, I, rfl, q1 hw⟩
  · refine HT.getItem_tuple_cut ht hs pl pu (by rw [hlen]; exact hw) ?_ (by rw [hlen]; exact hz)
    rw [hlen]
    refine ⟨.ref s.heap.objs.size, upd H s.heap.objs.size (.frz { cls := Value.type "tuple", data := Data.seq ((its.toArray.toList.drop (HT.sIx xs.length 0 lo)).take (HT.sIx xs.length xs.length hi - HT.sIx xs.length 0 lo)).toArray } (.tup (cutV xs lo hi))), I.laid (t' := s.toks) (fun b ob q => Heap.get?_push_of_some _ q) (Nat.le_refl _) ?A, rfl, ?B⟩
    case A => exact ⟨Heap.get?_push_size _ rfl, Nat.le_trans (cutV_length xs lo hi) hz, _, (r.drop (HT.sIx xs.length 0 lo)).take (HT.sIx xs.length xs.length hi - HT.sIx xs.length 0 lo), IsTup.new _ _⟩
    case B => exact q2 hw _ _ (I.hok.fresh (Nat.le_refl _)) rfl rfl
def bareV (T : String) (x : V) (H : Hp) : Prop := ∃ p o u, x = .ref p ∧ H p = some (.frz o u) ∧ o.cls = .type T ∧ o.dict = none
theorem bareV_is {pins : List (Addr × Obj)} {σ : St} {H : Hp} {s : Shared} {T : String} {x : V} {v : Value} (I : Inv X pins σ H s) (r : RelV x v) (ty : bareV T x H) :
    s.TypeIs v T ∧ ∀ a, v = .ref a → ∃ ob, s.heap.get? a = some ob ∧ ob.dict = none := by
  obtain ⟨p, o, u, rfl, hp, hc, hd⟩ := ty
  cases r
  have hk : ObjOk X.prog X.w H s.heap p (.frz o u) := I.hok p _ hp
  have hg : s.heap.get? p = some o := hk.1
  exact ⟨⟨o, hg, hc⟩, fun a e => by cases e; exact ⟨o, hg, hd⟩⟩
variable {o e : Expr} {to : TE} {name : Str} {apos cpos : Pos} {T id : String} {r : V → List V → Hp → VK → Prop}
def rCountF (K : PySem.W.Frag) : V → List V → Hp → VK → Prop := fun x xs H Q => ∃ y d ds, xs = [y] ∧ Dp K H x (.tuple ds) ∧ Dp K H y d ∧ PyData.plainAll ds = true ∧ d.plain = true ∧ d.depth ≤ 60 ∧ Q (.int ((ds.countP fun z => PyData.eqv z d : Nat) : Int)) H
theorem mt_countF (hu : X.A.units + 64 < cLine) : MtR X "tuple.count" (rCountF X.K) := by
  intro pins s σ H x xs v us Q I rx rxs h
  obtain ⟨y, d, ds, rfl, hx, hy, pa, pd, hd, q⟩ := h
  cases rxs with
  | cons ry rt =>
    cases rt
    obtain ⟨bs, rd⟩ := Dp.reads I d y _ hy ry
    obtain ⟨as, rl⟩ := Dp.reads I (.tuple ds) x v hx rx
    cases rl with
    | tuple h1 h2 h3 h4 =>
      exact PySem.SeqAt.count_tuple_data ⟨_, h1, h2, _, h3⟩ h4 rd pa pd (by omega) ⟨.int _, H, I.tok _, ⟨_, rfl⟩, q⟩
end
end L2
namespace Fx
open PySem PySem.Spec PyProof.Rows L2 RZ
def PairAt (T : Addr) (x y : V) (H H' : Hp) : Prop := H T = none ∧ ∃ o : Obj, (o.cls = .type "tuple" ∧ o.dict = none) ∧ H' = upd H T (.frz o (.tup [x, y]))
theorem or_ne {c i l z : Addr} (e : c = i ∨ c = l) (p : i ≠ z) (q : l ≠ z) : c ≠ z := by
  rcases e with e | e <;> (rw [e]; assumption)
structure Wkr (P : Program) (w : World) (i l : Addr) (xs : Array Value) (S : Heap → Nat → Prop) : Prop where
  keep : ∀ {h h' : Heap} {k : Nat}, S h k → (∀ c o, c = i ∨ c = l → h.get? c = some o → h'.get? c = some o) → S h' k
  lt : ∀ {h : Heap} {k : Nat}, S h k → i < h.objs.size
  item : ∀ {A : Around} {E : Value → Shared → Prop} {s : Shared} {k : Nat} {x : Value} {Q : Value → Shared → Prop}, S s.heap k → xs[k]? = some x →
    (∀ h', S h' (k + 1) → Heap.SameBut i s.heap h' → Q x { s with heap := h' }) → wpAny (model P w) A (Builtin.SmallTypes.nextOf (.ref i)) Q E s
  fin : ∀ {A : Around} {E : Value → Shared → Prop} {s : Shared} {k : Nat} {Q : Value → Shared → Prop}, A.handled = none → S s.heap k → xs[k]? = none →
    (∀ h' e, Heap.ExtBut i s.heap h' → (∃ o, h'.get? e = some o ∧ o.cls = .type "StopIteration") → E (.ref e) { s with heap := h' }) → wpAny (model P w) A (Builtin.SmallTypes.nextOf (.ref i)) Q E s
section
variable {P : Program} {w : World} {A : Around} {E : Value → Shared → Prop} {s : Shared}
theorem wkr_lst {i l : Addr} (hne : l ≠ i) (xs : Array Value) : Wkr P w i l xs fun h k => h.IsListIter i l k ∧ h.IsList l xs where
  keep z q := ⟨z.1.at fun o => q i o (.inl rfl), z.2.at fun o => q l o (.inr rfl)⟩
  lt z := by
    obtain ⟨_, q, _⟩ := z.1
    exact Heap.lt_size q
  item z hx q := wpAny_nextOf_list_item z.1 z.2 hx fun h' a b => q h' ⟨a, z.2.extBut b.extBut hne⟩ b
  fin hh z hx q := wpAny_nextOf_list_end hh z.1 z.2 hx q
theorem wkr_tup {i l : Addr} (hne : l ≠ i) (xs : Array Value) : Wkr P w i l xs fun h k => h.IsTupleIter i l k ∧ h.IsTuple l xs where
  keep z q := ⟨z.1.at fun o => q i o (.inl rfl), let ⟨o, ho, r⟩ := z.2; ⟨o, q l o (.inr rfl) ho, r⟩⟩
  lt z := by
    obtain ⟨_, q, _⟩ := z.1
    exact Heap.lt_size q
  item z hx q := nextOf_tuple_item z.1 z.2 hx fun h' a b => q h' ⟨a, z.2.extBut b.extBut hne⟩ b
  fin hh z hx q := nextOf_tuple_end hh z.1 z.2 hx q
abbrev KeptZ (z TO i1 i2 : Addr) (h h' : Heap) : Prop := ∀ c o, c ≠ z → c ≠ TO → c ≠ i1 → c ≠ i2 → h.get? c = some o → h'.get? c = some o
variable {z TI TO i1 i2 l1 l2 : Addr} {xs ys : Array Value} {S1 S2 : Heap → Nat → Prop} {k1 k2 : Nat} {a b : Value}
theorem zw_item {x y : Value} {Q : Value → Shared → Prop} (D : ZipApart z TI TO i1 i2 l1 l2) (W1 : Wkr P w i1 l1 xs S1) (W2 : Wkr P w i2 l2 ys S2) (hz : IsZip s.heap z TI TO .none)
    (hI : IsPair s.heap TI (.ref i1) (.ref i2)) (hO : IsPair s.heap TO a b) (h1 : S1 s.heap k1) (h2 : S2 s.heap k2) (hx : xs[k1]? = some x) (hy : ys[k2]? = some y)
    (go : ∀ h', IsZip h' z TI TO (rawInt s.heap.objs.size) ∧ IsPair h' TO x y ∧ S1 h' (k1 + 1) ∧ S2 h' (k2 + 1) ∧ IsPair h' s.heap.objs.size x y ∧ h'.objs.size = s.heap.objs.size + 1 ∧ KeptZ z TO i1 i2 s.heap h' → Q (.ref s.heap.objs.size) { s with heap := h' }) :
    wpAny (model P w) A (Builtin.«zip.__next__» ⟨[.ref z], []⟩) (fun f s' => ∃ v, f = .done (.ret v) ∧ Q v s') E s := by
  show wpAny _ _ (field (.ref z) 2 >>= _) _ _ _; refine wpAny_bind (wpAny_field hz rfl (x := .bool false) rfl ?_)
  show wpAny _ _ (field (.ref z) 3 >>= _) _ _ _; refine wpAny_bind (wpAny_field hz rfl (x := .ref TI) rfl (wpAny_bind (wpAny_seqItems hI rfl ?_)))
  show wpAny _ _ (Builtin.SmallTypes.ownedTupleIsFree (.ref z) >>= _) _ _ _; refine wpAny_bind ?_; unfold Builtin.SmallTypes.ownedTupleIsFree
  refine wpAny_bind (wpAny_field hz rfl (x := .none) rfl (wpAny_pure ?_)); simp only [if_true]
  refine wpAny_bind (wpAny_rule (wpAny_bind (wpAny_field hz rfl (x := .ref TO) rfl (wpAny_bind (wpAny_setField_rec hz (by simp) fun g1 y1 b1 => ?_)))))
  replace y1 : IsZip g1 z TI TO .ellipsis := y1; refine wpAny_bind ?_; simp only [List.zipIdx_cons, List.zipIdx_nil, List.forIn_cons, List.forIn_nil]
  refine wpAny_bind (wpAny_bind (wpAny_onRaise ?_)); show wpAny _ _ (Builtin.SmallTypes.nextOf (.ref i1) >>= _) _ _ _
  have a1 : S1 g1 k1 := W1.keep h1 fun c o e => b1.extBut _ o (or_ne e D.i1z D.l1z)
  refine wpAny_bind (W1.item a1 hx fun g2 s2 b2 => wpAny_pure ?_)
  have o2 : IsPair g2 TO a b := b2.extBut _ _ D.TOi1 (b1.extBut _ _ D.TOz hO)
  refine wpAny_bind (wpAny_seqItems o2 rfl (wpAny_bind (wpAny_updateSeq_pair o2 fun g3 o3 b3 => ?_))); replace o3 : IsPair g3 TO x b := o3
  refine wpAny_bind (wpAny_letGo (wpAny_pure ?_)); refine wpAny_bind (wpAny_bind (wpAny_onRaise ?_))
  show wpAny _ _ (Builtin.SmallTypes.nextOf (.ref i2) >>= _) _ _ _
  have a2 : S2 g3 k2 := W2.keep h2 fun c o e q => b3.extBut _ o (or_ne e D.TOi2.symm D.l2TO)
    (b2.extBut _ o (or_ne e D.i12.symm D.l2i1) (b1.extBut _ o (or_ne e D.i2z D.l2z) q))
  refine wpAny_bind (W2.item a2 hy fun g4 s4 b4 => wpAny_pure ?_)
  have o4 : IsPair g4 TO x b := b4.extBut _ _ D.TOi2 o3
  refine wpAny_bind (wpAny_seqItems o4 rfl (wpAny_bind (wpAny_updateSeq_pair o4 fun g5 o5 b5 => ?_))); replace o5 : IsPair g5 TO x y := o5
  refine wpAny_bind (wpAny_letGo (wpAny_pure (wpAny_pure ?_))); refine wpAny_bind (wpAny_seqItems o5 rfl (wpAny_bind (wpAny_newTuple ?_)))
  have sz : g5.objs.size = s.heap.objs.size := by simp only [b5.1, b4.1, b3.1, b2.1, b1.1]
  have y5 : IsZip g5 z TI TO .ellipsis := b5.extBut _ _ D.TOz.symm (b4.extBut _ _ D.i2z.symm (b3.extBut _ _ D.TOz.symm (b2.extBut _ _ D.i1z.symm y1)))
  have k5 : KeptZ z TO i1 i2 s.heap g5 := fun c o p1 p2 p3 p4 e => b5.extBut _ _ p2 (b4.extBut _ _ p4 (b3.extBut _ _ p2 (b2.extBut _ _ p3 (b1.extBut _ _ p1 e))))
  have s5 : S1 g5 (k1 + 1) := W1.keep s2 fun c o e q => b5.extBut _ o (or_ne e D.TOi1.symm D.l1TO)
    (b4.extBut _ o (or_ne e D.i12 D.l1i2) (b3.extBut _ o (or_ne e D.TOi1.symm D.l1TO) q))
  have t5 : S2 g5 (k2 + 1) := W2.keep s4 fun c o e => b5.extBut _ o (or_ne e D.TOi2.symm D.l2TO)
  have zl : z < g5.objs.size := Heap.lt_size y5
  show wpAny _ _ (Builtin.SmallTypes.ownedTupleHandOut (.ref z) (.ref g5.objs.size) >>= _) _ _ _; refine wpAny_bind ?_; unfold Builtin.SmallTypes.ownedTupleHandOut
  have y6 : IsZip (g5.push { cls := .type "tuple", data := .seq #[x, y] }) z TI TO .ellipsis := Heap.get?_push_of_some _ y5
  refine wpAny_bind (wpAny_setField_rec y6 (by simp) fun g7 y7 b7 => wpAny_setField_rec (show IsZip g7 z TI TO (rawInt g5.objs.size) from y7) (by simp) fun g8 y8 b8 => ?_)
  have y9 : IsZip g8 z TI TO (rawInt g5.objs.size) := y8
  have up : ∀ c o, c ≠ z → g5.get? c = some o → g8.get? c = some o := fun c o p e => b8.extBut _ _ p (b7.extBut _ _ p (Heap.get?_push_of_some _ e))
  have n8 : IsPair g8 g5.objs.size x y := b8.extBut _ _ (Nat.ne_of_gt zl) (b7.extBut _ _ (Nat.ne_of_gt zl) (Heap.get?_push_size _ rfl))
  have z8 : g8.objs.size = g5.objs.size + 1 := by simp only [b8.1, b7.1, Heap.size_push]
  rw [sz] at y9 n8 z8; refine wpAny_pure ⟨_, rfl, ?_⟩; show Q (.ref g5.objs.size) _; rw [sz]
  exact go g8 ⟨y9, up _ _ D.TOz o5, W1.keep s5 fun c o e => up c o (or_ne e D.i1z D.l1z), W2.keep t5 fun c o e => up c o (or_ne e D.i2z D.l2z), n8, z8,
    fun c o p1 p2 p3 p4 e => up c o p1 (k5 c o p1 p2 p3 p4 e)⟩
theorem zw_end {Q : Fin → Shared → Prop} (hh : A.handled = none) (D : ZipApart z TI TO i1 i2 l1 l2) (W1 : Wkr P w i1 l1 xs S1) (W2 : Wkr P w i2 l2 ys S2) (hz : IsZip s.heap z TI TO .none)
    (hI : IsPair s.heap TI (.ref i1) (.ref i2)) (hO : IsPair s.heap TO a b) (h1 : S1 s.heap k1) (h2 : S2 s.heap k2) (hend : xs[k1]? = none ∨ ys[k2]? = none)
    (hE : ∀ h' e, KeptZ z TO i1 i2 s.heap h' → (∃ o, h'.get? e = some o ∧ o.cls = .type "StopIteration") → E (.ref e) { s with heap := h' }) :
    wpAny (model P w) A (Builtin.«zip.__next__» ⟨[.ref z], []⟩) Q E s := by
  show wpAny _ _ (field (.ref z) 2 >>= _) _ _ _; refine wpAny_bind (wpAny_field hz rfl (x := .bool false) rfl ?_)
  show wpAny _ _ (field (.ref z) 3 >>= _) _ _ _; refine wpAny_bind (wpAny_field hz rfl (x := .ref TI) rfl (wpAny_bind (wpAny_seqItems hI rfl ?_)))
  show wpAny _ _ (Builtin.SmallTypes.ownedTupleIsFree (.ref z) >>= _) _ _ _; refine wpAny_bind ?_; unfold Builtin.SmallTypes.ownedTupleIsFree
  refine wpAny_bind (wpAny_field hz rfl (x := .none) rfl (wpAny_pure ?_)); simp only [if_true]
  refine wpAny_bind (wpAny_rule (wpAny_bind (wpAny_field hz rfl (x := .ref TO) rfl (wpAny_bind (wpAny_setField_rec hz (by simp) fun g1 y1 b1 => ?_)))))
  replace y1 : IsZip g1 z TI TO .ellipsis := y1; refine wpAny_bind ?_; simp only [List.zipIdx_cons, List.zipIdx_nil, List.forIn_cons, List.forIn_nil]
  refine wpAny_bind (wpAny_bind (wpAny_onRaise ?_)); show wpAny _ _ (Builtin.SmallTypes.nextOf (.ref i1) >>= _) _ _ _
  have a1 : S1 g1 k1 := W1.keep h1 fun c o e => b1.extBut _ o (or_ne e D.i1z D.l1z)
  cases hx : xs[k1]? with
  | none =>
    refine wpAny_bind (W1.fin hh a1 hx fun g2 e b2 q => ?_); obtain ⟨oe, p, hc⟩ := q
    have y2 : IsZip g2 z TI TO .ellipsis := b2 _ _ D.i1z.symm y1
    have ne : e ≠ z := fun q => by
      subst q; rw [y2] at p; cases p; simp at hc
    refine wpAny_setField_rec y2 (by simp) fun g3 _ b3 => hE g3 e (fun c o p1 _ p3 _ q => b3.extBut _ _ p1 (b2 _ _ p3 (b1.extBut _ _ p1 q))) ⟨oe, b3.extBut _ _ ne p, hc⟩
  | some x =>
    have hy : ys[k2]? = none := hend.resolve_left fun q => nomatch hx.symm.trans q
    refine wpAny_bind (W1.item a1 hx fun g2 s2 b2 => wpAny_pure ?_)
    have o2 : IsPair g2 TO a b := b2.extBut _ _ D.TOi1 (b1.extBut _ _ D.TOz hO)
    refine wpAny_bind (wpAny_seqItems o2 rfl (wpAny_bind (wpAny_updateSeq_pair o2 fun g3 o3 b3 => ?_)))
    refine wpAny_bind (wpAny_letGo (wpAny_pure ?_)); refine wpAny_bind (wpAny_bind (wpAny_onRaise ?_))
    show wpAny _ _ (Builtin.SmallTypes.nextOf (.ref i2) >>= _) _ _ _
    have a2 : S2 g3 k2 := W2.keep h2 fun c o e q => b3.extBut _ o (or_ne e D.TOi2.symm D.l2TO)
      (b2.extBut _ o (or_ne e D.i12.symm D.l2i1) (b1.extBut _ o (or_ne e D.i2z D.l2z) q))
    refine wpAny_bind (W2.fin hh a2 hy fun g4 e b4 q => ?_); obtain ⟨oe, p, hc⟩ := q
    have y4 : IsZip g4 z TI TO .ellipsis := b4 _ _ D.i2z.symm (b3.extBut _ _ D.TOz.symm (b2.extBut _ _ D.i1z.symm y1))
    have ne : e ≠ z := fun q => by
      subst q; rw [y4] at p; cases p; simp at hc
    refine wpAny_setField_rec y4 (by simp) fun g5 _ b5 => hE g5 e (fun c o p1 p2 p3 p4 q => b5.extBut _ _ p1 (b4 _ _ p4 (b3.extBut _ _ p2 (b2.extBut _ _ p3 (b1.extBut _ _ p1 q))))) ⟨oe, b5.extBut _ _ ne p, hc⟩
theorem zw_next {x y : Value} {Q : Option Value → Shared → Prop} (D : ZipApart z TI TO i1 i2 l1 l2) (W1 : Wkr P w i1 l1 xs S1) (W2 : Wkr P w i2 l2 ys S2) (hz : IsZip s.heap z TI TO .none)
    (hI : IsPair s.heap TI (.ref i1) (.ref i2)) (hO : IsPair s.heap TO a b) (h1 : S1 s.heap k1) (h2 : S2 s.heap k2) (hx : xs[k1]? = some x) (hy : ys[k2]? = some y)
    (go : ∀ h', IsZip h' z TI TO (rawInt s.heap.objs.size) ∧ IsPair h' TO x y ∧ S1 h' (k1 + 1) ∧ S2 h' (k2 + 1) ∧ IsPair h' s.heap.objs.size x y ∧ h'.objs.size = s.heap.objs.size + 1 ∧ KeptZ z TO i1 i2 s.heap h' → Q (some (.ref s.heap.objs.size)) { s with heap := h' }) :
    wpAny (model P w) A (pyNext (.ref z)) Q E s :=
  have ty : s.TypeIs (.ref z) "zip" := ⟨_, hz, rfl⟩
  (by unfold pyNext; exact wpAny_bind (wpAny_attempt (wpAny_callSpecial?_slot (name := Str.ofString "__next__") ty F.slot_zip_next
    (wpAny_call_entry F.slot_zip_next ty F.entry_zip_next (zw_item D W1 W2 hz hI hO h1 h2 hx hy fun h' q => wpAny_pure (go h' q)) (F.args_zip_next_1 _)))))
theorem zw_stop {Q : Option Value → Shared → Prop} (hh : A.handled = none) (D : ZipApart z TI TO i1 i2 l1 l2) (W1 : Wkr P w i1 l1 xs S1) (W2 : Wkr P w i2 l2 ys S2) (hz : IsZip s.heap z TI TO .none)
    (hI : IsPair s.heap TI (.ref i1) (.ref i2)) (hO : IsPair s.heap TO a b) (h1 : S1 s.heap k1) (h2 : S2 s.heap k2) (hend : xs[k1]? = none ∨ ys[k2]? = none)
    (go : ∀ h', KeptZ z TO i1 i2 s.heap h' → Q none { s with heap := h' }) : wpAny (model P w) A (pyNext (.ref z)) Q E s :=
  have ty : s.TypeIs (.ref z) "zip" := ⟨_, hz, rfl⟩
  (by unfold pyNext; exact wpAny_bind (wpAny_attempt (wpAny_callSpecial?_slot (name := Str.ofString "__next__") ty F.slot_zip_next
    (wpAny_call_entry F.slot_zip_next ty F.entry_zip_next (zw_end hh D W1 W2 hz hI hO h1 h2 hend fun h' e k q => let ⟨o, ho, hc⟩ := q
      wpAny_bind (wpAny_isInstance (T := "StopIteration") (b := true) ⟨o, ho, hc⟩ isSubtype_stop (wpAny_pure (go _ k)))) (F.args_zip_next_1 _)))))
end
def SqK (K : PySem.W.Frag) : Bool → Hp → Addr → List V → Prop
  | true => SqT K
  | false => SqL K
def IsItr : Bool → Heap → Addr → Addr → Nat → Prop
  | true => fun h i l k => h.IsTupleIter i l k
  | false => fun h i l k => h.IsListIter i l k
def IsSeq : Bool → Heap → Addr → Array Value → Prop
  | true => fun h l xs => h.IsTuple l xs
  | false => fun h l xs => h.IsList l xs
theorem wkrK {P : Program} {w : World} {i l : Addr} (hne : l ≠ i) (xs : Array Value) : ∀ t : Bool, Wkr P w i l xs fun h k => IsItr t h i l k ∧ IsSeq t h l xs
  | true => wkr_tup hne xs
  | false => wkr_lst hne xs
theorem sqK_get {X : Cx} {pins : List (Addr × Obj)} {σ : L2.St} {H : Hp} {s : Shared} {a : Addr} {xs : List V} (I : Inv X pins σ H s) : ∀ {t : Bool}, SqK X.K t H a xs → ∃ us : List Value, Vals xs us ∧ IsSeq t s.heap a us.toArray
  | true, q => by obtain ⟨us, r, p, _⟩ := I.tuple q; exact ⟨us, r, p⟩
  | false, q => by obtain ⟨us, r, p, _⟩ := I.list q; exact ⟨us, r, p.isList⟩
theorem sqK_inj {X : Cx} {pins : List (Addr × Obj)} {σ : L2.St} {H : Hp} {s : Shared} {a : Addr} {xs ys : List V} (I : Inv X pins σ H s) : ∀ {t : Bool}, SqK X.K t H a xs → SqK X.K t H a ys → xs = ys
  | true, p, q => I.tuple_inj p q
  | false, p, q => I.list_inj p q
theorem itr_obj {h : Heap} {i l : Addr} {k : Nat} : ∀ {t : Bool}, IsItr t h i l k → ∃ o, h.get? i = some o ∧ ∀ v : Option Value, o.data ≠ Data.cell v
  | true, ⟨o, e, _, d⟩ => ⟨o, e, fun v q => nomatch d.symm.trans q⟩
  | false, ⟨o, e, _, d⟩ => ⟨o, e, fun v q => nomatch d.symm.trans q⟩
theorem itr_at {h h' : Heap} {i l : Addr} {k : Nat} : ∀ {t : Bool}, IsItr t h i l k → (∀ o, h.get? i = some o → h'.get? i = some o) → IsItr t h' i l k
  | true, ⟨o, e, r⟩, q => ⟨o, q o e, r⟩
  | false, z, q => Heap.IsListIter.at z q
def ItzG (K : PySem.W.Frag) (p q : Bool) (a b : Addr) : It :=
  ⟨fun i H => ∃ xs ys : List V, SqK K p H a xs ∧ SqK K q H b ys ∧ ∃ x y : V, xs[i]? = some x ∧ ys[i]? = some y,
    fun i H v H' => ∃ (T : Addr) (x y : V), v = .ref T ∧ PairAt T x y H H' ∧ (∀ ws, SqK K p H a ws → ws[i]? = some x) ∧ ∀ ws, SqK K q H b ws → ws[i]? = some y,
    fun i H => ∃ xs ys : List V, (xs.length ≤ i ∨ ys.length ≤ i) ∧ SqK K p H a xs ∧ SqK K q H b ys⟩
abbrev tnG (p q : Bool) (a b z TI TO i1 i2 : Addr) (i : Nat) (h : Heap) : Prop :=
  (IsZip h z TI TO .none ∧ IsPair h TI (.ref i1) (.ref i2)) ∧ (∃ x y, IsPair h TO x y) ∧ IsItr p h i1 a i ∧ IsItr q h i2 b i
theorem mem5 {c z TI TO i1 i2 : Addr} (q : c ∈ [z, TI, TO, i1, i2]) : c = z ∨ c = TI ∨ c = TO ∨ c = i1 ∨ c = i2 := by simpa using q
theorem all5 {p : Addr → Prop} {c z TI TO i1 i2 : Addr} (q : c ∈ [z, TI, TO, i1, i2]) (a1 : p z) (a2 : p TI) (a3 : p TO) (a4 : p i1) (a5 : p i2) : p c := by
  rcases mem5 q with q | q | q | q | q <;> (rw [q]; assumption)
theorem turn_zipG {P : Program} {w : World} {K : PySem.W.Frag} {elts : List Expr} {kk : Nat} {tpos : Pos} {a b z TI TO i1 i2 : Addr} (p q : Bool) (D : ZipApart z TI TO i1 i2 a b) :
    Turn P w K (.Tuple elts kk tpos) (ItzG K p q a b) [z, TI, TO, i1, i2] z (tnG p q a b z TI TO i1 i2) where
  mem := List.mem_cons_self ..
  obj i h st c hc := by
    obtain ⟨⟨y1, y2⟩, ⟨x, y, y3⟩, y4, y5⟩ := st
    exact all5 (p := fun c => ∃ o, h.get? c = some o ∧ ∀ v : Option Value, o.data ≠ Data.cell v) hc ⟨_, y1, fun v q => nomatch q⟩ ⟨_, y2, fun v q => nomatch q⟩ ⟨_, y3, fun v q => nomatch q⟩ (itr_obj y4) (itr_obj y5)
  keep i h h' st k := by
    obtain ⟨⟨y1, y2⟩, ⟨x, y, y3⟩, y4, y5⟩ := st
    exact ⟨⟨k z (by simp) _ y1, k TI (by simp) _ y2⟩, ⟨x, y, k TO (by simp) _ y3⟩, itr_at y4 fun o q => k i1 (by simp) o q, itr_at y5 fun o q => k i2 (by simp) o q⟩
  item := by
    intro X hP hw hK hc i pins s σ H E I hf st hg
    subst hP hw hK; obtain ⟨⟨y1, y2⟩, ⟨x0, y0, y3⟩, y4, y5⟩ := st; obtain ⟨xs, ys, q1, q2, x, y, hx, hy⟩ := hg
    obtain ⟨u1, r1, p1⟩ := sqK_get I q1; obtain ⟨u2, r2, p2⟩ := sqK_get I q2; obtain ⟨u, hu, ru⟩ := r1.get hx; obtain ⟨v, hv, rv⟩ := r2.get hy
    have zl : z < s.heap.objs.size := Heap.lt_size y1
    refine zw_next D (wkrK D.l1i1 u1.toArray p) (wkrK D.l2i2 u2.toArray q) y1 y2 y3 ⟨y4, p1⟩ ⟨y5, p2⟩ (x := u) (y := v) (by simpa using hu) (by simpa using hv) fun g ⟨b1, b2, b3, b4, b5, b6, b7⟩ => ?_
    refine ⟨_, rfl, wpAny_letOwnedTupleGo_zip (s := { s with heap := g }) b1 fun g' c1 sb => ?_⟩
    have pr : g'.get? s.heap.objs.size = some { cls := .type "tuple", data := .seq #[u, v] } := (sb.2 _ (Nat.ne_of_gt zl)).trans b5
    have fresh : ObjOk X.prog X.w (upd H s.heap.objs.size (.frz { cls := .type "tuple", data := .seq #[u, v] } (.tup [x, y]))) g' s.heap.objs.size (.frz { cls := .type "tuple", data := .seq #[u, v] } (.tup [x, y])) :=
      ⟨pr, by show 2 ≤ sizeLine; decide, [u, v], .cons ru (.cons rv .nil), ⟨_, pr, rfl, _, rfl⟩⟩
    have I1 := I.turnedNew (t' := s.toks) (ch := [z, TI, TO, i1, i2])
      (fun c o hb q => (sb.2 c (fun e => hb (by simp [e]))).trans (b7 c o (fun e => hb (by simp [e])) (fun e => hb (by simp [e])) (fun e => hb (by simp [e])) (fun e => hb (by simp [e])) q)) hf (Nat.le_refl _) fresh
    refine ⟨.ref s.heap.objs.size, _, I1, rfl, ⟨_, x, y, rfl, ⟨I.hok.fresh (Nat.le_refl _), _, ⟨rfl, rfl⟩, rfl⟩, fun l hl => by rw [sqK_inj I hl q1]; exact hx, fun l hl => by rw [sqK_inj I hl q2]; exact hy⟩, ⟨⟨c1, ?_⟩, ⟨u, v, ?_⟩, ?_, ?_⟩, fun c hcm => ?_⟩
    · exact (sb.2 _ D.TIz).trans (b7 _ _ D.TIz D.TITO D.TIi1 D.TIi2 y2)
    · exact (sb.2 _ D.TOz).trans b2
    · exact itr_at b3.1 fun o q => (sb.2 _ D.i1z).trans q
    · exact itr_at b4.1 fun o q => (sb.2 _ D.i2z).trans q
    · have hl : c < s.heap.objs.size := by
        obtain ⟨_, e1, _⟩ := itr_obj y4; obtain ⟨_, e2, _⟩ := itr_obj y5
        exact all5 (p := fun c => c < s.heap.objs.size) hcm zl (Heap.lt_size y2) (Heap.lt_size y3) (Heap.lt_size e1) (Heap.lt_size e2)
      rw [upd_ne (Nat.ne_of_lt hl)]; exact (hf c hcm).1
  done := by
    intro X hP hw hK hc i pins s σ H E I hf st hg
    subst hP hw hK; obtain ⟨⟨y1, y2⟩, ⟨x0, y0, y3⟩, y4, y5⟩ := st; obtain ⟨xs, ys, hend, q1, q2⟩ := hg
    obtain ⟨u1, r1, p1⟩ := sqK_get I q1; obtain ⟨u2, r2, p2⟩ := sqK_get I q2
    have n1 := r1.length
    have n2 := r2.length
    refine zw_stop (I.ok.hd hc) D (wkrK D.l1i1 u1.toArray p) (wkrK D.l2i2 u2.toArray q) y1 y2 y3 ⟨y4, p1⟩ ⟨y5, p2⟩ (hend.imp (fun q => by simp; omega) fun q => by simp; omega) fun g k => ?_
    exact ⟨rfl, I.turnedL (t' := s.toks) (ch := [z, TI, TO, i1, i2]) (fun c o hb q => k c o (fun e => hb (by simp [e])) (fun e => hb (by simp [e])) (fun e => hb (by simp [e])) (fun e => hb (by simp [e])) q) hf⟩
  self A i s Q E st h := wpAny_pyIter_zip st.1.1 h
def iZipB (K : PySem.W.Frag) (ta : TA) : TI := fun σ H R => ta σ H fun vs H1 => ∃ a b xs ys, vs = [.ref a, .ref b] ∧ ((SqL K H1 a xs ∧ SqL K H1 b ys ∧ R (ItzG K false false a b) H1) ∨ (SqT K H1 a xs ∧ SqT K H1 b ys ∧ R (ItzG K true true a b) H1))
theorem pi_zipB {X : Cx} {e e2 : Expr} {ta : TA} {p pos tpos : Pos} {elts : List Expr} {kk : Nat} (hg : Gl X "zip") (hm : X.mg "zip" = none) (ha : PA X [e, e2] ta)
    (h1 : starEach [e, e2] X.env = (false, eval e X.env) :: starEach [e2] X.env := by rfl) (h2 : ((backTo pos (starEach [e2] X.env)).any fun x => x.fst) = false := by rfl) :
    PI X (.Tuple elts kk tpos) ((Expr.Name "zip" p).Call [e, e2] [] pos) (iZipB X.K ta) :=
  ⟨fun pins s σ H R I h => Call_ (ld_blt I hg hm PyProof.Rows.boot_zip (PyProof.Rows.callWith_type1 (thn (ha.run pos pins s σ H _ I h) fun us s1 ⟨vs, H1, I1, r1, q1⟩ => by
    obtain ⟨a, b, xs, ys, ex, q1⟩ := q1; subst ex
    cases r1 with
    | cons r rr =>
      cases rr with
      | cons r' rr =>
        cases rr; cases r; cases r'
        have five : ∀ c ∈ [s1.heap.objs.size + 4, s1.heap.objs.size + 2, s1.heap.objs.size + 3, s1.heap.objs.size, s1.heap.objs.size + 1], FpOk X pins H1 c := fun c hc => by
          have le : s1.heap.objs.size ≤ c := by
            rcases mem5 hc with q | q | q | q | q <;> rw [q] <;> omega
          exact I1.fpOk le (I1.hok.fresh le)
        rcases q1 with ⟨q2, q3, q1⟩ | ⟨q2, q3, q1⟩
        · obtain ⟨u1, v1, p1, _⟩ := I1.list q2; obtain ⟨u2, v2, p2, _⟩ := I1.list q3
          refine call_zip_2 p1.isList p2.isList fun g a1 a2 a3 a4 a5 _ k => wpAny_pyIter_zip a1 ?_
          exact ⟨s1.heap.objs.size + 4, _, _, _, H1, rfl, I1.kept (t' := s1.toks) k, turn_zipG false false (PySem.W.ktu_apart s1.heap.objs.size a b p1.lt p2.lt), ⟨⟨a1, a2⟩, ⟨_, _, a3⟩, a4, a5⟩, five, q1⟩
        · obtain ⟨u1, v1, p1, _⟩ := I1.tuple q2; obtain ⟨u2, v2, p2, _⟩ := I1.tuple q3; obtain ⟨o1, ho1, _⟩ := id p1; obtain ⟨o2, ho2, _⟩ := id p2
          refine call_zipT (show s1.heap.IsTuple a u1.toArray from p1) (show s1.heap.IsTuple b u2.toArray from p2) fun g a1 a2 a3 a4 a5 _ k => wpAny_pyIter_zip a1 ?_
          exact ⟨s1.heap.objs.size + 4, _, _, _, H1, rfl, I1.kept (t' := s1.toks) k, turn_zipG true true (PySem.W.ktu_apart s1.heap.objs.size a b (Heap.lt_size ho1) (Heap.lt_size ho2)), ⟨⟨a1, a2⟩, ⟨_, _, a3⟩, a4, a5⟩, five, q1⟩) h1 h2))⟩
def IteL (K : PySem.W.Frag) (a : Addr) : It where
  go i H := ∃ (xs : List V) (x : V), SqL K H a xs ∧ xs[i]? = some x
  yld i H v H' := ∃ T x, v = .ref T ∧ PairAt T (.int (i : Nat)) x H H' ∧ ∀ xs, SqL K H a xs → xs[i]? = some x
  stop i H := ∃ xs : List V, SqL K H a xs ∧ xs.length ≤ i
theorem turn_enumL {P : Program} {w : World} {K : PySem.W.Frag} {es : List Expr} {k1 : Nat} {tp : Pos} (a e it : Addr) :
    Turn P w K (.Tuple es k1 tp) (IteL K a) [e, it] e (fun i h => (∃ old, IsEnum h e it ((i : Nat) : Int) old) ∧ IsItr false h it a i ∧ e ≠ it) where
  mem := List.mem_cons_self ..
  obj := fun i h st b hb => by
    obtain ⟨⟨old, y1⟩, y2, _⟩ := st
    rcases (show b = e ∨ b = it by simpa using hb) with z | z <;> subst z
    · exact ⟨_, y1, fun v q => nomatch q⟩
    · exact itr_obj y2
  keep := fun i h h' st k => by
    obtain ⟨⟨old, y1⟩, y2, r⟩ := st
    exact ⟨⟨old, k e (by simp) _ y1⟩, itr_at y2 fun o q => k it (by simp) o q, r⟩
  item := by
    intro X hP hw hK hc i pins s σ H E I hf st hg
    subst hP hw hK; obtain ⟨⟨old, y1⟩, y2, ne⟩ := st; obtain ⟨xs, x, q1, hx⟩ := hg
    obtain ⟨us, r1, p1, _⟩ := I.list q1; obtain ⟨u, hu, ru⟩ := r1.get hx
    have zl : e < s.heap.objs.size := Heap.lt_size y1
    obtain ⟨oi, yi, _⟩ := itr_obj y2
    refine wpAny_pyNext_enum_item y1 y2 p1.isList (x := u) (by simpa using hu) ne fun g b1 b2 b3 b4 b5 => ?_
    refine ⟨_, rfl, wpAny_letOwnedTupleGo_enum (s := { s with heap := g, toks := s.toks + 1 }) b1 fun g' c1 sb => ?_⟩
    have pr : g'.get? s.heap.objs.size = some { cls := .type "tuple", data := .seq #[.int i s.toks, u] } := (sb.2 _ (Nat.ne_of_gt zl)).trans b3
    have fresh : ObjOk X.prog X.w (upd H s.heap.objs.size (.frz { cls := .type "tuple", data := .seq #[.int i s.toks, u] } (.tup [.int (i : Nat), x]))) g' s.heap.objs.size (.frz { cls := .type "tuple", data := .seq #[.int i s.toks, u] } (.tup [.int (i : Nat), x])) :=
      ⟨pr, by show 2 ≤ sizeLine; decide, [.int i s.toks, u], .cons ⟨_, rfl⟩ (.cons ru .nil), ⟨_, pr, rfl, _, rfl⟩⟩
    have I1 := I.turnedNew (t' := s.toks + 1) (ch := [e, it]) (fun b o hb q => (sb.2 b (fun z => hb (by simp [z]))).trans (b5 b o (fun z => hb (by simp [z])) (fun z => hb (by simp [z])) q)) hf (Nat.le_refl _) fresh
    refine ⟨.ref s.heap.objs.size, _, I1, rfl, ⟨_, x, rfl, ⟨I.hok.fresh (Nat.le_refl _), _, ⟨rfl, rfl⟩, rfl⟩, fun l hl => by rw [I.list_inj hl q1]; exact hx⟩, ⟨⟨u, ?_⟩, itr_at (t := false) b2 fun o q => (sb.2 it (Ne.symm ne)).trans q, ne⟩, fun b hb => ?_⟩
    · rw [show ((i + 1 : Nat) : Int) = (i : Int) + 1 by omega]
      exact c1
    · have bl : b < s.heap.objs.size := by
        rcases (show b = e ∨ b = it by simpa using hb) with z | z <;> subst z
        · exact zl
        · exact Heap.lt_size yi
      rw [upd_ne (Nat.ne_of_lt bl)]; exact (hf b hb).1
  done := by
    intro X hP hw hK hc i pins s σ H E I hf st hg
    subst hP hw hK; obtain ⟨⟨old, y1⟩, y2, ne⟩ := st; obtain ⟨xs, q1, hx⟩ := hg
    obtain ⟨us, r1, p1, _⟩ := I.list q1
    have n1 := r1.length
    exact wpAny_pyNext_enum_end (I.ok.hd hc) y1 y2 p1.isList (by simp; omega) fun g k => ⟨rfl, by obtain ⟨f0, f1, f2, f3, f4, f5⟩ := hf it (by simp); exact I.turned (t' := s.toks) (fun b o hb q => k b o hb q) f0 f1 f3 f4 f5⟩
  self A i s Q E st h := wpAny_pyIter_enum st.1.choose_spec h
def tTupRgB (te : L2.St → Hp → (Int → Int → Hp → Prop) → Prop) : TE := fun σ H Q => te σ H fun a b H1 => RgOk a b ∧ MadeT H1 (rgV a b) Q
theorem pe_tupRgB {X : Cx} {e : Expr} {te : L2.St → Hp → (Int → Int → Hp → Prop) → Prop} {p pos : Pos} (hc : X.calm = true) (hg : Gl X "tuple") (hm : X.mg "tuple" = none) (he : PRg X e te) (na : starEach [e] X.env = (false, eval e X.env) :: starEach [] X.env := by rfl) :
    PE X (.Call (.Name "tuple" p) [e] [] pos) (tTupRgB te) :=
  ⟨fun pins s σ H Q I h => Call_ (ld_blt I hg hm boot_tuple (PyProof.Rows.callWith_type1 (args_cons (thn (he pins s σ H _ I h) fun x s1 ⟨r, a, b, t, u, v, H1, ex, hr, I1, ok, q⟩ => args_nil (by
    subst ex
    obtain ⟨b1, b2, b3, b4, b5⟩ := ok
    refine call_tuple_range (n := (b - a).toNat) (I1.ok.hd hc) hr (small_one b1 b2 b3 b4) (rangeSize_nat a b) b5 fun g tk acc k z => ?_
    have I2 : Inv X pins σ H1 { s1 with heap := g, toks := tk } := I1.kept k
    refine ⟨.ref g.objs.size, upd H1 g.objs.size (.frz { cls := .type "tuple", data := .seq acc } (.tup (rgV a b))), I2.laid (t' := tk) (fun c o e => Heap.get?_push_of_some _ e) (Nat.le_refl _) ⟨Heap.get?_push_size _ rfl, ?_, acc.toList, vals_rg z, ?_⟩, rfl, q _ _ (I2.hok.fresh (Nat.le_refl _)) rfl rfl⟩
    · rw [rgV_length, sizeLine_eq]; omega
    · rw [Array.toArray_toList]; exact IsTup.new _ _)) na) na))⟩
end Fx
namespace L2
open PySem PySem.Spec PyProof.Rows
def hashX (k : List Int) : Int := reduceHash (Builtin.Tuple.tupleHashOf (k.map hashInt))
def entX (x : List Int × Addr × Value) : DictEntry := ⟨hashX x.1, .ref x.2.1, x.2.2⟩
abbrev KX : List (List Int × Addr × V) → List (List Int × Addr × Value) → Prop := Paired fun p q => p.1 = q.1 ∧ p.2.1 = q.2.1 ∧ RelV p.2.2 q.2.2
def DtR (h : Heap) (a : Addr) (ks : List (List Int × Addr × V)) : Prop :=
  ks.length ≤ sizeLine ∧ (a == sysModules) = false ∧ ∃ xs, KX ks xs ∧ ∃ o es ep, h.get? a = some o ∧ o.ExactDict ∧ o.data = .dict es ep ∧ es.toList = xs.map entX ∧ (xs.map (·.1)).Nodup
abbrev DtO (a : Addr) (ks : List (List Int × Addr × V)) : HO := .ext fun h => DtR h a ks
def valX (ks : List (List Int × Addr × V)) (k : List Int) : Option V := (ks.find? fun p => decide (p.1 = k)).map (·.2.2)
def putX (ks : List (List Int × Addr × V)) (k : List Int) (b : Addr) (v : V) : List (List Int × Addr × V) :=
  if (valX ks k).isSome then ks.map (fun p => if p.1 = k then (p.1, p.2.1, v) else p) else ks ++ [(k, b, v)]
theorem valX_pos {p : List Int × Addr × V} {ps : List (List Int × Addr × V)} {k : List Int} (e : p.1 = k) : valX (p :: ps) k = some p.2.2 := by simp [valX, List.find?_cons, e]
theorem valX_neg {p : List Int × Addr × V} {ps : List (List Int × Addr × V)} {k : List Int} (e : ¬ p.1 = k) : valX (p :: ps) k = valX ps k := by simp [valX, List.find?_cons, e]
theorem KX.val {ks : List (List Int × Addr × V)} {xs : List (List Int × Addr × Value)} (r : KX ks xs) (k : List Int) : RelO (valX ks k) ((atKey xs k).map (·.2)) := by
  induction r with
  | nil => exact True.intro
  | @cons p q ps qs h t ih =>
    obtain ⟨h1, _, h2⟩ := h
    by_cases e : p.1 = k
    · have e' : q.1 = k := h1.symm.trans e
      have b : atKey (q :: qs) k = some q.2 := by simp [atKey, List.find?_cons, e']
      rw [valX_pos e, b]; exact h2
    · have e' : ¬ q.1 = k := fun z => e (h1.trans z)
      have b : atKey (q :: qs) k = atKey qs k := by simp [atKey, List.find?_cons, e']
      rw [valX_neg e, b]; exact ih
theorem KX.repl {ks : List (List Int × Addr × V)} {xs : List (List Int × Addr × Value)} (r : KX ks xs) (k : List Int) {y : V} {u : Value} (ry : RelV y u) :
    KX (ks.map fun p => if p.1 = k then (p.1, p.2.1, y) else p) (xs.map (putAt k u)) := by
  induction r with
  | nil => exact .nil
  | @cons p q ps qs h t ih =>
    rw [List.map_cons, List.map_cons]
    refine .cons ?_ ih
    obtain ⟨h1, h2, h3⟩ := h
    unfold putAt
    by_cases e : p.1 = k
    · rw [if_pos e, if_pos (h1.symm.trans e)]; exact ⟨h1, h2, ry⟩
    · rw [if_neg e, if_neg (fun z => e (h1.trans z))]; exact ⟨h1, h2, h3⟩
theorem KX.put {ks : List (List Int × Addr × V)} {xs : List (List Int × Addr × Value)} (r : KX ks xs) (k : List Int) {b : Addr} {y : V} {u : Value} (ry : RelV y u) :
    KX (putX ks k b y) (storedH xs k b u) := by
  have e : (valX ks k).isSome = (atKey xs k).isSome := by rw [(r.val k).isSome_eq, Option.isSome_map]
  unfold putX storedH
  rw [e]
  by_cases q : (atKey xs k).isSome = true
  · rw [if_pos q, if_pos q]; exact r.repl k ry
  · rw [if_neg q, if_neg q]; exact Paired.snoc r ⟨rfl, rfl, ry⟩
theorem length_putX (ks : List (List Int × Addr × V)) (k : List Int) (b : Addr) (v : V) : (putX ks k b v).length ≤ ks.length + 1 := by
  unfold putX
  split <;> simp
theorem dtO_ok {P : Program} {w : World} {H : Hp} {h : Heap} {a : Addr} {ks : List (List Int × Addr × V)} (R : DtR h a ks) : ObjOk P w H h a (DtO a ks) := by
  refine ⟨R, ?_, fun h1 h2 p k => ?_⟩
  · obtain ⟨_, _, _, _, o, _, _, ho, _⟩ := R
    exact ⟨o, ho⟩
  · obtain ⟨z, hs, xs, r, o, es, ep, ho, q⟩ := p
    exact ⟨z, hs, xs, r, o, es, ep, k o ho, q⟩
section
variable {X : Cx} {pins : List (Addr × Obj)} {σ : St} {H : Hp} {s : Shared} {a b : Addr} {y v d : V} {u r : Value} {A : Around} {E : Value → Shared → Prop} {ks : List (List Int × Addr × V)} {k : List Int}
theorem Inv.dtR (I : Inv X pins σ H s) (h : Rd H a (DtO a ks)) : DtR s.heap a ks := by
  have := (show ObjOk X.prog X.w H s.heap a (DtO a ks) from rd_of I.hok h)
  exact this.1
def DtAt (K : PySem.W.Frag) (H : Hp) (a : Addr) (ks : List (List Int × Addr × V)) : Prop := Rd H a (DtO a ks) ∧ ∀ p ∈ ks, SqT K H p.2.1 (p.1.map V.int)
theorem KX.mem {ks : List (List Int × Addr × V)} {xs : List (List Int × Addr × Value)} (r : KX ks xs) : ∀ x ∈ xs, ∃ p ∈ ks, p.1 = x.1 ∧ p.2.1 = x.2.1 := by
  induction r with
  | nil => intro x hx; exact nomatch hx
  | @cons p q ps qs h t ih =>
    intro x hx
    rcases List.mem_cons.mp hx with rfl | hx
    · exact ⟨p, List.mem_cons_self, h.1, h.2.1⟩
    · obtain ⟨z, z1, z2⟩ := ih x hx
      exact ⟨z, List.mem_cons_of_mem _ z1, z2⟩
theorem Inv.dtH (I : Inv X pins σ H s) (h : DtAt X.K H a ks) : ks.length ≤ sizeLine ∧ (a == sysModules) = false ∧ ∃ xs, KX ks xs ∧ s.heap.DictOfH (tupleKind (intKind X.prog X.w)) a xs := by
  obtain ⟨z, hs, xs, r, o, es, ep, ho, hx, hd, he, hn⟩ := I.dtR h.1
  refine ⟨z, hs, xs, r, o, es, ep, ho, hx, hd, he, fun x hx => ?_, hn⟩
  obtain ⟨p, hp, e1, e2⟩ := r.mem x hx
  have := I.isT (h.2 p hp)
  rw [e1, e2] at this
  exact this
theorem x_get2 {Q : Value → Shared → Prop} (hu : A.units + 1 < cLine) (I : Inv X pins σ H s) (h : DtAt X.K H a ks) (hb : SqT X.K H b (k.map V.int)) (rd : RelV d r) (q : ∀ w' s', Inv X pins σ H s' → RelV ((valX ks k).getD d) w' → Q w' s') :
    wpAny (model X.prog X.w) A (call (.builtin "dict.get") [.ref a, .ref b, r]) Q E s := by
  obtain ⟨z, hd, xs, rel, dd⟩ := I.dtH h
  exact call_meetsIn PySem.F.slot_dict_get dd.typeIs PySem.F.entry_dict_get (PySem.F.args_dict_get_3 _ _ _) (meetsH_dict_get_default (tupleKind (intKind X.prog X.w)) a b hd r) ⟨tupleKind_room_in1 hu, k, xs, I.isT hb, dd, q _ _ (I.tok _) ((rel.val k).getD rd)⟩
theorem x_getItem {Q : Value → Shared → Prop} (hu : A.units + 1 < cLine) (I : Inv X pins σ H s) (h : DtAt X.K H a ks) (hb : SqT X.K H b (k.map V.int)) (hv : valX ks k = some v) (q : ∀ w' s', Inv X pins σ H s' → RelV v w' → Q w' s') :
    wpAny (model X.prog X.w) A (getItem (.ref a) (.ref b)) Q E s := by
  obtain ⟨z, hd, xs, rel, dd⟩ := I.dtH h
  obtain ⟨w', hw, rw'⟩ := RelO.some_of (v := v) (o := (atKey xs k).map (·.2)) (by rw [← hv]; exact rel.val k)
  obtain ⟨p, hp, hp2⟩ := Option.map_eq_some_iff.mp hw
  refine wpAny_getItem_heap (tupleKind_room_in1 hu) (I.isT hb) dd hp ?_
  rw [hp2]
  exact q w' _ (I.tok _) rw'
theorem x_setItem {Q : Unit → Shared → Prop} (hu : A.units + 1 < cLine) (I : Inv X pins σ H s) (hH : H a = some (DtO a ks)) (hk : ∀ p ∈ ks, SqT X.K H p.2.1 (p.1.map V.int)) (hl : ks.length < sizeLine) (hb : SqT X.K H b (k.map V.int)) (rv : RelV v r)
    (q : ∀ s', Inv X pins σ (upd H a (DtO a (putX ks k b v))) s' → Q () s') : wpAny (model X.prog X.w) A (setItem (.ref a) (.ref b) r) Q E s := by
  obtain ⟨z, hd, xs, rel, dd⟩ := I.dtH (a := a) (ks := ks) ⟨.inl hH, hk⟩
  have hz : xs.length ≤ sizeLine := by rw [← Paired.length rel]; exact z
  refine wpAny_setItem_heap (hsz := hz) (tupleKind_room_in1 hu) (I.isT hb) dd fun h' dd' hs => q _ ?_
  obtain ⟨o, es, ep, ho, h2, h3, h4, _, h5⟩ := dd'
  refine d_write I (by rw [hH]; exact True.intro) hs ⟨o, ho⟩ (dtO_ok ⟨?_, hd, _, rel.put k rv, o, es, ep, ho, h2, h3, h4, h5⟩)
  have := length_putX ks k b v
  omega
theorem x_at (I : Inv X pins σ H s) (h : Rd H a (DtO a ks)) : s.TypeIs (.ref a) "dict" ∧ (∀ b, Value.ref a = .ref b → ∃ ob, s.heap.get? b = some ob ∧ ob.dict = none) ∧ (a == sysModules) = false := by
  obtain ⟨z, hs, xs, r, o, es, ep, ho, hx, hd, he, hn⟩ := I.dtR h
  exact ⟨⟨o, ho, hx.1⟩, fun b q => by cases q; exact ⟨o, ho, hx.2.1⟩, hs⟩
end
def tDNewX : TE := fun _ H Q => ∀ p, H p = none → Q (.ref p) (upd H p (DtO p []))
def tDGetX (K : PySem.W.Frag) (td ty : TE) : TE := fun σ H Q => td σ H fun x H1 => ty σ H1 fun y H2 => ∃ a ks b k v, x = .ref a ∧ y = .ref b ∧ DtAt K H2 a ks ∧ SqT K H2 b (k.map V.int) ∧ valX ks k = some v ∧ Q v H2
def tDGet2X (K : PySem.W.Frag) (td ty tx : TE) : TE := fun σ H Q => td σ H fun x H1 => ∃ a ks1, x = .ref a ∧ Rd H1 a (DtO a ks1) ∧ ty σ H1 fun y H2 => tx σ H2 fun z H3 => ∃ ks b k, y = .ref b ∧ DtAt K H3 a ks ∧ SqT K H3 b (k.map V.int) ∧ Q ((valX ks k).getD z) H3
def sDPutX (K : PySem.W.Frag) (td ty tv : TE) : TS := fun D σ H => tv σ H fun v H1 => td σ H1 fun x H2 => ty σ H2 fun y H3 => ∃ a ks b k, x = .ref a ∧ y = .ref b ∧ H3 a = some (DtO a ks) ∧ (∀ p ∈ ks, SqT K H3 p.2.1 (p.1.map V.int)) ∧ ks.length < sizeLine ∧ SqT K H3 b (k.map V.int) ∧ D.nx σ (upd H3 a (DtO a (putX ks k b v)))
section
variable {X : Cx} {o i e f value : Expr} {pos pos' tpos apos cpos : Pos} {td ty tv tx : TE}
theorem pe_dnewX : PE X (.Dict [] [] pos) tDNewX := ⟨fun pins s σ H Q I h =>
  wpAny_Dict_empty ⟨.ref s.heap.objs.size, _, I.laid (a := s.heap.objs.size) (o := DtO s.heap.objs.size []) (t' := s.toks) (fun _ _ q => Heap.get?_push_of_some _ q) (Nat.le_refl _)
    (dtO_ok ⟨Nat.zero_le _, beq_eq_false_iff_ne.mpr (Ne.symm (Nat.ne_of_lt I.big)), [], .nil, _, #[], 0, Heap.get?_push_size _ rfl, ⟨rfl, rfl, rfl⟩, rfl, rfl, List.nodup_nil⟩), rfl, h _ (I.hok.fresh (Nat.le_refl _))⟩⟩
theorem pe_dgetX (hu : X.A.units + 1 < cLine) (ho : PE X o td) (hi : PE X i ty) (hs : NoSl i) : PE X (.Subscript o i pos) (tDGetX X.K td ty) := by
  refine ⟨fun pins s σ H Q I h => ?_⟩
  refine subD_of PySem.F.slot_dict_getitem.lookup hs (thn (ho.run pins s σ H _ I h) fun u s1 ⟨x, H1, I1, rx, q1⟩ => thn (hi.run pins s1 σ H1 _ I1 q1) fun iv s2 ⟨y, H2, I2, ry, a, ks, b, k, v, ex, ey, g, gb, gv, q2⟩ => ?_)
  subst ex ey
  obtain rfl : u = Value.ref a := rx
  obtain rfl : iv = Value.ref b := ry
  exact ⟨(x_at I2 g.1).1, x_getItem hu I2 g gb gv fun w' s3 I3 rw' => ⟨v, H2, I3, rw', q2⟩⟩
theorem pe_dget2X (hu : X.A.units + 1 < cLine) (ho : PE X o td) (he : PE X e ty) (hf : PE X f tx) (m : M2 X o "get" apos e f cpos) : PE X (.Call (.Attribute o "get" apos) [e, f] [] cpos) (tDGet2X X.K td ty tx) := by
  refine ⟨fun pins s σ H Q I h => ?_⟩
  refine wpAny_Call_method m.base m.few m.line PySem.F.plainAttrs_dict PySem.F.slot_dict_get PySem.F.type_dict_get (thn (ho.run pins s σ H _ I h) fun u s1 ⟨x, H1, I1, rx, a, ks1, ex, d, q1⟩ => ?_)
  subst ex
  obtain rfl : u = Value.ref a := rx
  obtain ⟨t1, t2, _⟩ := x_at I1 d
  refine ⟨t1, t2, ?_⟩
  rw [m.trees]
  refine Calls.callWith_builtin rfl (Calls.evalArgs_plain (Calls.spliced_cons (thn (he.run pins s1 σ H1 _ I1 q1) fun iv s2 ⟨y, H2, I2, ry, q2⟩ =>
    Calls.spliced_cons (thn (hf.run pins s2 σ H2 _ I2 q2) fun fv s3 ⟨z, H3, I3, rz, ks, b, k, ey, g, gb, q3⟩ => Calls.spliced_nil ?_))))
  subst ey
  obtain rfl : iv = Value.ref b := ry
  exact x_get2 hu I3 g gb rz fun w' s4 I4 rw' => ⟨_, H3, I4, rw', q3⟩
theorem ps_dputX (hu : X.A.units + 1 < cLine) (ho : PE X o td) (hi : PE X i ty) (hv : PE X value tv) (hs : swapsWith value (some (.Subscript o i pos')) pos.line X.env = pure false) :
    PS X (.Assign [.Subscript o i pos'] value pos) (sDPutX X.K td ty tv) := by
  refine ⟨fun pins s σ H D I h => ?_⟩
  refine wpAny_Assign_Subscript (thn (hv.run pins s σ H _ I h) fun r s1 ⟨v, H1, I1, rv, q1⟩ => thn (ho.run pins s1 σ H1 _ I1 q1) fun u s2 ⟨x, H2, I2, rx, q2⟩ => thn (hi.run pins s2 σ H2 _ I2 q2) fun iv s3 ⟨y, H3, I3, ry, a, ks, b, k, ex, ey, g, gk, gl, gb, q3⟩ => ?_) hs
  subst ex ey
  obtain rfl : u = Value.ref a := rx
  obtain rfl : iv = Value.ref b := ry
  exact x_setItem hu I3 g gk gl gb rv fun s4 I4 => ⟨σ, _, I4, q3⟩
end
def Itx (d : Addr) (o : Obj) (ks : List (List Int × Addr × V)) : It :=
  ⟨fun i H => H d = some (.frz o (DtO d ks)) ∧ i < ks.length, fun i H x H' => H' = H ∧ ∃ p, ks[i]? = some p ∧ x = .ref p.2.1, fun i H => H d = some (.frz o (DtO d ks)) ∧ ks.length ≤ i⟩
section
variable {X : Cx} {pins : List (Addr × Obj)} {σ : St} {H : Hp} {s : Shared} {d : Addr} {o : Obj} {ks : List (List Int × Addr × V)}
theorem Inv.frzX (I : Inv X pins σ H s) (h : H d = some (.frz o (DtO d ks))) :
    (d == sysModules) = false ∧ s.heap.get? d = some o ∧ o.ExactDict ∧ ∃ (es : Array DictEntry) (ep : Nat), o.data = .dict es ep ∧ es.size = ks.length ∧
      ∀ (i : Nat) p, ks[i]? = some p → ∃ (en : DictEntry), es[i]? = some en ∧ en.key = .ref p.2.1 := by
  obtain ⟨hd, z⟩ := I.hok d _ h
  have R : DtR s.heap d ks := (show ObjOk X.prog X.w H s.heap d (DtO d ks) from z).1
  obtain ⟨_, hs, xs, pr, o', es, ep, ho, hx, hdt, he, _⟩ := R
  rw [hd] at ho
  cases ho
  refine ⟨hs, hd, hx, es, ep, hdt, ?_, fun i p e => ?_⟩
  · have l1 : es.size = xs.length := by rw [← Array.length_toList, he, List.length_map]
    have l2 : ks.length = xs.length := Paired.length pr
    omega
  · obtain ⟨b, hb, e1, e2, _⟩ := paired_get pr e
    have q : es[i]? = (xs[i]?).map entX := by rw [← Array.getElem?_toList, he, List.getElem?_map]
    rw [hb] at q
    exact ⟨_, q, by rw [e2]; rfl⟩
end
section
variable {P : Program} {w : World} {K : PySem.W.Frag} {tg : Expr} {d : Addr} {o : Obj} {es : Array DictEntry} {ep : Nat}
theorem turn_keysX {ks : List (List Int × Addr × V)} (it : Addr) (hod : o.data = .dict es ep) : Turn P w K tg (Itx d o ks) [it] it (fun i h => h.IsKeyIter it d i ks.length ep) where
  mem := by simp
  obj := fun i h st b hb => by
    have e : b = it := by simpa using hb
    subst e
    obtain ⟨oi, e, c, dd⟩ := st
    exact ⟨oi, e, fun v z => by rw [dd] at z; cases z⟩
  keep := fun i h h' st k => st.at fun oi e => k it (by simp) oi e
  item := by
    intro X hP hw hK hc i pins s σ H E I hf st hg
    subst hP hw hK
    obtain ⟨hd, hi⟩ := hg
    obtain ⟨f0, f1, f2, f3, f4, f5⟩ := hf it (by simp)
    obtain ⟨hs, hgd, hx, es', ep', hdt, hsz, ent⟩ := I.frzX hd
    obtain ⟨rfl, rfl⟩ := dict_ep hod hdt
    obtain ⟨p, hkv⟩ : ∃ p, ks[i]? = some p := ⟨ks[i], List.getElem?_eq_getElem hi⟩
    obtain ⟨en, hen, hkey⟩ := ent i p hkv
    refine next_key_item st hgd hdt hsz hen fun h' st' sb => ?_
    have I1 : Inv X pins σ H { s with heap := h' } := I.turned (t' := s.toks) (fun b ob hb e => (sb.2 b hb).trans e) f0 f1 f3 f4 f5
    obtain ⟨oi, e, c, dd⟩ := id st'
    exact ⟨en.key, rfl, go_of (s := { s with heap := h' }) e c dd (by decide) ⟨.ref p.2.1, H, I1, hkey, ⟨rfl, p, hkv, rfl⟩, st', fun b hb => (hf b hb).1⟩⟩
  done := by
    intro X hP hw hK hc i pins s σ H E I hf st hg
    subst hP hw hK
    obtain ⟨hd, hi⟩ := hg
    obtain ⟨f0, f1, f2, f3, f4, f5⟩ := hf it (by simp)
    obtain ⟨hs, hgd, hx, es', ep', hdt, hsz, ent⟩ := I.frzX hd
    obtain ⟨rfl, rfl⟩ := dict_ep hod hdt
    exact next_key_end (I.ok.hd hc) st hgd hdt hsz hi fun h' eb => ⟨rfl, I.turned (t' := s.toks) (fun b ob hb e => eb b ob hb e) f0 f1 f3 f4 f5⟩
  self := fun A i s Q E st h => by
    refine wpAny_pyIter_slot st.typeIs F.slot_dict_keyiterator_iter (wpAny_call_entry F.slot_dict_keyiterator_iter st.typeIs F.entry_dict_keyiterator_iter ?_ (F.args_dict_keyiterator_iter_1 _))
    show wpAny _ _ (ret (.ref it)) _ _ s
    exact wpAny_pure ⟨_, rfl, "dict_keyiterator", _, st.typeIs, F.slot_dict_keyiterator_next.lookup, h⟩
end
def iKeysX (td : TE) : TI := fun σ H R => td σ H fun x H1 => ∃ d o ks, x = .ref d ∧ H1 d = some (.frz o (DtO d ks)) ∧ R (Itx d o ks) H1
section
variable {X : Cx} {tg e : Expr} {td : TE}
theorem pi_keysX (he : PE X e td) : PI X tg e (iKeysX td) := by
  refine ⟨fun pins s σ H R I h => ?_⟩
  refine thn (he.run pins s σ H _ I h) fun u s1 ⟨x, H1, I1, rx, d, o, ks, ex, hd, q⟩ => ?_
  subst ex
  obtain rfl : u = Value.ref d := rx
  obtain ⟨hs, hgd, hx, es, ep, hdt, hsz, ent⟩ := I1.frzX hd
  refine iter_keys hs hgd hx hdt (pi_one (tk := s1.toks) I1 _ (turn_keysX _ hdt) ⟨_, Heap.get?_push_size _ rfl, rfl, ?_⟩ q)
  rw [hsz] <;> rfl
end
end L2
namespace L2
open PySem PySem.Spec PyProof.Rows
abbrev KN := List Int × Int
def nkey (k : KN) : NestedKey := .tup [.tup (k.1.map .num), .num k.2]
def nmh : NestedKey → Int | .num i => hashInt i | _ => 0
def hshN : NestedKey → Int
  | .tup [.tup ks, .num r] => reduceHash (Builtin.Tuple.tupleHashOf [reduceHash (Builtin.Tuple.tupleHashOf (ks.map nmh)), hashInt r])
  | _ => 0
theorem nums_inj : ∀ {a b : List Int}, a.map NestedKey.num = b.map NestedKey.num → a = b
  | [], [], _ => rfl
  | x :: a, y :: b, h => by
    rw [List.map_cons, List.map_cons] at h
    injection h with h1 h2
    injection h1 with h1
    rw [h1, nums_inj h2]
  | [], _ :: _, h => by cases h
  | _ :: _, [], h => by cases h
theorem nkey_inj {a b : KN} (h : nkey a = nkey b) : a = b := by
  unfold nkey at h
  injection h with h
  injection h with h1 h2
  injection h1 with h1
  injection h2 with h2 _
  injection h2 with h2
  exact Prod.ext (nums_inj h1) h2
def entN (x : NestedKey × Addr × Value) : DictEntry := ⟨hshN x.1, .ref x.2.1, x.2.2⟩
abbrev KXN : List (KN × Addr × V) → List (NestedKey × Addr × Value) → Prop := Paired fun p q => nkey p.1 = q.1 ∧ p.2.1 = q.2.1 ∧ RelV p.2.2 q.2.2
def DtRN (h : Heap) (a : Addr) (ks : List (KN × Addr × V)) : Prop :=
  ks.length ≤ sizeLine ∧ (a == sysModules) = false ∧ ∃ xs, KXN ks xs ∧ ∃ o es ep, h.get? a = some o ∧ o.ExactDict ∧ o.data = .dict es ep ∧ es.toList = xs.map entN ∧ (xs.map (·.1)).Nodup
abbrev DtN (a : Addr) (ks : List (KN × Addr × V)) : HO := .ext fun h => DtRN h a ks
def valN (ks : List (KN × Addr × V)) (k : KN) : Option V := (ks.find? fun p => decide (p.1 = k)).map (·.2.2)
def putN (ks : List (KN × Addr × V)) (k : KN) (b : Addr) (v : V) : List (KN × Addr × V) :=
  if (valN ks k).isSome then ks.map (fun p => if p.1 = k then (p.1, p.2.1, v) else p) else ks ++ [(k, b, v)]
theorem valN_pos {p : KN × Addr × V} {ps : List (KN × Addr × V)} {k : KN} (e : p.1 = k) : valN (p :: ps) k = some p.2.2 := by simp [valN, List.find?_cons, e]
theorem valN_neg {p : KN × Addr × V} {ps : List (KN × Addr × V)} {k : KN} (e : ¬ p.1 = k) : valN (p :: ps) k = valN ps k := by simp [valN, List.find?_cons, e]
theorem KXN.val {ks : List (KN × Addr × V)} {xs : List (NestedKey × Addr × Value)} (r : KXN ks xs) (k : KN) : RelO (valN ks k) ((atKey xs (nkey k)).map (·.2)) := by
  induction r with
  | nil => exact True.intro
  | @cons p q ps qs h t ih =>
    obtain ⟨h1, _, h2⟩ := h
    by_cases e : p.1 = k
    · have e' : q.1 = nkey k := h1.symm.trans (congrArg nkey e)
      have b : atKey (q :: qs) (nkey k) = some q.2 := by simp [atKey, List.find?_cons, e']
      rw [valN_pos e, b]; exact h2
    · have e' : ¬ q.1 = nkey k := fun z => e (nkey_inj (h1.trans z))
      have b : atKey (q :: qs) (nkey k) = atKey qs (nkey k) := by simp [atKey, List.find?_cons, e']
      rw [valN_neg e, b]; exact ih
theorem KXN.repl {ks : List (KN × Addr × V)} {xs : List (NestedKey × Addr × Value)} (r : KXN ks xs) (k : KN) {y : V} {u : Value} (ry : RelV y u) :
    KXN (ks.map fun p => if p.1 = k then (p.1, p.2.1, y) else p) (xs.map (putAt (nkey k) u)) := by
  induction r with
  | nil => exact .nil
  | @cons p q ps qs h t ih =>
    rw [List.map_cons, List.map_cons]
    refine .cons ?_ ih
    obtain ⟨h1, h2, h3⟩ := h
    unfold putAt
    by_cases e : p.1 = k
    · rw [if_pos e, if_pos (h1.symm.trans (congrArg nkey e))]; exact ⟨h1, h2, ry⟩
    · rw [if_neg e, if_neg (fun z => e (nkey_inj (h1.trans z)))]; exact ⟨h1, h2, h3⟩
theorem KXN.put {ks : List (KN × Addr × V)} {xs : List (NestedKey × Addr × Value)} (r : KXN ks xs) (k : KN) {b : Addr} {y : V} {u : Value} (ry : RelV y u) :
    KXN (putN ks k b y) (storedH xs (nkey k) b u) := by
  have e : (valN ks k).isSome = (atKey xs (nkey k)).isSome := by rw [(r.val k).isSome_eq, Option.isSome_map]
  unfold putN storedH
  rw [e]
  by_cases q : (atKey xs (nkey k)).isSome = true
  · rw [if_pos q, if_pos q]; exact r.repl k ry
  · rw [if_neg q, if_neg q]; exact Paired.snoc r ⟨rfl, rfl, ry⟩
def SqN (K : PySem.W.Frag) (H : Hp) (b : Addr) (k : KN) : Prop := ∃ c, SqT K H b [V.ref c, V.int k.2] ∧ SqT K H c (k.1.map V.int)
section
variable {X : Cx} {pins : List (Addr × Obj)} {σ : St} {H : Hp} {s : Shared} {a b : Addr} {y v d : V} {u r : Value} {A : Around} {E : Value → Shared → Prop} {ks : List (KN × Addr × V)} {k : KN}
theorem KXN.mem {ks : List (KN × Addr × V)} {xs : List (NestedKey × Addr × Value)} (r : KXN ks xs) : ∀ x ∈ xs, ∃ p ∈ ks, nkey p.1 = x.1 ∧ p.2.1 = x.2.1 := by
  induction r with
  | nil => intro x hx; exact nomatch hx
  | @cons p q ps qs h t ih =>
    intro x hx
    rcases List.mem_cons.mp hx with rfl | hx
    · exact ⟨p, List.mem_cons_self, h.1, h.2.1⟩
    · obtain ⟨z, z1, z2⟩ := ih x hx
      exact ⟨z, List.mem_cons_of_mem _ z1, z2⟩
end
section
variable {X : Cx} {o i e f value : Expr} {pos pos' tpos apos cpos : Pos} {td ty tv tx : TE}
end
section
variable {X : Cx} {pins : List (Addr × Obj)} {σ : St} {H : Hp} {s : Shared} {d : Addr} {o : Obj} {ks : List (KN × Addr × V)}
end
section
variable {P : Program} {w : World} {K : PySem.W.Frag} {tg : Expr} {d : Addr} {o : Obj} {es : Array DictEntry} {ep : Nat}
end
section
variable {X : Cx} {tg e : Expr} {td : TE} {apos cpos : Pos}
end
end L2
namespace Fx
open PySem PySem.Spec PyProof.Rows L2
inductive PV where
  | non | bl (b : Bool) | int (i : Int) | str (x : Str) | ty (n : String)
  | tup (xs : List PV) | lst (xs : List PV) | kl (xs : List PV) | mr (n : Nat)
inductive MO where
  | lst (xs : List PV) | dk (kvs : List (Key × PV)) | fd (o : Obj) (ws : List (Key × V)) (kvs : List (Key × PV))
  | tk (kvs : List (List Int × PV)) | ft (o : Obj) (ks : List (List Int × Addr × V)) (kvs : List (List Int × PV))
  | nk (kvs : List (KN × PV)) | fn (o : Obj) (ks : List (KN × Addr × V)) (kvs : List (KN × PV))
abbrev nkK (k : KN) : PV := .tup [.tup (k.1.map .int), .int k.2]
abbrev Store := List MO
abbrev PEnv := List (Option PV)
structure Wd where
  am : List Addr
  ban : List Addr
def hp0 : Hp := fun _ => none
section
variable (K : PySem.W.Frag) (d : Wd) (H : Hp)
def BT (a : Addr) (vs : List V) : Prop := ∃ o : Obj, H a = some (.frz o (.tup vs)) ∧ o.cls = .type "tuple" ∧ o.dict = none
def TupAt (a : Addr) (vs : List V) : Prop := (BT H a vs ∧ a ∉ d.am) ∨ (SqT K hp0 a vs ∧ ∃ o : Obj, K.lookup a = some o ∧ o.cls = .type "tuple" ∧ o.dict = none)
def LstAt (a : Addr) (vs : List V) : Prop := H a = some (.lst vs) ∧ a ∉ d.am ∧ a ∉ d.ban
def KlAt (a : Addr) (vs : List V) : Prop := (Rd H a (.lst vs) ∧ a ∉ d.am ∧ a ∉ d.ban) ∨ SqL K hp0 a vs
mutual
inductive RV : PV → V → Prop
  | non : RV .non .non
  | bl (b : Bool) : RV (.bl b) (.bl b)
  | int (i : Int) : RV (.int i) (.int i)
  | str (x : Str) : RV (.str x) (.str x)
  | ty (n : String) : RV (.ty n) (.ty n)
  | tup {xs : List PV} {a : Addr} {vs : List V} : TupAt K d H a vs → RVs xs vs → RV (.tup xs) (.ref a)
  | lst {xs : List PV} {a : Addr} {vs : List V} : LstAt d H a vs → RVs xs vs → RV (.lst xs) (.ref a)
  | kl {xs : List PV} {a : Addr} {vs : List V} : KlAt K d H a vs → RVs xs vs → RV (.kl xs) (.ref a)
  | mr {n : Nat} {a : Addr} : d.am[n]? = some a → RV (.mr n) (.ref a)
inductive RVs : List PV → List V → Prop
  | nil : RVs [] []
  | cons {x : PV} {v : V} {xs : List PV} {vs : List V} : RV x v → RVs xs vs → RVs (x :: xs) (v :: vs)
end
def MOK (a : Addr) : MO → Prop
  | .lst xs => ∃ vs, H a = some (.lst vs) ∧ RVs K d H xs vs
  | .dk kvs => ∃ vs, H a = some (.dK vs) ∧ vs.map (·.1) = kvs.map (·.1) ∧ RVs K d H (kvs.map (·.2)) (vs.map (·.2))
  | .fd o vs kvs => H a = some (.frz o (.dK vs)) ∧ vs.map (·.1) = kvs.map (·.1) ∧ RVs K d H (kvs.map (·.2)) (vs.map (·.2))
  | .tk kvs => ∃ ks, H a = some (DtO a ks) ∧ ks.map (·.1) = kvs.map (·.1) ∧ RVs K d H (kvs.map fun kv => .tup (kv.1.map .int)) (ks.map fun p => .ref p.2.1) ∧ RVs K d H (kvs.map (·.2)) (ks.map (·.2.2))
  | .ft o ks kvs => H a = some (.frz o (DtO a ks)) ∧ ks.map (·.1) = kvs.map (·.1) ∧ RVs K d H (kvs.map fun kv => .tup (kv.1.map .int)) (ks.map fun p => .ref p.2.1) ∧ RVs K d H (kvs.map (·.2)) (ks.map (·.2.2))
  | .nk kvs => ∃ ks, H a = some (DtN a ks) ∧ ks.map (·.1) = kvs.map (·.1) ∧ RVs K d H (kvs.map fun kv => nkK kv.1) (ks.map fun p => .ref p.2.1) ∧ RVs K d H (kvs.map (·.2)) (ks.map (·.2.2))
  | .fn o ks kvs => H a = some (.frz o (DtN a ks)) ∧ ks.map (·.1) = kvs.map (·.1) ∧ RVs K d H (kvs.map fun kv => nkK kv.1) (ks.map fun p => .ref p.2.1) ∧ RVs K d H (kvs.map (·.2)) (ks.map (·.2.2))
structure WOk (μ : Store) : Prop where
  len : d.am.length = μ.length
  nd : d.am.Nodup
  ob : ∀ (i : Nat) (a : Addr) (m : MO), d.am[i]? = some a → μ[i]? = some m → MOK K d H a m
  ban : ∀ b ∈ d.ban, H b ≠ none ∧ b ∉ d.am
def REnv (ρ : PEnv) (σ : L2.St) : Prop := ρ.length = σ.length ∧ ∀ (i : Nat) x, ρ[i]? = some (some x) → ∃ v, σ[i]? = some (some v) ∧ RV K d H x v
end
structure Ext (d : Wd) (H : Hp) (d' : Wd) (H' : Hp) : Prop where
  am : ∃ ex, d'.am = d.am ++ ex ∧ ∀ p ∈ ex, H p = none ∧ p ∉ d.am
  ban : d'.ban = d.ban
  keep : ∀ b o, H b = some o → b ∉ d.am → H' b = some o
section
variable {K : PySem.W.Frag} {d d' d'' : Wd} {H H' H'' : Hp} {a : Addr} {vs : List V} {μ : Store}
theorem Ext.refl : Ext d H d H := ⟨⟨[], by simp, fun p hp => by simp at hp⟩, rfl, fun _ _ e _ => e⟩
theorem Ext.mem (e : Ext d H d' H') (h : a ∈ d.am) : a ∈ d'.am := by
  obtain ⟨ex, q, _⟩ := e.am
  rw [q]; exact List.mem_append_left _ h
theorem Ext.at (e : Ext d H d' H') {n : Nat} (h : d.am[n]? = some a) : d'.am[n]? = some a := by
  obtain ⟨ex, q, _⟩ := e.am
  rw [q, List.getElem?_append_left]
  · exact h
  · exact (List.getElem?_eq_some_iff.mp h).1
theorem Ext.nmem (e : Ext d H d' H') (h : a ∉ d.am) (t : H a ≠ none) : a ∉ d'.am := by
  obtain ⟨ex, q, f⟩ := e.am
  rw [q]
  intro z
  rcases List.mem_append.mp z with z | z
  · exact h z
  · exact t (f a z).1
theorem Ext.trans (e : Ext d H d' H') (f : Ext d' H' d'' H'') : Ext d H d'' H'' := by
  refine ⟨?_, f.ban.trans e.ban, fun b o h n => f.keep b o (e.keep b o h n) (e.nmem n (by rw [h]; simp))⟩
  obtain ⟨x1, q1, f1⟩ := e.am
  obtain ⟨x2, q2, f2⟩ := f.am
  refine ⟨x1 ++ x2, by rw [q2, q1, List.append_assoc], fun p hp => ?_⟩
  rcases List.mem_append.mp hp with hp | hp
  · exact f1 p hp
  · obtain ⟨n1, n2⟩ := f2 p hp
    have n3 : p ∉ d.am := fun z => n2 (e.mem z)
    refine ⟨?_, n3⟩
    cases q : H p with
    | none => rfl
    | some o => rw [e.keep p o q n3] at n1; cases n1
theorem Rd.ne {u : HO} (r : Rd H a u) : H a ≠ none := by
  rcases r with r | ⟨o, r⟩ <;> rw [r] <;> simp
theorem Ext.rd (e : Ext d H d' H') {u : HO} (r : Rd H a u) (n : a ∉ d.am) : Rd H' a u := by
  rcases r with r | ⟨o, r⟩
  · exact .inl (e.keep _ _ r n)
  · exact .inr ⟨o, e.keep _ _ r n⟩
theorem BT.rd (h : BT H a vs) : Rd H a (.tup vs) := by
  obtain ⟨o, q, _⟩ := h
  exact .inr ⟨o, q⟩
theorem BT.keep (h : BT H a vs) (k : ∀ o, H a = some o → H' a = some o) : BT H' a vs := by
  obtain ⟨o, q, r⟩ := h
  exact ⟨o, k _ q, r⟩
theorem Ext.tupAt (e : Ext d H d' H') (h : TupAt K d H a vs) : TupAt K d' H' a vs := by
  rcases h with ⟨r, n⟩ | h
  · exact .inl ⟨r.keep fun o q => e.keep _ _ q n, e.nmem n (Rd.ne r.rd)⟩
  · exact .inr h
theorem Ext.lstAt (e : Ext d H d' H') (h : LstAt d H a vs) : LstAt d' H' a vs := by
  obtain ⟨r, n, b⟩ := h
  exact ⟨e.keep _ _ r n, e.nmem n (by rw [r]; simp), by rw [e.ban]; exact b⟩
theorem Ext.klAt (e : Ext d H d' H') (h : KlAt K d H a vs) : KlAt K d' H' a vs := by
  rcases h with ⟨r, n, b⟩ | h
  · exact .inl ⟨e.rd r n, e.nmem n (Rd.ne r), by rw [e.ban]; exact b⟩
  · exact .inr h
mutual
theorem RV.mono (e : Ext d H d' H') : ∀ {x : PV} {v : V}, RV K d H x v → RV K d' H' x v
  | _, _, .non => .non
  | _, _, .bl b => .bl b
  | _, _, .int i => .int i
  | _, _, .str x => .str x
  | _, _, .ty n => .ty n
  | _, _, .tup h r => .tup (e.tupAt h) (RVs.mono e r)
  | _, _, .lst h r => .lst (e.lstAt h) (RVs.mono e r)
  | _, _, .kl h r => .kl (e.klAt h) (RVs.mono e r)
  | _, _, .mr h => .mr (e.at h)
theorem RVs.mono (e : Ext d H d' H') : ∀ {xs : List PV} {vs : List V}, RVs K d H xs vs → RVs K d' H' xs vs
  | _, _, .nil => .nil
  | _, _, .cons r t => .cons (RV.mono e r) (RVs.mono e t)
end
theorem SqT.of0 (h : SqT K hp0 a vs) : SqT K H a vs := by
  rcases h with (h | ⟨o, h⟩) | h
  · cases h
  · cases h
  · exact .inr h
theorem SqL.of0 (h : SqL K hp0 a vs) : SqL K H a vs := by
  rcases h with (h | ⟨o, h⟩) | h
  · cases h
  · cases h
  · exact .inr h
theorem TupAt.sq (h : TupAt K d H a vs) : SqT K H a vs := by
  rcases h with ⟨r, n⟩ | h
  · exact .inl r.rd
  · exact SqT.of0 h.1
theorem LstAt.sq (h : LstAt d H a vs) : SqL K H a vs := .of h.1
theorem KlAt.sq (h : KlAt K d H a vs) : SqL K H a vs := by
  rcases h with ⟨r, n⟩ | h
  · exact .inl r
  · exact SqL.of0 h
theorem RVs.length : ∀ {xs : List PV} {vs : List V}, RVs K d H xs vs → xs.length = vs.length
  | _, _, .nil => rfl
  | _, _, .cons _ t => by rw [List.length_cons, List.length_cons, RVs.length t]
theorem RVs.get : ∀ {xs : List PV} {vs : List V} {i : Nat} {x : PV}, RVs K d H xs vs → xs[i]? = some x → ∃ v, vs[i]? = some v ∧ RV K d H x v
  | _, _, _, _, .nil, h => by simp at h
  | _, _, 0, _, .cons r _, h => by
    simp at h; subst h; exact ⟨_, rfl, r⟩
  | _, _, i + 1, _, .cons _ t, h => by
    obtain ⟨v, e, r⟩ := RVs.get (i := i) t (by simpa using h)
    exact ⟨v, by simpa using e, r⟩
theorem RVs.append : ∀ {xs ys : List PV} {vs us : List V}, RVs K d H xs vs → RVs K d H ys us → RVs K d H (xs ++ ys) (vs ++ us)
  | _, _, _, _, .nil, h => h
  | _, _, _, _, .cons r t, h => .cons r (RVs.append t h)
theorem RVs.drop : ∀ {xs : List PV} {vs : List V} (n : Nat), RVs K d H xs vs → RVs K d H (xs.drop n) (vs.drop n)
  | _, _, 0, h => h
  | _, _, _ + 1, .nil => .nil
  | _, _, n + 1, .cons _ t => RVs.drop n t
theorem RVs.take : ∀ {xs : List PV} {vs : List V} (n : Nat), RVs K d H xs vs → RVs K d H (xs.take n) (vs.take n)
  | _, _, 0, h => .nil
  | _, _, _ + 1, .nil => .nil
  | _, _, n + 1, .cons r t => .cons r (RVs.take n t)
theorem RVs.rev : ∀ {xs : List PV} {vs : List V}, RVs K d H xs vs → RVs K d H xs.reverse vs.reverse
  | _, _, .nil => .nil
  | _, _, .cons r t => by
    rw [List.reverse_cons, List.reverse_cons]
    exact (RVs.rev t).append (.cons r .nil)
theorem RVs.set {x : PV} {v : V} (r : RV K d H x v) : ∀ {xs : List PV} {vs : List V} (i : Nat), RVs K d H xs vs → RVs K d H (xs.set i x) (vs.set i v)
  | _, _, _, .nil => .nil
  | _, _, 0, .cons _ t => .cons r t
  | _, _, i + 1, .cons q t => .cons q (RVs.set r i t)
theorem RVs.ints : ∀ {ns : List Int} {vs : List V}, RVs K d H (ns.map PV.int) vs → vs = ns.map V.int
  | [], _, .nil => rfl
  | n :: ns, _, .cons (.int _) t => by rw [RVs.ints t]; rfl
theorem RVs.bools : ∀ {bs : List Bool} {vs : List V}, RVs K d H (bs.map PV.bl) vs → vs = bs.map V.bl
  | [], _, .nil => rfl
  | n :: ns, _, .cons (.bl _) t => by rw [RVs.bools t]; rfl
theorem RVs.of_ints : ∀ (ns : List Int), RVs K d H (ns.map PV.int) (ns.map V.int)
  | [] => .nil
  | n :: ns => .cons (.int n) (RVs.of_ints ns)
theorem REnv.mono (e : Ext d H d' H') {ρ : PEnv} {σ : L2.St} (h : REnv K d H ρ σ) : REnv K d' H' ρ σ :=
  ⟨h.1, fun i x q => let ⟨v, a, b⟩ := h.2 i x q; ⟨v, a, b.mono e⟩⟩
theorem REnv.set {ρ : PEnv} {σ : L2.St} (h : REnv K d H ρ σ) {x : PV} {v : V} (r : RV K d H x v) (i : Nat) : REnv K d H (ρ.set i (some x)) (σ.set i (some v)) := by
  refine ⟨by rw [List.length_set, List.length_set]; exact h.1, fun j y q => ?_⟩
  rw [List.getElem?_set] at q ⊢
  by_cases hij : i = j
  · subst hij
    by_cases hl : i < ρ.length
    · rw [if_pos rfl, if_pos hl] at q
      simp at q; subst q
      exact ⟨v, by rw [if_pos rfl, if_pos (by rw [← h.1]; exact hl)], r⟩
    · rw [if_pos rfl, if_neg hl] at q; cases q
  · rw [if_neg hij] at q ⊢
    exact h.2 j y q
theorem REnv.unset {ρ : PEnv} {σ : L2.St} (h : REnv K d H ρ σ) (i : Nat) : REnv K d H (ρ.set i none) (σ.set i none) := by
  refine ⟨by rw [List.length_set, List.length_set]; exact h.1, fun j y q => ?_⟩
  rw [List.getElem?_set] at q ⊢
  by_cases hij : i = j
  · subst hij
    rw [if_pos rfl] at q
    split at q <;> cases q
  · rw [if_neg hij] at q ⊢
    exact h.2 j y q
theorem WOk.notin (w : WOk K d H μ) (h : H a = none) : a ∉ d.am := fun z => by
  obtain ⟨i, hi, e⟩ := List.getElem_of_mem z
  have e1 : d.am[i]? = some a := by rw [List.getElem?_eq_getElem hi, e]
  have hj : i < μ.length := by rw [← w.len]; exact hi
  have q := w.ob i a μ[i] e1 (List.getElem?_eq_getElem hj)
  cases m : μ[i] with
  | lst xs => rw [m] at q; obtain ⟨vs, q, _⟩ := q; rw [h] at q; cases q
  | dk kvs => rw [m] at q; obtain ⟨vs, q, _⟩ := q; rw [h] at q; cases q
  | fd o ws kvs => rw [m] at q; obtain ⟨q, _⟩ := q; rw [h] at q; cases q
  | tk kvs => rw [m] at q; obtain ⟨vs, q, _⟩ := q; rw [h] at q; cases q
  | nk kvs => rw [m] at q; obtain ⟨vs, q, _⟩ := q; rw [h] at q; cases q
  | ft o ws kvs => rw [m] at q; obtain ⟨q, _⟩ := q; rw [h] at q; cases q
  | fn o ws kvs => rw [m] at q; obtain ⟨q, _⟩ := q; rw [h] at q; cases q
theorem WOk.notban (w : WOk K d H μ) (h : H a = none) : a ∉ d.ban := fun z => (w.ban a z).1 h
theorem MOK.mono (e : Ext d H d' H') {m : MO} (hk : H' a = H a) (h : MOK K d H a m) : MOK K d' H' a m := by
  cases m with
  | lst xs => obtain ⟨vs, q, r⟩ := h; exact ⟨vs, by rw [hk]; exact q, r.mono e⟩
  | dk kvs => obtain ⟨vs, q, r1, r2⟩ := h; exact ⟨vs, by rw [hk]; exact q, r1, r2.mono e⟩
  | fd o ws kvs => obtain ⟨q, r1, r2⟩ := h; exact ⟨by rw [hk]; exact q, r1, r2.mono e⟩
  | tk kvs => obtain ⟨vs, q, r0, r1, r2⟩ := h; exact ⟨vs, by rw [hk]; exact q, r0, r1.mono e, r2.mono e⟩
  | nk kvs => obtain ⟨vs, q, r0, r1, r2⟩ := h; exact ⟨vs, by rw [hk]; exact q, r0, r1.mono e, r2.mono e⟩
  | ft o ws kvs => obtain ⟨q, r0, r1, r2⟩ := h; exact ⟨by rw [hk]; exact q, r0, r1.mono e, r2.mono e⟩
  | fn o ws kvs => obtain ⟨q, r0, r1, r2⟩ := h; exact ⟨by rw [hk]; exact q, r0, r1.mono e, r2.mono e⟩
theorem Ext.lay {o : HO} (w : WOk K d H μ) (h : H a = none) : Ext d H d (upd H a o) :=
  ⟨⟨[], by simp, fun p hp => by simp at hp⟩, rfl, fun b u e _ => by rw [upd_ne (ne_of_none e h)]; exact e⟩
theorem WOk.lay {o : HO} (w : WOk K d H μ) (h : H a = none) : WOk K d (upd H a o) μ := by
  have e : Ext d H d (upd H a o) := Ext.lay w h
  refine ⟨w.len, w.nd, fun i b m h1 h2 => ?_, fun b hb => ?_⟩
  · have hne : b ≠ a := by
      rintro rfl
      exact w.notin h (List.mem_of_getElem? h1)
    exact (w.ob i b m h1 h2).mono e (upd_ne hne)
  · obtain ⟨x, y⟩ := w.ban b hb
    refine ⟨?_, y⟩
    have hne : b ≠ a := by rintro rfl; exact x h
    rw [upd_ne hne]; exact x
def Wd.push (d : Wd) (a : Addr) : Wd := ⟨d.am ++ [a], d.ban⟩
theorem Ext.push {o : HO} (w : WOk K d H μ) (h : H a = none) : Ext d H (d.push a) (upd H a o) :=
  ⟨⟨[a], rfl, fun p hp => by
    have : p = a := by simpa using hp
    subst this; exact ⟨h, w.notin h⟩⟩, rfl, fun b u e _ => by rw [upd_ne (ne_of_none e h)]; exact e⟩
theorem WOk.push {o : HO} {m : MO} (w : WOk K d H μ) (h : H a = none) (hm : MOK K (d.push a) (upd H a o) a m) : WOk K (d.push a) (upd H a o) (μ ++ [m]) := by
  have e : Ext d H (d.push a) (upd H a o) := Ext.push w h
  have na := w.notin h
  refine ⟨by simp [Wd.push, w.len], ?_, fun i b m' h1 h2 => ?_, fun b hb => ?_⟩
  · show (d.am ++ [a]).Nodup
    rw [List.nodup_append]
    exact ⟨w.nd, by simp, fun x hx y hy => by
      have : y = a := by simpa using hy
      subst this; rintro rfl; exact na hx⟩
  · replace h1 : (d.am ++ [a])[i]? = some b := h1
    by_cases hi : i < d.am.length
    · rw [List.getElem?_append_left hi] at h1
      rw [List.getElem?_append_left (by rw [← w.len]; exact hi)] at h2
      have hne : b ≠ a := by rintro rfl; exact na (List.mem_of_getElem? h1)
      exact (w.ob i b m' h1 h2).mono e (upd_ne hne)
    · have hi2 : i = d.am.length := by
        have := (List.getElem?_eq_some_iff.mp h1).1
        simp at this; omega
      subst hi2
      rw [List.getElem?_append_right (Nat.le_refl _)] at h1
      rw [w.len, List.getElem?_append_right (Nat.le_refl _)] at h2
      simp at h1 h2
      subst h1; subst h2
      exact hm
  · obtain ⟨x, y⟩ := w.ban b hb
    have hne : b ≠ a := by rintro rfl; exact x h
    exact ⟨by rw [upd_ne hne]; exact x, fun z => (List.mem_append.mp z).elim y (by simpa using hne)⟩
theorem Ext.chg {o : HO} (h : a ∈ d.am) : Ext d H d (upd H a o) :=
  ⟨⟨[], by simp, fun p hp => by simp at hp⟩, rfl, fun b u e n => by
    have hne : b ≠ a := by rintro rfl; exact n h
    rw [upd_ne hne]; exact e⟩
theorem WOk.chg {o : HO} {m : MO} {n : Nat} (w : WOk K d H μ) (h : d.am[n]? = some a) (hm : MOK K d (upd H a o) a m) : WOk K d (upd H a o) (μ.set n m) := by
  have ha : a ∈ d.am := List.mem_of_getElem? h
  have e : Ext d H d (upd H a o) := Ext.chg ha
  refine ⟨by rw [List.length_set]; exact w.len, w.nd, fun i b m' h1 h2 => ?_, fun b hb => ?_⟩
  · rw [List.getElem?_set] at h2
    by_cases hin : n = i
    · subst hin
      rw [h] at h1; cases h1
      rw [if_pos rfl] at h2
      split at h2
      · cases h2; exact hm
      · cases h2
    · rw [if_neg hin] at h2
      have hne : b ≠ a := by
        rintro rfl
        have z1 := List.getElem?_eq_some_iff.mp h
        have z2 := List.getElem?_eq_some_iff.mp h1
        obtain ⟨l1, z1⟩ := z1
        obtain ⟨l2, z2⟩ := z2
        exact hin ((List.getElem_inj w.nd).mp (z1.trans z2.symm))
      exact (w.ob i b m' h1 h2).mono e (upd_ne hne)
  · obtain ⟨x, y⟩ := w.ban b hb
    have hne : b ≠ a := by rintro rfl; exact y ha
    exact ⟨by rw [upd_ne hne]; exact x, y⟩
end
end Fx
namespace Fx
open PySem PySem.Spec PyProof.Rows L2
abbrev ME := PEnv → Store → (PV → Store → Prop) → Prop
abbrev MT := PEnv → Store → (Bool → Store → Prop) → Prop
abbrev MA := PEnv → Store → (List PV → Store → Prop) → Prop
structure MEnds where
  nx : PEnv → Store → Prop
  rt : PV → Store → Prop
  bk : PEnv → Store → Prop := fun _ _ => False
  ct : PEnv → Store → Prop := fun _ _ => False
abbrev MS := MEnds → PEnv → Store → Prop
abbrev MG := PV → PEnv → Store → (PEnv → Store → Prop) → Prop
abbrev MGs := List PV → PEnv → Store → (PEnv → Store → Prop) → Prop
abbrev MI := PEnv → Store → (List PV → Store → Prop) → Prop
abbrev MO2 := PV → PV → Store → (PV → Store → Prop) → Prop
abbrev MB := List PV → Store → (PV → Store → Prop) → Prop
section
variable (K : PySem.W.Frag)
class FE (t : TE) (m : outParam ME) : Prop where
  run : ∀ (d : Wd) (σ : L2.St) (H : Hp) (ρ : PEnv) (μ : Store) (P : PV → Store → Prop) (Q : VK), WOk K d H μ → REnv K d H ρ σ → m ρ μ P →
    (∀ d' H' μ' x v, Ext d H d' H' → WOk K d' H' μ' → RV K d' H' x v → P x μ' → Q v H') → t σ H Q
class FT (t : TT) (m : outParam MT) : Prop where
  run : ∀ (d : Wd) (σ : L2.St) (H : Hp) (ρ : PEnv) (μ : Store) (P : Bool → Store → Prop) (Q : Bool → Hp → Prop), WOk K d H μ → REnv K d H ρ σ → m ρ μ P →
    (∀ d' H' μ' b, Ext d H d' H' → WOk K d' H' μ' → P b μ' → Q b H') → t σ H Q
class FA (t : TA) (m : outParam MA) : Prop where
  run : ∀ (d : Wd) (σ : L2.St) (H : Hp) (ρ : PEnv) (μ : Store) (P : List PV → Store → Prop) (Q : List V → Hp → Prop), WOk K d H μ → REnv K d H ρ σ → m ρ μ P →
    (∀ d' H' μ' xs vs, Ext d H d' H' → WOk K d' H' μ' → RVs K d' H' xs vs → P xs μ' → Q vs H') → t σ H Q
structure Lk (d : Wd) (H : Hp) (P : MEnds) (D : Ends) : Prop where
  nx : ∀ d' σ' H' ρ' μ', Ext d H d' H' → WOk K d' H' μ' → REnv K d' H' ρ' σ' → P.nx ρ' μ' → D.nx σ' H'
  rt : ∀ d' H' μ' x v, Ext d H d' H' → WOk K d' H' μ' → RV K d' H' x v → P.rt x μ' → D.rt v H'
  bk : ∀ d' σ' H' ρ' μ', Ext d H d' H' → WOk K d' H' μ' → REnv K d' H' ρ' σ' → P.bk ρ' μ' → D.bk σ' H'
  ct : ∀ d' σ' H' ρ' μ', Ext d H d' H' → WOk K d' H' μ' → REnv K d' H' ρ' σ' → P.ct ρ' μ' → D.ct σ' H'
class FS (t : TS) (m : outParam MS) : Prop where
  run : ∀ (d : Wd) (σ : L2.St) (H : Hp) (ρ : PEnv) (μ : Store) (P : MEnds) (D : Ends), WOk K d H μ → REnv K d H ρ σ → m P ρ μ → Lk K d H P D → t D σ H
class FG (t : TG) (m : outParam MG) (sl : outParam (List Nat)) : Prop where
  run : ∀ (d : Wd) (σ : L2.St) (H : Hp) (ρ : PEnv) (μ : Store) (x : PV) (v : V) (P : PEnv → Store → Prop) (Q : L2.St → Hp → Prop), WOk K d H μ → REnv K d H ρ σ → RV K d H x v → m x ρ μ P →
    (∀ d' σ' H' ρ' μ', Ext d H d' H' → WOk K d' H' μ' → REnv K d' H' ρ' σ' → σ'.length = σ.length → (∀ i, i ∉ sl → σ'[i]? = σ[i]?) → P ρ' μ' → Q σ' H') → t v σ H Q
class FGs (t : TGs) (m : outParam MGs) (sl : outParam (List Nat)) : Prop where
  run : ∀ (d : Wd) (σ : L2.St) (H : Hp) (ρ : PEnv) (μ : Store) (xs : List PV) (vs : List V) (P : PEnv → Store → Prop) (Q : L2.St → Hp → Prop), WOk K d H μ → REnv K d H ρ σ → RVs K d H xs vs → m xs ρ μ P →
    (∀ d' σ' H' ρ' μ', Ext d H d' H' → WOk K d' H' μ' → REnv K d' H' ρ' σ' → σ'.length = σ.length → (∀ i, i ∉ sl → σ'[i]? = σ[i]?) → P ρ' μ' → Q σ' H') → t vs σ H Q
def Bars (d d' : Wd) (H : Hp) : Prop := d'.am = d.am ∧ ∀ b ∈ d'.ban, b ∈ d.ban ∨ H b = none
def ItOk (d0 : Wd) (H0 : Hp) (J : It) (xs : List PV) : Prop :=
  ∀ d1 d H μ, Bars d0 d1 H0 → Ext d1 H0 d H → WOk K d H μ → (∀ (i : Nat) x, xs[i]? = some x → J.go i H ∧ ∀ v H', J.yld i H v H' → Ext d H d H' ∧ WOk K d H' μ ∧ RV K d H' x v) ∧ (∀ i, xs.length ≤ i → J.stop i H)
class FI (t : TI) (m : outParam MI) : Prop where
  run : ∀ (d : Wd) (σ : L2.St) (H : Hp) (ρ : PEnv) (μ : Store) (P : List PV → Store → Prop) (R : It → Hp → Prop), WOk K d H μ → REnv K d H ρ σ → m ρ μ P →
    (∀ d' H' μ' J xs, Ext d H d' H' → WOk K d' H' μ' → ItOk K d' H' J xs → P xs μ' → R J H') → t σ H R
class F2 (r : R2) (p : outParam MO2) : Prop where
  run : ∀ (d : Wd) (H : Hp) (μ : Store) (x y : PV) (v u : V) (P : PV → Store → Prop) (Q : VK), WOk K d H μ → RV K d H x v → RV K d H y u → p x y μ P →
    (∀ d' H' μ' z w, Ext d H d' H' → WOk K d' H' μ' → RV K d' H' z w → P z μ' → Q w H') → r v u H Q
class F1 (r : V → Hp → VK → Prop) (p : outParam (PV → Store → (PV → Store → Prop) → Prop)) : Prop where
  run : ∀ (d : Wd) (H : Hp) (μ : Store) (x : PV) (v : V) (P : PV → Store → Prop) (Q : VK), WOk K d H μ → RV K d H x v → p x μ P →
    (∀ d' H' μ' z w, Ext d H d' H' → WOk K d' H' μ' → RV K d' H' z w → P z μ' → Q w H') → r v H Q
class FB (r : List V → Hp → VK → Prop) (p : outParam MB) : Prop where
  run : ∀ (d : Wd) (H : Hp) (μ : Store) (xs : List PV) (vs : List V) (P : PV → Store → Prop) (Q : VK), WOk K d H μ → RVs K d H xs vs → p xs μ P →
    (∀ d' H' μ' z w, Ext d H d' H' → WOk K d' H' μ' → RV K d' H' z w → P z μ' → Q w H') → r vs H Q
class FM (r : V → List V → Hp → VK → Prop) (p : outParam (PV → List PV → Store → (PV → Store → Prop) → Prop)) : Prop where
  run : ∀ (d : Wd) (H : Hp) (μ : Store) (x : PV) (v : V) (xs : List PV) (vs : List V) (P : PV → Store → Prop) (Q : VK), WOk K d H μ → RV K d H x v → RVs K d H xs vs → p x xs μ P →
    (∀ d' H' μ' z w, Ext d H d' H' → WOk K d' H' μ' → RV K d' H' z w → P z μ' → Q w H') → r v vs H Q
end
section
variable {K : PySem.W.Frag}
theorem Lk.mono {d d1 : Wd} {H H1 : Hp} {P : MEnds} {D : Ends} (e : Ext d H d1 H1) (l : Lk K d H P D) : Lk K d1 H1 P D :=
  ⟨fun _ _ _ _ _ f => l.nx _ _ _ _ _ (e.trans f), fun _ _ _ _ _ f => l.rt _ _ _ _ _ (e.trans f), fun _ _ _ _ _ f => l.bk _ _ _ _ _ (e.trans f), fun _ _ _ _ _ f => l.ct _ _ _ _ _ (e.trans f)⟩
def mVar (i : Nat) : ME := fun ρ μ P => match ρ[i]? with | some (some x) => P x μ | _ => False
def mC (x : PV) : ME := fun _ μ P => P x μ
class CV (v : V) (x : outParam PV) : Prop where
  rv : ∀ K d H, RV K d H x v
instance : CV .non .non := ⟨fun _ _ _ => .non⟩
instance {b} : CV (.bl b) (.bl b) := ⟨fun _ _ _ => .bl b⟩
instance {b} : CV (.int b) (.int b) := ⟨fun _ _ _ => .int b⟩
instance {b} : CV (.str b) (.str b) := ⟨fun _ _ _ => .str b⟩
instance {b} : CV (.ty b) (.ty b) := ⟨fun _ _ _ => .ty b⟩
instance {i} : FE K (tVar i) (mVar i) := ⟨fun d σ H ρ μ P Q w e h k => by
  unfold mVar at h
  split at h
  · rename_i x hx
    obtain ⟨v, hv, r⟩ := e.2 i x hx
    exact ⟨v, hv, k d H μ x v .refl w r h⟩
  · exact h.elim⟩
instance {v x} [c : CV v x] : FE K (tC v) (mC x) := ⟨fun d σ H ρ μ P Q w e h k => k d H μ x v .refl w (c.rv _ _ _) h⟩
def mOp (p : MO2) (a b : ME) : ME := fun ρ μ P => a ρ μ fun x μ1 => b ρ μ1 fun y μ2 => p x y μ2 P
instance {r p ta tb ma mb} [h : F2 K r p] [ha : FE K ta ma] [hb : FE K tb mb] : FE K (tOp r ta tb) (mOp p ma mb) := ⟨fun d σ H ρ μ P Q w e q k => by
  refine ha.run d σ H ρ μ _ _ w e q fun d1 H1 μ1 x v e1 w1 r1 q1 => ?_
  refine hb.run d1 σ H1 ρ μ1 _ _ w1 (e.mono e1) q1 fun d2 H2 μ2 y u e2 w2 r2 q2 => ?_
  exact h.run d2 H2 μ2 x y v u P Q w2 (r1.mono e2) r2 q2 fun d3 H3 μ3 z w' e3 w3 r3 q3 => k d3 H3 μ3 z w' ((e1.trans e2).trans e3) w3 r3 q3⟩
def mUn (p : PV → Store → (PV → Store → Prop) → Prop) (a : ME) : ME := fun ρ μ P => a ρ μ fun x μ1 => p x μ1 P
instance {r p ta ma} [h : F1 K r p] [ha : FE K ta ma] : FE K (tUn r ta) (mUn p ma) := ⟨fun d σ H ρ μ P Q w e q k => by
  refine ha.run d σ H ρ μ _ _ w e q fun d1 H1 μ1 x v e1 w1 r1 q1 => ?_
  exact h.run d1 H1 μ1 x v P Q w1 r1 q1 fun d3 H3 μ3 z w' e3 w3 r3 q3 => k d3 H3 μ3 z w' (e1.trans e3) w3 r3 q3⟩
def pI (C : Int → Int → Prop) (g : Int → Int → PV) : MO2 := fun x y μ P => match x, y with | .int i, .int j => C i j ∧ P (g i j) μ | _, _ => False
def pI0 (g : Int → Int → PV) : MO2 := fun x y μ P => match x, y with | .int i, .int j => P (g i j) μ | _, _ => False
theorem pI_run {C : Int → Int → Prop} {g : Int → Int → PV} {x y : PV} {μ : Store} {P : PV → Store → Prop} (h : pI C g x y μ P) : ∃ i j, x = .int i ∧ y = .int j ∧ C i j ∧ P (g i j) μ := by
  cases x <;> cases y <;> first | exact h.elim | exact ⟨_, _, rfl, rfl, h.1, h.2⟩
theorem pI0_run {g : Int → Int → PV} {x y : PV} {μ : Store} {P : PV → Store → Prop} (h : pI0 g x y μ P) : ∃ i j, x = .int i ∧ y = .int j ∧ P (g i j) μ := by
  cases x <;> cases y <;> first | exact h.elim | exact ⟨_, _, rfl, rfl, h⟩
instance {C : Int → Int → Prop} {f : Int → Int → Int} : F2 K (rI C fun i j => .int (f i j)) (pI C fun i j => .int (f i j)) := ⟨fun d H μ x y v u P Q w r1 r2 q k => by
  obtain ⟨i, j, rfl, rfl, c, q⟩ := pI_run q
  cases r1; cases r2
  exact ⟨i, j, rfl, rfl, c, k d H μ _ _ .refl w (.int _) q⟩⟩
instance {f : Int → Int → Int} : F2 K (rI0 fun i j => .int (f i j)) (pI0 fun i j => .int (f i j)) := ⟨fun d H μ x y v u P Q w r1 r2 q k => by
  obtain ⟨i, j, rfl, rfl, q⟩ := pI0_run q
  cases r1; cases r2
  exact ⟨i, j, rfl, rfl, k d H μ _ _ .refl w (.int _) q⟩⟩
instance {C : Int → Int → Prop} {f : Int → Int → Bool} : F2 K (rI C fun i j => .bl (f i j)) (pI C fun i j => .bl (f i j)) := ⟨fun d H μ x y v u P Q w r1 r2 q k => by
  obtain ⟨i, j, rfl, rfl, c, q⟩ := pI_run q
  cases r1; cases r2
  exact ⟨i, j, rfl, rfl, c, k d H μ _ _ .refl w (.bl _) q⟩⟩
instance {f : Int → Int → Bool} : F2 K (rI0 fun i j => .bl (f i j)) (pI0 fun i j => .bl (f i j)) := ⟨fun d H μ x y v u P Q w r1 r2 q k => by
  obtain ⟨i, j, rfl, rfl, q⟩ := pI0_run q
  cases r1; cases r2
  exact ⟨i, j, rfl, rfl, k d H μ _ _ .refl w (.bl _) q⟩⟩
def pU (g : Int → PV) : PV → Store → (PV → Store → Prop) → Prop := fun x μ P => match x with | .int i => P (g i) μ | _ => False
instance {f : Int → Int} : F1 K (rU fun i => .int (f i)) (pU fun i => .int (f i)) := ⟨fun d H μ x v P Q w r1 q k => by
  cases x <;> try exact q.elim
  cases r1
  exact ⟨_, rfl, k d H μ _ _ .refl w (.int _) q⟩⟩
def mTest (m : ME) : MT := fun ρ μ P => m ρ μ fun x μ1 => match x with | .bl b => P b μ1 | _ => False
instance {t m} [h : FE K t m] : FT K (tTest t) (mTest m) := ⟨fun d σ H ρ μ P Q w e q k => by
  refine h.run d σ H ρ μ _ _ w e q fun d1 H1 μ1 x v e1 w1 r1 q1 => ?_
  cases x <;> try exact q1.elim
  cases r1
  exact ⟨_, rfl, k d1 H1 μ1 _ e1 w1 q1⟩⟩
instance {t m} [h : FE K t m] : FT K (tB t) (mTest m) := ⟨fun d σ H ρ μ P Q w e q k => by
  refine h.run d σ H ρ μ _ _ w e q fun d1 H1 μ1 x v e1 w1 r1 q1 => ?_
  cases x <;> try exact q1.elim
  cases r1
  exact ⟨_, rfl, k d1 H1 μ1 _ e1 w1 q1⟩⟩
def mAnd (a b : MT) : MT := fun ρ μ P => a ρ μ fun c μ1 => if c = true then b ρ μ1 P else P false μ1
def mOr (a b : MT) : MT := fun ρ μ P => a ρ μ fun c μ1 => if c = true then P true μ1 else b ρ μ1 P
def mNot (a : MT) : MT := fun ρ μ P => a ρ μ fun c μ1 => P (!c) μ1
def mYes : MT := fun _ μ P => P true μ
instance {a b ma mb} [ha : FT K a ma] [hb : FT K b mb] : FT K (tAnd a b) (mAnd ma mb) := ⟨fun d σ H ρ μ P Q w e q k => by
  refine ha.run d σ H ρ μ _ _ w e q fun d1 H1 μ1 c e1 w1 q1 => ?_
  cases c
  · rw [if_neg (by simp)] at q1 ⊢
    exact k d1 H1 μ1 _ e1 w1 q1
  · rw [if_pos rfl] at q1 ⊢
    exact hb.run d1 σ H1 ρ μ1 _ _ w1 (e.mono e1) q1 fun d2 H2 μ2 b e2 w2 q2 => k d2 H2 μ2 b (e1.trans e2) w2 q2⟩
instance {a b ma mb} [ha : FT K a ma] [hb : FT K b mb] : FT K (tOr a b) (mOr ma mb) := ⟨fun d σ H ρ μ P Q w e q k => by
  refine ha.run d σ H ρ μ _ _ w e q fun d1 H1 μ1 c e1 w1 q1 => ?_
  cases c
  · rw [if_neg (by simp)] at q1 ⊢
    exact hb.run d1 σ H1 ρ μ1 _ _ w1 (e.mono e1) q1 fun d2 H2 μ2 b e2 w2 q2 => k d2 H2 μ2 b (e1.trans e2) w2 q2
  · rw [if_pos rfl] at q1 ⊢
    exact k d1 H1 μ1 _ e1 w1 q1⟩
instance {a ma} [ha : FT K a ma] : FT K (tNot a) (mNot ma) := ⟨fun d σ H ρ μ P Q w e q k =>
  ha.run d σ H ρ μ _ _ w e q fun d1 H1 μ1 c e1 w1 q1 => k d1 H1 μ1 _ e1 w1 q1⟩
instance : FT K tYes mYes := ⟨fun d σ H ρ μ P Q w e q k => k d H μ _ .refl w q⟩
def mAndV (a b : ME) : ME := fun ρ μ P => a ρ μ fun x μ1 => match x with | .bl c => if c = true then b ρ μ1 P else P (.bl false) μ1 | _ => False
def mOrV (a b : ME) : ME := fun ρ μ P => a ρ μ fun x μ1 => match x with | .bl c => if c = true then P (.bl true) μ1 else b ρ μ1 P | _ => False
def mNotV (a : ME) : ME := fun ρ μ P => a ρ μ fun x μ1 => match x with | .bl c => P (.bl (!c)) μ1 | _ => False
instance {a b ma mb} [ha : FE K a ma] [hb : FE K b mb] : FE K (tAndV a b) (mAndV ma mb) := ⟨fun d σ H ρ μ P Q w e q k => by
  refine ha.run d σ H ρ μ _ _ w e q fun d1 H1 μ1 x v e1 w1 r1 q1 => ?_
  cases x <;> try exact q1.elim
  rename_i c
  cases r1
  refine ⟨c, rfl, ?_⟩
  cases c
  · exact k d1 H1 μ1 _ _ e1 w1 (.bl _) q1
  · exact hb.run d1 σ H1 ρ μ1 _ _ w1 (e.mono e1) q1 fun d2 H2 μ2 y u e2 w2 r2 q2 => k d2 H2 μ2 y u (e1.trans e2) w2 r2 q2⟩
instance {a b ma mb} [ha : FE K a ma] [hb : FE K b mb] : FE K (tOrV a b) (mOrV ma mb) := ⟨fun d σ H ρ μ P Q w e q k => by
  refine ha.run d σ H ρ μ _ _ w e q fun d1 H1 μ1 x v e1 w1 r1 q1 => ?_
  cases x <;> try exact q1.elim
  rename_i c
  cases r1
  refine ⟨c, rfl, ?_⟩
  cases c
  · exact hb.run d1 σ H1 ρ μ1 _ _ w1 (e.mono e1) q1 fun d2 H2 μ2 y u e2 w2 r2 q2 => k d2 H2 μ2 y u (e1.trans e2) w2 r2 q2
  · exact k d1 H1 μ1 _ _ e1 w1 (.bl _) q1⟩
instance {a ma} [ha : FE K a ma] : FE K (tNotV a) (mNotV ma) := ⟨fun d σ H ρ μ P Q w e q k => by
  refine ha.run d σ H ρ μ _ _ w e q fun d1 H1 μ1 x v e1 w1 r1 q1 => ?_
  cases x <;> try exact q1.elim
  cases r1
  exact ⟨_, rfl, k d1 H1 μ1 _ _ e1 w1 (.bl _) q1⟩⟩
def mIf (c : MT) (a b : ME) : ME := fun ρ μ P => c ρ μ fun x μ1 => if x = true then a ρ μ1 P else b ρ μ1 P
instance {t a b mt ma mb} [ht : FT K t mt] [ha : FE K a ma] [hb : FE K b mb] : FE K (tIf t a b) (mIf mt ma mb) := ⟨fun d σ H ρ μ P Q w e q k => by
  refine ht.run d σ H ρ μ _ _ w e q fun d1 H1 μ1 c e1 w1 q1 => ?_
  cases c
  · exact hb.run d1 σ H1 ρ μ1 _ _ w1 (e.mono e1) q1 fun d2 H2 μ2 y u e2 w2 r2 q2 => k d2 H2 μ2 y u (e1.trans e2) w2 r2 q2
  · exact ha.run d1 σ H1 ρ μ1 _ _ w1 (e.mono e1) q1 fun d2 H2 μ2 y u e2 w2 r2 q2 => k d2 H2 μ2 y u (e1.trans e2) w2 r2 q2⟩
def mChain (p q : MO2) (a b c : ME) : ME := fun ρ μ P => a ρ μ fun x μ1 => b ρ μ1 fun y μ2 => p x y μ2 fun z μ3 => match z with | .bl k => if k = true then c ρ μ3 fun w μ4 => q y w μ4 P else P (.bl false) μ3 | _ => False
instance {r r' p q ta tb tc ma mb mc} [h : F2 K r p] [h' : F2 K r' q] [ha : FE K ta ma] [hb : FE K tb mb] [hc : FE K tc mc] : FE K (tChain r r' ta tb tc) (mChain p q ma mb mc) := ⟨fun d σ H ρ μ P Q w e q k => by
  refine ha.run d σ H ρ μ _ _ w e q fun d1 H1 μ1 x v e1 w1 r1 q1 => ?_
  refine hb.run d1 σ H1 ρ μ1 _ _ w1 (e.mono e1) q1 fun d2 H2 μ2 y u e2 w2 r2 q2 => ?_
  refine h.run d2 H2 μ2 x y v u _ _ w2 (r1.mono e2) r2 q2 fun d3 H3 μ3 z w' e3 w3 r3 q3 => ?_
  cases z <;> try exact q3.elim
  rename_i c
  cases r3
  refine ⟨c, rfl, ?_⟩
  cases c
  · exact k d3 H3 μ3 _ _ ((e1.trans e2).trans e3) w3 (.bl _) q3
  · refine hc.run d3 σ H3 ρ μ3 _ _ w3 (e.mono ((e1.trans e2).trans e3)) q3 fun d4 H4 μ4 y' u' e4 w4 r4 q4 => ?_
    exact h'.run d4 H4 μ4 y y' u u' P Q w4 (r2.mono (e3.trans e4)) r4 q4 fun d5 H5 μ5 z w' e5 w5 r5 q5 => k d5 H5 μ5 z w' ((((e1.trans e2).trans e3).trans e4).trans e5) w5 r5 q5⟩
def mNil : MA := fun _ μ P => P [] μ
def mCons (a : ME) (r : MA) : MA := fun ρ μ P => a ρ μ fun x μ1 => r ρ μ1 fun xs μ2 => P (x :: xs) μ2
instance : FA K tNil mNil := ⟨fun d σ H ρ μ P Q w e q k => k d H μ [] [] .refl w .nil q⟩
instance {a ma t m} [ha : FE K a ma] [ht : FA K t m] : FA K (tCons a t) (mCons ma m) := ⟨fun d σ H ρ μ P Q w e q k => by
  refine ha.run d σ H ρ μ _ _ w e q fun d1 H1 μ1 x v e1 w1 r1 q1 => ?_
  exact ht.run d1 σ H1 ρ μ1 _ _ w1 (e.mono e1) q1 fun d2 H2 μ2 xs vs e2 w2 r2 q2 => k d2 H2 μ2 _ _ (e1.trans e2) w2 (.cons (r1.mono e2) r2) q2⟩
def lim : Nat := 1000000
theorem lim_le : lim ≤ sizeLine := by rw [sizeLine_eq]; decide
theorem lim_lt {n : Nat} (h : n ≤ lim) : n ≤ sizeLine := Nat.le_trans h lim_le
theorem lim_lt' {n : Nat} (h : n ≤ lim) : n < sizeLine := Nat.lt_of_le_of_lt h (by rw [sizeLine_eq]; decide)
def mTup (t : MA) : ME := fun ρ μ P => t ρ μ fun xs μ1 => xs.length ≤ lim ∧ P (.tup xs) μ1
def mLst (t : MA) : ME := fun ρ μ P => t ρ μ fun xs μ1 => xs.length ≤ lim ∧ P (.lst xs) μ1
def mLstM (t : MA) : ME := fun ρ μ P => t ρ μ fun xs μ1 => xs.length ≤ lim ∧ P (.mr μ1.length) (μ1 ++ [.lst xs])
theorem lay_tup {d : Wd} {H : Hp} {μ : Store} {xs : List PV} {vs : List V} {p : Addr} (w : WOk K d H μ) (r : RVs K d H xs vs) (h : H p = none) {o : Obj} (hc : o.cls = .type "tuple") (hd : o.dict = none) : RV K d (upd H p (.frz o (.tup vs))) (.tup xs) (.ref p) :=
  .tup (.inl ⟨⟨o, upd_same, hc, hd⟩, w.notin h⟩) (r.mono (Ext.lay w h))
theorem lay_lst {d : Wd} {H : Hp} {μ : Store} {xs : List PV} {vs : List V} {p : Addr} (w : WOk K d H μ) (r : RVs K d H xs vs) (h : H p = none) : RV K d (upd H p (.lst vs)) (.lst xs) (.ref p) :=
  .lst ⟨upd_same, w.notin h, w.notban h⟩ (r.mono (Ext.lay w h))
theorem lay_mr {d : Wd} {H : Hp} {μ : Store} {p : Addr} {o : HO} (w : WOk K d H μ) : RV K (d.push p) (upd H p o) (.mr μ.length) (.ref p) := by
  refine .mr ?_
  show (d.am ++ [p])[μ.length]? = some p
  rw [← w.len, List.getElem?_append_right (Nat.le_refl _)]
  simp
def tLstM (t : TA) : TE := tLst t
instance {t m} [h : FA K t m] : FE K (tTupF t) (mTup m) := ⟨fun d σ H ρ μ P Q w e q k => by
  refine h.run d σ H ρ μ _ _ w e q fun d1 H1 μ1 xs vs e1 w1 r1 ⟨z, q1⟩ => ⟨by rw [← r1.length]; exact lim_lt z, fun p o hp hc hd => ?_⟩
  exact k d1 _ μ1 _ _ (e1.trans (Ext.lay w1 hp)) (w1.lay hp) (lay_tup w1 r1 hp hc hd) q1⟩
instance {t m} [h : FA K t m] : FE K (tLst t) (mLst m) := ⟨fun d σ H ρ μ P Q w e q k => by
  refine h.run d σ H ρ μ _ _ w e q fun d1 H1 μ1 xs vs e1 w1 r1 ⟨z, q1⟩ => ⟨by rw [← r1.length]; exact lim_lt z, fun p hp => ?_⟩
  exact k d1 _ μ1 _ _ (e1.trans (Ext.lay w1 hp)) (w1.lay hp) (lay_lst w1 r1 hp) q1⟩
instance {t m} [h : FA K t m] : FE K (tLstM t) (mLstM m) := ⟨fun d σ H ρ μ P Q w e q k => by
  refine h.run d σ H ρ μ _ _ w e q fun d1 H1 μ1 xs vs e1 w1 r1 ⟨z, q1⟩ => ⟨by rw [← r1.length]; exact lim_lt z, fun p hp => ?_⟩
  have ee := Ext.push (o := .lst vs) w1 hp
  exact k (d1.push p) _ _ _ _ (e1.trans ee) (w1.push (m := .lst xs) hp ⟨vs, upd_same, r1.mono ee⟩) (lay_mr w1) q1⟩
def mNext : MS := fun P ρ μ => P.nx ρ μ
def mSeq (a b : MS) : MS := fun P ρ μ => a { P with nx := b P } ρ μ
instance : FS K tNext mNext := ⟨fun d σ H ρ μ P D w e q l => l.nx d σ H ρ μ .refl w e q⟩
instance {a b ma mb} [ha : FS K a ma] [hb : FS K b mb] : FS K (tSeq a b) (mSeq ma mb) := ⟨fun d σ H ρ μ P D w e q l =>
  ha.run d σ H ρ μ _ _ w e q ⟨fun d1 σ1 H1 ρ1 μ1 e1 w1 r1 q1 => hb.run d1 σ1 H1 ρ1 μ1 P D w1 r1 q1 (l.mono e1), l.rt, l.bk, l.ct⟩⟩
def mBreak : MS := fun P ρ μ => P.bk ρ μ
def mCont : MS := fun P ρ μ => P.ct ρ μ
instance : FS K tBreak mBreak := ⟨fun d σ H ρ μ P D w e q l => l.bk d σ H ρ μ .refl w e q⟩
instance : FS K tCont mCont := ⟨fun d σ H ρ μ P D w e q l => l.ct d σ H ρ μ .refl w e q⟩
def mDrop (m : ME) : MS := fun P ρ μ => m ρ μ fun _ μ1 => P.nx ρ μ1
instance {t m} [h : FE K t m] : FS K (tDrop t) (mDrop m) := ⟨fun d σ H ρ μ P D w e q l =>
  h.run d σ H ρ μ _ _ w e q fun d1 H1 μ1 x v e1 w1 r1 q1 => l.nx d1 σ H1 ρ μ1 e1 w1 (e.mono e1) q1⟩
def mRet (m : ME) : MS := fun P ρ μ => m ρ μ P.rt
instance {t m} [h : FE K t m] : FS K (tRet t) (mRet m) := ⟨fun d σ H ρ μ P D w e q l =>
  h.run d σ H ρ μ _ _ w e q fun d1 H1 μ1 x v e1 w1 r1 q1 => l.rt d1 H1 μ1 x v e1 w1 r1 q1⟩
def mRetN : MS := fun P ρ μ => P.rt .non μ
instance : FS K tRetN mRetN := ⟨fun d σ H ρ μ P D w e q l => l.rt d H μ .non .non .refl w .non q⟩
def mIfS (c : MT) (a b : MS) : MS := fun P ρ μ => c ρ μ fun x μ1 => if x = true then a P ρ μ1 else b P ρ μ1
instance {c a b mc ma mb} [hc : FT K c mc] [ha : FS K a ma] [hb : FS K b mb] : FS K (tIfS c a b) (mIfS mc ma mb) := ⟨fun d σ H ρ μ P D w e q l => by
  refine hc.run d σ H ρ μ _ _ w e q fun d1 H1 μ1 x e1 w1 q1 => ?_
  cases x
  · exact hb.run d1 σ H1 ρ μ1 P D w1 (e.mono e1) q1 (l.mono e1)
  · exact ha.run d1 σ H1 ρ μ1 P D w1 (e.mono e1) q1 (l.mono e1)⟩
def mNever : MS := fun _ _ _ => False
instance : FS K tNever mNever := ⟨fun d σ H ρ μ P D w e q l => q⟩
def mName (i : Nat) : MG := fun x ρ μ P => P (ρ.set i (some x)) μ
instance {i} : FG K (gName i) (mName i) [i] := ⟨fun d σ H ρ μ x v P Q w e r q k =>
  k d _ H _ μ .refl w (e.set r i) (by rw [List.length_set]) (fun j hj => by rw [List.getElem?_set_ne (by intro z; subst z; simp at hj)]) q⟩
def mGNil : MGs := fun xs ρ μ P => match xs with | [] => P ρ μ | _ => False
def mGCons (a : MG) (b : MGs) : MGs := fun xs ρ μ P => match xs with | x :: r => a x ρ μ fun ρ1 μ1 => b r ρ1 μ1 P | _ => False
instance : FGs K gNil mGNil [] := ⟨fun d σ H ρ μ xs vs P Q w e r q k => by
  cases xs
  · cases r; exact ⟨rfl, k d σ H ρ μ .refl w e rfl (fun _ _ => rfl) q⟩
  · exact q.elim⟩
instance {t m s u n s'} [h : FG K t m s] [h' : FGs K u n s'] : FGs K (gCons t u) (mGCons m n) (s ++ s') := ⟨fun d σ H ρ μ xs vs P Q w e r q k => by
  cases xs
  · exact q.elim
  · cases r with
    | cons r1 r2 =>
      refine ⟨_, _, rfl, h.run d σ H ρ μ _ _ _ _ w e r1 q fun d1 σ1 H1 ρ1 μ1 e1 w1 ee1 l1 u1 q1 => ?_⟩
      refine h'.run d1 σ1 H1 ρ1 μ1 _ _ _ _ w1 ee1 (r2.mono e1) q1 fun d2 σ2 H2 ρ2 μ2 e2 w2 ee2 l2 u2 q2 => ?_
      exact k d2 σ2 H2 ρ2 μ2 (e1.trans e2) w2 ee2 (l2.trans l1) (fun i hi => (u2 i fun z => hi (List.mem_append_right _ z)).trans (u1 i fun z => hi (List.mem_append_left _ z))) q2⟩
def mGTup (n : Nat) (t : MGs) : MG := fun x ρ μ P => match x with | .tup xs => xs.length = n ∧ t xs ρ μ P | _ => False
instance {n t m s} [h : FGs K t m s] : FG K (gTup K n t) (mGTup n m) s := ⟨fun d σ H ρ μ x v P Q w e r q k => by
  cases x <;> try exact q.elim
  cases r with
  | tup ha hr => exact ⟨_, _, rfl, ha.sq, by rw [← hr.length]; exact q.1, h.run d σ H ρ μ _ _ _ _ w e hr q.2 k⟩⟩
def mAsg (m : ME) (g : MG) : MS := fun P ρ μ => m ρ μ fun x μ1 => g x ρ μ1 P.nx
instance {t m g n s} [h : FE K t m] [h' : FG K g n s] : FS K (tAsg t g) (mAsg m n) := ⟨fun d σ H ρ μ P D w e q l => by
  refine h.run d σ H ρ μ _ _ w e q fun d1 H1 μ1 x v e1 w1 r1 q1 => ?_
  exact h'.run d1 σ H1 ρ μ1 x v _ _ w1 (e.mono e1) r1 q1 fun d2 σ2 H2 ρ2 μ2 e2 w2 ee2 _ _ q2 => l.nx d2 σ2 H2 ρ2 μ2 (e1.trans e2) w2 ee2 q2⟩
def mPar (i j : Nat) (t : MA) : MS := fun P ρ μ => t ρ μ fun xs μ1 => match xs with | [x, y] => P.nx ((ρ.set i (some x)).set j (some y)) μ1 | _ => False
instance {i j t m} [h : FA K t m] : FS K (tPar i j t) (mPar i j m) := ⟨fun d σ H ρ μ P D w e q l => by
  refine h.run d σ H ρ μ _ _ w e q fun d1 H1 μ1 xs vs e1 w1 r1 q1 => ?_
  match xs, r1, q1 with
  | [x, y], .cons (v := v) a (.cons (v := u) b .nil), q1 => exact ⟨v, u, rfl, l.nx d1 _ H1 _ μ1 e1 w1 (((e.mono e1).set a i).set b j) q1⟩⟩
def mPar3 (i j k : Nat) (t : MA) : MS := fun P ρ μ => t ρ μ fun xs μ1 => match xs with | [x, y, z] => P.nx (((ρ.set i (some x)).set j (some y)).set k (some z)) μ1 | _ => False
instance {i j k t m} [h : FA K t m] : FS K (tPar3 i j k t) (mPar3 i j k m) := ⟨fun d σ H ρ μ P D w e q l => by
  refine h.run d σ H ρ μ _ _ w e q fun d1 H1 μ1 xs vs e1 w1 r1 q1 => ?_
  match xs, r1, q1 with
  | [x, y, z], .cons (v := v) a (.cons (v := u) b (.cons (v := t) c .nil)), q1 => exact ⟨v, u, t, rfl, l.nx d1 _ H1 _ μ1 e1 w1 ((((e.mono e1).set a i).set b j).set c k) q1⟩⟩
def mAsg2 (m : ME) (g h : MG) : MS := fun P ρ μ => m ρ μ fun x μ1 => g x ρ μ1 fun ρ1 μ2 => h x ρ1 μ2 P.nx
instance {t m g n s g' n' s'} [h : FE K t m] [h1 : FG K g n s] [h2 : FG K g' n' s'] : FS K (tAsg2 t g g') (mAsg2 m n n') := ⟨fun d σ H ρ μ P D w e q l => by
  refine h.run d σ H ρ μ _ _ w e q fun d1 H1 μ1 x v e1 w1 r1 q1 => ?_
  refine h1.run d1 σ H1 ρ μ1 x v _ _ w1 (e.mono e1) r1 q1 fun d2 σ2 H2 ρ2 μ2 e2 w2 ee2 _ _ q2 => ?_
  exact h2.run d2 σ2 H2 ρ2 μ2 x v _ _ w2 ee2 (r1.mono e2) q2 fun d3 σ3 H3 ρ3 μ3 e3 w3 ee3 _ _ q3 => l.nx d3 σ3 H3 ρ3 μ3 ((e1.trans e2).trans e3) w3 ee3 q3⟩
end
end Fx
namespace Fx
open PySem PySem.Spec PyProof.Rows L2
section
variable {K : PySem.W.Frag} {d d' : Wd} {H H' : Hp} {a : Addr} {vs : List V} {μ : Store}
theorem Bars.refl : Bars d d H := ⟨rfl, fun _ h => .inl h⟩
mutual
theorem RV.bars (b : Bars d d' H) : ∀ {x : PV} {v : V}, RV K d H x v → RV K d' H x v
  | _, _, .non => .non
  | _, _, .bl b => .bl b
  | _, _, .int i => .int i
  | _, _, .str x => .str x
  | _, _, .ty n => .ty n
  | _, _, .tup h r => .tup (h.imp (fun z => ⟨z.1, by rw [b.1]; exact z.2⟩) id) (RVs.bars b r)
  | _, _, .lst h r => .lst ⟨h.1, by rw [b.1]; exact h.2.1, fun q => (b.2 _ q).elim h.2.2 (by rw [h.1]; simp)⟩ (RVs.bars b r)
  | _, _, .kl h r => .kl (h.imp (fun z => ⟨z.1, by rw [b.1]; exact z.2.1, fun q => (b.2 _ q).elim z.2.2 (Rd.ne z.1)⟩) id) (RVs.bars b r)
  | _, _, .mr h => .mr (by rw [b.1]; exact h)
theorem RVs.bars (b : Bars d d' H) : ∀ {xs : List PV} {vs : List V}, RVs K d H xs vs → RVs K d' H xs vs
  | _, _, .nil => .nil
  | _, _, .cons r t => .cons (RV.bars b r) (RVs.bars b t)
end
theorem no_tup {D : Addr} {as : List V} (h : H D = some (.lst as)) : ∀ ts, ¬ Rd H D (.tup ts) := fun ts z => by
  rcases z with q | ⟨o, q⟩ <;> rw [h] at q <;> cases q
theorem no_tupK {D : Addr} {as : List (Key × V)} (h : H D = some (.dK as)) : ∀ ts, ¬ Rd H D (.tup ts) := fun ts z => by
  rcases z with q | ⟨o, q⟩ <;> rw [h] at q <;> cases q
theorem Rd_upd {u o : HO} {D : Addr} (r : Rd H a u) (h : a ≠ D) : Rd (upd H D o) a u := by
  rcases r with r | ⟨o', r⟩
  · exact .inl (by rw [upd_ne h]; exact r)
  · exact .inr ⟨o', by rw [upd_ne h]; exact r⟩
mutual
theorem RV.made {D : Addr} {o : HO} (hb : D ∈ d.ban) (hD : ∀ ts, ¬ Rd H D (.tup ts)) : ∀ {x : PV} {v : V}, RV K d H x v → RV K d (upd H D o) x v
  | _, _, .non => .non
  | _, _, .bl b => .bl b
  | _, _, .int i => .int i
  | _, _, .str x => .str x
  | _, _, .ty n => .ty n
  | _, _, .tup h r => .tup (h.imp (fun z => ⟨z.1.keep fun o q => by rw [upd_ne (by rintro rfl; exact hD _ z.1.rd)]; exact q, z.2⟩) id) (RVs.made hb hD r)
  | _, _, .lst h r => .lst ⟨by rw [upd_ne (by rintro rfl; exact h.2.2 hb)]; exact h.1, h.2⟩ (RVs.made hb hD r)
  | _, _, .kl h r => .kl (h.imp (fun z => ⟨Rd_upd z.1 (by rintro rfl; exact z.2.2 hb), z.2⟩) id) (RVs.made hb hD r)
  | _, _, .mr h => .mr h
theorem RVs.made {D : Addr} {o : HO} (hb : D ∈ d.ban) (hD : ∀ ts, ¬ Rd H D (.tup ts)) : ∀ {xs : List PV} {vs : List V}, RVs K d H xs vs → RVs K d (upd H D o) xs vs
  | _, _, .nil => .nil
  | _, _, .cons r t => .cons (RV.made hb hD r) (RVs.made hb hD t)
end
theorem MOK.made {D : Addr} {o : HO} (hb : D ∈ d.ban) (hD : ∀ ts, ¬ Rd H D (.tup ts)) (hne : a ≠ D) {m : MO} (h : MOK K d H a m) : MOK K d (upd H D o) a m := by
  cases m with
  | lst xs => obtain ⟨vs, q, r⟩ := h; exact ⟨vs, by rw [upd_ne hne]; exact q, r.made hb hD⟩
  | dk kvs => obtain ⟨vs, q, r1, r2⟩ := h; exact ⟨vs, by rw [upd_ne hne]; exact q, r1, r2.made hb hD⟩
  | fd o ws kvs => obtain ⟨q, r1, r2⟩ := h; exact ⟨by rw [upd_ne hne]; exact q, r1, r2.made hb hD⟩
  | tk kvs => obtain ⟨vs, q, r0, r1, r2⟩ := h; exact ⟨vs, by rw [upd_ne hne]; exact q, r0, r1.made hb hD, r2.made hb hD⟩
  | nk kvs => obtain ⟨vs, q, r0, r1, r2⟩ := h; exact ⟨vs, by rw [upd_ne hne]; exact q, r0, r1.made hb hD, r2.made hb hD⟩
  | ft o ws kvs => obtain ⟨q, r0, r1, r2⟩ := h; exact ⟨by rw [upd_ne hne]; exact q, r0, r1.made hb hD, r2.made hb hD⟩
  | fn o ws kvs => obtain ⟨q, r0, r1, r2⟩ := h; exact ⟨by rw [upd_ne hne]; exact q, r0, r1.made hb hD, r2.made hb hD⟩
theorem WOk.made {D : Addr} {o : HO} (w : WOk K d H μ) (hb : D ∈ d.ban) (hD : ∀ ts, ¬ Rd H D (.tup ts)) : WOk K d (upd H D o) μ := by
  refine ⟨w.len, w.nd, fun i b m h1 h2 => ?_, fun b hb' => ?_⟩
  · have hne : b ≠ D := by
      rintro rfl
      exact (w.ban _ hb).2 (List.mem_of_getElem? h1)
    exact (w.ob i b m h1 h2).made hb hD hne
  · obtain ⟨x, y⟩ := w.ban b hb'
    refine ⟨?_, y⟩
    by_cases hne : b = D
    · subst hne; rw [upd_same]; simp
    · rw [upd_ne hne]; exact x
mutual
theorem RV.pushed {D : Addr} (hb : D ∈ d.ban) (hD : ∀ ts, ¬ Rd H D (.tup ts)) {bn : List Addr} (hs : ∀ b ∈ bn, b ∈ d.ban) : ∀ {x : PV} {v : V}, RV K d H x v → RV K ⟨d.am ++ [D], bn⟩ H x v
  | _, _, .non => .non
  | _, _, .bl b => .bl b
  | _, _, .int i => .int i
  | _, _, .str x => .str x
  | _, _, .ty n => .ty n
  | _, _, .tup h r => .tup (h.imp (fun z => ⟨z.1, fun q => (List.mem_append.mp q).elim z.2 (fun q => by
      have e := List.mem_singleton.mp q
      subst e
      exact hD _ z.1.rd)⟩) id) (RVs.pushed hb hD hs r)
  | _, _, .lst h r => .lst ⟨h.1, fun q => (List.mem_append.mp q).elim h.2.1 (fun q => by
      have e := List.mem_singleton.mp q
      subst e
      exact h.2.2 hb), fun q => h.2.2 (hs _ q)⟩ (RVs.pushed hb hD hs r)
  | _, _, .kl h r => .kl (h.imp (fun z => ⟨z.1, fun q => (List.mem_append.mp q).elim z.2.1 (fun q => by
      have e := List.mem_singleton.mp q
      subst e
      exact z.2.2 hb), fun q => z.2.2 (hs _ q)⟩) id) (RVs.pushed hb hD hs r)
  | _, _, .mr h => .mr (by
      show (d.am ++ [D])[_]? = _
      rw [List.getElem?_append_left (List.getElem?_eq_some_iff.mp h).1]; exact h)
theorem RVs.pushed {D : Addr} (hb : D ∈ d.ban) (hD : ∀ ts, ¬ Rd H D (.tup ts)) {bn : List Addr} (hs : ∀ b ∈ bn, b ∈ d.ban) : ∀ {xs : List PV} {vs : List V}, RVs K d H xs vs → RVs K ⟨d.am ++ [D], bn⟩ H xs vs
  | _, _, .nil => .nil
  | _, _, .cons r t => .cons (RV.pushed hb hD hs r) (RVs.pushed hb hD hs t)
end
mutual
theorem RV.less {bn : List Addr} (hs : ∀ b ∈ bn, b ∈ d.ban) : ∀ {x : PV} {v : V}, RV K d H x v → RV K ⟨d.am, bn⟩ H x v
  | _, _, .non => .non
  | _, _, .bl b => .bl b
  | _, _, .int i => .int i
  | _, _, .str x => .str x
  | _, _, .ty n => .ty n
  | _, _, .tup h r => .tup h (RVs.less hs r)
  | _, _, .lst h r => .lst ⟨h.1, h.2.1, fun q => h.2.2 (hs _ q)⟩ (RVs.less hs r)
  | _, _, .kl h r => .kl (h.imp (fun z => ⟨z.1, z.2.1, fun q => z.2.2 (hs _ q)⟩) id) (RVs.less hs r)
  | _, _, .mr h => .mr h
theorem RVs.less {bn : List Addr} (hs : ∀ b ∈ bn, b ∈ d.ban) : ∀ {xs : List PV} {vs : List V}, RVs K d H xs vs → RVs K ⟨d.am, bn⟩ H xs vs
  | _, _, .nil => .nil
  | _, _, .cons r t => .cons (RV.less hs r) (RVs.less hs t)
end
theorem MOK.less {bn : List Addr} (hs : ∀ b ∈ bn, b ∈ d.ban) {m : MO} (h : MOK K d H a m) : MOK K ⟨d.am, bn⟩ H a m := by
  cases m with
  | lst xs => obtain ⟨vs, q, r⟩ := h; exact ⟨vs, q, r.less hs⟩
  | dk kvs => obtain ⟨vs, q, r1, r2⟩ := h; exact ⟨vs, q, r1, r2.less hs⟩
  | fd o ws kvs => obtain ⟨q, r1, r2⟩ := h; exact ⟨q, r1, r2.less hs⟩
  | tk kvs => obtain ⟨vs, q, r0, r1, r2⟩ := h; exact ⟨vs, q, r0, r1.less hs, r2.less hs⟩
  | nk kvs => obtain ⟨vs, q, r0, r1, r2⟩ := h; exact ⟨vs, q, r0, r1.less hs, r2.less hs⟩
  | ft o ws kvs => obtain ⟨q, r0, r1, r2⟩ := h; exact ⟨q, r0, r1.less hs, r2.less hs⟩
  | fn o ws kvs => obtain ⟨q, r0, r1, r2⟩ := h; exact ⟨q, r0, r1.less hs, r2.less hs⟩
theorem WOk.less {bn : List Addr} (w : WOk K d H μ) (hs : ∀ b ∈ bn, b ∈ d.ban) : WOk K ⟨d.am, bn⟩ H μ :=
  ⟨w.len, w.nd, fun i b m h1 h2 => (w.ob i b m h1 h2).less hs, fun b hb => w.ban b (hs b hb)⟩
theorem MOK.pushed {D : Addr} (hb : D ∈ d.ban) (hD : ∀ ts, ¬ Rd H D (.tup ts)) {bn : List Addr} (hs : ∀ b ∈ bn, b ∈ d.ban) {m : MO} (h : MOK K d H a m) : MOK K ⟨d.am ++ [D], bn⟩ H a m := by
  cases m with
  | lst xs => obtain ⟨vs, q, r⟩ := h; exact ⟨vs, q, r.pushed hb hD hs⟩
  | dk kvs => obtain ⟨vs, q, r1, r2⟩ := h; exact ⟨vs, q, r1, r2.pushed hb hD hs⟩
  | fd o ws kvs => obtain ⟨q, r1, r2⟩ := h; exact ⟨q, r1, r2.pushed hb hD hs⟩
  | tk kvs => obtain ⟨vs, q, r0, r1, r2⟩ := h; exact ⟨vs, q, r0, r1.pushed hb hD hs, r2.pushed hb hD hs⟩
  | nk kvs => obtain ⟨vs, q, r0, r1, r2⟩ := h; exact ⟨vs, q, r0, r1.pushed hb hD hs, r2.pushed hb hD hs⟩
  | ft o ws kvs => obtain ⟨q, r0, r1, r2⟩ := h; exact ⟨q, r0, r1.pushed hb hD hs, r2.pushed hb hD hs⟩
  | fn o ws kvs => obtain ⟨q, r0, r1, r2⟩ := h; exact ⟨q, r0, r1.pushed hb hD hs, r2.pushed hb hD hs⟩
theorem WOk.pushed {D : Addr} (w : WOk K d H μ) (hb : D ∈ d.ban) (hD : ∀ ts, ¬ Rd H D (.tup ts)) {bn : List Addr} (hs : ∀ b ∈ bn, b ∈ d.ban) (hn : D ∉ bn) {m : MO} (hm : MOK K ⟨d.am ++ [D], bn⟩ H D m) : WOk K ⟨d.am ++ [D], bn⟩ H (μ ++ [m]) := by
  have na := (w.ban D hb).2
  refine ⟨by simp [w.len], ?_, fun i b m' h1 h2 => ?_, fun b hb' => ?_⟩
  · show (d.am ++ [D]).Nodup
    rw [List.nodup_append]
    exact ⟨w.nd, by simp, fun x hx y hy => by
      have : y = D := by simpa using hy
      subst this; rintro rfl; exact na hx⟩
  · replace h1 : (d.am ++ [D])[i]? = some b := h1
    by_cases hi : i < d.am.length
    · rw [List.getElem?_append_left hi] at h1
      rw [List.getElem?_append_left (by rw [← w.len]; exact hi)] at h2
      exact (w.ob i b m' h1 h2).pushed hb hD hs
    · have hi2 : i = d.am.length := by
        have := (List.getElem?_eq_some_iff.mp h1).1
        simp at this; omega
      subst hi2
      rw [List.getElem?_append_right (Nat.le_refl _)] at h1
      rw [w.len, List.getElem?_append_right (Nat.le_refl _)] at h2
      simp at h1 h2
      subst h1; subst h2
      exact hm
  · obtain ⟨x, y⟩ := w.ban b (hs b hb')
    exact ⟨x, fun z => (List.mem_append.mp z).elim y (fun z => by
      have e : b = D := by simpa using z
      subst e; exact hn hb')⟩
def mForL (g : MG) (b : MS) (P : MEnds) : List PV → PEnv → Store → Prop
  | [], ρ, μ => P.nx ρ μ
  | x :: xs, ρ, μ => g x ρ μ fun ρ1 μ1 => b { P with nx := mForL g b P xs, ct := mForL g b P xs, bk := P.nx } ρ1 μ1
def mFor (mi : MI) (g : MG) (b : MS) : MS := fun P ρ μ => mi ρ μ fun xs μ1 => mForL g b P xs ρ μ1
theorem drop_cons {α : Type} {xs : List α} {i : Nat} {x : α} (h : xs[i]? = some x) : xs.drop i = x :: xs.drop (i + 1) := by
  obtain ⟨hl, e⟩ := List.getElem?_eq_some_iff.mp h
  rw [List.drop_eq_getElem_cons hl, e]
instance {wi mi g mg s tb mb} [hi : FI K wi mi] [hg : FG K g mg s] [hb : FS K tb mb] : FS K (tFor wi g tb) (mFor mi mg mb) := ⟨fun d σ H ρ μ P D w e q l => by
  refine hi.run d σ H ρ μ _ _ w e q fun d1 H1 μ1 J xs e1 w1 it q1 => ?_
  refine ⟨fun i m σ' H' => ∃ d' ρ' μ', Ext d1 H1 d' H' ∧ WOk K d' H' μ' ∧ REnv K d' H' ρ' σ' ∧ i + m = xs.length ∧ mForL mg mb P (xs.drop i) ρ' μ', ⟨xs.length, d1, ρ, μ1, .refl, w1, e.mono e1, by omega, by simpa using q1⟩, fun i m σ' H' hW => ?_⟩
  obtain ⟨d2, ρ2, μ2, e2, w2, ee2, em, q2⟩ := hW
  obtain ⟨itg, its⟩ := it d1 d2 H' μ2 .refl e2 w2
  cases hx : xs[i]? with
  | none =>
    have hle : xs.length ≤ i := List.getElem?_eq_none_iff.mp hx
    rw [List.drop_of_length_le hle] at q2
    exact .inl ⟨its i hle, l.nx d2 σ' H' ρ2 μ2 (e1.trans e2) w2 ee2 q2⟩
  | some x =>
    have hlt : i < xs.length := (List.getElem?_eq_some_iff.mp hx).1
    rw [drop_cons hx] at q2
    obtain ⟨go, yl⟩ := itg i x hx
    refine .inr ⟨go, fun σ3 H3 => ∃ d' ρ' μ', Ext d1 H1 d' H3 ∧ WOk K d' H3 μ' ∧ REnv K d' H3 ρ' σ3 ∧ mForL mg mb P (xs.drop (i + 1)) ρ' μ', fun σ3 H3 hN => ?_, fun v H3 hy => ?_⟩
    · obtain ⟨d3, ρ3, μ3, a1, a2, a3, a4⟩ := hN
      exact ⟨m - 1, by omega, d3, ρ3, μ3, a1, a2, a3, by omega, a4⟩
    · obtain ⟨ey, wy, ry⟩ := yl v H3 hy
      refine hg.run d2 σ' H3 ρ2 μ2 x v _ _ wy (ee2.mono ey) ry q2 fun d4 σ4 H4 ρ4 μ4 e4 w4 ee4 _ _ q4 => ?_
      have E4 : Ext d H d4 H4 := ((e1.trans e2).trans ey).trans e4
      have E4' : Ext d1 H1 d4 H4 := (e2.trans ey).trans e4
      exact hb.run d4 σ4 H4 ρ4 μ4 _ _ w4 ee4 q4
        ⟨fun d5 σ5 H5 ρ5 μ5 e5 w5 ee5 q5 => ⟨d5, ρ5, μ5, E4'.trans e5, w5, ee5, q5⟩, fun d5 H5 μ5 x v e5 => l.rt d5 H5 μ5 x v (E4.trans e5),
         fun d5 σ5 H5 ρ5 μ5 e5 => l.nx d5 σ5 H5 ρ5 μ5 (E4.trans e5), fun d5 σ5 H5 ρ5 μ5 e5 w5 ee5 q5 => ⟨d5, ρ5, μ5, E4'.trans e5, w5, ee5, q5⟩⟩⟩
def mWhile (c : MT) (b : MS) : MS := fun P ρ μ => ∃ W : Nat → PEnv → Store → Prop, (∃ n, W n ρ μ) ∧ ∀ n ρ μ, W n ρ μ →
  c ρ μ fun x μ1 => if x = true then b { P with nx := fun ρ' μ' => ∃ n', n' < n ∧ W n' ρ' μ', ct := fun ρ' μ' => ∃ n', n' < n ∧ W n' ρ' μ', bk := P.nx } ρ μ1 else P.nx ρ μ1
instance {tc mc tb mb} [hc : FT K tc mc] [hb : FS K tb mb] : FS K (tWhile tc tb) (mWhile mc mb) := ⟨fun d σ H ρ μ P D w e q l => by
  obtain ⟨W, ⟨n0, w0⟩, turn⟩ := q
  refine ⟨fun n σ' H' => ∃ d' ρ' μ', Ext d H d' H' ∧ WOk K d' H' μ' ∧ REnv K d' H' ρ' σ' ∧ W n ρ' μ', ⟨n0, d, ρ, μ, .refl, w, e, w0⟩, fun n σ' H' hW => ?_⟩
  obtain ⟨d1, ρ1, μ1, e1, w1, ee1, q1⟩ := hW
  refine hc.run d1 σ' H' ρ1 μ1 _ _ w1 ee1 (turn n ρ1 μ1 q1) fun d2 H2 μ2 x e2 w2 q2 => ?_
  have E2 : Ext d H d2 H2 := e1.trans e2
  cases x
  · exact l.nx d2 σ' H2 ρ1 μ2 E2 w2 (ee1.mono e2) q2
  · refine ⟨fun σ3 H3 => ∃ n', n' < n ∧ ∃ d' ρ' μ', Ext d H d' H3 ∧ WOk K d' H3 μ' ∧ REnv K d' H3 ρ' σ3 ∧ W n' ρ' μ', fun σ3 H3 h => h, ?_⟩
    exact hb.run d2 σ' H2 ρ1 μ2 _ _ w2 (ee1.mono e2) q2
      ⟨fun d5 σ5 H5 ρ5 μ5 e5 w5 ee5 ⟨n', hn, q5⟩ => ⟨n', hn, d5, ρ5, μ5, E2.trans e5, w5, ee5, q5⟩, fun d5 H5 μ5 x v e5 => l.rt d5 H5 μ5 x v (E2.trans e5),
       fun d5 σ5 H5 ρ5 μ5 e5 => l.nx d5 σ5 H5 ρ5 μ5 (E2.trans e5), fun d5 σ5 H5 ρ5 μ5 e5 w5 ee5 ⟨n', hn, q5⟩ => ⟨n', hn, d5, ρ5, μ5, E2.trans e5, w5, ee5, q5⟩⟩⟩
def wipeP (ρ : PEnv) : List Nat → PEnv
  | [] => ρ
  | v :: vs => (wipeP ρ vs).set v none
theorem wipe_get (σ : L2.St) (i : Nat) : ∀ vs : List Nat, (wipe σ vs)[i]? = if i ∈ vs then (if i < σ.length then some none else none) else σ[i]?
  | [] => by simp [wipe]
  | v :: vs => by
    show ((wipe σ vs).set v none)[i]? = _
    rw [List.getElem?_set, wipe_get σ i vs, wipe_length]
    by_cases h : v = i
    · subst h
      rw [if_pos rfl, if_pos (List.mem_cons_self)]
    · rw [if_neg h]
      have e : (i ∈ v :: vs) = (i ∈ vs) := by
        simp [Ne.symm h]
      simp only [e]
theorem wipe_same {σ σ' : L2.St} {vs sl : List Nat} (hl : σ'.length = (wipe σ vs).length) (h : ∀ i, i ∉ sl → σ'[i]? = (wipe σ vs)[i]?) (hs : ∀ i ∈ sl, i ∈ vs) : wipe σ' vs = wipe σ vs := by
  rw [wipe_length] at hl
  apply List.ext_getElem?
  intro i
  rw [wipe_get, wipe_get, hl]
  by_cases hi : i ∈ vs
  · rw [if_pos hi, if_pos hi]
  · rw [if_neg hi, if_neg hi, h i (fun z => hi (hs i z)), wipe_get, if_neg hi]
theorem REnv.wipe {ρ : PEnv} {σ : L2.St} (e : REnv K d H ρ σ) : ∀ vs : List Nat, REnv K d H (wipeP ρ vs) (wipe σ vs)
  | [] => e
  | v :: vs => (REnv.wipe e vs).unset v
theorem REnv.bars {ρ : PEnv} {σ : L2.St} (b : Bars d d' H) (e : REnv K d H ρ σ) : REnv K d' H ρ σ :=
  ⟨e.1, fun i x q => let ⟨v, a, c⟩ := e.2 i x q; ⟨v, a, c.bars b⟩⟩
theorem WOk.barD {D : Addr} (w : WOk K d H μ) (h : H D = none) : WOk K ⟨d.am, D :: d.ban⟩ (upd H D (.lst [])) μ := by
  have b : Bars d ⟨d.am, D :: d.ban⟩ H := ⟨rfl, fun x q => (List.mem_cons.mp q).elim (fun z => .inr (by rw [z]; exact h)) .inl⟩
  refine ⟨w.len, w.nd, fun i a m h1 h2 => ?_, fun x hx => ?_⟩
  · have hm := w.ob i a m h1 h2
    have hne : a ≠ D := by rintro rfl; exact w.notin h (List.mem_of_getElem? h1)
    have e : Ext ⟨d.am, D :: d.ban⟩ H ⟨d.am, D :: d.ban⟩ (upd H D (.lst [])) := ⟨⟨[], by simp, fun p hp => by simp at hp⟩, rfl, fun b u e _ => by rw [upd_ne (ne_of_none e h)]; exact e⟩
    cases m with
    | lst xs => obtain ⟨vs, q, r⟩ := hm; exact ⟨vs, by rw [upd_ne hne]; exact q, (r.bars b).mono e⟩
    | dk kvs => obtain ⟨vs, q, r1, r2⟩ := hm; exact ⟨vs, by rw [upd_ne hne]; exact q, r1, (r2.bars b).mono e⟩
    | fd o ws kvs => obtain ⟨q, r1, r2⟩ := hm; exact ⟨by rw [upd_ne hne]; exact q, r1, (r2.bars b).mono e⟩
    | tk kvs => obtain ⟨vs, q, r0, r1, r2⟩ := hm; exact ⟨vs, by rw [upd_ne hne]; exact q, r0, (r1.bars b).mono e, (r2.bars b).mono e⟩
    | nk kvs => obtain ⟨vs, q, r0, r1, r2⟩ := hm; exact ⟨vs, by rw [upd_ne hne]; exact q, r0, (r1.bars b).mono e, (r2.bars b).mono e⟩
    | ft o ws kvs => obtain ⟨q, r0, r1, r2⟩ := hm; exact ⟨by rw [upd_ne hne]; exact q, r0, (r1.bars b).mono e, (r2.bars b).mono e⟩
    | fn o ws kvs => obtain ⟨q, r0, r1, r2⟩ := hm; exact ⟨by rw [upd_ne hne]; exact q, r0, (r1.bars b).mono e, (r2.bars b).mono e⟩
  · rcases List.mem_cons.mp hx with z | z
    · subst z
      exact ⟨by rw [upd_same]; simp, w.notin h⟩
    · obtain ⟨q1, q2⟩ := w.ban x z
      refine ⟨?_, q2⟩
      have hne : x ≠ D := by rintro rfl; exact q1 h
      rw [upd_ne hne]; exact q1
def mLcL (g : MG) (c : MT) (e : ME) (ρ0 : PEnv) (P : List PV → Store → Prop) : List PV → List PV → Store → Prop
  | [], acc, μ => P acc μ
  | x :: xs, acc, μ => g x ρ0 μ fun ρ1 μ1 => c ρ1 μ1 fun b μ2 => if b = true then e ρ1 μ2 fun y μ3 => mLcL g c e ρ0 P xs (acc ++ [y]) μ3 else mLcL g c e ρ0 P xs acc μ2
theorem lc_run {wi mi g mg s tt mt te me} {vs : List Nat} [hi : FI K wi mi] [hg : FG K g mg s] [hc : FT K tt mt] [he : FE K te me] {σ : L2.St} {ρ : PEnv} {P : List PV → Store → Prop} {Q : VK} (w : WOk K d H μ) (e : REnv K d H ρ σ) (hs : ∀ i ∈ s, i ∈ vs)
    (q : mi ρ μ fun xs μ1 => xs.length ≤ lim ∧ mLcL mg mt me (wipeP ρ vs) P xs [] μ1)
    (fin : ∀ (d1 : Wd) (H1 : Hp) (D : Addr) (dB : Wd) (H' : Hp) (μ' : Store) (acc : List PV) (avs : List V), Ext d H d1 H1 → H1 D = none → D ∉ d1.ban → Ext ⟨d1.am, D :: d1.ban⟩ H1 dB H' → WOk K dB H' μ' → H' D = some (.lst avs) → RVs K dB H' acc avs → P acc μ' → Q (.ref D) H') :
    tLc wi g tt te vs σ H Q := by
  refine hi.run d σ H ρ μ _ _ w e q fun d1 H1 μ1 J xs e1 w1 it ⟨hz, q1⟩ => ?_
  intro D hD
  have bD : Bars d1 ⟨d1.am, D :: d1.ban⟩ H1 := ⟨rfl, fun x q => (List.mem_cons.mp q).elim (fun z => .inr (by rw [z]; exact hD)) .inl⟩
  have envB : REnv K ⟨d1.am, D :: d1.ban⟩ H1 (wipeP ρ vs) (wipe σ vs) := ((e.mono e1).bars bD).wipe vs
  have lay0 : Ext ⟨d1.am, D :: d1.ban⟩ H1 ⟨d1.am, D :: d1.ban⟩ (upd H1 D (.lst [])) := ⟨⟨[], by simp, fun p hp => by simp at hp⟩, rfl, fun b u e _ => by rw [upd_ne (ne_of_none e hD)]; exact e⟩
  refine ⟨fun i m H' => ∃ dB μ' acc avs, Ext ⟨d1.am, D :: d1.ban⟩ H1 dB H' ∧ WOk K dB H' μ' ∧ H' D = some (.lst avs) ∧ RVs K dB H' acc avs ∧ i + m = xs.length ∧ acc.length ≤ i ∧ mLcL mg mt me (wipeP ρ vs) P (xs.drop i) acc μ',
    ⟨xs.length, _, μ1, [], [], lay0, w1.barD hD, upd_same, .nil, by omega, Nat.le_refl _, by simpa using q1⟩, fun i m H' hW => ?_⟩
  obtain ⟨dB, μ', acc, avs, eB, wB, hDv, rA, em, hal, q2⟩ := hW
  have hDban : D ∈ dB.ban := by rw [eB.ban]; exact List.mem_cons_self
  obtain ⟨itg, its⟩ := it _ dB H' μ' bD eB wB
  cases hx : xs[i]? with
  | none =>
    have hle : xs.length ≤ i := List.getElem?_eq_none_iff.mp hx
    rw [List.drop_of_length_le hle] at q2
    exact .inl ⟨its i hle, fin d1 H1 D dB H' μ' acc avs e1 hD (w1.notban hD) eB wB hDv rA q2⟩
  | some x =>
    have hlt : i < xs.length := (List.getElem?_eq_some_iff.mp hx).1
    rw [drop_cons hx] at q2
    obtain ⟨go, yl⟩ := itg i x hx
    refine .inr ⟨go, fun H3 => ∃ dB μ' acc avs, Ext ⟨d1.am, D :: d1.ban⟩ H1 dB H3 ∧ WOk K dB H3 μ' ∧ H3 D = some (.lst avs) ∧ RVs K dB H3 acc avs ∧ acc.length ≤ i + 1 ∧ mLcL mg mt me (wipeP ρ vs) P (xs.drop (i + 1)) acc μ', fun H3 hN => ?_, fun v H3 hy => ?_⟩
    · obtain ⟨a1, a2, a3, a4, a5, a6, a7, a8, a9, a10⟩ := hN
      exact ⟨m - 1, by omega, a1, a2, a3, a4, a5, a6, a7, a8, by omega, a9, a10⟩
    · obtain ⟨ey, wy, ry⟩ := yl v H3 hy
      refine hg.run dB (wipe σ vs) H3 (wipeP ρ vs) μ' x v _ _ wy (envB.mono (eB.trans ey)) ry q2 fun d4 σ4 H4 ρ4 μ4 e4 w4 ee4 hl4 hs4 q4 => ⟨wipe_same hl4 hs4 hs, ?_⟩
      refine hc.run d4 σ4 H4 ρ4 μ4 _ _ w4 ee4 q4 fun d5 H5 μ5 b e5 w5 q5 => ?_
      have nD : D ∉ dB.am := (wB.ban D hDban).2
      have E5 : Ext dB H' d5 H5 := (ey.trans e4).trans e5
      cases b
      · exact ⟨d5, μ5, acc, avs, eB.trans E5, w5, E5.keep _ _ hDv nD, rA.mono E5, by omega, q5⟩
      · refine he.run d5 σ4 H5 ρ4 μ5 _ _ w5 (ee4.mono e5) q5 fun d6 H6 μ6 y u e6 w6 r6 q6 => ?_
        have E6 : Ext dB H' d6 H6 := E5.trans e6
        have hD6 : H6 D = some (.lst avs) := E6.keep _ _ hDv nD
        have ban6 : D ∈ d6.ban := by rw [E6.ban]; exact hDban
        have rA6 := (rA.mono E6).append (.cons r6 .nil)
        refine ⟨avs, hD6, by rw [← rA.length]; exact lim_lt' (by omega), d6, μ6, acc ++ [y], avs ++ [u], ?_, w6.made ban6 (no_tup hD6), upd_same, rA6.made ban6 (no_tup hD6), by rw [List.length_append]; simp; omega, q6⟩
        have E7 := eB.trans E6
        exact ⟨E7.am, E7.ban, fun b o hb hn => by rw [upd_ne (ne_of_none hb hD)]; exact E7.keep b o hb hn⟩
theorem lc_frozen {d1 dB : Wd} {H1 : Hp} {D : Addr} {acc : List PV} {avs : List V} (e1 : Ext d H d1 H1) (hD : H1 D = none) (hDn : D ∉ d1.ban) (eB : Ext ⟨d1.am, D :: d1.ban⟩ H1 dB H') (w : WOk K dB H' μ) (hv : H' D = some (.lst avs)) (r : RVs K dB H' acc avs) :
    Ext d H ⟨dB.am, d1.ban⟩ H' ∧ WOk K ⟨dB.am, d1.ban⟩ H' μ ∧ RV K ⟨dB.am, d1.ban⟩ H' (.lst acc) (.ref D) := by
  have hs : ∀ b ∈ d1.ban, b ∈ dB.ban := fun b hb => by rw [eB.ban]; exact List.mem_cons_of_mem _ hb
  have hb : D ∈ dB.ban := by rw [eB.ban]; exact List.mem_cons_self
  refine ⟨e1.trans ⟨eB.am, rfl, eB.keep⟩, w.less hs, .lst ⟨hv, (w.ban D hb).2, hDn⟩ (r.less hs)⟩
theorem lc_store {d1 dB : Wd} {H1 : Hp} {D : Addr} {acc : List PV} {avs : List V} (e1 : Ext d H d1 H1) (hD : H1 D = none) (hDn : D ∉ d1.ban) (eB : Ext ⟨d1.am, D :: d1.ban⟩ H1 dB H') (w : WOk K dB H' μ) (hv : H' D = some (.lst avs)) (r : RVs K dB H' acc avs) :
    Ext d H ⟨dB.am ++ [D], d1.ban⟩ H' ∧ WOk K ⟨dB.am ++ [D], d1.ban⟩ H' (μ ++ [.lst acc]) ∧ RV K ⟨dB.am ++ [D], d1.ban⟩ H' (.mr μ.length) (.ref D) := by
  have hs : ∀ b ∈ d1.ban, b ∈ dB.ban := fun b hb => by rw [eB.ban]; exact List.mem_cons_of_mem _ hb
  have hb : D ∈ dB.ban := by rw [eB.ban]; exact List.mem_cons_self
  have hn := (w.ban D hb).2
  have hm : MOK K ⟨dB.am ++ [D], d1.ban⟩ H' D (.lst acc) := ⟨avs, hv, r.pushed hb (no_tup hv) hs⟩
  refine ⟨e1.trans ⟨?_, rfl, eB.keep⟩, w.pushed hb (no_tup hv) hs hDn hm, .mr ?_⟩
  · obtain ⟨ex, q, f⟩ := eB.am
    refine ⟨ex ++ [D], by rw [q, List.append_assoc], fun p hp => ?_⟩
    rcases List.mem_append.mp hp with z | z
    · exact f p z
    · have e := List.mem_singleton.mp z
      subst e
      refine ⟨hD, fun z => hn ?_⟩
      rw [q]; exact List.mem_append_left _ z
  · show (dB.am ++ [D])[μ.length]? = some D
    rw [← w.len, List.getElem?_append_right (Nat.le_refl _)]
    simp
def mLc (mi : MI) (g : MG) (c : MT) (e : ME) (s vs : List Nat) : ME := fun ρ μ P => (∀ i ∈ s, i ∈ vs) ∧ mi ρ μ fun xs μ1 => xs.length ≤ lim ∧ mLcL g c e (wipeP ρ vs) (fun acc μ2 => P (.lst acc) μ2) xs [] μ1
def mLcM (mi : MI) (g : MG) (c : MT) (e : ME) (s vs : List Nat) : ME := fun ρ μ P => (∀ i ∈ s, i ∈ vs) ∧ mi ρ μ fun xs μ1 => xs.length ≤ lim ∧ mLcL g c e (wipeP ρ vs) (fun acc μ2 => P (.mr μ2.length) (μ2 ++ [.lst acc])) xs [] μ1
def tLcM (wi : TI) (g : TG) (tt : TT) (te : TE) (vs : List Nat) : TE := tLc wi g tt te vs
instance {wi mi g mg s tt mt te me vs} [hi : FI K wi mi] [hg : FG K g mg s] [hc : FT K tt mt] [he : FE K te me] : FE K (tLc wi g tt te vs) (mLc mi mg mt me s vs) := ⟨fun d σ H ρ μ P Q w e q k => by
  refine lc_run w e q.1 q.2 fun d1 H1 D dB H' μ' acc avs e1 hD hDn eB w' hv r p => ?_
  obtain ⟨x1, x2, x3⟩ := lc_frozen e1 hD hDn eB w' hv r
  exact k _ H' μ' _ _ x1 x2 x3 p⟩
instance {wi mi g mg s tt mt te me vs} [hi : FI K wi mi] [hg : FG K g mg s] [hc : FT K tt mt] [he : FE K te me] : FE K (tLcM wi g tt te vs) (mLcM mi mg mt me s vs) := ⟨fun d σ H ρ μ P Q w e q k => by
  refine lc_run w e q.1 q.2 fun d1 H1 D dB H' μ' acc avs e1 hD hDn eB w' hv r p => ?_
  obtain ⟨x1, x2, x3⟩ := lc_store e1 hD hDn eB w' hv r
  exact k _ H' _ _ _ x1 x2 x3 p⟩
end
end Fx
namespace Fx
open PySem PySem.Spec PyProof.Rows L2 RZ
def iSeq (K : PySem.W.Frag) (tl : TE) : TI := fun σ H R => tl σ H fun x H1 => ∃ a, x = .ref a ∧ (((∃ xs, SqL K H1 a xs) ∧ R (Itl K a) H1) ∨ ((∃ xs, SqT K H1 a xs) ∧ R (Itt K a) H1))
theorem pi_seq {X : Cx} {tg l : Expr} {tl : TE} (hl : PE X l tl) : PI X tg l (iSeq X.K tl) := by
  refine ⟨fun pins s σ H R I h => thn (hl.run pins s σ H _ I h) fun v s1 hq => ?_⟩
  obtain ⟨x, H1, I1, r1, a, e, q⟩ := hq
  subst e
  cases r1
  have fr : ∀ b ∈ [s1.heap.objs.size], FpOk X pins H1 b := fun b hb => by
    have e := List.mem_singleton.mp hb
    subst e
    exact I1.fpOk (Nat.le_refl _) (I1.hok.fresh (Nat.le_refl _))
  rcases q with ⟨⟨xs, hq⟩, q⟩ | ⟨⟨xs, hq⟩, q⟩
  · obtain ⟨its, rv, p, hz⟩ := I1.list hq
    refine wpAny_pyIter_list p.isList ?_
    exact ⟨_, _, _, _, H1, rfl, I1.kept (t' := s1.toks) fun b o e => Heap.get?_push_of_some _ e, turn_list a _, ⟨_, Heap.get?_push_size _ rfl, rfl, rfl⟩, fr, q⟩
  · obtain ⟨its, rv, p, hz⟩ := I1.tuple hq
    refine wpAny_pyIter_tuple (show s1.heap.IsTuple a its.toArray from p) ?_
    exact ⟨_, _, _, _, H1, rfl, I1.kept (t' := s1.toks) fun b o e => Heap.get?_push_of_some _ e, turn_tuple a _, ⟨_, Heap.get?_push_size _ rfl, rfl, rfl⟩, fr, q⟩
section
variable {K : PySem.W.Frag} {d d' : Wd} {H H' : Hp} {a b : Addr} {vs us : List V} {xs ys : List PV} {μ : Store}
theorem it_tup (h : TupAt K d H a vs) (r : RVs K d H xs vs) : ItOk (K := K) d H (Itt K a) xs := fun d1 d2 H2 μ2 bb e w => by
  have h2 : TupAt K d2 H2 a vs := e.tupAt (h.imp (fun z => ⟨z.1, by rw [bb.1]; exact z.2⟩) id)
  have r2 : RVs K d2 H2 xs vs := (r.bars bb).mono e
  refine ⟨fun i x hx => ?_, fun i hi => ⟨vs, h2.sq, by rw [← r2.length]; exact hi⟩⟩
  obtain ⟨v, hv, rv⟩ := r2.get hx
  refine ⟨⟨vs, v, h2.sq, hv⟩, fun u H3 hy => ?_⟩
  obtain ⟨rfl, f⟩ := hy
  have e1 := f vs h2.sq
  rw [hv] at e1; cases e1
  exact ⟨.refl, w, rv⟩
theorem it_kl (h : KlAt K d H a vs) (r : RVs K d H xs vs) : ItOk (K := K) d H (Itl K a) xs := fun d1 d2 H2 μ2 bb e w => by
  have h2 : KlAt K d2 H2 a vs := e.klAt (h.imp (fun z => ⟨z.1, by rw [bb.1]; exact z.2.1, fun q => (bb.2 _ q).elim z.2.2 (Rd.ne z.1)⟩) id)
  have r2 : RVs K d2 H2 xs vs := (r.bars bb).mono e
  refine ⟨fun i x hx => ?_, fun i hi => ⟨vs, h2.sq, by rw [← r2.length]; exact hi⟩⟩
  obtain ⟨v, hv, rv⟩ := r2.get hx
  refine ⟨⟨vs, v, h2.sq, hv⟩, fun u H3 hy => ?_⟩
  obtain ⟨rfl, f⟩ := hy
  have e1 := f vs h2.sq
  rw [hv] at e1; cases e1
  exact ⟨.refl, w, rv⟩
theorem it_lst (h : LstAt d H a vs) (r : RVs K d H xs vs) : ItOk (K := K) d H (Itl K a) xs := it_kl (.inl ⟨.inl h.1, h.2⟩) r
def mSeqI (m : ME) : MI := fun ρ μ P => m ρ μ fun x μ1 => match x with | .tup xs => P xs μ1 | .lst xs => P xs μ1 | .kl xs => P xs μ1 | _ => False
instance {t m} [h : FE K t m] : FI K (iSeq K t) (mSeqI m) := ⟨fun d σ H ρ μ P R w e q k => by
  refine h.run d σ H ρ μ _ _ w e q fun d1 H1 μ1 x v e1 w1 r1 q1 => ?_
  cases x <;> try exact q1.elim
  · cases r1 with
    | tup ha hr => exact ⟨_, rfl, .inr ⟨⟨_, ha.sq⟩, k d1 H1 μ1 _ _ e1 w1 (it_tup ha hr) q1⟩⟩
  · cases r1 with
    | lst ha hr => exact ⟨_, rfl, .inl ⟨⟨_, ha.sq⟩, k d1 H1 μ1 _ _ e1 w1 (it_lst ha hr) q1⟩⟩
  · cases r1 with
    | kl ha hr => exact ⟨_, rfl, .inl ⟨⟨_, ha.sq⟩, k d1 H1 μ1 _ _ e1 w1 (it_kl ha hr) q1⟩⟩⟩
def rangeP (lo : Int) (n : Nat) : List PV := (List.range n).map fun i => .int (lo + (i : Nat))
theorem rangeP_get {lo : Int} {n i : Nat} {x : PV} (h : (rangeP lo n)[i]? = some x) : i < n ∧ x = .int (lo + (i : Nat)) := by
  unfold rangeP at h
  rw [List.getElem?_map] at h
  cases e : (List.range n)[i]? with
  | none => rw [e] at h; cases h
  | some j =>
    rw [e] at h; cases h
    obtain ⟨h1, h2⟩ := List.getElem?_eq_some_iff.mp e
    rw [List.length_range] at h1
    rw [List.getElem_range] at h2
    subst h2
    exact ⟨h1, rfl⟩
theorem it_rng (lo : Int) (n : Nat) : ItOk (K := K) d H (Itr lo n) (rangeP lo n) := fun d1 d2 H2 μ2 bb e w => by
  refine ⟨fun i x hx => ?_, fun i hi => show n ≤ i by simpa [rangeP] using hi⟩
  obtain ⟨h1, rfl⟩ := rangeP_get hx
  refine ⟨h1, fun u H3 hy => ?_⟩
  obtain ⟨rfl, rfl⟩ := hy
  exact ⟨.refl, w, .int _⟩
def mRng1 (m : MA) : MI := fun ρ μ P => m ρ μ fun xs μ1 => match xs with | [.int j] => (-4000000000000000000 ≤ j ∧ j ≤ 4000000000000000000) ∧ P (rangeP 0 j.toNat) μ1 | _ => False
def mRng2 (m : MA) : MI := fun ρ μ P => m ρ μ fun xs μ1 => match xs with | [.int i, .int j] => (-1000000000000 ≤ i ∧ i ≤ 1000000000000 ∧ -1000000000000 ≤ j ∧ j ≤ 1000000000000) ∧ P (rangeP i (j - i).toNat) μ1 | _ => False
instance {t m} [h : FA K t m] : FI K (iRng1 t) (mRng1 m) := ⟨fun d σ H ρ μ P R w e q k => by
  refine h.run d σ H ρ μ _ _ w e q fun d1 H1 μ1 xs vs e1 w1 r1 q1 => ?_
  match xs, r1, q1 with
  | [.int j], .cons (.int _) .nil, ⟨z, q1⟩ => exact ⟨j, rfl, by omega, by omega, k d1 H1 μ1 _ _ e1 w1 (it_rng 0 j.toNat) q1⟩⟩
instance {t m} [h : FA K t m] : FI K (iRng2 t) (mRng2 m) := ⟨fun d σ H ρ μ P R w e q k => by
  refine h.run d σ H ρ μ _ _ w e q fun d1 H1 μ1 xs vs e1 w1 r1 q1 => ?_
  match xs, r1, q1 with
  | [.int i, .int j], .cons (.int _) (.cons (.int _) .nil), ⟨z, q1⟩ => exact ⟨i, j, rfl, by omega, k d1 H1 μ1 _ _ e1 w1 (it_rng i (j - i).toNat) q1⟩⟩
def zipP : List PV → List PV → List PV
  | x :: xs, y :: ys => .tup [x, y] :: zipP xs ys
  | _, _ => []
theorem zipP_get : ∀ {xs ys : List PV} {i : Nat} {z : PV}, (zipP xs ys)[i]? = some z → ∃ x y, xs[i]? = some x ∧ ys[i]? = some y ∧ z = .tup [x, y]
  | [], _, _, _, h => by simp [zipP] at h
  | _ :: _, [], _, _, h => by simp [zipP] at h
  | x :: xs, y :: ys, 0, z, h => by
    simp [zipP] at h
    exact ⟨x, y, rfl, rfl, h.symm⟩
  | x :: xs, y :: ys, i + 1, z, h => by
    simp only [zipP, List.getElem?_cons_succ] at h
    obtain ⟨a, b, h1, h2, h3⟩ := zipP_get h
    exact ⟨a, b, by simpa using h1, by simpa using h2, h3⟩
theorem zipP_length : ∀ xs ys : List PV, (zipP xs ys).length = min xs.length ys.length
  | [], _ => by simp [zipP]
  | _ :: _, [] => by simp [zipP]
  | x :: xs, y :: ys => by simp [zipP, zipP_length xs ys]
theorem tup_pair {x y : PV} {v u : V} {T : Addr} (w : WOk K d H μ) {H2 : Hp} (hT : PairAt T v u H H2) (rx : RV K d H x v) (ry : RV K d H y u) : Ext d H d H2 ∧ WOk K d H2 μ ∧ RV K d H2 (.tup [x, y]) (.ref T) := by
  obtain ⟨h0, o, ⟨hc, hd⟩, rfl⟩ := hT
  exact ⟨Ext.lay w h0, w.lay h0, lay_tup w (.cons rx (.cons ry .nil)) h0 hc hd⟩
theorem it_zipT (h : TupAt K d H a vs) (r : RVs K d H xs vs) (h' : TupAt K d H b us) (r' : RVs K d H ys us) : ItOk (K := K) d H (ItzG K true true a b) (zipP xs ys) := fun d1 d2 H2 μ2 bb e w => by
  have h2 : TupAt K d2 H2 a vs := e.tupAt (h.imp (fun z => ⟨z.1, by rw [bb.1]; exact z.2⟩) id)
  have r2 : RVs K d2 H2 xs vs := (r.bars bb).mono e
  have h2' : TupAt K d2 H2 b us := e.tupAt (h'.imp (fun z => ⟨z.1, by rw [bb.1]; exact z.2⟩) id)
  have r2' : RVs K d2 H2 ys us := (r'.bars bb).mono e
  refine ⟨fun i z hz => ?_, fun i hi => ⟨vs, us, ?_, h2.sq, h2'.sq⟩⟩
  · obtain ⟨x, y, hx, hy, rfl⟩ := zipP_get hz
    obtain ⟨v, hv, rv⟩ := r2.get hx
    obtain ⟨u, hu, ru⟩ := r2'.get hy
    refine ⟨⟨vs, us, h2.sq, h2'.sq, v, u, hv, hu⟩, fun t H3 hy => ?_⟩
    obtain ⟨T, x', y', rfl, hT, f, g⟩ := hy
    have e1 := f vs h2.sq
    have e2 := g us h2'.sq
    rw [hv] at e1; cases e1
    rw [hu] at e2; cases e2
    exact tup_pair w hT rv ru
  · rw [zipP_length] at hi
    rw [← r2.length, ← r2'.length]
    omega
theorem it_zipL (h : LstAt d H a vs) (r : RVs K d H xs vs) (h' : LstAt d H b us) (r' : RVs K d H ys us) : ItOk (K := K) d H (ItzG K false false a b) (zipP xs ys) := fun d1 d2 H2 μ2 bb e w => by
  have bl : ∀ {c : Addr} {ws : List V}, LstAt d H c ws → LstAt d2 H2 c ws := fun h => e.lstAt ⟨h.1, by rw [bb.1]; exact h.2.1, fun q => (bb.2 _ q).elim h.2.2 (by rw [h.1]; simp)⟩
  have h2 := bl h
  have r2 : RVs K d2 H2 xs vs := (r.bars bb).mono e
  have h2' := bl h'
  have r2' : RVs K d2 H2 ys us := (r'.bars bb).mono e
  refine ⟨fun i z hz => ?_, fun i hi => ⟨vs, us, ?_, h2.sq, h2'.sq⟩⟩
  · obtain ⟨x, y, hx, hy, rfl⟩ := zipP_get hz
    obtain ⟨v, hv, rv⟩ := r2.get hx
    obtain ⟨u, hu, ru⟩ := r2'.get hy
    refine ⟨⟨vs, us, h2.sq, h2'.sq, v, u, hv, hu⟩, fun t H3 hy => ?_⟩
    obtain ⟨T, x', y', rfl, hT, f, g⟩ := hy
    have e1 := f vs h2.sq
    have e2 := g us h2'.sq
    rw [hv] at e1; cases e1
    rw [hu] at e2; cases e2
    exact tup_pair w hT rv ru
  · rw [zipP_length] at hi
    rw [← r2.length, ← r2'.length]
    omega
def mZip (m : MA) : MI := fun ρ μ P => m ρ μ fun zs μ1 => match zs with | [.tup xs, .tup ys] => P (zipP xs ys) μ1 | [.lst xs, .lst ys] => P (zipP xs ys) μ1 | _ => False
instance {t m} [h : FA K t m] : FI K (iZipB K t) (mZip m) := ⟨fun d σ H ρ μ P R w e q k => by
  refine h.run d σ H ρ μ _ _ w e q fun d1 H1 μ1 zs vs e1 w1 r1 q1 => ?_
  match zs, r1, q1 with
  | [.tup xs, .tup ys], .cons (.tup ha hr) (.cons (.tup ha' hr') .nil), q1 => exact ⟨_, _, _, _, rfl, .inr ⟨ha.sq, ha'.sq, k d1 H1 μ1 _ _ e1 w1 (it_zipT ha hr ha' hr') q1⟩⟩
  | [.lst xs, .lst ys], .cons (.lst ha hr) (.cons (.lst ha' hr') .nil), q1 => exact ⟨_, _, _, _, rfl, .inl ⟨ha.sq, ha'.sq, k d1 H1 μ1 _ _ e1 w1 (it_zipL ha hr ha' hr') q1⟩⟩⟩
end
end Fx
namespace Fx
open PySem PySem.Spec PyProof.Rows L2 RZ
section
variable {K : PySem.W.Frag} {d d' : Wd} {H H' : Hp} {a b : Addr} {vs us : List V} {xs ys : List PV} {μ : Store}
theorem WOk.obj (w : WOk K d H μ) {n : Nat} {m : MO} (h : d.am[n]? = some a) (hm : μ[n]? = some m) : MOK K d H a m := w.ob n a m h hm
theorem WOk.has (w : WOk K d H μ) {n : Nat} {m : MO} (hm : μ[n]? = some m) : ∃ a, d.am[n]? = some a := by
  have : n < d.am.length := by rw [w.len]; exact (List.getElem?_eq_some_iff.mp hm).1
  exact ⟨d.am[n], List.getElem?_eq_getElem this⟩
theorem RVs.atI {i : Int} {x : PV} (r : RVs K d H xs vs) (h : atI xs i = some x) : ∃ v, L2.atI vs i = some v ∧ RV K d H x v := by
  unfold L2.atI at h ⊢
  rw [← r.length]
  cases e : ixN xs.length i with
  | none => rw [e] at h; cases h
  | some j =>
    rw [e] at h
    exact r.get h
def itemsOf (x : PV) (μ : Store) : Option (List PV) := match x with
  | .tup xs => some xs
  | .lst xs => some xs
  | .kl xs => some xs
  | .mr n => match μ[n]? with | some (.lst xs) => some xs | _ => none
  | _ => none
def pIx : MO2 := fun x y μ P => match y with | .int i => (match itemsOf x μ with | some xs => (match atI xs i with | some v => P v μ | none => False) | none => False) | _ => False
theorem seq_of {x : PV} {v : V} (w : WOk K d H μ) (r : RV K d H x v) (h : itemsOf x μ = some xs) : ∃ a vs, v = .ref a ∧ RVs K d H xs vs ∧ (SqL K H a vs ∨ SqT K H a vs) := by
  cases r with
  | tup h1 h2 => cases h; exact ⟨_, _, rfl, h2, .inr h1.sq⟩
  | lst h1 h2 => cases h; exact ⟨_, _, rfl, h2, .inl h1.sq⟩
  | kl h1 h2 => cases h; exact ⟨_, _, rfl, h2, .inl h1.sq⟩
  | @mr n a h1 =>
    unfold itemsOf at h
    cases e : μ[n]? with
    | none => simp [e] at h
    | some m =>
      cases m with
      | lst zs =>
        simp [e] at h
        subst h
        obtain ⟨vs, q, r⟩ := w.obj h1 e
        exact ⟨_, _, rfl, r, .inl (.of q)⟩
      | dk _ => simp [e] at h
      | fd _ _ _ => simp [e] at h
      | tk _ => simp [e] at h
      | nk _ => simp [e] at h
      | ft _ _ _ => simp [e] at h
      | fn _ _ _ => simp [e] at h
  | _ => cases h
instance : F2 K (rIx K) pIx := ⟨fun d H μ x y v u P Q w r1 r2 q k => by
  unfold pIx at q
  cases y <;> try exact q.elim
  cases r2
  rename_i i
  cases e : itemsOf x μ with
  | none => rw [e] at q; exact q.elim
  | some xs =>
    rw [e] at q
    simp only at q
    obtain ⟨a, vs, rfl, rv, hq⟩ := seq_of w r1 e
    cases e2 : atI xs i with
    | none => rw [e2] at q; exact q.elim
    | some z =>
      rw [e2] at q
      obtain ⟨v', hv, rz⟩ := rv.atI e2
      have fin := k d H μ _ _ .refl w rz q
      rcases hq with hq | hq
      · exact .inl ⟨a, vs, i, v', rfl, rfl, hq, hv, fin⟩
      · exact .inr (.inl ⟨a, vs, i, v', rfl, rfl, hq, hv, fin⟩)⟩
def scalP : PV → PV → Option Bool
  | .int i, .int j => some (decide (i = j))
  | .bl i, .bl j => some (decide (i = j))
  | .str i, .str j => some (decide (i = j))
  | .non, .non => some true
  | .non, .int _ => some false | .int _, .non => some false | .non, .bl _ => some false | .bl _, .non => some false | .non, .str _ => some false | .str _, .non => some false
  | .int _, .str _ => some false | .str _, .int _ => some false | .bl _, .str _ => some false | .str _, .bl _ => some false
  | _, _ => none
mutual
def datP : PV → Option PyData
  | .non => some .none
  | .bl b => some (.bool b)
  | .int i => some (.int i)
  | .str x => some (.str x)
  | .tup xs => (datPs xs).map .tuple
  | .lst xs => (datPs xs).map .list
  | .ty _ => none
  | .kl _ => none
  | .mr _ => none
def datPs : List PV → Option (List PyData)
  | [] => some []
  | x :: xs => match datP x, datPs xs with | some d, some ds => some (d :: ds) | _, _ => none
end
mutual
theorem dat_dp : ∀ {x : PV} {v : V} {e : PyData}, RV K d H x v → datP x = some e → Dp K H v e
  | _, _, _, .non, h => by cases h; exact .non
  | _, _, _, .bl b, h => by cases h; exact .bl b
  | _, _, _, .int i, h => by cases h; exact .int i
  | _, _, _, .str x, h => by cases h; exact .str x
  | _, _, _, .ty n, h => by simp [datP] at h
  | .tup xs, _, _, .tup h1 r, h => by
    simp only [datP] at h
    cases e : datPs xs with
    | none => rw [e] at h; cases h
    | some ds => rw [e] at h; cases h; exact .tup h1.sq (dats_dp r e)
  | .lst xs, _, _, .lst h1 r, h => by
    simp only [datP] at h
    cases e : datPs xs with
    | none => rw [e] at h; cases h
    | some ds => rw [e] at h; cases h; exact .lst h1.sq (dats_dp r e)
  | _, _, _, .kl _ _, h => by simp [datP] at h
  | _, _, _, .mr n, h => by simp [datP] at h
theorem dats_dp : ∀ {xs : List PV} {vs : List V} {es : List PyData}, RVs K d H xs vs → datPs xs = some es → DpAll K H vs es
  | _, _, _, .nil, h => by simp [datPs] at h; subst h; exact .nil
  | x :: xs, _, _, .cons r t, h => by
    simp only [datPs] at h
    cases e1 : datP x with
    | none => rw [e1] at h; simp at h
    | some d1 =>
      cases e2 : datPs xs with
      | none => rw [e1, e2] at h; simp at h
      | some ds => rw [e1, e2] at h; simp at h; subst h; exact .cons (dat_dp r e1) (dats_dp t e2)
end
def frzP (x : PV) (μ : Store) : PV := match x with | .mr n => (match μ[n]? with | some (.lst xs) => .lst xs | _ => x) | _ => x
theorem frz_dp {x : PV} {v : V} {e : PyData} (w : WOk K d H μ) (r : RV K d H x v) (h : datP (frzP x μ) = some e) : Dp K H v e := by
  match x, r, h with
  | .mr n, .mr (a := a) h1, h =>
    unfold frzP at h
    cases q : μ[n]? with
    | none => simp [q, datP] at h
    | some m =>
      cases m with
      | dk _ => simp [q, datP] at h
      | fd _ _ _ => simp [q, datP] at h
      | tk _ => simp [q, datP] at h
      | nk _ => simp [q, datP] at h
      | ft _ _ _ => simp [q, datP] at h
      | fn _ _ _ => simp [q, datP] at h
      | lst zs =>
        simp only [q, datP] at h
        cases e : datPs zs with
        | none => rw [e] at h; cases h
        | some ds =>
          rw [e] at h; cases h
          obtain ⟨vs, q, r⟩ := w.obj h1 q
          exact .lst (.of q) (dats_dp r e)
  | .non, r, h => exact dat_dp r h
  | .bl _, r, h => exact dat_dp r h
  | .int _, r, h => exact dat_dp r h
  | .str _, r, h => exact dat_dp r h
  | .ty _, r, h => exact dat_dp r h
  | .tup _, r, h => exact dat_dp r h
  | .lst _, r, h => exact dat_dp r h
  | .kl _, r, h => exact dat_dp r h
def eqP (x y : PV) (μ : Store) : Option Bool := match scalP x y with
  | some b => some b
  | none => match datP (frzP x μ), datP (frzP y μ) with
    | some a, some b => if SeqAt.shaped a = true ∧ SeqAt.shaped b = true then some (PyData.eqv a b) else none
    | _, _ => none
def rEqX (K : PySem.W.Frag) : R2 := fun x y H Q => rEq x y H Q ∨ rEqD K x y H Q
def rNeX (K : PySem.W.Frag) : R2 := fun x y H Q => rNe x y H Q ∨ rNeD K x y H Q
theorem op_eqX {X : Cx} (hu : X.A.units + 64 < cLine) : OpR X (compareOp .Eq) (rEqX X.K) := fun pins s σ H x y v u Q I rx ry h =>
  h.elim (op_eq pins s σ H x y v u Q I rx ry) (op_eqD hu pins s σ H x y v u Q I rx ry)
theorem op_neX {X : Cx} (hu : X.A.units + 64 < cLine) : OpR X (compareOp .NotEq) (rNeX X.K) := fun pins s σ H x y v u Q I rx ry h =>
  h.elim (op_ne pins s σ H x y v u Q I rx ry) (op_neD hu pins s σ H x y v u Q I rx ry)
def pEq : MO2 := fun x y μ P => match eqP x y μ with | some b => P (.bl b) μ | none => False
def pNe : MO2 := fun x y μ P => match eqP x y μ with | some b => P (.bl (!b)) μ | none => False
theorem scal_rv {x y : PV} {v u : V} {c : Bool} (r1 : RV K d H x v) (r2 : RV K d H y u) (h : scalP x y = some c) : scal v u = true ∧ decide (v = u) = c := by
  cases r1 <;> cases r2 <;> simp [scalP] at h <;> subst h <;> simp [scal]
theorem eq_run {x y : PV} {v u : V} {c : Bool} (w : WOk K d H μ) (r1 : RV K d H x v) (r2 : RV K d H y u) (h : eqP x y μ = some c) :
    (scal v u = true ∧ decide (v = u) = c) ∨ ∃ a b, Dp K H v a ∧ Dp K H u b ∧ SeqAt.shaped a = true ∧ SeqAt.shaped b = true ∧ PyData.eqv a b = c := by
  unfold eqP at h
  cases e : scalP x y with
  | some c' => rw [e] at h; cases h; exact .inl (scal_rv r1 r2 e)
  | none =>
    rw [e] at h
    simp only at h
    cases e1 : datP (frzP x μ) with
    | none => rw [e1] at h; cases h
    | some a =>
      cases e2 : datP (frzP y μ) with
      | none => rw [e1, e2] at h; cases h
      | some b =>
        rw [e1, e2] at h
        simp only at h
        split at h
        · rename_i hs
          cases h
          exact .inr ⟨a, b, frz_dp w r1 e1, frz_dp w r2 e2, hs.1, hs.2, rfl⟩
        · cases h
instance : F2 K (rEqX K) pEq := ⟨fun d H μ x y v u P Q w r1 r2 q k => by
  unfold pEq at q
  cases e : eqP x y μ with
  | none => rw [e] at q; exact q.elim
  | some c =>
    rw [e] at q
    have fin := k d H μ _ _ .refl w (.bl c) q
    rcases eq_run w r1 r2 e with ⟨h1, h2⟩ | ⟨a, b, h1, h2, h3, h4, h5⟩
    · exact .inl ⟨h1, by rw [h2]; exact fin⟩
    · exact .inr ⟨a, b, h1, h2, h3, h4, by rw [h5]; exact fin⟩⟩
instance : F2 K (rNeX K) pNe := ⟨fun d H μ x y v u P Q w r1 r2 q k => by
  unfold pNe at q
  cases e : eqP x y μ with
  | none => rw [e] at q; exact q.elim
  | some c =>
    rw [e] at q
    have fin := k d H μ _ _ .refl w (.bl (!c)) q
    rcases eq_run w r1 r2 e with ⟨h1, h2⟩ | ⟨a, b, h1, h2, h3, h4, h5⟩
    · exact .inl ⟨h1, by rw [h2]; exact fin⟩
    · exact .inr ⟨a, b, h1, h2, h3, h4, by rw [h5]; exact fin⟩⟩
def flatP : PV → Bool
  | .non => true | .bl _ => true | .int _ => true | .str _ => true | _ => false
def eqFlat : PV → PV → Bool
  | .non, .non => true
  | .bl a, .bl b => a == b
  | .bl a, .int b => (if a then 1 else 0) == b
  | .int a, .bl b => a == (if b then 1 else 0)
  | .int a, .int b => a == b
  | .str a, .str b => a == b
  | _, _ => false
def inP (x : PV) (xs : List PV) : Bool := xs.any fun y => eqFlat y x
theorem flat_rv {x : PV} {v : V} (r : RV K d H x v) : flatP x = true → flatV v = true := by
  cases r <;> simp [flatP, flatV]
theorem flats_rv : ∀ {xs : List PV} {vs : List V}, RVs K d H xs vs → xs.all flatP = true → vs.all flatV = true
  | _, _, .nil, _ => rfl
  | _, _, .cons r t, h => by
    rw [List.all_cons, Bool.and_eq_true] at h ⊢
    exact ⟨flat_rv r h.1, flats_rv t h.2⟩
theorem eqFlat_rv {x y : PV} {v u : V} (r : RV K d H x v) (r' : RV K d H y u) (h : flatP x = true) (h' : flatP y = true) : eqV v u = eqFlat x y := by
  cases r <;> simp [flatP] at h <;> cases r' <;> simp [flatP] at h' <;> rfl
theorem in_rv {x : PV} {v : V} (r : RV K d H x v) (h : flatP x = true) : ∀ {xs : List PV} {vs : List V}, RVs K d H xs vs → xs.all flatP = true → inV v vs = inP x xs
  | _, _, .nil, _ => rfl
  | _, _, .cons r' t, h' => by
    rw [List.all_cons, Bool.and_eq_true] at h'
    show ((eqV _ v) || inV v _) = (eqFlat _ x || inP x _)
    rw [eqFlat_rv r' r h'.1 h, in_rv r h t h'.2]
def pIn (neg : Bool) : MO2 := fun x y μ P => match itemsOf y μ with | some xs => (flatP x = true ∧ xs.all flatP = true) ∧ P (.bl (if neg then !inP x xs else inP x xs)) μ | none => False
instance {neg} : F2 K (rIn K neg) (pIn neg) := ⟨fun d H μ x y v u P Q w r1 r2 q k => by
  unfold pIn at q
  cases e : itemsOf y μ with
  | none => rw [e] at q; exact q.elim
  | some xs =>
    rw [e] at q
    obtain ⟨⟨h1, h2⟩, q⟩ := q
    obtain ⟨a, vs, rfl, rv, hq⟩ := seq_of w r2 e
    refine ⟨a, vs, rfl, hq, flat_rv r1 h1, flats_rv rv h2, ?_⟩
    rw [in_rv r1 h1 rv h2]
    exact k d H μ _ _ .refl w (.bl _) q⟩
def pIsB (neg : Bool) : MO2 := fun x y μ P => match x, y with | .bl a, .bl b => P (.bl (if neg then !decide (a = b) else decide (a = b))) μ | _, _ => False
instance : F2 K rIsB (pIsB false) := ⟨fun d H μ x y v u P Q w r1 r2 q k => by
  cases x <;> try exact q.elim
  cases y <;> try exact q.elim
  cases r1; cases r2
  exact ⟨_, _, rfl, rfl, k d H μ _ _ .refl w (.bl _) q⟩⟩
instance : F2 K rNotB (pIsB true) := ⟨fun d H μ x y v u P Q w r1 r2 q k => by
  cases x <;> try exact q.elim
  cases y <;> try exact q.elim
  cases r1; cases r2
  exact ⟨_, _, rfl, rfl, k d H μ _ _ .refl w (.bl _) q⟩⟩
class FO (K : PySem.W.Frag) (t : TO) (m : outParam (PEnv → Store → (Option Int → Store → Prop) → Prop)) : Prop where
  run : ∀ (d : Wd) (σ : L2.St) (H : Hp) (ρ : PEnv) (μ : Store) (P : Option Int → Store → Prop) (Q : Option Int → Hp → Prop), WOk K d H μ → REnv K d H ρ σ → m ρ μ P →
    (∀ d' H' μ' o, Ext d H d' H' → WOk K d' H' μ' → P o μ' → Q o H') → t σ H Q
def mNoPart : PEnv → Store → (Option Int → Store → Prop) → Prop := fun _ μ P => P none μ
def mPart (m : ME) : PEnv → Store → (Option Int → Store → Prop) → Prop := fun ρ μ P => m ρ μ fun x μ1 => match x with | .int i => P (some i) μ1 | _ => False
instance : FO K tNoPart mNoPart := ⟨fun d σ H ρ μ P Q w e q k => k d H μ none .refl w q⟩
instance {t m} [h : FE K t m] : FO K (tPart t) (mPart m) := ⟨fun d σ H ρ μ P Q w e q k => by
  refine h.run d σ H ρ μ _ _ w e q fun d1 H1 μ1 x v e1 w1 r1 q1 => ?_
  cases x <;> try exact q1.elim
  cases r1
  exact ⟨_, rfl, k d1 H1 μ1 _ e1 w1 q1⟩⟩
def cutP (xs : List PV) (lo hi : Option Int) : List PV := (xs.drop (HT.sIx xs.length 0 lo)).take (HT.sIx xs.length xs.length hi - HT.sIx xs.length 0 lo)
theorem RVs.cut (r : RVs K d H xs vs) (lo hi : Option Int) : RVs K d H (cutP xs lo hi) (cutV vs lo hi) := by
  unfold cutP cutV
  rw [← r.length]
  exact (r.drop _).take _
theorem cut_whole {xs : List PV} {lo hi : Option Int} (h : HT.sIx xs.length 0 lo = 0 ∧ HT.sIx xs.length xs.length hi = xs.length) : cutP xs lo hi = xs := by
  unfold cutP
  rw [h.1, h.2]
  simp
def mSl (m : ME) (lo hi : PEnv → Store → (Option Int → Store → Prop) → Prop) : ME := fun ρ μ P => m ρ μ fun x μ1 => lo ρ μ1 fun l μ2 => hi ρ μ2 fun h μ3 => match x with | .tup xs => P (.tup (cutP xs l h)) μ3 | .lst xs => P (.lst (cutP xs l h)) μ3 | .kl xs => P (.lst (cutP xs l h)) μ3 | .mr n => (match μ3[n]? with | some (.lst xs) => P (.lst (cutP xs l h)) μ3 | _ => False) | _ => False
def rSlX (K : PySem.W.Frag) : V → Option Int → Option Int → Hp → VK → Prop := fun x lo hi H Q => rSlL K x lo hi H Q ∨ rSlF K x lo hi H Q
theorem sl_any {X : Cx} : SlR X (rSlX X.K) := SlR.or sl_list sl_tupF
instance {t m lo hi ml mh} [h : FE K t m] [hl : FO K lo ml] [hh : FO K hi mh] : FE K (tSl (rSlX K) t lo hi) (mSl m ml mh) := ⟨fun d σ H ρ μ P Q w e q k => by
  refine h.run d σ H ρ μ _ _ w e q fun d1 H1 μ1 x v e1 w1 r1 q1 => ?_
  refine hl.run d1 σ H1 ρ μ1 _ _ w1 (e.mono e1) q1 fun d2 H2 μ2 l e2 w2 q2 => ?_
  refine hh.run d2 σ H2 ρ μ2 _ _ w2 (e.mono (e1.trans e2)) q2 fun d3 H3 μ3 h e3 w3 q3 => ?_
  have E3 := (e1.trans e2).trans e3
  have r3 := r1.mono (e2.trans e3)
  cases r3 with
  | @tup xs a vs h1 h2 =>
    refine .inr ⟨a, vs, rfl, h1.sq, fun z => ?_, fun z p o hp hc hd => ?_⟩
    · have q3' : P (.tup (cutP xs l h)) μ3 := q3
      rw [cut_whole (by rw [h2.length]; exact z)] at q3'
      exact k d3 H3 μ3 _ _ E3 w3 (.tup h1 h2) q3'
    · exact k d3 _ μ3 _ _ (E3.trans (Ext.lay w3 hp)) (w3.lay hp) (lay_tup w3 (h2.cut l h) hp hc hd) q3
  | @lst xs a vs h1 h2 =>
    exact .inl ⟨a, vs, rfl, h1.sq, fun p hp => k d3 _ μ3 _ _ (E3.trans (Ext.lay w3 hp)) (w3.lay hp) (lay_lst w3 (h2.cut l h) hp) q3⟩
  | @kl xs a vs h1 h2 =>
    exact .inl ⟨a, vs, rfl, h1.sq, fun p hp => k d3 _ μ3 _ _ (E3.trans (Ext.lay w3 hp)) (w3.lay hp) (lay_lst w3 (h2.cut l h) hp) q3⟩
  | @mr n a h1 =>
    simp only at q3
    cases e4 : μ3[n]? with
    | none => rw [e4] at q3; exact q3.elim
    | some m =>
      cases m with
      | dk _ => rw [e4] at q3; exact q3.elim
      | fd _ _ _ => rw [e4] at q3; exact q3.elim
      | tk _ => rw [e4] at q3; exact q3.elim
      | nk _ => rw [e4] at q3; exact q3.elim
      | ft _ _ _ => rw [e4] at q3; exact q3.elim
      | fn _ _ _ => rw [e4] at q3; exact q3.elim
      | lst zs =>
        rw [e4] at q3
        obtain ⟨vs, q, r⟩ := w3.obj h1 e4
        exact .inl ⟨a, vs, rfl, .of q, fun p hp => k d3 _ μ3 _ _ (E3.trans (Ext.lay w3 hp)) (w3.lay hp) (lay_lst w3 (r.cut l h) hp) q3⟩
  | _ => exact q3.elim⟩
def mRevL (m : ME) : ME := fun ρ μ P => m ρ μ fun x μ1 => match itemsOf x μ1 with | some xs => (match x with | .tup _ => False | _ => P (.lst xs.reverse) μ1) | none => False
def tRevLM (K : PySem.W.Frag) (te : TE) : TE := tRevL K te
def mRevLM (m : ME) : ME := fun ρ μ P => m ρ μ fun x μ1 => match itemsOf x μ1 with | some xs => (match x with | .tup _ => False | _ => P (.mr μ1.length) (μ1 ++ [.lst xs.reverse])) | none => False
theorem seqL_of {x : PV} {v : V} (w : WOk K d H μ) (r : RV K d H x v) (h : itemsOf x μ = some xs) (hx : ∀ ys, x ≠ .tup ys) : ∃ a vs, v = .ref a ∧ RVs K d H xs vs ∧ SqL K H a vs := by
  cases r with
  | tup h1 h2 => exact absurd rfl (hx _)
  | lst h1 h2 => cases h; exact ⟨_, _, rfl, h2, h1.sq⟩
  | kl h1 h2 => cases h; exact ⟨_, _, rfl, h2, h1.sq⟩
  | @mr n a h1 =>
    unfold itemsOf at h
    cases e : μ[n]? with
    | none => simp [e] at h
    | some m =>
      cases m with
      | lst zs =>
        simp [e] at h
        subst h
        obtain ⟨vs, q, r⟩ := w.obj h1 e
        exact ⟨_, _, rfl, r, .of q⟩
      | dk _ => simp [e] at h
      | fd _ _ _ => simp [e] at h
      | tk _ => simp [e] at h
      | nk _ => simp [e] at h
      | ft _ _ _ => simp [e] at h
      | fn _ _ _ => simp [e] at h
  | _ => cases h
instance {t m} [h : FE K t m] : FE K (tRevL K t) (mRevL m) := ⟨fun d σ H ρ μ P Q w e q k => by
  refine h.run d σ H ρ μ _ _ w e q fun d1 H1 μ1 x v e1 w1 r1 q1 => ?_
  cases e2 : itemsOf x μ1 with
  | none => rw [e2] at q1; exact q1.elim
  | some xs =>
    rw [e2] at q1
    simp only at q1
    have hx : ∀ ys, x ≠ .tup ys := by rintro ys rfl; exact q1
    obtain ⟨a, vs, rfl, rv, hq⟩ := seqL_of w1 r1 e2 hx
    refine ⟨a, vs, rfl, hq, fun p hp => ?_⟩
    refine k d1 _ μ1 _ _ (e1.trans (Ext.lay w1 hp)) (w1.lay hp) (lay_lst w1 rv.rev hp) ?_
    cases x <;> first | exact q1.elim | exact q1⟩
instance {t m} [h : FE K t m] : FE K (tRevLM K t) (mRevLM m) := ⟨fun d σ H ρ μ P Q w e q k => by
  refine h.run d σ H ρ μ _ _ w e q fun d1 H1 μ1 x v e1 w1 r1 q1 => ?_
  cases e2 : itemsOf x μ1 with
  | none => rw [e2] at q1; exact q1.elim
  | some xs =>
    rw [e2] at q1
    simp only at q1
    have hx : ∀ ys, x ≠ .tup ys := by rintro ys rfl; exact q1
    obtain ⟨a, vs, rfl, rv, hq⟩ := seqL_of w1 r1 e2 hx
    refine ⟨a, vs, rfl, hq, fun p hp => ?_⟩
    have ee := Ext.push (o := .lst vs.reverse) w1 hp
    refine k (d1.push p) _ _ _ _ (e1.trans ee) (w1.push (m := .lst xs.reverse) hp ⟨_, upd_same, rv.rev.mono ee⟩) (lay_mr w1) ?_
    cases x <;> first | exact q1.elim | exact q1⟩
end
end Fx
namespace Fx
open PySem PySem.Spec PyProof.Rows L2 RZ
section
variable {K : PySem.W.Frag} {d d' : Wd} {H H' : Hp} {a b : Addr} {vs us : List V} {xs ys : List PV} {μ : Store}
def mCB (p : MB) (t : MA) : ME := fun ρ μ P => t ρ μ fun xs μ1 => p xs μ1 P
instance {r p t m} [h : FB K r p] [ht : FA K t m] : FE K (tCB r t) (mCB p m) := ⟨fun d σ H ρ μ P Q w e q k => by
  refine ht.run d σ H ρ μ _ _ w e q fun d1 H1 μ1 xs vs e1 w1 r1 q1 => ?_
  exact h.run d1 H1 μ1 xs vs P Q w1 r1 q1 fun d2 H2 μ2 z w' e2 => k d2 H2 μ2 z w' (e1.trans e2)⟩
def rAbs : List V → Hp → VK → Prop := fun xs H Q => ∃ i, xs = [.int i] ∧ Q (.int (if i < 0 then -i else i)) H
theorem cb_abs {X : Cx} : CallR X (.builtin "abs") rAbs := call_abs
def pAbs : MB := fun xs μ P => match xs with | [.int i] => P (.int (if i < 0 then -i else i)) μ | _ => False
instance : FB K rAbs pAbs := ⟨fun d H μ xs vs P Q w r q k => by
  match xs, r, q with
  | [.int i], .cons (.int _) .nil, q => exact ⟨i, rfl, k d H μ _ _ .refl w (.int _) q⟩⟩
def rMax2 : List V → Hp → VK → Prop := fun xs H Q => ∃ i j, xs = [.int i, .int j] ∧ Q (.int (if j > i then j else i)) H
theorem cb_max2 {X : Cx} (hc : X.calm = true) : CallR X (.builtin "max") rMax2 := call_max2 hc
def pMax2 : MB := fun xs μ P => match xs with | [.int i, .int j] => P (.int (if j > i then j else i)) μ | _ => False
def pMin2 : MB := fun xs μ P => match xs with | [.int i, .int j] => P (.int (if j < i then j else i)) μ | _ => False
instance : FB K rMax2 pMax2 := ⟨fun d H μ xs vs P Q w r q k => by
  match xs, r, q with
  | [.int i, .int j], .cons (.int _) (.cons (.int _) .nil), q => exact ⟨i, j, rfl, k d H μ _ _ .refl w (.int _) q⟩⟩
def rInt1 : List V → Hp → VK → Prop := fun xs H Q => (∃ i, xs = [.int i] ∧ Q (.int i) H) ∨ ∃ k, xs = [.bl k] ∧ Q (.int (if k then 1 else 0)) H
theorem cb_int1 {X : Cx} : CallR X (.type "int") rInt1 := call_int1
def pInt1 : MB := fun xs μ P => match xs with | [.int i] => P (.int i) μ | [.bl k] => P (.int (if k then 1 else 0)) μ | _ => False
instance : FB K rInt1 pInt1 := ⟨fun d H μ xs vs P Q w r q k => by
  match xs, r, q with
  | [.int i], .cons (.int _) .nil, q => exact .inl ⟨i, rfl, k d H μ _ _ .refl w (.int _) q⟩
  | [.bl b], .cons (.bl _) .nil, q => exact .inr ⟨b, rfl, k d H μ _ _ .refl w (.int _) q⟩⟩
def pGcd : MB := fun xs μ P => match xs with | [.int a, .int b] => P (.int ((Nat.gcd a.natAbs b.natAbs : Nat) : Int)) μ | _ => False
instance : FB K rGcd pGcd := ⟨fun d H μ xs vs P Q w r q k => by
  match xs, r, q with
  | [.int i, .int j], .cons (.int _) (.cons (.int _) .nil), q => exact ⟨i, j, rfl, k d H μ _ _ .refl w (.int _) q⟩⟩
def rLen (K : PySem.W.Frag) : List V → Hp → VK → Prop := fun xs H Q => ∃ x n, xs = [x] ∧ LenV K x H n ∧ Q (.int n) H
theorem cb_len {X : Cx} : CallR X (.builtin "len") (rLen X.K) := call_len
def pLen : MB := fun xs μ P => match xs with | [x] => (match itemsOf x μ with | some ys => P (.int (ys.length : Nat)) μ | none => False) | _ => False
instance : FB K (rLen K) pLen := ⟨fun d H μ xs vs P Q w r q k => by
  match xs, r, q with
  | [x], .cons r .nil, q =>
    unfold pLen at q
    simp only at q
    cases e : itemsOf x μ with
    | none => rw [e] at q; exact q.elim
    | some ys =>
      rw [e] at q
      obtain ⟨a, vs, rfl, rv, hq⟩ := seq_of w r e
      refine ⟨_, ys.length, rfl, ?_, k d H μ _ _ .refl w (.int _) q⟩
      rw [rv.length]
      exact hq.imp (fun h => ⟨vs, h, rfl⟩) (fun h => ⟨vs, h, rfl⟩)⟩
theorem RVs.ints_of : ∀ {xs : List PV} {vs : List V}, RVs K d H xs vs → ∀ {ns : List Int}, xs = ns.map PV.int → vs = ns.map V.int := fun r ns e => by
  subst e; exact RVs.ints r
def intsP : List PV → Option (List Int)
  | [] => some []
  | .int i :: xs => (intsP xs).map (i :: ·)
  | _ => none
theorem intsP_of : ∀ {xs : List PV} {ns : List Int}, intsP xs = some ns → xs = ns.map PV.int
  | [], ns, h => by cases h; rfl
  | x :: xs, ns, h => by
    cases x <;> simp [intsP] at h
    obtain ⟨ms, e, rfl⟩ := h
    rw [intsP_of e]; rfl
theorem intsP_map : ∀ (ns : List Int), intsP (ns.map PV.int) = some ns
  | [] => rfl
  | n :: ns => by simp [intsP, intsP_map ns]
def pSum : MB := fun xs μ P => match xs with | [x] => (match x with | .tup _ => False | _ => match itemsOf x μ with | some ys => (match intsP ys with | some ns => P (.int ns.sum) μ | none => False) | none => False) | _ => False
instance : FB K (rSum K) pSum := ⟨fun d H μ xs vs P Q w r q k => by
  match xs, r, q with
  | [x], .cons r .nil, q =>
    have hx : ∀ ys, x ≠ .tup ys := by rintro ys rfl; exact q
    cases e : itemsOf x μ with
    | none => cases x <;> simp [pSum, e] at q
    | some ys =>
      have q' : (match intsP ys with | some ns => P (.int ns.sum) μ | none => False) := by
        cases x <;> first | exact q.elim | (simp only [pSum, e] at q; exact q)
      obtain ⟨a, vs, rfl, rv, hq⟩ := seqL_of w r e hx
      cases e2 : intsP ys with
      | none => rw [e2] at q'; exact q'.elim
      | some ns =>
        rw [e2] at q'
        have ev := RVs.ints_of rv (intsP_of e2)
        subst ev
        exact ⟨a, ns, rfl, hq, k d H μ _ _ .refl w (.int _) q'⟩⟩
def maxP : List Int → Int
  | [] => 0
  | n :: ns => ns.foldl (fun a y => if a < y then y else a) n
theorem fold_max : ∀ (ns : List Int) (a : Int), (a ≤ ns.foldl (fun a y => if a < y then y else a) a) ∧ (∀ y ∈ ns, y ≤ ns.foldl (fun a y => if a < y then y else a) a) ∧ (ns.foldl (fun a y => if a < y then y else a) a = a ∨ ns.foldl (fun a y => if a < y then y else a) a ∈ ns)
  | [], a => by simp
  | n :: ns, a => by
    rw [List.foldl_cons]
    obtain ⟨h1, h2, h3⟩ := fold_max ns (if a < n then n else a)
    refine ⟨?_, fun y hy => ?_, ?_⟩
    · by_cases h : a < n
      · rw [if_pos h] at h1 ⊢; omega
      · rw [if_neg h] at h1 ⊢; exact h1
    · rcases List.mem_cons.mp hy with rfl | hy
      · by_cases h : a < y
        · rw [if_pos h] at h1 ⊢; exact h1
        · rw [if_neg h] at h1 ⊢; omega
      · exact h2 y hy
    · by_cases h : a < n
      · rw [if_pos h] at h3 ⊢
        rcases h3 with h3 | h3
        · exact .inr (by rw [h3]; exact List.mem_cons_self)
        · exact .inr (List.mem_cons_of_mem _ h3)
      · rw [if_neg h] at h3 ⊢
        exact h3.imp id (List.mem_cons_of_mem _)
theorem maxP_mem {ns : List Int} (h : ns ≠ []) : maxP ns ∈ ns := by
  cases ns with
  | nil => exact absurd rfl h
  | cons n ns =>
    rcases (fold_max ns n).2.2 with e | e
    · show ns.foldl _ n ∈ _; rw [e]; exact List.mem_cons_self
    · exact List.mem_cons_of_mem _ e
theorem maxP_le {ns : List Int} {y : Int} (h : y ∈ ns) : y ≤ maxP ns := by
  cases ns with
  | nil => cases h
  | cons n ns =>
    rcases List.mem_cons.mp h with rfl | h
    · exact (fold_max ns y).1
    · exact (fold_max ns n).2.1 y h
theorem maxP_uniq {ns : List Int} {m : Int} (h1 : m ∈ ns) (h2 : ∀ y, y ∈ ns → y ≤ m) : m = maxP ns := by
  have h3 := maxP_le h1
  have h4 := h2 _ (maxP_mem (by intro e; rw [e] at h1; cases h1))
  omega
def rMaxS (K : PySem.W.Frag) : List V → Hp → VK → Prop := fun vs H Q => rMax K vs H Q ∨ ∃ (a : Addr) (ns : List Int), vs = [V.ref a] ∧ SqT K H a (ns.map V.int) ∧ 0 < ns.length ∧ Q (.int (maxP ns)) H
theorem holdAll_ints {h : Heap} : ∀ {us : List Value} {ns : List Int}, IntsAre us ns → PySem.W.HoldAll h us ns
  | _, _, .nil => ⟨[], .nil⟩
  | _, _, .cons n t r => let ⟨as, q⟩ := holdAll_ints (h := h) r; ⟨[] ++ as, .cons (.int n t) q⟩
theorem cb_maxS {X : Cx} (hc : X.calm = true) (hu : X.A.units + 64 < cLine) : CallR X (.builtin "max") (rMaxS X.K) := by
  intro pins s σ H vs us Q I r h
  rcases h with h | ⟨a, ns, rfl, hs, hne, q⟩
  · exact cr_max hc pins s σ H vs us Q I r h
  · obtain ⟨its, rv, ht, _⟩ := I.tuple hs
    rw [Vals.ref1 r]
    cases ns with
    | nil => simp at hne
    | cons n ns =>
      refine PySem.W.max_tuple_datum (α := Int) (x := n) (xs := ns) (I.ok.hd hc) (show s.heap.IsTuple a its.toArray from ht) (holdAll_ints rv.ints) (by show X.A.units + 1 + 0 < cLine; omega) fun i v h' tk hv hh hk => ?_
      obtain ⟨as, rd⟩ := hh
      have e1 : PySem.W.maxOf n ns = maxP (n :: ns) := by
        show ns.foldl _ n = ns.foldl _ n
        congr 1
        funext a y
        show (if decide (a < y) = true then y else a) = if a < y then y else a
        by_cases h : a < y <;> simp [h]
      rw [e1] at rd
      generalize maxP (n :: ns) = mm at rd q
      have rd' : Reads h' v (.int mm) as := rd
      cases rd' with
      | int i t => exact ⟨.int mm, H, I.kept hk, ⟨_, rfl⟩, q⟩
def pMaxS : MB := fun xs μ P => match xs with | [x] => (match itemsOf x μ with | some ys => (match intsP ys with | some ns => ns ≠ [] ∧ P (.int (maxP ns)) μ | none => False) | none => False) | _ => False
instance : FB K (rMaxS K) pMaxS := ⟨fun d H μ xs vs P Q w r q k => by
  match xs, r, q with
  | [x], .cons r .nil, q =>
    unfold pMaxS at q
    simp only at q
    cases e : itemsOf x μ with
    | none => rw [e] at q; exact q.elim
    | some ys =>
      rw [e] at q
      simp only at q
      obtain ⟨a, vs, rfl, rv, hq⟩ := seq_of w r e
      cases e2 : intsP ys with
      | none => rw [e2] at q; exact q.elim
      | some ns =>
        rw [e2] at q
        obtain ⟨hne, q⟩ := q
        have ev := RVs.ints_of rv (intsP_of e2)
        subst ev
        have hl : 0 < ns.length := List.length_pos_iff.mpr hne
        rcases hq with hq | hq
        · exact .inl ⟨a, ns, rfl, hq, hl, fun m h1 h2 => by rw [maxP_uniq h1 h2]; exact k d H μ _ _ .refl w (.int _) q⟩
        · exact .inr ⟨a, ns, rfl, hq, hl, k d H μ _ _ .refl w (.int _) q⟩⟩
def boolsP : List PV → Option (List Bool)
  | [] => some []
  | .bl i :: xs => (boolsP xs).map (i :: ·)
  | _ => none
theorem boolsP_of : ∀ {xs : List PV} {ns : List Bool}, boolsP xs = some ns → xs = ns.map PV.bl
  | [], ns, h => by cases h; rfl
  | x :: xs, ns, h => by
    cases x <;> simp [boolsP] at h
    obtain ⟨ms, e, rfl⟩ := h
    rw [boolsP_of e]; rfl
theorem boolsP_map : ∀ (ns : List Bool), boolsP (ns.map PV.bl) = some ns
  | [] => rfl
  | n :: ns => by simp [boolsP, boolsP_map ns]
def pAll : MB := fun xs μ P => match xs with | [.lst ys] => (match boolsP ys with | some bs => P (.bl (bs.all id)) μ | none => False) | _ => False
def pAny : MB := fun xs μ P => match xs with | [.lst ys] => (match boolsP ys with | some bs => P (.bl (bs.any id)) μ | none => False) | _ => False
instance : FB K (rAll K) pAll := ⟨fun d H μ xs vs P Q w r q k => by
  match xs, r, q with
  | [.lst ys], .cons (.lst (a := a) h1 h2) .nil, q =>
    unfold pAll at q
    simp only at q
    cases e2 : boolsP ys with
    | none => rw [e2] at q; exact q.elim
    | some ns =>
      rw [e2] at q
      have ev := boolsP_of e2
      subst ev
      have ev := RVs.bools h2
      subst ev
      exact ⟨a, ns, rfl, h1.sq, k d H μ _ _ .refl w (.bl _) q⟩⟩
instance : FB K (rAny K) pAny := ⟨fun d H μ xs vs P Q w r q k => by
  match xs, r, q with
  | [.lst ys], .cons (.lst (a := a) h1 h2) .nil, q =>
    unfold pAny at q
    simp only at q
    cases e2 : boolsP ys with
    | none => rw [e2] at q; exact q.elim
    | some ns =>
      rw [e2] at q
      have ev := boolsP_of e2
      subst ev
      have ev := RVs.bools h2
      subst ev
      exact ⟨a, ns, rfl, h1.sq, k d H μ _ _ .refl w (.bl _) q⟩⟩
def rTupOf (K : PySem.W.Frag) : List V → Hp → VK → Prop := fun xs H Q => ∃ p ys, xs = [.ref p] ∧ ((SqL K H p ys ∧ MadeT H ys Q) ∨ (SqT K H p ys ∧ Q (.ref p) H))
theorem cb_tup {X : Cx} : CallR X (.type "tuple") (rTupOf X.K) := call_tuple_ofF
def pTupOf : MB := fun xs μ P => match xs with | [x] => (match itemsOf x μ with | some ys => P (.tup ys) μ | none => False) | _ => False
instance : FB K (rTupOf K) pTupOf := ⟨fun d H μ xs vs P Q w r q k => by
  match xs, r, q with
  | [x], .cons r .nil, q =>
    unfold pTupOf at q
    simp only at q
    cases e : itemsOf x μ with
    | none => rw [e] at q; exact q.elim
    | some ys =>
      rw [e] at q
      simp only at q
      match x, r, e with
      | .tup zs, r, e =>
        cases e
        cases r with
        | tup h1 h2 => exact ⟨_, _, rfl, .inr ⟨h1.sq, k d H μ _ _ .refl w (.tup h1 h2) q⟩⟩
      | .lst zs, r, e =>
        obtain ⟨a, vs, rfl, rv, hq⟩ := seqL_of w r e (by rintro _ ⟨⟩)
        exact ⟨a, vs, rfl, .inl ⟨hq, fun p o hp hc hd => k d _ μ _ _ (Ext.lay w hp) (w.lay hp) (lay_tup w rv hp hc hd) q⟩⟩
      | .kl zs, r, e =>
        obtain ⟨a, vs, rfl, rv, hq⟩ := seqL_of w r e (by rintro _ ⟨⟩)
        exact ⟨a, vs, rfl, .inl ⟨hq, fun p o hp hc hd => k d _ μ _ _ (Ext.lay w hp) (w.lay hp) (lay_tup w rv hp hc hd) q⟩⟩
      | .mr n, r, e =>
        obtain ⟨a, vs, rfl, rv, hq⟩ := seqL_of w r e (by rintro _ ⟨⟩)
        exact ⟨a, vs, rfl, .inl ⟨hq, fun p o hp hc hd => k d _ μ _ _ (Ext.lay w hp) (w.lay hp) (lay_tup w rv hp hc hd) q⟩⟩⟩
def rLstOf (K : PySem.W.Frag) : List V → Hp → VK → Prop := fun xs H Q => ∃ p ys, xs = [.ref p] ∧ (SqL K H p ys ∨ SqT K H p ys) ∧ ∀ l, H l = none → Q (.ref l) (upd H l (.lst ys))
theorem cb_lst {X : Cx} : CallR X (.type "list") (rLstOf X.K) := call_list_of
def pLstOf : MB := fun xs μ P => match xs with | [x] => (match itemsOf x μ with | some ys => P (.lst ys) μ | none => False) | _ => False
def pLstOfM : MB := fun xs μ P => match xs with | [x] => (match itemsOf x μ with | some ys => P (.mr μ.length) (μ ++ [.lst ys]) | none => False) | _ => False
instance : FB K (rLstOf K) pLstOf := ⟨fun d H μ xs vs P Q w r q k => by
  match xs, r, q with
  | [x], .cons r .nil, q =>
    unfold pLstOf at q
    simp only at q
    cases e : itemsOf x μ with
    | none => rw [e] at q; exact q.elim
    | some ys =>
      rw [e] at q
      obtain ⟨a, vs, rfl, rv, hq⟩ := seq_of w r e
      exact ⟨a, vs, rfl, hq, fun p hp => k d _ μ _ _ (Ext.lay w hp) (w.lay hp) (lay_lst w rv hp) q⟩⟩
class FR (K : PySem.W.Frag) (t : L2.St → Hp → (Int → Int → Hp → Prop) → Prop) (m : outParam (PEnv → Store → (Int → Int → Store → Prop) → Prop)) : Prop where
  run : ∀ (d : Wd) (σ : L2.St) (H : Hp) (ρ : PEnv) (μ : Store) (P : Int → Int → Store → Prop) (Q : Int → Int → Hp → Prop), WOk K d H μ → REnv K d H ρ σ → m ρ μ P →
    (∀ d' H' μ' i j, Ext d H d' H' → WOk K d' H' μ' → P i j μ' → Q i j H') → t σ H Q
def mRg1 (a : ME) : PEnv → Store → (Int → Int → Store → Prop) → Prop := fun ρ μ P => a ρ μ fun x μ1 => match x with | .int n => P 0 n μ1 | _ => False
def mRg2 (a b : ME) : PEnv → Store → (Int → Int → Store → Prop) → Prop := fun ρ μ P => a ρ μ fun x μ1 => b ρ μ1 fun y μ2 => match x, y with | .int i, .int j => P i j μ2 | _, _ => False
instance {a m} [h : FE K a m] : FR K (tRg1 a) (mRg1 m) := ⟨fun d σ H ρ μ P Q w e q k => by
  refine h.run d σ H ρ μ _ _ w e q fun d1 H1 μ1 x v e1 w1 r1 q1 => ?_
  cases x <;> try exact q1.elim
  cases r1
  exact ⟨_, rfl, k d1 H1 μ1 _ _ e1 w1 q1⟩⟩
instance {a b m n} [h : FE K a m] [h' : FE K b n] : FR K (tRg2 a b) (mRg2 m n) := ⟨fun d σ H ρ μ P Q w e q k => by
  refine h.run d σ H ρ μ _ _ w e q fun d1 H1 μ1 x v e1 w1 r1 q1 => ?_
  refine h'.run d1 σ H1 ρ μ1 _ _ w1 (e.mono e1) q1 fun d2 H2 μ2 y u e2 w2 r2 q2 => ?_
  cases x <;> try exact q2.elim
  cases y <;> try exact q2.elim
  cases r1; cases r2
  exact ⟨_, _, rfl, rfl, k d2 H2 μ2 _ _ (e1.trans e2) w2 q2⟩⟩
def mTupRg (m : PEnv → Store → (Int → Int → Store → Prop) → Prop) : ME := fun ρ μ P => m ρ μ fun i j μ1 => (-1000000 ≤ i ∧ i ≤ 1000000 ∧ -1000000 ≤ j ∧ j ≤ 1000000) ∧ P (.tup (rangeP i (j - i).toNat)) μ1
theorem rvs_rg (i j : Int) : RVs K d H (rangeP i (j - i).toNat) (rgV i j) := by
  unfold rangeP rgV
  generalize List.range (j - i).toNat = l
  induction l with
  | nil => exact .nil
  | cons x l ih => exact .cons (.int _) ih
instance {t m} [h : FR K t m] : FE K (tTupRgB t) (mTupRg m) := ⟨fun d σ H ρ μ P Q w e q k => by
  refine h.run d σ H ρ μ _ _ w e q fun d1 H1 μ1 i j e1 w1 ⟨z, q1⟩ => ⟨⟨by omega, by omega, by omega, by omega, by omega⟩, fun p o hp hc hd => ?_⟩
  exact k d1 _ μ1 _ _ (e1.trans (Ext.lay w1 hp)) (w1.lay hp) (lay_tup w1 (rvs_rg i j) hp hc hd) q1⟩
end
end Fx
namespace Fx
open PySem PySem.Spec PyProof.Rows L2 RZ
section
variable {K : PySem.W.Frag} {d d' : Wd} {H H' : Hp} {a b : Addr} {vs us : List V} {xs ys : List PV} {μ : Store}
def lstItems (x : PV) (μ : Store) : Option (List PV) := match x with
  | .lst xs => some xs
  | .mr n => match μ[n]? with | some (.lst xs) => some xs | _ => none
  | _ => none
theorem lst_of {x : PV} {v : V} (w : WOk K d H μ) (r : RV K d H x v) (h : lstItems x μ = some xs) : ∃ a vs, v = .ref a ∧ RVs K d H xs vs ∧ H a = some (.lst vs) := by
  cases r with
  | lst h1 h2 => cases h; exact ⟨_, _, rfl, h2, h1.1⟩
  | @mr n a h1 =>
    unfold lstItems at h
    cases e : μ[n]? with
    | none => simp [e] at h
    | some m =>
      cases m with
      | lst zs =>
        simp [e] at h
        subst h
        obtain ⟨vs, q, r⟩ := w.obj h1 e
        exact ⟨_, _, rfl, r, q⟩
      | dk _ => simp [e] at h
      | fd _ _ _ => simp [e] at h
      | tk _ => simp [e] at h
      | nk _ => simp [e] at h
      | ft _ _ _ => simp [e] at h
      | fn _ _ _ => simp [e] at h
  | _ => cases h
def rPlus (K : PySem.W.Frag) : R2 := fun x y H Q => rI0 (fun i j => .int (i + j)) x y H Q ∨ rCatF K x y H Q ∨ rCat x y H Q
theorem op_plus {X : Cx} : OpR X (binaryOp .Add) (rPlus X.K) := OpR.or op_add (OpR.or op_catF op_cat)
def pPlus : MO2 := fun x y μ P => match x, y with
  | .int i, .int j => P (.int (i + j)) μ
  | .tup xs, .tup ys => xs.length + ys.length ≤ lim ∧ P (.tup (xs ++ ys)) μ
  | _, _ => match lstItems x μ, lstItems y μ with | some xs, some ys => xs.length + ys.length ≤ lim ∧ P (.lst (xs ++ ys)) μ | _, _ => False
def rPlusM (K : PySem.W.Frag) : R2 := rPlus K
theorem op_plusM {X : Cx} : OpR X (binaryOp .Add) (rPlusM X.K) := op_plus
def pPlusM : MO2 := fun x y μ P => match lstItems x μ, lstItems y μ with | some xs, some ys => xs.length + ys.length ≤ lim ∧ P (.mr μ.length) (μ ++ [.lst (xs ++ ys)]) | _, _ => False
theorem cat_run {x y : PV} {v u : V} {P : PV → Store → Prop} {Q : VK} (w : WOk K d H μ) (r1 : RV K d H x v) (r2 : RV K d H y u) (q : match lstItems x μ, lstItems y μ with | some xs, some ys => xs.length + ys.length ≤ lim ∧ P (.lst (xs ++ ys)) μ | _, _ => False)
    (k : ∀ d' H' μ' z w', Ext d H d' H' → WOk K d' H' μ' → RV K d' H' z w' → P z μ' → Q w' H') : rCat v u H Q := by
  cases e1 : lstItems x μ with
  | none => rw [e1] at q; exact q.elim
  | some xs =>
    cases e2 : lstItems y μ with
    | none => rw [e1, e2] at q; exact q.elim
    | some ys =>
      rw [e1, e2] at q
      obtain ⟨a, vs, rfl, rv, h1⟩ := lst_of w r1 e1
      obtain ⟨b, us, rfl, ru, h2⟩ := lst_of w r2 e2
      exact ⟨a, b, vs, us, rfl, rfl, h1, h2, by rw [← rv.length, ← ru.length]; exact lim_lt q.1, fun p hp => k d _ μ _ _ (Ext.lay w hp) (w.lay hp) (lay_lst w (rv.append ru) hp) q.2⟩
instance : F2 K (rPlus K) pPlus := ⟨fun d H μ x y v u P Q w r1 r2 q k => by
  match x, y, r1, r2, q with
  | .int i, .int j, .int _, .int _, q => exact .inl ⟨i, j, rfl, rfl, k d H μ _ _ .refl w (.int _) q⟩
  | .tup xs, .tup ys, .tup (a := a) (vs := vs) h1 h2, .tup (a := b) (vs := us) h3 h4, ⟨z, q⟩ =>
    refine .inr (.inl ⟨a, b, vs, us, rfl, rfl, h1.sq, h3.sq, by rw [← h2.length, ← h4.length]; exact lim_lt z, fun e => ?_, fun e1 e2 => ?_, fun e1 e2 p o hp hc hd => ?_⟩)
    · subst e
      cases h2
      exact k d H μ _ _ .refl w (.tup h3 h4) (by simpa using q)
    · subst e2
      cases h4
      exact k d H μ _ _ .refl w (.tup h1 h2) (by simpa using q)
    · exact k d _ μ _ _ (Ext.lay w hp) (w.lay hp) (lay_tup w (h2.append h4) hp hc hd) q
  | .lst xs, y, r1, r2, q => exact .inr (.inr (cat_run w r1 r2 (by cases y <;> exact q) k))
  | .mr xs, y, r1, r2, q => exact .inr (.inr (cat_run w r1 r2 (by cases y <;> exact q) k))⟩
instance : F2 K (rPlusM K) pPlusM := ⟨fun d H μ x y v u P Q w r1 r2 q k => by
  unfold pPlusM at q
  refine .inr (.inr ?_)
  cases e1 : lstItems x μ with
  | none => rw [e1] at q; exact q.elim
  | some xs =>
    cases e2 : lstItems y μ with
    | none => rw [e1, e2] at q; exact q.elim
    | some ys =>
      rw [e1, e2] at q
      obtain ⟨a, vs, rfl, rv, h1⟩ := lst_of w r1 e1
      obtain ⟨b, us, rfl, ru, h2⟩ := lst_of w r2 e2
      refine ⟨a, b, vs, us, rfl, rfl, h1, h2, by rw [← rv.length, ← ru.length]; exact lim_lt q.1, fun p hp => ?_⟩
      have ee := Ext.push (o := .lst (vs ++ us)) w hp
      exact k (d.push p) _ _ _ _ ee (w.push (m := .lst (xs ++ ys)) hp ⟨_, upd_same, (rv.append ru).mono ee⟩) (lay_mr w) q.2⟩
def CMulX (i j : Int) : Prop := i.natAbs.log2 + j.natAbs.log2 < 100000000
theorem CMulX.ok {i j : Int} (h : CMulX i j) : IntMulOk i j := by
  have b : ∀ x : Int, Builtin.Int.intBits x ≤ x.natAbs.log2 + 1 := fun x => by
    unfold Builtin.Int.intBits
    split <;> omega
  have h1 := b i
  have h2 := b j
  have h3 : i.natAbs.log2 + j.natAbs.log2 < 100000000 := h
  have e : bitsLine = 134217728 := by decide
  unfold IntMulOk
  intro z
  rw [Bool.and_eq_true] at z
  have z2 := z.2
  unfold Builtin.Int.intTooBig at z2
  have z3 := of_decide_eq_true z2
  rw [e] at z3
  omega
theorem op_mulXX {X : Cx} : OpR X (binaryOp .Mult) (rI CMulX fun i j => .int (i * j)) := opI fun _ _ _ _ _ _ _ hc q => mul_int q hc.ok
def MulOk (i j : Int) : Prop := CMul i j ∨ CMulX i j
theorem op_mulX {X : Cx} : OpR X (binaryOp .Mult) (rI MulOk fun i j => .int (i * j)) := by
  intro pins s σ H x y v u Q I rx ry h
  obtain ⟨i, j, e1, e2, c, q⟩ := h
  rcases c with c | c
  · exact op_mul pins s σ H x y v u Q I rx ry ⟨i, j, e1, e2, c, q⟩
  · exact op_mulXX pins s σ H x y v u Q I rx ry ⟨i, j, e1, e2, c, q⟩
def DivOk (i j : Int) : Prop := (0 < j ∧ j.natAbs.log2 < 9000) ∨ (j < 0 ∧ j.natAbs < 1073741824)
theorem op_divX {X : Cx} : OpR X (binaryOp .FloorDiv) (rI DivOk fun i j => .int (i.fdiv j)) := by
  intro pins s σ H x y v u Q I rx ry h
  obtain ⟨i, j, e1, e2, c, q⟩ := h
  rcases c with c | c
  · have q : Q (.int (i.fdiv j)) H := q
    rw [Int.fdiv_eq_ediv_of_nonneg i (by omega : 0 ≤ j)] at q
    exact op_fdivW pins s σ H x y v u Q I rx ry ⟨i, j, e1, e2, c, q⟩
  · exact op_fdivN pins s σ H x y v u Q I rx ry ⟨i, j, e1, e2, ⟨by omega, c.2⟩, q⟩
def mBM (p : PV → List PV → Store → (PV → Store → Prop) → Prop) (mo : ME) (ma : MA) : ME := fun ρ μ P => mo ρ μ fun x μ1 => match x with | .mr n => (match μ1[n]? with | some (.lst _) => ma ρ μ1 fun xs μ2 => p (.mr n) xs μ2 P | _ => False) | _ => False
instance {r p to mo t ma} [h : FM K r p] [ho : FE K to mo] [ha : FA K t ma] : FE K (tBM K "list" r to t) (mBM p mo ma) := ⟨fun d σ H ρ μ P Q w e q k => by
  refine ho.run d σ H ρ μ _ _ w e q fun d1 H1 μ1 x v e1 w1 r1 q1 => ?_
  cases r1 with
  | @mr n a h1 =>
    simp only at q1
    cases e2 : μ1[n]? with
    | none => rw [e2] at q1; exact q1.elim
    | some m =>
      cases m with
      | dk _ => rw [e2] at q1; exact q1.elim
      | fd _ _ _ => rw [e2] at q1; exact q1.elim
      | tk _ => rw [e2] at q1; exact q1.elim
      | nk _ => rw [e2] at q1; exact q1.elim
      | ft _ _ _ => rw [e2] at q1; exact q1.elim
      | fn _ _ _ => rw [e2] at q1; exact q1.elim
      | lst ys =>
        rw [e2] at q1
        obtain ⟨vs, q, _⟩ := w1.obj h1 e2
        refine ⟨.inl ⟨rfl, vs, .of q⟩, ?_⟩
        refine ha.run d1 σ H1 ρ μ1 _ _ w1 (e.mono e1) q1 fun d3 H3 μ3 xs us e3 w3 r3 q3 => ?_
        exact h.run d3 H3 μ3 (.mr n) (.ref a) xs us P Q w3 (.mr (e3.at h1)) r3 q3 fun d4 H4 μ4 z w' e4 => k d4 H4 μ4 z w' ((e1.trans e3).trans e4)
  | _ => exact q1.elim⟩
def mBM0 (p : PV → List PV → Store → (PV → Store → Prop) → Prop) (mo : ME) : ME := fun ρ μ P => mo ρ μ fun x μ1 => match x with | .mr n => (match μ1[n]? with | some (.lst _) => p (.mr n) [] μ1 P | _ => False) | _ => False
instance {r p to mo} [h : FM K r p] [ho : FE K to mo] : FE K (tBM0 K "list" r to) (mBM0 p mo) := ⟨fun d σ H ρ μ P Q w e q k => by
  refine ho.run d σ H ρ μ _ _ w e q fun d1 H1 μ1 x v e1 w1 r1 q1 => ?_
  cases r1 with
  | @mr n a h1 =>
    simp only at q1
    cases e2 : μ1[n]? with
    | none => rw [e2] at q1; exact q1.elim
    | some m =>
      cases m with
      | dk _ => rw [e2] at q1; exact q1.elim
      | fd _ _ _ => rw [e2] at q1; exact q1.elim
      | tk _ => rw [e2] at q1; exact q1.elim
      | nk _ => rw [e2] at q1; exact q1.elim
      | ft _ _ _ => rw [e2] at q1; exact q1.elim
      | fn _ _ _ => rw [e2] at q1; exact q1.elim
      | lst ys =>
        rw [e2] at q1
        obtain ⟨vs, q, _⟩ := w1.obj h1 e2
        refine ⟨.inl ⟨rfl, vs, .of q⟩, ?_⟩
        exact h.run d1 H1 μ1 (.mr n) (.ref a) [] [] P Q w1 (.mr h1) .nil q1 fun d4 H4 μ4 z w' e4 => k d4 H4 μ4 z w' (e1.trans e4)
  | _ => exact q1.elim⟩
def pAppend : PV → List PV → Store → (PV → Store → Prop) → Prop := fun x zs μ P => match x, zs with | .mr n, [y] => (match μ[n]? with | some (.lst xs) => xs.length ≤ lim ∧ P .non (μ.set n (.lst (xs ++ [y]))) | _ => False) | _, _ => False
theorem chg_list {n : Nat} {zs : List PV} {ws vs : List V} (w : WOk K d H μ) (h : d.am[n]? = some a) (r : RVs K d H zs ws) : Ext d H d (upd H a (.lst ws)) ∧ WOk K d (upd H a (.lst ws)) (μ.set n (.lst zs)) := by
  have ha : a ∈ d.am := List.mem_of_getElem? h
  have e : Ext d H d (upd H a (.lst ws)) := Ext.chg ha
  exact ⟨e, w.chg h ⟨ws, upd_same, r.mono e⟩⟩
instance : FM K rAppend pAppend := ⟨fun d H μ x v zs us P Q w r rs q k => by
  match x, zs, r, rs, q with
  | .mr n, [y], .mr (a := a) h1, .cons (v := u) ry .nil, q =>
    simp only [pAppend] at q
    cases e : μ[n]? with
    | none => rw [e] at q; exact q.elim
    | some m =>
      cases m with
      | dk _ => rw [e] at q; exact q.elim
      | fd _ _ _ => rw [e] at q; exact q.elim
      | tk _ => rw [e] at q; exact q.elim
      | nk _ => rw [e] at q; exact q.elim
      | ft _ _ _ => rw [e] at q; exact q.elim
      | fn _ _ _ => rw [e] at q; exact q.elim
      | lst xs =>
        rw [e] at q
        obtain ⟨vs, hq, rv⟩ := w.obj h1 e
        obtain ⟨e1, w1⟩ := chg_list (vs := vs) w h1 (rv.append (.cons ry .nil))
        exact ⟨a, vs, u, rfl, rfl, hq, by rw [← rv.length]; exact lim_lt' q.1, k d _ _ _ _ e1 w1 .non q.2⟩⟩
def pExtend : PV → List PV → Store → (PV → Store → Prop) → Prop := fun x zs μ P => match x, zs with | .mr n, [y] => (match μ[n]?, lstItems y μ with | some (.lst xs), some ys => xs.length + ys.length ≤ lim ∧ P .non (μ.set n (.lst (xs ++ ys))) | _, _ => False) | _, _ => False
instance : FM K rExtend pExtend := ⟨fun d H μ x v zs us P Q w r rs q k => by
  match x, zs, r, rs, q with
  | .mr n, [y], .mr (a := a) h1, .cons (v := u) ry .nil, q =>
    simp only [pExtend] at q
    cases e : μ[n]? with
    | none => rw [e] at q; exact q.elim
    | some m =>
      cases m with
      | dk _ => rw [e] at q; exact q.elim
      | fd _ _ _ => rw [e] at q; exact q.elim
      | tk _ => rw [e] at q; exact q.elim
      | nk _ => rw [e] at q; exact q.elim
      | ft _ _ _ => rw [e] at q; exact q.elim
      | fn _ _ _ => rw [e] at q; exact q.elim
      | lst xs =>
        rw [e] at q
        cases e2 : lstItems y μ with
        | none => rw [e2] at q; exact q.elim
        | some ys =>
          rw [e2] at q
          obtain ⟨vs, hq, rv⟩ := w.obj h1 e
          obtain ⟨b, ws, rfl, rw', hb⟩ := lst_of w ry e2
          obtain ⟨e1, w1⟩ := chg_list (vs := vs) w h1 (rv.append rw')
          exact ⟨a, b, vs, ws, rfl, rfl, hq, hb, by rw [← rv.length, ← rw'.length]; exact lim_lt q.1, k d _ _ _ _ e1 w1 .non q.2⟩⟩
theorem RVs.dropLast (r : RVs K d H xs vs) : RVs K d H xs.dropLast vs.dropLast := by
  rw [List.dropLast_eq_take, List.dropLast_eq_take, r.length]
  exact r.take _
def pPop : PV → List PV → Store → (PV → Store → Prop) → Prop := fun x zs μ P => match x, zs with | .mr n, [] => (match μ[n]? with | some (.lst xs) => (match xs[xs.length - 1]? with | some y => P y (μ.set n (.lst xs.dropLast)) | none => False) | _ => False) | _, _ => False
instance : FM K rPop pPop := ⟨fun d H μ x v zs us P Q w r rs q k => by
  match x, zs, r, rs, q with
  | .mr n, [], .mr (a := a) h1, .nil, q =>
    simp only [pPop] at q
    cases e : μ[n]? with
    | none => rw [e] at q; exact q.elim
    | some m =>
      cases m with
      | dk _ => rw [e] at q; exact q.elim
      | fd _ _ _ => rw [e] at q; exact q.elim
      | tk _ => rw [e] at q; exact q.elim
      | nk _ => rw [e] at q; exact q.elim
      | ft _ _ _ => rw [e] at q; exact q.elim
      | fn _ _ _ => rw [e] at q; exact q.elim
      | lst xs =>
        rw [e] at q
        simp only at q
        obtain ⟨vs, hq, rv⟩ := w.obj h1 e
        cases e2 : xs[xs.length - 1]? with
        | none => rw [e2] at q; exact q.elim
        | some y =>
          rw [e2] at q
          obtain ⟨u, hu, ry⟩ := rv.get e2
          obtain ⟨e1, w1⟩ := chg_list (vs := vs) w h1 rv.dropLast
          exact ⟨a, vs, u, rfl, rfl, hq, by rw [← rv.length]; exact hu, k d _ _ _ _ e1 w1 (ry.mono e1) q⟩⟩
class FSet (K : PySem.W.Frag) (r : TSet) (p : outParam (PV → PV → PV → Store → (Store → Prop) → Prop)) : Prop where
  run : ∀ (d : Wd) (H : Hp) (μ : Store) (x y z : PV) (v u t : V) (P : Store → Prop) (Q : Hp → Prop), WOk K d H μ → RV K d H x v → RV K d H y u → RV K d H z t → p x y z μ P →
    (∀ d' H' μ', Ext d H d' H' → WOk K d' H' μ' → P μ' → Q H') → r v u t H Q
def mSub (p : PV → PV → PV → Store → (Store → Prop) → Prop) (mo mi : ME) : MG := fun z ρ μ P => mo ρ μ fun x μ1 => mi ρ μ1 fun y μ2 => p x y z μ2 fun μ3 => P ρ μ3
instance {to ti t mo mi p} [h : FSet K t p] [ho : FE K to mo] [hi : FE K ti mi] : FG K (gSub to ti t) (mSub p mo mi) [] := ⟨fun d σ H ρ μ x v P Q w e r q k => by
  refine ho.run d σ H ρ μ _ _ w e q fun d1 H1 μ1 y u e1 w1 r1 q1 => ?_
  refine hi.run d1 σ H1 ρ μ1 _ _ w1 (e.mono e1) q1 fun d2 H2 μ2 z t e2 w2 r2 q2 => ?_
  exact h.run d2 H2 μ2 y z x u t v _ _ w2 (r1.mono e2) r2 (r.mono (e1.trans e2)) q2 fun d3 H3 μ3 e3 w3 q3 =>
    k d3 σ H3 ρ μ3 ((e1.trans e2).trans e3) w3 (e.mono ((e1.trans e2).trans e3)) rfl (fun _ _ => rfl) q3⟩
def pSetL : PV → PV → PV → Store → (Store → Prop) → Prop := fun x y z μ P => match x, y with | .mr n, .int i => (match μ[n]? with | some (.lst xs) => (match ixN xs.length i with | some j => P (μ.set n (.lst (xs.set j z))) | none => False) | _ => False) | _, _ => False
instance : FSet K rSetL pSetL := ⟨fun d H μ x y z v u t P Q w r1 r2 r3 q k => by
  match x, y, r1, r2, q with
  | .mr n, .int i, .mr (a := a) h1, .int _, q =>
    simp only [pSetL] at q
    cases e : μ[n]? with
    | none => rw [e] at q; exact q.elim
    | some m =>
      cases m with
      | dk _ => rw [e] at q; exact q.elim
      | fd _ _ _ => rw [e] at q; exact q.elim
      | tk _ => rw [e] at q; exact q.elim
      | nk _ => rw [e] at q; exact q.elim
      | ft _ _ _ => rw [e] at q; exact q.elim
      | fn _ _ _ => rw [e] at q; exact q.elim
      | lst xs =>
        rw [e] at q
        simp only at q
        obtain ⟨vs, hq, rv⟩ := w.obj h1 e
        cases e2 : ixN xs.length i with
        | none => rw [e2] at q; exact q.elim
        | some j =>
          rw [e2] at q
          obtain ⟨e1, w1⟩ := chg_list (vs := vs) w h1 (rv.set r3 j)
          exact ⟨a, vs, i, j, rfl, rfl, hq, by rw [← rv.length]; exact e2, k d _ _ e1 w1 q⟩⟩
def keyP : PV → Option Key
  | .int i => some (.inl i)
  | .str x => some (.inr x)
  | _ => none
theorem keyP_rv {x : PV} {v : V} {k : Key} (r : RV K d H x v) (h : keyP x = some k) : v = kV k := by
  cases r <;> simp [keyP] at h <;> subst h <;> rfl
def valP (kvs : List (Key × PV)) (k : Key) : Option PV := (kvs.find? fun kv => decide (kv.1 = k)).map (·.2)
def putP (kvs : List (Key × PV)) (k : Key) (v : PV) : List (Key × PV) :=
  if (kvs.any fun kv => decide (kv.1 = k)) = true then kvs.map (fun kv => if kv.1 = k then (kv.1, v) else kv) else kvs ++ [(k, v)]
def RKs (K : PySem.W.Frag) (d : Wd) (H : Hp) (kvs : List (Key × PV)) (ws : List (Key × V)) : Prop := ws.map (·.1) = kvs.map (·.1) ∧ RVs K d H (kvs.map (·.2)) (ws.map (·.2))
theorem RKs.nil : RKs K d H [] [] := ⟨rfl, .nil⟩
theorem RKs.cases {kvs : List (Key × PV)} {ws : List (Key × V)} (r : RKs K d H kvs ws) : (kvs = [] ∧ ws = []) ∨ ∃ k x v kvs' ws', kvs = (k, x) :: kvs' ∧ ws = (k, v) :: ws' ∧ RV K d H x v ∧ RKs K d H kvs' ws' := by
  obtain ⟨h1, h2⟩ := r
  cases kvs with
  | nil => simp at h1; exact .inl ⟨rfl, h1⟩
  | cons p kvs =>
    cases ws with
    | nil => simp at h1
    | cons q ws =>
      obtain ⟨k, x⟩ := p
      obtain ⟨k', v⟩ := q
      simp only [List.map_cons, List.cons.injEq] at h1
      obtain ⟨e, h1⟩ := h1
      subst e
      cases h2 with
      | cons r t => exact .inr ⟨_, _, _, _, _, rfl, rfl, r, h1, t⟩
theorem RKs.cons {k : Key} {x : PV} {v : V} {kvs : List (Key × PV)} {ws : List (Key × V)} (r : RV K d H x v) (t : RKs K d H kvs ws) : RKs K d H ((k, x) :: kvs) ((k, v) :: ws) :=
  ⟨by simp only [List.map_cons, t.1], .cons r t.2⟩
theorem RKs.val {k : Key} : ∀ {kvs : List (Key × PV)} {ws : List (Key × V)}, RKs K d H kvs ws → (valP kvs k = none ∧ valV ws k = none) ∨ ∃ x v, valP kvs k = some x ∧ valV ws k = some v ∧ RV K d H x v
  | [], ws, r => by
    rcases r.cases with ⟨_, e⟩ | ⟨_, _, _, _, _, e, _⟩
    · subst e; exact .inl ⟨rfl, rfl⟩
    · cases e
  | p :: kvs, ws, r => by
    rcases r.cases with ⟨e, _⟩ | ⟨k', x, v, kvs', ws', e1, e2, r1, t⟩
    · cases e
    · cases e1; subst e2
      by_cases h : k' = k
      · subst h
        exact .inr ⟨x, v, by simp [valP], by simp [valV], r1⟩
      · have := RKs.val (k := k) t
        have a1 : valP ((k', x) :: kvs) k = valP kvs k := by simp [valP, List.find?_cons, h]
        have a2 : valV ((k', v) :: ws') k = valV ws' k := by simp [valV, List.find?_cons, h]
        rw [a1, a2]; exact this
theorem RKs.len {kvs : List (Key × PV)} {ws : List (Key × V)} (r : RKs K d H kvs ws) : kvs.length = ws.length := by
  have := congrArg List.length r.1
  simpa using this.symm
theorem RKs.append : ∀ {kvs kvs' : List (Key × PV)} {ws ws' : List (Key × V)}, RKs K d H kvs ws → RKs K d H kvs' ws' → RKs K d H (kvs ++ kvs') (ws ++ ws') := fun r t => by
  refine ⟨by rw [List.map_append, List.map_append, r.1, t.1], ?_⟩
  rw [List.map_append, List.map_append]
  exact r.2.append t.2
theorem RKs.any {k : Key} {kvs : List (Key × PV)} {ws : List (Key × V)} (r : RKs K d H kvs ws) : (ws.any fun kv => decide (kv.1 = k)) = kvs.any fun kv => decide (kv.1 = k) := by
  have e1 : ∀ l : List (Key × V), (l.any fun kv => decide (kv.1 = k)) = (l.map (·.1)).any fun z => decide (z = k) := fun l => by rw [List.any_map]; rfl
  have e2 : ∀ l : List (Key × PV), (l.any fun kv => decide (kv.1 = k)) = (l.map (·.1)).any fun z => decide (z = k) := fun l => by rw [List.any_map]; rfl
  rw [e1, e2, r.1]
theorem RKs.upd1 {k : Key} {x : PV} {v : V} (rx : RV K d H x v) : ∀ {kvs : List (Key × PV)} {ws : List (Key × V)}, RKs K d H kvs ws → RKs K d H (kvs.map (fun kv => if kv.1 = k then (kv.1, x) else kv)) (ws.map (fun kv => if kv.1 = k then (kv.1, v) else kv))
  | [], ws, r => by
    rcases r.cases with ⟨_, e⟩ | ⟨_, _, _, _, _, e, _⟩
    · subst e; exact .nil
    · cases e
  | p :: kvs, ws, r => by
    rcases r.cases with ⟨e, _⟩ | ⟨k', x', v', kvs', ws', e1, e2, r1, t⟩
    · cases e
    · cases e1; subst e2
      rw [List.map_cons, List.map_cons]
      by_cases h : k' = k
      · simp only [h, if_true]
        exact .cons rx (RKs.upd1 rx t)
      · simp only [h, if_false]
        exact .cons r1 (RKs.upd1 rx t)
theorem RKs.put {k : Key} {x : PV} {v : V} (rx : RV K d H x v) {kvs : List (Key × PV)} {ws : List (Key × V)} (r : RKs K d H kvs ws) : RKs K d H (putP kvs k x) (putK ws k v) := by
  unfold putP putK
  rw [r.any]
  split
  · exact r.upd1 rx
  · exact r.append (.cons rx .nil)
theorem RKs.mono (e : Ext d H d' H') {kvs : List (Key × PV)} {ws : List (Key × V)} (r : RKs K d H kvs ws) : RKs K d' H' kvs ws := ⟨r.1, r.2.mono e⟩
def dictOfP (x : PV) (μ : Store) : Option (List (Key × PV)) := match x with | .mr n => (match μ[n]? with | some (.dk kvs) => some kvs | some (.fd _ _ kvs) => some kvs | _ => none) | _ => none
theorem dict_of {x : PV} {v : V} {kvs : List (Key × PV)} (w : WOk K d H μ) (r : RV K d H x v) (h : dictOfP x μ = some kvs) : ∃ n a ws, x = .mr n ∧ v = .ref a ∧ d.am[n]? = some a ∧ Rd H a (.dK ws) ∧ RKs K d H kvs ws := by
  cases r with
  | @mr n a h1 =>
    unfold dictOfP at h
    cases e : μ[n]? with
    | none => simp [e] at h
    | some m =>
      cases m with
      | lst zs => simp [e] at h
      | tk _ => simp [e] at h
      | nk _ => simp [e] at h
      | ft _ _ _ => simp [e] at h
      | fn _ _ _ => simp [e] at h
      | dk zs =>
        simp [e] at h
        subst h
        obtain ⟨ws, q, r1, r2⟩ := w.obj h1 e
        exact ⟨n, a, ws, rfl, rfl, h1, .inl q, r1, r2⟩
      | fd o ws zs =>
        simp [e] at h
        subst h
        obtain ⟨q, r1, r2⟩ := w.obj h1 e
        exact ⟨n, a, ws, rfl, rfl, h1, .inr ⟨o, q⟩, r1, r2⟩
  | _ => cases h
def mDGet (md my : ME) : ME := fun ρ μ P => md ρ μ fun x μ1 => my ρ μ1 fun y μ2 => match dictOfP x μ2, keyP y with | some kvs, some k => (match valP kvs k with | some v => P v μ2 | none => False) | _, _ => False
instance {td ty md my} [hd : FE K td md] [hy : FE K ty my] : FE K (tDGet td ty) (mDGet md my) := ⟨fun d σ H ρ μ P Q w e q k => by
  refine hd.run d σ H ρ μ _ _ w e q fun d1 H1 μ1 x v e1 w1 r1 q1 => ?_
  refine hy.run d1 σ H1 ρ μ1 _ _ w1 (e.mono e1) q1 fun d2 H2 μ2 y u e2 w2 r2 q2 => ?_
  cases a1 : dictOfP x μ2 with
  | none => rw [a1] at q2; exact q2.elim
  | some kvs =>
    cases a2 : keyP y with
    | none => rw [a1, a2] at q2; exact q2.elim
    | some kk =>
      rw [a1, a2] at q2
      simp only at q2
      obtain ⟨n, a, ws, rfl, rfl, _, hq, rk⟩ := dict_of w2 (r1.mono e2) a1
      obtain rfl := keyP_rv r2 a2
      rcases rk.val (k := kk) with ⟨z, _⟩ | ⟨x, v, z1, z2, rv⟩
      · rw [z] at q2; exact q2.elim
      · rw [z1] at q2
        exact ⟨a, v, rfl, .inl ⟨ws, kk, hq, rfl, z2.symm⟩, k d2 H2 μ2 _ _ (e1.trans e2) w2 rv q2⟩⟩
def mDIn (neg : Bool) (my md : ME) : ME := fun ρ μ P => my ρ μ fun y μ1 => md ρ μ1 fun x μ2 => match dictOfP x μ2, keyP y with | some kvs, some k => P (.bl (if neg then !(valP kvs k).isSome else (valP kvs k).isSome)) μ2 | _, _ => False
theorem din_run {x y : PV} {v u : V} {P : Option PV → Prop} {Q : Option V → Addr → Prop} (w : WOk K d H μ) (r1 : RV K d H x v) (r2 : RV K d H y u) (q : match dictOfP x μ, keyP y with | some kvs, some k => P (valP kvs k) | _, _ => False) :
    ∃ a o o', v = .ref a ∧ DGet H a u o ∧ o.isSome = o'.isSome ∧ P o' := by
  cases a1 : dictOfP x μ with
  | none => rw [a1] at q; exact q.elim
  | some kvs =>
    cases a2 : keyP y with
    | none => rw [a1, a2] at q; exact q.elim
    | some kk =>
      rw [a1, a2] at q
      obtain ⟨n, a, ws, rfl, rfl, _, hq, rk⟩ := dict_of w r1 a1
      obtain rfl := keyP_rv r2 a2
      refine ⟨a, valV ws kk, valP kvs kk, rfl, .inl ⟨ws, kk, hq, rfl, rfl⟩, ?_, q⟩
      rcases rk.val (k := kk) with ⟨z, z'⟩ | ⟨x, v, z1, z2, rv⟩
      · rw [z, z']; rfl
      · rw [z1, z2]; rfl
instance {td ty md my} [hd : FE K td md] [hy : FE K ty my] : FE K (tDIn ty td) (mDIn false my md) := ⟨fun d σ H ρ μ P Q w e q k => by
  refine hy.run d σ H ρ μ _ _ w e q fun d1 H1 μ1 y u e1 w1 r1 q1 => ?_
  refine hd.run d1 σ H1 ρ μ1 _ _ w1 (e.mono e1) q1 fun d2 H2 μ2 x v e2 w2 r2 q2 => ?_
  obtain ⟨a, o, o', rfl, g, eo, p⟩ := din_run (P := fun o => P (.bl o.isSome) μ2) (Q := fun _ _ => True) w2 r2 (r1.mono e2) q2
  exact ⟨a, o, rfl, g, by rw [eo]; exact k d2 H2 μ2 _ _ (e1.trans e2) w2 (.bl _) p⟩⟩
instance {td ty md my} [hd : FE K td md] [hy : FE K ty my] : FE K (tDNotIn ty td) (mDIn true my md) := ⟨fun d σ H ρ μ P Q w e q k => by
  refine hy.run d σ H ρ μ _ _ w e q fun d1 H1 μ1 y u e1 w1 r1 q1 => ?_
  refine hd.run d1 σ H1 ρ μ1 _ _ w1 (e.mono e1) q1 fun d2 H2 μ2 x v e2 w2 r2 q2 => ?_
  obtain ⟨a, o, o', rfl, g, eo, p⟩ := din_run (P := fun o => P (.bl (!o.isSome)) μ2) (Q := fun _ _ => True) w2 r2 (r1.mono e2) q2
  exact ⟨a, o, rfl, g, by rw [eo]; exact k d2 H2 μ2 _ _ (e1.trans e2) w2 (.bl _) p⟩⟩
def mDPut (md my mv : ME) : MS := fun P ρ μ => mv ρ μ fun z μ1 => md ρ μ1 fun x μ2 => my ρ μ2 fun y μ3 => match x, keyP y with | .mr n, some k => (match μ3[n]? with | some (.dk kvs) => kvs.length ≤ lim ∧ P.nx ρ (μ3.set n (.dk (putP kvs k z))) | _ => False) | _, _ => False
instance {td ty tv md my mv} [hd : FE K td md] [hy : FE K ty my] [hv : FE K tv mv] : FS K (sDPut td ty tv) (mDPut md my mv) := ⟨fun d σ H ρ μ P D w e q l => by
  refine hv.run d σ H ρ μ _ _ w e q fun d1 H1 μ1 z t e1 w1 r1 q1 => ?_
  refine hd.run d1 σ H1 ρ μ1 _ _ w1 (e.mono e1) q1 fun d2 H2 μ2 x v e2 w2 r2 q2 => ?_
  refine hy.run d2 σ H2 ρ μ2 _ _ w2 (e.mono (e1.trans e2)) q2 fun d3 H3 μ3 y u e3 w3 r3 q3 => ?_
  cases r2 with
  | @mr n a h1 =>
    cases a2 : keyP y with
    | none => rw [a2] at q3; exact q3.elim
    | some kk =>
      rw [a2] at q3
      simp only at q3
      cases a3 : μ3[n]? with
      | none => rw [a3] at q3; exact q3.elim
      | some m =>
        cases m with
        | lst _ => rw [a3] at q3; exact q3.elim
        | fd _ _ _ => rw [a3] at q3; exact q3.elim
        | tk _ => rw [a3] at q3; exact q3.elim
        | nk _ => rw [a3] at q3; exact q3.elim
        | ft _ _ _ => rw [a3] at q3; exact q3.elim
        | fn _ _ _ => rw [a3] at q3; exact q3.elim
        | dk kvs =>
          rw [a3] at q3
          have h3 := e3.at h1
          obtain ⟨ws, hq, rk1, rk2⟩ := w3.obj h3 a3
          have rk : RKs K d3 H3 kvs ws := ⟨rk1, rk2⟩
          obtain rfl := keyP_rv r3 a2
          have ha : a ∈ d3.am := List.mem_of_getElem? h3
          have ee : Ext d3 H3 d3 (upd H3 a (.dK (putK ws kk t))) := Ext.chg ha
          have rk' := (rk.put (k := kk) (r1.mono (e2.trans e3))).mono ee
          refine ⟨a, _, rfl, .inl ⟨ws, kk, hq, rfl, by rw [← rk.len]; exact lim_lt' q3.1, rfl⟩, ?_⟩
          exact l.nx d3 σ _ ρ _ (((e1.trans e2).trans e3).trans ee) (w3.chg (m := .dk (putP kvs kk z)) h3 ⟨_, upd_same, rk'.1, rk'.2⟩) (e.mono (((e1.trans e2).trans e3).trans ee)) q3.2
  | _ => exact q3.elim⟩
class FPs (K : PySem.W.Frag) (t : List (TE × TE)) (m : outParam (PEnv → Store → (List (PV × PV) → Store → Prop) → Prop)) : Prop where
  run : ∀ (d : Wd) (σ : L2.St) (H : Hp) (ρ : PEnv) (μ : Store) (P : List (PV × PV) → Store → Prop) (Q : List (V × V) → Hp → Prop), WOk K d H μ → REnv K d H ρ σ → m ρ μ P →
    (∀ d' H' μ' ps qs, Ext d H d' H' → WOk K d' H' μ' → RVs K d' H' (ps.map (·.1)) (qs.map (·.1)) → RVs K d' H' (ps.map (·.2)) (qs.map (·.2)) → P ps μ' → Q qs H') → tPairs t σ H Q
def mPs0 : PEnv → Store → (List (PV × PV) → Store → Prop) → Prop := fun _ μ P => P [] μ
def mPs (a b : ME) (r : PEnv → Store → (List (PV × PV) → Store → Prop) → Prop) : PEnv → Store → (List (PV × PV) → Store → Prop) → Prop := fun ρ μ P => a ρ μ fun x μ1 => b ρ μ1 fun y μ2 => r ρ μ2 fun ps μ3 => P ((x, y) :: ps) μ3
instance : FPs K [] mPs0 := ⟨fun d σ H ρ μ P Q w e q k => k d H μ [] [] .refl w .nil .nil q⟩
instance {a b r m n s} [ha : FE K a m] [hb : FE K b n] [hr : FPs K r s] : FPs K ((a, b) :: r) (mPs m n s) := ⟨fun d σ H ρ μ P Q w e q k => by
  refine ha.run d σ H ρ μ _ _ w e q fun d1 H1 μ1 x v e1 w1 r1 q1 => ?_
  refine hb.run d1 σ H1 ρ μ1 _ _ w1 (e.mono e1) q1 fun d2 H2 μ2 y u e2 w2 r2 q2 => ?_
  exact hr.run d2 σ H2 ρ μ2 _ _ w2 (e.mono (e1.trans e2)) q2 fun d3 H3 μ3 ps qs e3 w3 r3 r4 q3 =>
    k d3 H3 μ3 ((x, y) :: ps) ((v, u) :: qs) ((e1.trans e2).trans e3) w3 (.cons (r1.mono (e2.trans e3)) r3) (.cons (r2.mono e3) r4) q3⟩
def keysP : List (PV × PV) → Option (List (Key × PV))
  | [] => some []
  | (x, y) :: r => match keyP x, keysP r with | some k, some ks => some ((k, y) :: ks) | _, _ => none
def mDisp (m : PEnv → Store → (List (PV × PV) → Store → Prop) → Prop) : ME := fun ρ μ P => m ρ μ fun ps μ1 => match keysP ps with | some kvs => kvs.length ≤ 15 ∧ P (.mr μ1.length) (μ1 ++ [.dk (kvs.foldl (fun acc kv => putP acc kv.1 kv.2) [])]) | none => False
theorem keysP_rv : ∀ {ps : List (PV × PV)} {qs : List (V × V)} {kvs : List (Key × PV)}, RVs K d H (ps.map (·.1)) (qs.map (·.1)) → RVs K d H (ps.map (·.2)) (qs.map (·.2)) → keysP ps = some kvs →
    ∃ ws : List (Key × V), qs = ws.map (fun kv => (kV kv.1, kv.2)) ∧ RKs K d H kvs ws
  | [], [], _, _, _, h => by cases h; exact ⟨[], rfl, .nil⟩
  | [], _ :: _, _, r, _, _ => by cases r
  | _ :: _, [], _, r, _, _ => by cases r
  | (x, y) :: ps, (v, u) :: qs, kvs, r1, r2, h => by
    simp only [keysP] at h
    cases a1 : keyP x with
    | none => rw [a1] at h; simp at h
    | some k =>
      cases a2 : keysP ps with
      | none => rw [a1, a2] at h; simp at h
      | some ks =>
        rw [a1, a2] at h; simp at h; subst h
        cases r1 with
        | cons r1 t1 =>
          cases r2 with
          | cons r2 t2 =>
            obtain ⟨ws, e, rk⟩ := keysP_rv t1 t2 a2
            have e1 : v = kV k := keyP_rv r1 a1
            have e1 : v = kV k := e1
            refine ⟨(k, u) :: ws, ?_, .cons r2 rk⟩
            rw [List.map_cons, ← e, ← e1]
theorem RKs.fold : ∀ {more : List (Key × PV)} {ws : List (Key × V)} {acc : List (Key × PV)} {as : List (Key × V)}, RKs K d H more ws → RKs K d H acc as → RKs K d H (more.foldl (fun acc kv => putP acc kv.1 kv.2) acc) (mergeK as ws)
  | [], ws, acc, as, r, ra => by
    rcases r.cases with ⟨_, e⟩ | ⟨_, _, _, _, _, e, _⟩
    · subst e; exact ra
    · cases e
  | p :: more, ws, acc, as, r, ra => by
    rcases r.cases with ⟨e, _⟩ | ⟨k', x', v', kvs', ws', e1, e2, r1, t⟩
    · cases e
    · cases e1; subst e2
      exact RKs.fold (more := more) (ws := ws') t (ra.put r1)
theorem WOk.barK {D : Addr} {o : HO} (w : WOk K d H μ) (h : H D = none) : WOk K ⟨d.am, D :: d.ban⟩ (upd H D o) μ := by
  have b : Bars d ⟨d.am, D :: d.ban⟩ H := ⟨rfl, fun x q => (List.mem_cons.mp q).elim (fun z => .inr (by rw [z]; exact h)) .inl⟩
  refine ⟨w.len, w.nd, fun i a m h1 h2 => ?_, fun x hx => ?_⟩
  · have hm := w.ob i a m h1 h2
    have hne : a ≠ D := by rintro rfl; exact w.notin h (List.mem_of_getElem? h1)
    have e : Ext ⟨d.am, D :: d.ban⟩ H ⟨d.am, D :: d.ban⟩ (upd H D o) := ⟨⟨[], by simp, fun p hp => by simp at hp⟩, rfl, fun b u e _ => by rw [upd_ne (ne_of_none e h)]; exact e⟩
    cases m with
    | lst xs => obtain ⟨vs, q, r⟩ := hm; exact ⟨vs, by rw [upd_ne hne]; exact q, (r.bars b).mono e⟩
    | dk kvs => obtain ⟨vs, q, r1, r2⟩ := hm; exact ⟨vs, by rw [upd_ne hne]; exact q, r1, (r2.bars b).mono e⟩
    | fd o ws kvs => obtain ⟨q, r1, r2⟩ := hm; exact ⟨by rw [upd_ne hne]; exact q, r1, (r2.bars b).mono e⟩
    | tk kvs => obtain ⟨vs, q, r0, r1, r2⟩ := hm; exact ⟨vs, by rw [upd_ne hne]; exact q, r0, (r1.bars b).mono e, (r2.bars b).mono e⟩
    | nk kvs => obtain ⟨vs, q, r0, r1, r2⟩ := hm; exact ⟨vs, by rw [upd_ne hne]; exact q, r0, (r1.bars b).mono e, (r2.bars b).mono e⟩
    | ft o ws kvs => obtain ⟨q, r0, r1, r2⟩ := hm; exact ⟨by rw [upd_ne hne]; exact q, r0, (r1.bars b).mono e, (r2.bars b).mono e⟩
    | fn o ws kvs => obtain ⟨q, r0, r1, r2⟩ := hm; exact ⟨by rw [upd_ne hne]; exact q, r0, (r1.bars b).mono e, (r2.bars b).mono e⟩
  · rcases List.mem_cons.mp hx with z | z
    · subst z
      exact ⟨by rw [upd_same]; simp, w.notin h⟩
    · obtain ⟨q1, q2⟩ := w.ban x z
      refine ⟨?_, q2⟩
      have hne : x ≠ D := by rintro rfl; exact q1 h
      rw [upd_ne hne]; exact q1
instance {t m} [h : FPs K t m] : FE K (tDisp t) (mDisp m) := ⟨fun d σ H ρ μ P Q w e q k => by
  intro D hD
  have bD : Bars d ⟨d.am, D :: d.ban⟩ H := ⟨rfl, fun x q => (List.mem_cons.mp q).elim (fun z => .inr (by rw [z]; exact hD)) .inl⟩
  have lay0 : Ext ⟨d.am, D :: d.ban⟩ H ⟨d.am, D :: d.ban⟩ (upd H D (.dK [])) := ⟨⟨[], by simp, fun p hp => by simp at hp⟩, rfl, fun b u e _ => by rw [upd_ne (ne_of_none e hD)]; exact e⟩
  refine h.run _ σ _ ρ μ _ _ (w.barK hD) ((e.bars bD).mono lay0) q fun dB H1 μ1 ps qs e1 w1 r1 r2 q1 => ?_
  have nD : D ∉ (⟨d.am, D :: d.ban⟩ : Wd).am := w.notin hD
  have hD1 : H1 D = some (.dK []) := e1.keep _ _ upd_same nD
  refine ⟨hD1, ?_⟩
  cases a1 : keysP ps with
  | none => rw [a1] at q1; exact q1.elim
  | some kvs =>
    rw [a1] at q1
    obtain ⟨ws, eq, rk⟩ := keysP_rv r1 r2 a1
    refine ⟨ws, eq, by rw [← rk.len]; exact q1.1, ?_⟩
    have banB : D ∈ dB.ban := by rw [e1.ban]; exact List.mem_cons_self
    have nt := no_tupK hD1
    have w2 := w1.made (o := .dK (mergeK [] ws)) banB nt
    have hD2 : (upd H1 D (.dK (mergeK [] ws))) D = some (.dK (mergeK [] ws)) := upd_same
    have nt2 := no_tupK hD2
    have rk2 := rk.fold (K := K) (d := dB) (H := H1) .nil
    have hs : ∀ b ∈ d.ban, b ∈ dB.ban := fun b hb => by rw [e1.ban]; exact List.mem_cons_of_mem _ hb
    have hnD := (w1.ban D banB).2
    have hm : MOK K ⟨dB.am ++ [D], d.ban⟩ (upd H1 D (.dK (mergeK [] ws))) D (.dk (kvs.foldl (fun acc kv => putP acc kv.1 kv.2) [])) := ⟨_, hD2, rk2.1, (rk2.2.made banB nt).pushed banB nt2 hs⟩
    refine k ⟨dB.am ++ [D], d.ban⟩ _ _ _ _ ⟨?_, rfl, fun b o hb hn => ?_⟩ (w2.pushed banB nt2 hs (w.notban hD) hm) (.mr ?_) q1.2
    · obtain ⟨ex, q, f⟩ := e1.am
      refine ⟨ex ++ [D], by rw [q, List.append_assoc], fun p hp => ?_⟩
      rcases List.mem_append.mp hp with z | z
      · obtain ⟨f1, f2⟩ := f p z
        refine ⟨?_, f2⟩
        by_cases hpD : p = D
        · subst hpD; exact hD
        · rw [upd_ne hpD] at f1; exact f1
      · have e := List.mem_singleton.mp z
        subst e
        exact ⟨hD, nD⟩
    · have hne : b ≠ D := ne_of_none hb hD
      rw [upd_ne hne]
      exact e1.keep b o (by rw [upd_ne hne]; exact hb) hn
    · show (dB.am ++ [D])[μ1.length]? = some D
      rw [← w1.len, List.getElem?_append_right (Nat.le_refl _)]
      simp⟩
def isSeqD : PyData → Bool | .list _ => true | .tuple _ => true | _ => false
def rRepr (K : PySem.W.Frag) : List V → Hp → VK → Prop := fun xs H Q => ∃ x e, xs = [x] ∧ Dp K H x e ∧ isSeqD e = true ∧ e.showable = true ∧ e.hasDict = false ∧ e.depth ≤ 60 ∧ e.shown.length ≤ lim ∧ Q (.str e.shown) H
theorem cb_repr {X : Cx} (hg : X.A.guards = some []) (hu : X.A.units + 64 < cLine) : CallR X (.builtin "repr") (rRepr X.K) := by
  intro pins s σ H vs us Q I r h
  obtain ⟨x, e, rfl, hd, hs, h1, h2, h3, h4, q⟩ := h
  obtain ⟨u, rfl, ru⟩ := vals1 r
  obtain ⟨as, rd⟩ := Dp.reads I e x u hd ru
  have hv : ∃ a, u = .ref a := by
    cases rd <;> first | exact ⟨_, rfl⟩ | cases hs
  obtain ⟨a, rfl⟩ := hv
  exact repr_of_reads' rd h1 (PyData.noDict_hsm h2) hg (by omega) (fun _ _ z => z) (fun h' u tk hk => ⟨.str e.shown, H, I.kept hk, ⟨_, rfl⟩, q⟩) (lim_lt h4)
def pRepr : MB := fun xs μ P => match xs with | [x] => (match datP (frzP x μ) with | some e => (isSeqD e = true ∧ e.showable = true ∧ e.hasDict = false ∧ e.depth ≤ 60 ∧ e.shown.length ≤ lim) ∧ P (.str e.shown) μ | none => False) | _ => False
instance : FB K (rRepr K) pRepr := ⟨fun d H μ xs vs P Q w r q k => by
  match xs, r, q with
  | [x], .cons (v := v) r .nil, q =>
    unfold pRepr at q
    simp only at q
    cases e : datP (frzP x μ) with
    | none => rw [e] at q; exact q.elim
    | some dd =>
      rw [e] at q
      obtain ⟨⟨h1, h2, h3, h4, h5⟩, q⟩ := q
      exact ⟨v, dd, rfl, frz_dp w r e, h1, h2, h3, h4, h5, k d H μ _ _ .refl w (.str _) q⟩⟩
def tyP : PV → Option String
  | .non => some "NoneType" | .bl _ => some "bool" | .int _ => some "int" | .str _ => some "str" | .tup _ => some "tuple" | .lst _ => some "list" | _ => none
theorem tyP_rv {x : PV} {v : V} {T : String} (r : RV K d H x v) (h : tyP x = some T) : TyX K H v (.type T) := by
  cases r with
  | non => cases h; exact .base .non
  | bl b => cases h; exact .base (.bl b)
  | int i => cases h; exact .base (.int i)
  | str i => cases h; exact .base (.str i)
  | ty i => cases h
  | tup h1 h2 =>
    cases h
    rcases h1 with ⟨⟨o, z, _⟩, _⟩ | ⟨_, o, z1, z2, _⟩
    · exact .fTuple z
    · exact .kTuple z1 z2
  | lst h1 h2 => cases h; exact .base (.lst h1.1)
  | kl h1 h2 => cases h
  | mr h1 => cases h
def pIsi : MB := fun xs μ P => match xs with | [x, .ty n] => (match tyP x with | some T => (match kitB T n with | some b => P (.bl b) μ | none => False) | none => False) | _ => False
instance : FB K (rIsi K) pIsi := ⟨fun d H μ xs vs P Q w r q k => by
  match xs, r, q with
  | [x, .ty n], .cons (v := v) r (.cons (.ty _) .nil), q =>
    unfold pIsi at q
    simp only at q
    cases e : tyP x with
    | none => rw [e] at q; exact q.elim
    | some T =>
      rw [e] at q
      simp only at q
      cases e2 : kitB T n with
      | none => rw [e2] at q; exact q.elim
      | some b =>
        rw [e2] at q
        exact ⟨v, .ty n, .type T, .type n, b, rfl, .ty n, tyP_rv r e, kit_ty e2, k d H μ _ _ .refl w (.bl _) q⟩⟩
end
end Fx
namespace Fx
open PySem PySem.Spec PyProof.Rows L2 RZ
abbrev PSp := List PV → Store → (PV → Store → Prop) → Prop
def QvOf (K : PySem.W.Frag) (d : Wd) (H : Hp) (Q : PV → Store → Prop) : VK := fun v H' => ∃ d' x μ', Ext d H d' H' ∧ WOk K d' H' μ' ∧ RV K d' H' x v ∧ Q x μ'
structure FnG (P : Program) (w : World) (K : PySem.W.Frag) (mg : Str → Option Value) (base : Heap) (k : Nat) (f : Addr) (fd : FuncData) (ps : List Str) (S : PSp) : Prop where
  len : ∀ xs μ Q, S xs μ Q → xs.length = ps.length
  run : ∀ (A : Around) (outer : List Env) (s : Shared) (H : Hp) (args : Args) (us : List Value) (vs : List V) (xs : List PV) (d : Wd) (μ : Store) (Q : PV → Store → Prop),
    Room k A → A.guards = some [] → Env0 P w K mg base A outer s H → BindsTo s fd args (ps.zip us) → Vals vs us → WOk K d H μ → RVs K d H xs vs → S xs μ Q →
    codeAny (model P w) A (.call (.ref f) args) (CR CX0 outer P w H s (QvOf K d H Q) E0) s
theorem FnG.mono {P : Program} {w : World} {K : PySem.W.Frag} {mg : Str → Option Value} {base : Heap} {j k : Nat} {f : Addr} {fd : FuncData} {ps : List Str} {S : PSp} (F : FnG P w K mg base j f fd ps S) (h : j ≤ k) : FnG P w K mg base k f fd ps S :=
  ⟨F.len, fun A outer s H args us vs xs d μ Q hr => F.run A outer s H args us vs xs d μ Q (hr.mono h)⟩
theorem FnG.imp {P : Program} {w : World} {K : PySem.W.Frag} {mg : Str → Option Value} {base : Heap} {k : Nat} {f : Addr} {fd : FuncData} {ps : List Str} {S S' : PSp} (F : FnG P w K mg base k f fd ps S) (h : ∀ xs μ Q, S' xs μ Q → S xs μ Q) : FnG P w K mg base k f fd ps S' :=
  ⟨fun xs μ Q q => F.len xs μ Q (h _ _ _ q), fun A outer s H args us vs xs d μ Q hr hg e0 hb hv w r q => F.run A outer s H args us vs xs d μ Q hr hg e0 hb hv w r (h _ _ _ q)⟩
def tCallG (K : PySem.W.Frag) (S : PSp) (t : TA) : TE := fun σ H Q => t σ H fun vs H1 => ∃ d μ xs Q', WOk K d H1 μ ∧ RVs K d H1 xs vs ∧ S xs μ Q' ∧ ∀ v H2, QvOf K d H1 Q' v H2 → Q v H2
def perm {α : Type} (ix : List Nat) (l : List α) : List α := ix.filterMap (l[·]?)
def tCallKG (K : PySem.W.Frag) (S : PSp) (ix : List Nat) (t tk : TA) : TE := fun σ H Q => t σ H fun vs H1 => tk σ H1 fun zs H2 => ∃ d μ xs Q', WOk K d H2 μ ∧ RVs K d H2 xs (perm ix (vs ++ zs)) ∧ S xs μ Q' ∧ ∀ v H3, QvOf K d H2 Q' v H3 → Q v H3
section
variable {X : Cx} {k : Nat} {f : Addr} {fd : FuncData} {ps ks : List Str} {S : PSp} {x : Str} {p pos : Pos} {e : Expr} {es : List Expr} {kws : List Keyword} {t tk : TA}
theorem go_fn {pins : List (Addr × Obj)} {σ : L2.St} {H : Hp} {s : Shared} {Q : VK} {us : List Value} {args : Args} {vs : List V} {d : Wd} {μ : Store} {xs : List PV} {Q' : PV → Store → Prop} (F : FnG X.prog X.w X.K X.mg X.base k f fd ps S) (hr : Room k X.A) (hg : X.A.guards = some [])
    (I : Inv X pins σ H s) (hb : BindsTo s fd args (ps.zip us)) (r : Vals vs us) (w : WOk X.K d H μ) (rx : RVs X.K d H xs vs) (h : S xs μ Q') (fin : ∀ v H2, QvOf X.K d H Q' v H2 → Q v H2) :
    codeAny (model X.prog X.w) X.A (.call (.ref f) args) (fun r s' => match r with | .ok (.ret u) => EP X pins σ Q u s' | _ => False) s := by
  refine codeAny_mono (F.run X.A X.stack s H args us vs xs d μ Q' hr hg I.env0 hb r w rx h) fun res s' hq => ?_
  match res, hq with
  | .ok (.ret u), hq =>
    obtain ⟨v, H', a1, a2, a3, a4, a5, a6⟩ := hq
    exact I.after ⟨v, H', a1, a2, a3, a4, a5, fin v H' a6⟩
  | .ok .next, hq => exact hq.elim
  | .ok .brk, hq => exact hq.elim
  | .ok .cont, hq => exact hq.elim
  | .error _, hq => exact hq.elim
theorem perm_rel {α β : Type} {R : α → β → Prop} {l : List α} {l' : List β} (h : Paired R l l') : ∀ ix : List Nat, Paired R (perm ix l) (perm ix l')
  | [] => .nil
  | i :: ix => by
    have ih := perm_rel h ix
    have g : ∀ {l : List α} {l' : List β} (i : Nat), Paired R l l' → (l[i]? = none ∧ l'[i]? = none) ∨ ∃ a b, l[i]? = some a ∧ l'[i]? = some b ∧ R a b := by
      intro l l' i h
      induction h generalizing i with
      | nil => exact .inl ⟨by simp, by simp⟩
      | cons r t ih =>
        cases i with
        | zero => exact .inr ⟨_, _, rfl, rfl, r⟩
        | succ i => simpa using ih i
    rcases g i h with ⟨h1, h2⟩ | ⟨a, b, h1, h2, r⟩
    · simpa [perm, h1, h2] using ih
    · simpa [perm, h1, h2] using Paired.cons r ih
theorem perm_rvs {K : PySem.W.Frag} {d : Wd} {H : Hp} {xs : List PV} {vs : List V} (h : RVs K d H xs vs) : ∀ ix : List Nat, RVs K d H (perm ix xs) (perm ix vs)
  | [] => .nil
  | i :: ix => by
    have ih := perm_rvs h ix
    cases e : xs[i]? with
    | none =>
      have e2 : vs[i]? = none := by
        have := List.getElem?_eq_none_iff.mp e
        exact List.getElem?_eq_none_iff.mpr (by rw [← h.length]; exact this)
      simpa [perm, e, e2] using ih
    | some a =>
      obtain ⟨b, e2, r⟩ := h.get e
      simpa [perm, e, e2] using RVs.cons r ih
theorem pe_callG (F : FnG X.prog X.w X.K X.mg X.base k f fd ps S) (hr : Room k X.A) (hgd : X.A.guards = some []) (hg : Gl X x) (hm : X.mg x = some (.ref f)) (hk : PySem.W.keepIn X.K (.ref f) = true) (hb : Binds X.K fd ps [])
    (ha : PA X (e :: es) t) (hdb : (x == ("__debug__" : Str)) = false := by decide) (he : starEach (e :: es) X.env = (false, eval e X.env) :: starEach es X.env := by rfl) (hpl : (backTo pos (starEach es X.env)).any (·.1) = false := by rfl) :
    PE X (.Call (.Name x p) (e :: es) [] pos) (tCallG X.K S t) := ⟨fun pins s σ H Q I h => by
  refine wpAny_Call_Name_kw (ld_glob I hg hm (PySem.W.callWith_K (h₀ := X.base) I.ok.mod.kin hk (thn (ha.run pos pins s σ H _ I h) fun us s1 hq => ?_) he hpl) hdb)
  obtain ⟨vs, H1, I1, r, d, μ, xs, Q', w, rx, hS, fin⟩ := hq
  have hl : us.length = ps.length := by rw [← r.length, ← rx.length]; exact F.len _ _ _ hS
  refine ⟨I1.kIn, wpAny_call ?_⟩
  have hb' := hb s1 us I1.kIn (by rw [List.append_nil]; exact hl)
  rw [List.append_nil] at hb'
  exact codeAny_mono (go_fn F hr hgd I1 hb' r w rx hS fin) fun res s' hq => by
    match res, hq with
    | .ok (.ret u), hq => exact hq⟩
def KBs (fd : FuncData) (ps ks : List Str) (n : Nat) (ix : List Nat) : Prop := ∀ (s : Shared) (us ws : List Value), us.length = n → ws.length = ks.length → BindsTo s fd ⟨us, ks.zip ws⟩ (ps.zip (perm ix (us ++ ws)))
theorem pe_callK0G {ix : List Nat} (F : FnG X.prog X.w X.K X.mg X.base k f fd ps S) (hr : Room k X.A) (hgd : X.A.guards = some []) (hg : Gl X x) (hm : X.mg x = some (.ref f)) (hk : PySem.W.keepIn X.K (.ref f) = true) (hb : KBs fd ps ks 0 ix)
    (hkw : PK X kws tk) (hln : ∀ ws : List Value, True := by intro _; trivial) (hall : (backToKw pos (keywordEach kws X.env)).all (·.1.isSome) = true := by rfl) (hks : (backToKw pos (keywordEach kws X.env)).filterMap (·.1) = ks := by rfl)
    (hn : kws.length = ks.length := by rfl) (hix : ∀ zs : List V, zs.length = ks.length → True := by intro _ _; trivial) (hdb : (x == ("__debug__" : Str)) = false := by decide)
    (hpl : ((backTo pos (starEach [] X.env)).any (·.1) || (backToKw pos (keywordEach kws X.env)).any (·.1.isNone)) = false := by rfl) (hkl : ((backToKw pos (keywordEach kws X.env)).map (·.2)).length = ks.length := by rfl) :
    PE X (.Call (.Name x p) [] kws pos) (tCallKG X.K S ix (fun _ H Q => Q [] H) (fun σ H Q => tk σ H fun zs H1 => zs.length = ks.length ∧ Q zs H1)) := ⟨fun pins s σ H Q I h => by
  refine wpAny_Call_Name_kw (ld_glob I hg hm (PySem.W.callWith_KW0 (h₀ := X.base) I.ok.mod.kin hk hall (thn (hkw.run pos pins s σ H _ I h) fun ws s2 hq => ?_) hpl) hdb)
  obtain ⟨zs, H2, I2, rz, hz, d, μ, xs, Q', w, rx, hS, fin⟩ := hq
  refine ⟨I2.kIn, wpAny_call ?_⟩
  rw [hks]
  have rz' : Vals (perm ix ([] ++ zs)) (perm ix ([] ++ ws)) := perm_rel (by simpa using rz) ix
  exact codeAny_mono (go_fn F hr hgd I2 (hb s2 [] ws rfl (by rw [← rz.length]; exact hz)) rz' w rx hS fin) fun res s' hq => by
    match res, hq with
    | .ok (.ret u), hq => exact hq⟩
end
section
variable {K : PySem.W.Frag}
def mCall (S : PSp) (m : MA) : ME := fun ρ μ P => m ρ μ fun xs μ1 => S xs μ1 P
instance {S t m} [h : FA K t m] : FE K (tCallG K S t) (mCall S m) := ⟨fun d σ H ρ μ P Q w e q k => by
  refine h.run d σ H ρ μ _ _ w e q fun d1 H1 μ1 xs vs e1 w1 r1 q1 => ?_
  refine ⟨d1, μ1, xs, P, w1, r1, q1, fun v H2 ⟨d2, x, μ2, e2, w2, r2, q2⟩ => k d2 H2 μ2 x v (e1.trans e2) w2 r2 q2⟩⟩
def mCallK (S : PSp) (ix : List Nat) (n : Nat) (m : MA) : ME := fun ρ μ P => m ρ μ fun xs μ1 => xs.length = n ∧ S (perm ix xs) μ1 P
instance {S ix t m} {n : Nat} [h : FA K t m] : FE K (tCallKG K S ix (fun _ H Q => Q [] H) (fun σ H Q => t σ H fun zs H1 => zs.length = n ∧ Q zs H1)) (mCallK S ix n m) := ⟨fun d σ H ρ μ P Q w e q k => by
  refine h.run d σ H ρ μ _ _ w e q fun d1 H1 μ1 xs vs e1 w1 r1 q1 => ?_
  refine ⟨by rw [← r1.length]; exact q1.1, d1, μ1, perm ix xs, P, w1, by simpa using perm_rvs r1 ix, q1.2, fun v H2 ⟨d2, x, μ2, e2, w2, r2, q2⟩ => k d2 H2 μ2 x v (e1.trans e2) w2 r2 q2⟩⟩
end
mutual
def noRef : PV → Bool
  | .mr _ => false
  | .tup xs => noRefs xs
  | .lst xs => noRefs xs
  | .kl xs => noRefs xs
  | _ => true
def noRefs : List PV → Bool
  | [] => true
  | x :: xs => noRef x && noRefs xs
end
inductive Gc (μ0 : Store) (x : PV) (μ : Store) : PV → Store → Prop
  | keep : Gc μ0 x μ x μ
  | drop (g : Store) : μ = μ0 ++ g → noRef x = true → Gc μ0 x μ x μ0
  | froz (n : Nat) (g : Store) (xs : List PV) : x = .mr n → μ = μ0 ++ g → μ[n]? = some (.lst xs) → μ0.length ≤ n → noRefs xs = true → Gc μ0 x μ (.lst xs) μ0
  | newl (n : Nat) (g : Store) (xs : List PV) : x = .mr n → μ = μ0 ++ g → μ[n]? = some (.lst xs) → μ0.length ≤ n → noRefs xs = true → Gc μ0 x μ (.mr μ0.length) (μ0 ++ [.lst xs])
  | newd (n : Nat) (g : Store) (kvs : List (Key × PV)) : x = .mr n → μ = μ0 ++ g → μ[n]? = some (.dk kvs) → μ0.length ≤ n → noRefs (kvs.map (·.2)) = true → Gc μ0 x μ (.mr μ0.length) (μ0 ++ [.dk kvs])
  | froz2 (n : Nat) (g : Store) (ks : List Nat) (yss : List (List PV)) : x = .mr n → μ = μ0 ++ g → μ[n]? = some (.lst (ks.map .mr)) → μ0.length ≤ n → ks.length = yss.length →
      (∀ (i k : Nat) (ys : List PV), ks[i]? = some k → yss[i]? = some ys → μ[k]? = some (.lst ys) ∧ μ0.length ≤ k ∧ noRefs ys = true) → Gc μ0 x μ (.lst (yss.map .lst)) μ0
section
variable {K : PySem.W.Frag} {d d' : Wd} {H H' : Hp} {μ0 μ : Store}
mutual
theorem RV.fewer {am : List Addr} (ha : ∀ b ∈ am, b ∈ d.am) : ∀ {x : PV} {v : V}, RV K d H x v → noRef x = true → RV K ⟨am, d.ban⟩ H x v
  | _, _, .non, _ => .non
  | _, _, .bl b, _ => .bl b
  | _, _, .int i, _ => .int i
  | _, _, .str x, _ => .str x
  | _, _, .ty n, _ => .ty n
  | _, _, .tup h r, z => .tup (h.imp (fun q => ⟨q.1, fun m => q.2 (ha _ m)⟩) id) (RVs.fewer ha r z)
  | _, _, .lst h r, z => .lst ⟨h.1, fun m => h.2.1 (ha _ m), h.2.2⟩ (RVs.fewer ha r z)
  | _, _, .kl h r, z => .kl (h.imp (fun q => ⟨q.1, fun m => q.2.1 (ha _ m), q.2.2⟩) id) (RVs.fewer ha r z)
  | _, _, .mr h, z => by cases z
theorem RVs.fewer {am : List Addr} (ha : ∀ b ∈ am, b ∈ d.am) : ∀ {xs : List PV} {vs : List V}, RVs K d H xs vs → noRefs xs = true → RVs K ⟨am, d.ban⟩ H xs vs
  | _, _, .nil, _ => .nil
  | _, _, .cons r t, z => by
    simp only [noRefs, Bool.and_eq_true] at z
    exact .cons (RV.fewer ha r z.1) (RVs.fewer ha t z.2)
end
mutual
theorem RV.back {am am2 bn : List Addr} {H0 : Hp} (hs : ∀ b ∈ am2, b ∈ d'.am) (hp : ∀ (n : Nat) b, am[n]? = some b → am2[n]? = some b ∧ d'.am[n]? = some b) : ∀ {x : PV} {v u : V}, RV K ⟨am, bn⟩ H0 x v → RV K d' H' x u → RV K ⟨am2, d'.ban⟩ H' x u
  | _, _, _, .non, .non => .non
  | _, _, _, .bl b, .bl _ => .bl b
  | _, _, _, .int i, .int _ => .int i
  | _, _, _, .str x, .str _ => .str x
  | _, _, _, .ty n, .ty _ => .ty n
  | _, _, _, .tup _ r, .tup h' r' => .tup (h'.imp (fun q => ⟨q.1, fun m => q.2 (hs _ m)⟩) id) (RVs.back hs hp r r')
  | _, _, _, .lst _ r, .lst h r' => .lst ⟨h.1, fun m => h.2.1 (hs _ m), h.2.2⟩ (RVs.back hs hp r r')
  | _, _, _, .kl _ r, .kl h' r' => .kl (h'.imp (fun q => ⟨q.1, fun m => q.2.1 (hs _ m), q.2.2⟩) id) (RVs.back hs hp r r')
  | _, _, _, .mr h, .mr h' => .mr (by
      obtain ⟨h1, h2⟩ := hp _ _ h
      rw [h2] at h'; cases h'
      exact h1)
theorem RVs.back {am am2 bn : List Addr} {H0 : Hp} (hs : ∀ b ∈ am2, b ∈ d'.am) (hp : ∀ (n : Nat) b, am[n]? = some b → am2[n]? = some b ∧ d'.am[n]? = some b) : ∀ {xs : List PV} {vs us : List V}, RVs K ⟨am, bn⟩ H0 xs vs → RVs K d' H' xs us → RVs K ⟨am2, d'.ban⟩ H' xs us
  | _, _, _, .nil, .nil => .nil
  | _, _, _, .cons r t, .cons r' t' => .cons (RV.back hs hp r r') (RVs.back hs hp t t')
end
theorem MOK.back {am am2 bn : List Addr} {H0 : Hp} {a : Addr} (hs : ∀ b ∈ am2, b ∈ d'.am) (hp : ∀ (n : Nat) b, am[n]? = some b → am2[n]? = some b ∧ d'.am[n]? = some b) {m : MO} (m0 : MOK K ⟨am, bn⟩ H0 a m) (m1 : MOK K d' H' a m) : MOK K ⟨am2, d'.ban⟩ H' a m := by
  cases m with
  | lst xs =>
    obtain ⟨vs, q, r⟩ := m0
    obtain ⟨us, q', r'⟩ := m1
    exact ⟨us, q', RVs.back hs hp r r'⟩
  | dk kvs =>
    obtain ⟨vs, q, r1, r⟩ := m0
    obtain ⟨us, q', r1', r'⟩ := m1
    exact ⟨us, q', r1', RVs.back hs hp r r'⟩
  | fd o ws kvs =>
    obtain ⟨q, r1, r⟩ := m0
    obtain ⟨q', r1', r'⟩ := m1
    exact ⟨q', r1', RVs.back hs hp r r'⟩
  | tk kvs =>
    obtain ⟨vs, q, r0, r1, r⟩ := m0
    obtain ⟨us, q', r0', r1', r'⟩ := m1
    exact ⟨us, q', r0', RVs.back hs hp r1 r1', RVs.back hs hp r r'⟩
  | ft o ws kvs =>
    obtain ⟨q, r0, r1, r⟩ := m0
    obtain ⟨q', r0', r1', r'⟩ := m1
    exact ⟨q', r0', RVs.back hs hp r1 r1', RVs.back hs hp r r'⟩
  | nk kvs =>
    obtain ⟨vs, q, r0, r1, r⟩ := m0
    obtain ⟨us, q', r0', r1', r'⟩ := m1
    exact ⟨us, q', r0', RVs.back hs hp r1 r1', RVs.back hs hp r r'⟩
  | fn o ws kvs =>
    obtain ⟨q, r0, r1, r⟩ := m0
    obtain ⟨q', r0', r1', r'⟩ := m1
    exact ⟨q', r0', RVs.back hs hp r1 r1', RVs.back hs hp r r'⟩
theorem WOk.back {g : Store} (e : Ext d H d' H') (w0 : WOk K d H μ0) (w : WOk K d' H' (μ0 ++ g)) : Ext d H d H' ∧ WOk K d H' μ0 := by
  obtain ⟨am, bn⟩ := d
  have hb := e.ban
  simp only at hb
  refine ⟨⟨⟨[], by simp, fun p hp => by simp at hp⟩, rfl, e.keep⟩, w0.len, w0.nd, fun i a m h1 h2 => ?_, fun b hb' => ?_⟩
  · have hi : i < μ0.length := (List.getElem?_eq_some_iff.mp h2).1
    have h3 : (μ0 ++ g)[i]? = some m := by rw [List.getElem?_append_left hi]; exact h2
    have := MOK.back (am2 := am) (fun b hb => e.mem hb) (fun n b q => ⟨q, e.at q⟩) (w0.ob i a m h1 h2) (w.ob i a m (e.at h1) h3)
    rw [hb] at this
    exact this
  · obtain ⟨q1, q2⟩ := w.ban b (by rw [hb]; exact hb')
    exact ⟨q1, fun z => q2 (e.mem z)⟩
theorem Gc.ok {x y : PV} {μ' : Store} {v : V} (h : Gc μ0 x μ y μ') (e : Ext d H d' H') (w0 : WOk K d H μ0) (w : WOk K d' H' μ) (r : RV K d' H' x v) : ∃ d2, Ext d H d2 H' ∧ WOk K d2 H' μ' ∧ RV K d2 H' y v := by
  obtain ⟨ex, ha, hf⟩ := e.am
  have eb : (⟨d.am, d'.ban⟩ : Wd) = d := by rw [e.ban]
  have later : ∀ {n : Nat} {a : Addr}, d'.am[n]? = some a → μ0.length ≤ n → a ∉ d.am := fun {n a} h1 hm z => by
    obtain ⟨j, hj, ej⟩ := List.getElem_of_mem z
    have h2 : d'.am[j]? = some a := e.at (by rw [List.getElem?_eq_getElem hj, ej])
    obtain ⟨l1, z1⟩ := List.getElem?_eq_some_iff.mp h1
    obtain ⟨l2, z2⟩ := List.getElem?_eq_some_iff.mp h2
    have := (List.getElem_inj w.nd).mp (z1.trans z2.symm)
    have h4 := w0.len
    omega
  cases h with
  | keep => exact ⟨d', e, w, r⟩
  | drop g hg hn =>
    subst hg
    obtain ⟨e1, w1⟩ := WOk.back e w0 w
    have := RV.fewer (am := d.am) (fun b hb => e.mem hb) r hn
    rw [eb] at this
    exact ⟨d, e1, w1, this⟩
  | froz n g xs hx hg hm hn hr =>
    subst hg; subst hx
    obtain ⟨e1, w1⟩ := WOk.back e w0 w
    cases r with
    | @mr _ a h1 =>
      obtain ⟨vs, q, rv⟩ := w.obj h1 hm
      have := RVs.fewer (am := d.am) (fun b hb => e.mem hb) rv hr
      rw [eb] at this
      exact ⟨d, e1, w1, .lst ⟨q, later h1 hn, fun z => (w.ban a (by rw [e.ban]; exact z)).2 (List.mem_of_getElem? h1)⟩ this⟩
  | newl n g xs hx hg hm hn hr =>
    subst hg; subst hx
    obtain ⟨e1, w1⟩ := WOk.back e w0 w
    cases r with
    | @mr _ a h1 =>
      obtain ⟨vs, q, rv⟩ := w.obj h1 hm
      have hna : a ∉ d.am := later h1 hn
      have hae : a ∈ ex := by
        have := List.mem_of_getElem? h1
        rw [ha] at this
        exact (List.mem_append.mp this).resolve_left hna
      have hHa := (hf a hae).1
      have sub : ∀ b, b ∈ d.am ++ [a] → b ∈ d'.am := fun b hb => by
        rcases List.mem_append.mp hb with z | z
        · exact e.mem z
        · rw [List.mem_singleton.mp z]; exact List.mem_of_getElem? h1
      have rs : RVs K ⟨d.am ++ [a], d.ban⟩ H' xs vs := by
        have := RVs.fewer (am := d.am ++ [a]) sub rv hr
        rw [e.ban] at this
        exact this
      refine ⟨⟨d.am ++ [a], d.ban⟩, ⟨⟨[a], rfl, fun p hp => by
        have e := List.mem_singleton.mp hp
        subst e; exact ⟨hHa, hna⟩⟩, rfl, e1.keep⟩, ⟨by simp [w0.len], ?_, fun i b m h2 h3 => ?_, fun b hb' => ?_⟩, .mr ?_⟩
      · show (d.am ++ [a]).Nodup
        rw [List.nodup_append]
        exact ⟨w0.nd, by simp, fun x hx y hy => by
          have := List.mem_singleton.mp hy
          subst this; rintro rfl; exact hna hx⟩
      · replace h2 : (d.am ++ [a])[i]? = some b := h2
        by_cases hi : i < d.am.length
        · rw [List.getElem?_append_left hi] at h2
          have hi' : i < μ0.length := by rw [← w0.len]; exact hi
          rw [List.getElem?_append_left hi'] at h3
          have h4 : (μ0 ++ g)[i]? = some m := by rw [List.getElem?_append_left hi']; exact h3
          have := MOK.back (am := d.am) (bn := d.ban) (am2 := d.am ++ [a]) sub (fun n b q => ⟨by rw [List.getElem?_append_left (List.getElem?_eq_some_iff.mp q).1]; exact q, e.at q⟩) (w0.ob i b m h2 h3) (w.ob i b m (e.at h2) h4)
          rw [e.ban] at this
          exact this
        · have hi2 : i = d.am.length := by
            have := (List.getElem?_eq_some_iff.mp h2).1
            simp at this; omega
          subst hi2
          rw [List.getElem?_append_right (Nat.le_refl _)] at h2
          rw [w0.len, List.getElem?_append_right (Nat.le_refl _)] at h3
          simp at h2 h3
          subst h2; subst h3
          exact ⟨vs, q, rs⟩
      · obtain ⟨q1, q2⟩ := w.ban b (by rw [e.ban]; exact hb')
        exact ⟨q1, fun z => q2 (sub b z)⟩
      · show (d.am ++ [a])[μ0.length]? = some a
        rw [← w0.len, List.getElem?_append_right (Nat.le_refl _)]
        simp
  | newd n g kvs hx hg hm hn hr =>
    subst hg; subst hx
    obtain ⟨e1, w1⟩ := WOk.back e w0 w
    cases r with
    | @mr _ a h1 =>
      obtain ⟨vs, q, rk, rv⟩ := w.obj h1 hm
      have hna : a ∉ d.am := later h1 hn
      have hae : a ∈ ex := by
        have := List.mem_of_getElem? h1
        rw [ha] at this
        exact (List.mem_append.mp this).resolve_left hna
      have hHa := (hf a hae).1
      have sub : ∀ b, b ∈ d.am ++ [a] → b ∈ d'.am := fun b hb => by
        rcases List.mem_append.mp hb with z | z
        · exact e.mem z
        · rw [List.mem_singleton.mp z]; exact List.mem_of_getElem? h1
      have rs : RVs K ⟨d.am ++ [a], d.ban⟩ H' (kvs.map (·.2)) (vs.map (·.2)) := by
        have := RVs.fewer (am := d.am ++ [a]) sub rv hr
        rw [e.ban] at this
        exact this
      refine ⟨⟨d.am ++ [a], d.ban⟩, ⟨⟨[a], rfl, fun p hp => by
        have e := List.mem_singleton.mp hp
        subst e; exact ⟨hHa, hna⟩⟩, rfl, e1.keep⟩, ⟨by simp [w0.len], ?_, fun i b m h2 h3 => ?_, fun b hb' => ?_⟩, .mr ?_⟩
      · show (d.am ++ [a]).Nodup
        rw [List.nodup_append]
        exact ⟨w0.nd, by simp, fun x hx y hy => by
          have := List.mem_singleton.mp hy
          subst this; rintro rfl; exact hna hx⟩
      · replace h2 : (d.am ++ [a])[i]? = some b := h2
        by_cases hi : i < d.am.length
        · rw [List.getElem?_append_left hi] at h2
          have hi' : i < μ0.length := by rw [← w0.len]; exact hi
          rw [List.getElem?_append_left hi'] at h3
          have h4 : (μ0 ++ g)[i]? = some m := by rw [List.getElem?_append_left hi']; exact h3
          have := MOK.back (am := d.am) (bn := d.ban) (am2 := d.am ++ [a]) sub (fun n b q => ⟨by rw [List.getElem?_append_left (List.getElem?_eq_some_iff.mp q).1]; exact q, e.at q⟩) (w0.ob i b m h2 h3) (w.ob i b m (e.at h2) h4)
          rw [e.ban] at this
          exact this
        · have hi2 : i = d.am.length := by
            have := (List.getElem?_eq_some_iff.mp h2).1
            simp at this; omega
          subst hi2
          rw [List.getElem?_append_right (Nat.le_refl _)] at h2
          rw [w0.len, List.getElem?_append_right (Nat.le_refl _)] at h3
          simp at h2 h3
          subst h2; subst h3
          exact ⟨vs, q, rk, rs⟩
      · obtain ⟨q1, q2⟩ := w.ban b (by rw [e.ban]; exact hb')
        exact ⟨q1, fun z => q2 (sub b z)⟩
      · show (d.am ++ [a])[μ0.length]? = some a
        rw [← w0.len, List.getElem?_append_right (Nat.le_refl _)]
        simp
  | froz2 n g ks yss hx hg hm hn hl hk =>
    subst hg; subst hx
    obtain ⟨e1, w1⟩ := WOk.back e w0 w
    cases r with
    | @mr _ a h1 =>
      obtain ⟨vs, q, rv⟩ := w.obj h1 hm
      have nb : ∀ {n : Nat} {a : Addr}, d'.am[n]? = some a → a ∉ d.ban := fun {n a} h z => (w.ban a (by rw [e.ban]; exact z)).2 (List.mem_of_getElem? h)
      have go : ∀ (ks : List Nat) (yss : List (List PV)) (vs : List V), ks.length = yss.length → (∀ (i k : Nat) (ys : List PV), ks[i]? = some k → yss[i]? = some ys → (μ0 ++ g)[k]? = some (.lst ys) ∧ μ0.length ≤ k ∧ noRefs ys = true) →
          RVs K d' H' (ks.map .mr) vs → RVs K d H' (yss.map .lst) vs := by
        intro ks
        induction ks with
        | nil =>
          intro yss vs hl hk rv
          cases yss with
          | nil => cases rv; exact .nil
          | cons y r => simp at hl
        | cons k ks ih =>
          intro yss vs hl hk rv
          cases yss with
          | nil => simp at hl
          | cons ys yss =>
            cases rv with
            | cons r1 rv =>
              refine .cons ?_ (ih yss _ (by simpa using hl) (fun i k ys h2 h3 => hk (i + 1) k ys (by simpa using h2) (by simpa using h3)) rv)
              cases r1 with
              | @mr _ b h2 =>
                obtain ⟨z1, z2, z3⟩ := hk 0 k ys rfl rfl
                obtain ⟨us, q2, ru⟩ := w.obj h2 z1
                have := RVs.fewer (am := d.am) (fun b hb => e.mem hb) ru z3
                rw [eb] at this
                exact .lst ⟨q2, later h2 z2, nb h2⟩ this
      exact ⟨d, e1, w1, .lst ⟨q, later h1 hn, nb h1⟩ (go ks yss vs hl hk rv)⟩
end
def startP (N : List Str) (xs : List PV) : PEnv := xs.map some ++ List.replicate (N.length - xs.length) none
theorem start_env {K : PySem.W.Frag} {d : Wd} {H : Hp} {N : List Str} {xs : List PV} {vs : List V} (r : RVs K d H xs vs) : REnv K d H (startP N xs) (L2.start N vs) := by
  unfold startP L2.start
  refine ⟨by simp [r.length], fun i x h => ?_⟩
  by_cases hi : i < xs.length
  · rw [List.getElem?_append_left (by simpa using hi), List.getElem?_map] at h
    rw [List.getElem?_append_left (by simpa [← r.length] using hi), List.getElem?_map]
    cases e : xs[i]? with
    | none => rw [e] at h; cases h
    | some y =>
      rw [e] at h; simp at h; subst h
      obtain ⟨v, e2, rv⟩ := r.get e
      exact ⟨v, by rw [e2]; rfl, rv⟩
  · rw [List.getElem?_append_right (by simpa using hi), List.getElem?_replicate] at h
    split at h <;> cases h
def mEnd (μ0 : Store) (Q : PV → Store → Prop) : MEnds := { nx := fun _ μ => ∃ y μ', Gc μ0 .non μ y μ' ∧ Q y μ', rt := fun x μ => ∃ y μ', Gc μ0 x μ y μ' ∧ Q y μ' }
theorem FnG.of {P : Program} {w : World} {K : PySem.W.Frag} {mg : Str → Option Value} {base : Heap} {x qual : Str} {st : Stmt} {f : Addr} {fd : FuncData} {N ps : List Str} {k : Nat} {S : PSp} (F : Fun K x qual st f fd) (sc : FnScope N ps (defScope st))
    (len : ∀ xs μ Q, S xs μ Q → xs.length = ps.length)
    (hbody : ∀ (cdv : Value) (A : Around) (outer : List Env) (s : Shared) (H : Hp), Room k (A.deeper (envOfC qual (defScope st) s.heap.objs.size f cdv)) → A.guards = some [] →
      ∃ t m, PSs (cxOf CX0 P w K mg base N qual (defScope st) f cdv A outer s H E0).nox (defBody st) t ∧ FS K t m ∧ ∀ xs μ Q, S xs μ Q → m (mEnd μ Q) (startP N xs) μ) : FnG P w K mg base (k + 1) f fd ps S := by
  obtain ⟨oc, od, kV, doc, pm, an, cdv, ct, osl, rfl, lk, hcd⟩ := F.ex
  refine ⟨len, fun A outer s H args us vs xs d μ Q hr hgd e0 hb hv wk rx hS => ?_⟩
  have hl : vs.length = ps.length := by rw [← rx.length]; exact len _ _ _ hS
  have kp := fun b o e => (e0.bs b o e).1
  have KX : K.In s.heap := e0.mod.kin.keeps kp
  refine codeAny_call_function hr.depth (KX _ _ lk) rfl sc.co sc.gen rfl (PySem.W.codeRec_of KX hcd) (hb _ _ _ _ ?_)
  refine wpAny_newFunctionEnv_cells sc.kind (fun p hp => ?_) fun env he s1 en => ?_
  · obtain ⟨n, u⟩ := p
    exact (sc.par n (List.of_mem_zip hp).1).imp id fun q => ⟨q, PySem.W.cellsFrom_some _ _ _ (.inl q)⟩
  subst he
  obtain ⟨t, m, hP, hF, hM⟩ := hbody cdv A outer s H (hr.deeper _) hgd
  have I := (inv_start (CX := CX0) (qual := qual) (f := f) (cd := cdv) (A := A) (outer := outer) (E := E0) sc hr.hd e0 hl hv en).wish (fun _ _ => False)
  have reading := hF.run d (L2.start N vs) H (startP N xs) μ (mEnd μ Q) { nx := fun _ H' => QvOf K d H Q .non H', rt := QvOf K d H Q } wk (start_env rx) (hM xs μ Q hS)
    ⟨fun d' σ' H' ρ' μ' e' w' _ ⟨y, μ2, g, q⟩ => by
        obtain ⟨d2, a1, a2, a3⟩ := g.ok e' wk w' .non
        exact ⟨d2, y, μ2, a1, a2, a3, q⟩,
     fun d' H' μ' z v e' w' r ⟨y, μ2, g, q⟩ => by
        obtain ⟨d2, a1, a2, a3⟩ := g.ok e' wk w' r
        exact ⟨d2, y, μ2, a1, a2, a3, q⟩,
     fun _ _ _ _ _ _ _ _ q => q.elim, fun _ _ _ _ _ _ _ _ q => q.elim⟩
  refine ⟨e0.mod.nolimit.keeps (fun b o z => en.toInCall.keep b o (kp b o z)), codeAny_func (wpAny_mono (hP.run [] s1 (L2.start N vs) H _ I reading) (fun fl s' hs => ?_) fun _ _ z => z.elim)⟩
  match fl, hs with
  | .ret u, ⟨v, σ', H', J, rv, q⟩ => exact ⟨v, H', J.os, J.bare, J.base, J.hok, rv, q⟩
  | .next, ⟨σ', H', J, q⟩ => exact ⟨.non, H', J.os, J.bare, J.base, J.hok, rfl, q⟩
  | .brk, ⟨_, _, _, q⟩ => exact q.elim
  | .cont, ⟨_, _, _, q⟩ => exact q.elim
end Fx
namespace Fx
open PySem PySem.Spec PyProof.Rows L2 RZ
theorem law_go {P : Program} {w : World} {K : PySem.W.Frag} {mg mb : Str → Option Value} {k : Nat} {fa a : Addr} {fd : FuncData} {x : Str} {S : PSp} {s₁ : Shared} {us : List Value} {ns : List Int}
    (hK : K.In s₁.heap) (gl : s₁.heap.Ns mainGlobals mg) (bl : s₁.heap.Ns builtinsNs mb) (bb : ∀ y : Str, y ≠ "__name__" → mb y = bootBuiltins y) (nl : s₁.heap.NoLimit) (gn : s₁.gens = #[])
    (ob : s₁.heap.get? a = some { cls := .type "list", data := .seq us.toArray }) (is : IntsAre us ns) (sz : ns.length ≤ sizeLine) (room : Room k callerA)
    (F : ∀ base : Heap, K.In base → base.Ns mainGlobals mg → FnG P w K mg base k fa fd [x] S) (bind : ∀ (s : Shared) (u : Value), BindsTo s fd ⟨[u], []⟩ [(x, u)])
    (hS : S [.kl (ns.map PV.int)] [] (fun v _ => v = .bl true)) :
    codeAny (model P w) callerA (.call (.ref fa) ⟨[.ref a], []⟩) (fun r s' => r = .ok (.ret (.bool true)) ∧ OldK s₁.heap s'.heap ∧ s'.os = s₁.os ∧ AllBare s'.gens) s₁ := by
  have vals := vals_ints is
  have lens := is.length
  suffices core : ∀ H : Hp, Only H → SqL K H a (ns.map V.int) → HOk P w H s₁.heap → (∀ b, H b ≠ none → b = a ∧ K.lookup a = none) →
      codeAny (model P w) callerA (.call (.ref fa) ⟨[.ref a], []⟩) (fun r s' => r = .ok (.ret (.bool true)) ∧ OldK s₁.heap s'.heap ∧ s'.os = s₁.os ∧ AllBare s'.gens) s₁ by
    cases hk : K.lookup a with
    | some o =>
      have e := hK a o hk
      rw [ob] at e
      cases e
      exact core hp0 (fun _ => .inl rfl) (.inr ⟨_, us.toArray, _, hk, rfl, rfl, rfl, by rw [List.size_toArray, lens]; exact sz, by simpa using vals⟩) (fun b u z => by cases z) fun b z => absurd rfl z
    | none =>
      have there : HOk P w (upd hp0 a (.frz { cls := .type "list", data := .seq us.toArray } (.lst (ns.map V.int)))) s₁.heap := fun b u z => by
        by_cases hb : b = a
        · subst hb
          rw [upd_same] at z; cases z
          exact ⟨ob, by rw [List.length_map]; exact sz, us, _, vals, ob⟩
        · rw [upd_ne hb] at z; cases z
      refine core _ (fun b => ?_) (.inl (.inr ⟨_, upd_same⟩)) there fun b z => ?_
      · by_cases hb : b = a
        · subst hb; exact .inr ⟨_, _, upd_same⟩
        · exact .inl (upd_ne hb)
      · by_cases hb : b = a
        · exact ⟨hb, hk⟩
        · exact absurd (upd_ne hb) z
  intro H only sq hok away
  have plainB : ∀ {b : Addr} {o : Obj}, s₁.heap.get? b = some o → H b = none → (hidT s₁.heap H).get? b = some o := fun e n => hidT_get e n
  have dictB : ∀ {b : Addr} {o : Obj} {es : Array DictEntry} {ep : Nat}, s₁.heap.get? b = some o → o.data = .dict es ep → H b = none := fun {b o es ep} e dd => by
    cases q : H b with
    | none => rfl
    | some u =>
      obtain ⟨z, _⟩ := away b (by rw [q]; simp)
      subst z
      rw [ob] at e; cases e
      exact nomatch (show Data.seq us.toArray _ = Data.dict es ep from dd)
  have nsB : ∀ {b : Addr} {m : Str → Option Value}, s₁.heap.Ns b m → (hidT s₁.heap H).Ns b m := fun ⟨o, es, ep, e, dd, r⟩ => ⟨o, es, ep, plainB e (dictB e dd), dd, r⟩
  have inB : K.In (hidT s₁.heap H) := fun b o e => plainB (hK b o e) (by
    cases q : H b with
    | none => rfl
    | some u =>
      obtain ⟨z, z2⟩ := away b (by rw [q]; simp)
      subst z
      rw [z2] at e; cases e)
  have md : Mod K mg (hidT s₁.heap H) := ⟨inB, nsB gl, ⟨mb, nsB bl, bb⟩, let ⟨mc, h1, h2⟩ := nl; ⟨mc, nsB h1, h2⟩⟩
  have none_in : ∀ b, b ∉ frs ([] : List Env) := fun b z => by cases z
  have env : Env0 P w K mg (hidT s₁.heap H) callerA [] s₁ H := ⟨rfl, md, fun b o e => of_hidT e, Nat.le_of_eq (hidT_size _ _), trivial, fun b hb => absurd hb (none_in b), hok, .of_eq gn⟩
  have wk : WOk K ⟨[], []⟩ H [] := ⟨rfl, List.nodup_nil, fun i b m h _ => by simp at h, fun b hb => by cases hb⟩
  have kl : RV K ⟨[], []⟩ H (.kl (ns.map PV.int)) (.ref a) := by
    refine .kl ?_ (RVs.of_ints ns)
    rcases sq with sq | sq
    · exact .inl ⟨sq, (fun z => by cases z), (fun z => by cases z)⟩
    · exact .inr (.inr sq)
  refine codeAny_mono ((F _ inB (nsB gl)).run callerA [] s₁ H ⟨[.ref a], []⟩ [.ref a] [.ref a] [.kl (ns.map PV.int)] ⟨[], []⟩ [] _ room rfl env (bind s₁ (.ref a)) (.cons rfl .nil) wk (.cons kl .nil) hS) fun r s' h => ?_
  match r, h with
  | .ok (.ret u), ⟨v, H', os, bare, un, hok', rv, d', x, μ', _, _, rx, ex⟩ =>
    subst ex
    cases rx
    obtain rfl : u = Value.bool true := rv
    refine ⟨rfl, OldK.of_keep fun b o e => ?_, os, bare⟩
    rcases only b with z | ⟨ob', ys, z⟩
    · exact un.keep b o e z (none_in b) (by simp)
    · obtain ⟨e1, _⟩ := hok b _ z
      obtain ⟨e2, _⟩ := hok' b _ (un.frzs b ob' _ z)
      rw [e] at e1; cases e1
      exact e2
  | .ok .next, h => exact h.elim
  | .ok .brk, h => exact h.elim
  | .ok .cont, h => exact h.elim
  | .error _, h => exact h.elim
def lawS (n : Nat) : PSp := fun xs μ0 Q => μ0 = [] ∧ ∃ ns : List Int, xs = [.kl (ns.map PV.int)] ∧ ns.length ≤ n ∧ ∀ μ, Q (.bl true) μ
theorem walk_law {l : PySem.W.OpenLaw} {n k : Nat} {q : Program} {loose : List Str} {XP : (Str → Option Value) → Heap → Prop} {YP : World → Heap → Prop} {d : DefRec} {K : Params → PySem.W.Frag} {x : Str}
    (hn : l.most = some n) (small : n ≤ sizeLine) (nodef : d.params.defaults = []) (room : Room k callerA) (hY : ∀ (w : World) (h : Heap), YP w h → (K w.params).In h)
    (F : ∀ (w : World) (mg : Str → Option Value) (fa : Addr) (h : Heap), (K w.params).In h → h.Ns mainGlobals mg → mg d.name = some (.ref fa) →
      ∃ fd : FuncData, (∀ (s : Shared) (u : Value), BindsTo s fd ⟨[u], []⟩ [(x, u)]) ∧ ∀ base : Heap, (K w.params).In base → base.Ns mainGlobals mg → FnG l.prog w (K w.params) mg base k fa fd [x] (lawS n)) :
    PySem.W.WalkO q loose XP YP l.row.toRowW d [] (fun f vs => PySem.call f vs) := by
  refine Att.attach_call hn nodef fun w s₀ s₁ mg mb fa o pm cd doc a us ns G Y ho hd hcd hmg hobj hints hlen hg => ?_
  obtain ⟨fd, hb, hF⟩ := F w mg fa _ (hY w _ Y) G.T.g hmg
  exact law_go (hY w _ Y) G.T.g G.T.b G.T.builtins G.T.nolimit hg hobj hints (Nat.le_trans hlen small) room hF hb ⟨rfl, ns, rfl, hlen, fun _ => rfl⟩
end Fx
namespace Fx
open PySem PySem.Spec PyProof.Rows L2 RZ
theorem tup_mul_one (l : Addr) (items : Array Value) (n : Nat) (dd : Option Addr) (sl : Array (Option Value)) (u : Tok) :
    Meets (Builtin.«tuple.__mul__» ⟨[.ref l, .int 1 u], []⟩) (fun _ R s => s.heap.get? l = some { cls := .type "tuple", dict := dd, data := .seq items n, slots := sl } ∧ R (.ok (.ret (Value.ref l))) s) :=
  .of_wp fun prog w A R s h => by
    obtain ⟨hp, g, d, tk, os⟩ := s
    obtain ⟨hl, h⟩ := h
    have ix := AutoSeq1.idx_int
    wp_walk using wpAny_loadPart' hl
    repeat (first
      | (refine wpAny_ite_false (by decide) ?_; wp_walk using wpAny_loadPart' hl)
      | (refine wpAny_ite_true (by simp) ?_; wp_walk using wpAny_loadPart' hl))
    exact ⟨_, rfl, h⟩
theorem tup_mul_none (l : Addr) (items : Array Value) (n : Nat) (dd : Option Addr) (sl : Array (Option Value)) (x : Int) (u : Tok) (h0 : (decide (x < -(2 ^ 63)) || decide (x ≥ 2 ^ 63)) = false) (h1 : (items.isEmpty || x == 1) = false) (h2 : (decide (x ≤ 0) || items.isEmpty) = true) :
    Meets (Builtin.«tuple.__mul__» ⟨[.ref l, .int x u], []⟩) (fun _ R s => s.heap.get? l = some { cls := .type "tuple", dict := dd, data := .seq items n, slots := sl } ∧
      R (.ok (.ret (Value.ref s.heap.objs.size))) { s with heap := s.heap.push { cls := Value.type "tuple", data := Data.seq #[] }, toks := s.toks }) :=
  .of_wp fun prog w A R s h => by
    obtain ⟨hp, g, d, tk, os⟩ := s
    obtain ⟨hl, h⟩ := h
    have ix := AutoSeq1.idx_int
    wp_walk using wpAny_loadPart' hl
    repeat (first
      | (refine wpAny_ite_false (decide_eq_false (by rw [h0]; exact Bool.false_ne_true)) ?_; wp_walk using wpAny_loadPart' hl)
      | (refine wpAny_ite_false (decide_eq_false (by rw [h1]; exact Bool.false_ne_true)) ?_; wp_walk using wpAny_loadPart' hl)
      | (refine wpAny_ite_true (decide_eq_true h2) ?_; wp_walk using wpAny_loadPart' hl))
    exact ⟨_, rfl, h⟩
def rRepX (K : PySem.W.Frag) : R2 := fun x y H Q => ∃ l k xs, x = .ref l ∧ y = .int k ∧ SqT K H l xs ∧ xs ≠ [] ∧ -1000 ≤ k ∧ k ≤ 1000 ∧ xs.length ≤ 1000 ∧ (k = 1 → Q (.ref l) H) ∧ (k ≠ 1 → MadeT H (List.replicate k.toNat xs).flatten Q)
theorem op_repX {X : Cx} : OpR X (binaryOp .Mult) (rRepX X.K) := by
  intro pins s σ H x y v u Q I rx ry h
  obtain ⟨l, k, xs, rfl, rfl, hT, hne, hk0, hk1, hz, q1, q⟩ := h
  cases rx
  obtain ⟨t, rfl⟩ := ry
  obtain ⟨its, r, ⟨⟨cls, dd, data, sl⟩, ho, hc, n, hd⟩, hs⟩ := I.tuple hT
  simp only at hc hd
  subst hc hd
  have hn : its ≠ [] := fun e => hne (by
    have := r.length
    rw [e] at this
    exact List.eq_nil_of_length_eq_zero this)
  have hi : its.toArray.isEmpty = false := by
    cases its with
    | nil => exact absurd rfl hn
    | cons a b => rfl
  by_cases h1 : k = 1
  · subst h1
    refine wpAny_binaryOp_repeat_ref (T := "tuple") (U := "int") (by decide) ⟨_, ho, rfl⟩ (fun s' => typeIs_int s' 1 t) noFill_tuple_mul F.fills_int_mul F.slot_int_rmul repeat_tuple F.slot_int_index.lookup
      (call_meets F.slot_int_rmul (typeIs_int s 1 t) F.entry_int_rmul (F.args_int_rmul_2 _ _) (int_rmul_tuple 1 t l its.toArray n dd sl)
        ⟨ho, rfl, ⟨_, ho, rfl⟩, call_meets F.slot_tuple_mul ⟨_, ho, rfl⟩ F.entry_tuple_mul (F.args_tuple_mul_2 _ _) (tup_mul_one l its.toArray n dd sl t) ⟨ho, ?_⟩⟩)
    exact ⟨.ref l, H, I, rfl, q1 rfl⟩
  have c0 : (decide (k < -(2 ^ 63)) || decide (k ≥ 2 ^ 63)) = false := by
    rw [decide_eq_false (by omega), decide_eq_false (by omega)] <;> rfl
  have c1 : (its.toArray.isEmpty || k == 1) = false := by
    rw [hi, Bool.false_or]
    exact beq_eq_false_iff_ne.mpr h1
  by_cases h2 : 2 ≤ k
  · have hl : its.toArray.size = xs.length := by rw [List.size_toArray]; exact r.length.symm
    have hm : ((its.toArray.size : Nat) : Int) * k ≤ 1000000 := by
      rw [hl]
      exact Int.le_trans (Int.mul_le_mul_of_nonneg_right (show ((xs.length : Nat) : Int) ≤ 1000 by omega) (show (0 : Int) ≤ k by omega)) (by omega)
    have hf : (List.replicate k.toNat its).flatten.length ≤ 1000000 := by
      rw [PyProof.Rows.lm_len_rep_flat, ← r.length]
      exact Nat.mul_le_mul (show k.toNat ≤ 1000 by omega) hz
    have c2 : (decide (k ≤ 0) || its.toArray.isEmpty) = false := by rw [hi, decide_eq_false (by omega)] <;> rfl
    have c4 : Builtin.Tuple.tupleTooMany (((its.toArray.size : Nat) : Int) * k) = false := decide_eq_false (by rw [sizeLine_eq]; omega)
    have hf' : (List.replicate k.toNat its).flatten.length ≤ sizeLine := Nat.le_trans hf (by rw [sizeLine_eq]; decide)
    refine wpAny_binaryOp_repeat_ref (T := "tuple") (U := "int") (by decide) ⟨_, ho, rfl⟩ (fun s' => typeIs_int s' k t) noFill_tuple_mul F.fills_int_mul F.slot_int_rmul repeat_tuple F.slot_int_index.lookup
      (call_meets F.slot_int_rmul (typeIs_int s k t) F.entry_int_rmul (F.args_int_rmul_2 _ _) (int_rmul_tuple k t l its.toArray n dd sl)
        ⟨ho, rfl, ⟨_, ho, rfl⟩, call_meets F.slot_tuple_mul ⟨_, ho, rfl⟩ F.entry_tuple_mul (F.args_tuple_mul_2 _ _) (tuple_mulW l its.toArray n dd sl k t c0 c1 c2 (by omega) c4 (by rw [size_rep, List.size_toArray]; exact hf')) ⟨ho, ?_⟩⟩)
    rw [size_rep]
    refine ⟨.ref s.heap.objs.size, _, I.laid (t' := s.toks) (fun b ob q => Heap.get?_push_of_some _ q) (Nat.le_refl _) ?_, rfl, q h1 _ { cls := Value.type "tuple", data := Data.seq (List.replicate k.toNat its).flatten.toArray } (I.hok.fresh (Nat.le_refl _)) rfl rfl⟩
    exact ⟨Heap.get?_push_size _ rfl, by rw [PyProof.Rows.lm_len_rep_flat, r.length, ← PyProof.Rows.lm_len_rep_flat]; exact hf', _, r.rep k.toNat, IsTup.new _ _⟩
  ·
    have c2 : (decide (k ≤ 0) || its.toArray.isEmpty) = true := by
      rw [decide_eq_true (by omega)]; rfl
    refine wpAny_binaryOp_repeat_ref (T := "tuple") (U := "int") (by decide) ⟨_, ho, rfl⟩ (fun s' => typeIs_int s' k t) noFill_tuple_mul F.fills_int_mul F.slot_int_rmul repeat_tuple F.slot_int_index.lookup
      (call_meets F.slot_int_rmul (typeIs_int s k t) F.entry_int_rmul (F.args_int_rmul_2 _ _) (int_rmul_tuple k t l its.toArray n dd sl)
        ⟨ho, rfl, ⟨_, ho, rfl⟩, call_meets F.slot_tuple_mul ⟨_, ho, rfl⟩ F.entry_tuple_mul (F.args_tuple_mul_2 _ _) (tup_mul_none l its.toArray n dd sl k t c0 c1 c2) ⟨ho, ?_⟩⟩)
    have e0 : (List.replicate k.toNat xs).flatten = [] := by
      have : k.toNat = 0 := by omega
      rw [this]; rfl
    have q' := q h1 s.heap.objs.size { cls := Value.type "tuple", data := Data.seq #[] } (I.hok.fresh (Nat.le_refl s.heap.objs.size)) rfl rfl
    rw [e0] at q'
    refine ⟨.ref s.heap.objs.size, _, I.laid (t' := s.toks) (fun b ob q => Heap.get?_push_of_some _ q) (Nat.le_refl _) ?_, rfl, q'⟩
    exact ⟨Heap.get?_push_size _ rfl, Nat.zero_le _, [], .nil, IsTup.new _ _⟩
def rTimes (K : PySem.W.Frag) : R2 := fun x y H Q => rI MulOk (fun i j => .int (i * j)) x y H Q ∨ rRepX K x y H Q
theorem op_times {X : Cx} : OpR X (binaryOp .Mult) (rTimes X.K) := OpR.or op_mulX op_repX
def pTimes : MO2 := fun x y μ P => match x, y with
  | .int i, .int j => MulOk i j ∧ P (.int (i * j)) μ
  | .tup xs, .int k => (xs ≠ [] ∧ -1000 ≤ k ∧ k ≤ 1000 ∧ xs.length ≤ 1000) ∧ P (.tup (List.replicate k.toNat xs).flatten) μ
  | _, _ => False
section
variable {K : PySem.W.Frag} {d d' : Wd} {H H' : Hp} {a b : Addr} {vs us : List V} {xs ys : List PV} {μ : Store}
theorem RVs.rep (r : RVs K d H xs vs) : ∀ n : Nat, RVs K d H (List.replicate n xs).flatten (List.replicate n vs).flatten
  | 0 => .nil
  | n + 1 => by
    rw [List.replicate_succ, List.replicate_succ, List.flatten_cons, List.flatten_cons]
    exact r.append (RVs.rep r n)
instance : F2 K (rTimes K) pTimes := ⟨fun d H μ x y v u P Q w r1 r2 q k => by
  match x, y, r1, r2, q with
  | .int i, .int j, .int _, .int _, ⟨c, q⟩ => exact .inl ⟨i, j, rfl, rfl, c, k d H μ _ _ .refl w (.int _) q⟩
  | .tup xs, .int n, .tup (a := a) (vs := vs) h1 h2, .int _, ⟨⟨z1, z2, z3, z4⟩, q⟩ =>
    refine .inr ⟨a, n, vs, rfl, rfl, h1.sq, ?_, z2, z3, by rw [← h2.length]; exact z4, fun e => ?_, fun e p o hp hc hd => ?_⟩
    · rintro rfl
      cases h2
      exact z1 rfl
    · subst e
      exact k d H μ _ _ .refl w (.tup h1 h2) (by simpa using q)
    · exact k d _ μ _ _ (Ext.lay w hp) (w.lay hp) (lay_tup w (h2.rep n.toNat) hp hc hd) q⟩
theorem op_modX {X : Cx} : OpR X (binaryOp .Mod) (rI (fun _ j => j ≠ 0) fun i j => .int (i.fmod j)) := op_modN
theorem psM {X : Cx} {st : Stmt} {wi : TI} {g : TG} {tt : TT} {te : TE} {vs : List Nat} {g' : TG} (h : PS X st (tAsg (tLc wi g tt te vs) g')) : PS X st (tAsg (tLcM wi g tt te vs) g') := h
theorem peLM {X : Cx} {e : Expr} {t : TA} (h : PE X e (tLst t)) : PE X e (tLstM t) := h
theorem peRM {X : Cx} {e : Expr} {K : PySem.W.Frag} {t : TE} (h : PE X e (tRevL K t)) : PE X e (tRevLM K t) := h
def names0 : List Str := ["abs", "len", "sum", "all", "any", "isinstance", "repr", "int", "tuple", "list", "bool", "str", "range", "zip", "enumerate", "max", "min", "sorted", "reversed", "set", "dict"]
def Blt (mg : Str → Option Value) : Prop := ∀ x ∈ names0, mg x = none
theorem Blt.mk {mg : Str → Option Value} (B : Blt mg) (x : Str) (h : x ∈ names0) : mg x = none := B x h
structure Own (K : PySem.W.Frag) (mg : Str → Option Value) (x : Str) (st : Stmt) : Prop where
  ex : ∃ f fd, Fun K x x st f fd ∧ mg x = some (.ref f)
structure Ok (P : Program) (w : World) (K : PySem.W.Frag) (mg : Str → Option Value) (base : Heap) (k : Nat) (x : Str) (st : Stmt) (ps : List Str) (S : PSp) : Prop where
  ex : ∃ f fd, Fun K x x st f fd ∧ mg x = some (.ref f) ∧ Binds K fd ps [] ∧ FnG P w K mg base k f fd ps S
theorem kbs_mk {x qual : Str} {st : Stmt} {f : Addr} {fd : FuncData} {ps ks : List Str} {n : Nat} {ix : List Nat} (F : Fun K x qual st f fd)
    (h : ∀ (kV doc pm : Value) (an : Option Addr) (cdv ct : Value) (us ws : List Value), us.length = n → ws.length = ks.length → bindArgs (PySem.W.fnOf x qual (defArgs st) (defBody st) (defScope st) .none kV doc pm an cdv ct) ⟨us, ks.zip ws⟩ = pure (ps.zip (perm ix (us ++ ws)))) : KBs fd ps ks n ix := by
  obtain ⟨oc, od, kV, doc, pm, an, cdv, ct, osl, rfl, lk, hcd⟩ := F.ex
  exact fun s us ws h1 h2 => .of_eq (h kV doc pm an cdv ct us ws h1 h2)
end
end Fx
namespace Fx
open PySem PySem.Spec PyProof.Rows L2 RZ
theorem fin_keep {μ : Store} {x : PV} {Q : PV → Store → Prop} {μ0 : Store} (h : Q x μ) : ∃ y μ', Gc μ0 x μ y μ' ∧ Q y μ' := ⟨x, μ, .keep, h⟩
theorem fin_drop {μ0 g : Store} {x : PV} {Q : PV → Store → Prop} (n : noRef x = true) (h : Q x μ0) : ∃ y μ', Gc μ0 x (μ0 ++ g) y μ' ∧ Q y μ' := ⟨x, μ0, .drop g rfl n, h⟩
section
variable {α β : Type}
theorem atI_zero {x : α} {xs : List α} : L2.atI (x :: xs) 0 = some x := atI_nat (j := 0) rfl
theorem atI_one {x y : α} {xs : List α} : L2.atI (x :: y :: xs) 1 = some y := atI_nat (j := 1) rfl
theorem atI_some {xs : List α} {i : Nat} {x : α} (h : xs[i]? = some x) : L2.atI xs (i : Int) = some x := atI_nat h
end
section
variable {α : Type} {g : MG} {c : MT} {e : ME} {ρ0 : PEnv} {P : List PV → Store → Prop} {μ : Store}
theorem lc_map {enc out : α → PV} : ∀ {l : List α} {acc : List PV}, (∀ a ∈ l, ∀ k : PV → Store → Prop, k (out a) μ → g (enc a) ρ0 μ fun ρ1 μ1 => e ρ1 μ1 k) → P (acc ++ l.map out) μ → mLcL g mYes e ρ0 P (l.map enc) acc μ
  | [], acc, _, hP => by simpa [mLcL] using hP
  | a :: l, acc, h, hP => by
    show g (enc a) ρ0 μ fun ρ1 μ1 => e ρ1 μ1 fun y μ3 => mLcL g mYes e ρ0 P (l.map enc) (acc ++ [y]) μ3
    exact h a List.mem_cons_self _ (lc_map (fun b hb => h b (List.mem_cons_of_mem _ hb)) (by simpa using hP))
theorem lc_filter {enc out : α → PV} {p : α → Bool} : ∀ {l : List α} {acc : List PV}, (∀ a ∈ l, ∀ (k : PV → Store → Prop) (n : Store → Prop), (p a = true → k (out a) μ) → (p a = false → n μ) → g (enc a) ρ0 μ fun ρ1 μ1 => c ρ1 μ1 fun b μ2 => if b = true then e ρ1 μ2 k else n μ2) →
    P (acc ++ (l.filter p).map out) μ → mLcL g c e ρ0 P (l.map enc) acc μ
  | [], acc, _, hP => by simpa [mLcL] using hP
  | a :: l, acc, h, hP => by
    show g (enc a) ρ0 μ fun ρ1 μ1 => c ρ1 μ1 fun b μ2 => if b = true then e ρ1 μ2 (fun y μ3 => mLcL g c e ρ0 P (l.map enc) (acc ++ [y]) μ3) else mLcL g c e ρ0 P (l.map enc) acc μ2
    refine h a List.mem_cons_self _ _ (fun hp => ?_) fun hp => ?_
    · refine lc_filter (fun b hb => h b (List.mem_cons_of_mem _ hb)) ?_
      simpa [List.filter_cons, hp] using hP
    · refine lc_filter (fun b hb => h b (List.mem_cons_of_mem _ hb)) ?_
      simpa [List.filter_cons, hp] using hP
end
section
variable {α : Type} {g : MG} {b : MS} {P : MEnds}
theorem for_inv {enc : α → PV} (I : List α → PEnv → Store → Prop) : ∀ {l done : List α} {ρ : PEnv} {μ : Store}, I done ρ μ → (∀ pre a post ρ μ, done ++ l = pre ++ a :: post → I pre ρ μ → ∀ N : PEnv → Store → Prop, (∀ ρ μ, I (pre ++ [a]) ρ μ → N ρ μ) →
      g (enc a) ρ μ fun ρ1 μ1 => b { P with nx := N, ct := N, bk := P.nx } ρ1 μ1) → (∀ ρ μ, I (done ++ l) ρ μ → P.nx ρ μ) → mForL g b P (l.map enc) ρ μ
  | [], done, ρ, μ, h0, _, hP => hP ρ μ (by simpa using h0)
  | a :: l, done, ρ, μ, h0, hs, hP => by
    have e1 : done ++ a :: l = (done ++ [a]) ++ l := by simp
    exact hs done a l ρ μ rfl h0 (mForL g b P (l.map enc)) fun ρ μ h => for_inv I (done := done ++ [a]) h (fun pre x post ρ μ e2 => hs pre x post ρ μ (by rw [e1]; exact e2)) fun ρ μ h => hP ρ μ (by rw [e1]; exact h)
end
theorem zipP_map {α β : Type} (f : α → PV) (h : β → PV) : ∀ (xs : List α) (ys : List β), zipP (xs.map f) (ys.map h) = (xs.zip ys).map fun p => .tup [f p.1, h p.2]
  | [], _ => by simp [zipP]
  | _ :: _, [] => by simp [zipP]
  | x :: xs, y :: ys => by simp [zipP, zipP_map f h xs ys]
theorem rangeP_eq (n : Nat) : rangeP 0 n = (List.range n).map fun (i : Nat) => PV.int i := by
  unfold rangeP
  simp
end Fx
namespace Fx
open PySem PySem.Spec PyProof.Rows L2 RZ
theorem meets_num1 {u : Value} {ob : Obj} {C : Heap → Prop} (B : Begins u ob C) :
    Meets (Builtin.«enumerate.__new__» ⟨[.type "enumerate", u], []⟩) (fun _ Z st => C st.heap ∧ Z (.ok (.ret (.ref (st.heap.push ob).objs.size)))
      { st with heap := (st.heap.push ob).push { cls := .type "enumerate", data := .fields #[.none, .bool false, .ref st.heap.objs.size, rawInt 0, .none, .none] } }) :=
  .of_wp fun prog w A R st h => by
    obtain ⟨hp, gn, dr, tt, oo⟩ := st
    obtain ⟨h1, h⟩ := h
    have sb := sub_enumerate
    have go : ∀ {A' : Around} {E : Value → Shared → Prop} {Q : Value → Shared → Prop}, Q (.ref hp.objs.size) ⟨hp.push ob, gn, dr, tt, oo⟩ → wpAny (model prog w) A' (pyIter u) Q E ⟨hp, gn, dr, tt, oo⟩ := fun q => B.iter prog w _ _ _ _ h1 q
    wp_walk using go
    refine wpAny_stack_any fun stk => wpAny_pure ?_
    split
    · rename_i cc _ _ _ _ _
      cases (cc == Value.type "enumerate") <;> (wp_walk using go; exact ⟨_, rfl, h⟩)
    · wp_walk using go; exact ⟨_, rfl, h⟩
theorem num_begins {prog : Program} {w : World} {A : Around} {E : Value → Shared → Prop} {s : Shared} {u : Value} {ob : Obj} {C : Heap → Prop} {Q : Value → Shared → Prop} (B : Begins u ob C) (h1 : C s.heap)
    (h : ∀ h', IsEnum h' (s.heap.objs.size + 1) s.heap.objs.size 0 .none → h'.get? s.heap.objs.size = some ob → (∀ b o, s.heap.get? b = some o → h'.get? b = some o) → Q (.ref (s.heap.objs.size + 1)) { s with heap := h' }) :
    wpAny (model prog w) A (call (.type "enumerate") [u]) Q E s := by
  refine callType_new F.called_enumerate (by decide) (F.typeCall_enumerate_1 _) (F.newCall_enumerate_1 _) (fun obj => F.args_object_init_2 obj _) F.entry_enumerate_new (meets_num1 B) ⟨h1, ?_⟩
  have z1 : (s.heap.push ob).objs.size = s.heap.objs.size + 1 := Heap.size_push ..
  show _ ∧ _
  rw [z1]
  have e1 : IsEnum ((s.heap.push ob).push { cls := .type "enumerate", data := .fields #[.none, .bool false, .ref s.heap.objs.size, rawInt 0, .none, .none] }) (s.heap.objs.size + 1) s.heap.objs.size 0 .none := by
    have q := Heap.get?_push_size (s.heap.push ob) (o := { cls := .type "enumerate", data := .fields #[.none, .bool false, .ref s.heap.objs.size, rawInt 0, .none, .none] }) rfl
    rw [z1] at q; exact q
  exact ⟨⟨_, e1, rfl⟩, h _ e1 (Heap.get?_push_of_some _ (Heap.get?_push_size _ B.free)) fun b o x => Heap.get?_push_of_some _ (Heap.get?_push_of_some _ x)⟩
def IteT (K : PySem.W.Frag) (a : Addr) : It where
  go i H := ∃ (xs : List V) (x : V), SqT K H a xs ∧ xs[i]? = some x
  yld i H v H' := ∃ T x, v = .ref T ∧ PairAt T (.int (i : Nat)) x H H' ∧ ∀ xs, SqT K H a xs → xs[i]? = some x
  stop i H := ∃ xs : List V, SqT K H a xs ∧ xs.length ≤ i
theorem turn_enumT {P : Program} {w : World} {K : PySem.W.Frag} {es : List Expr} {k1 : Nat} {tp : Pos} (a e it : Addr) :
    Turn P w K (.Tuple es k1 tp) (IteT K a) [e, it] e (fun i h => (∃ old, IsEnum h e it ((i : Nat) : Int) old) ∧ h.IsTupleIter it a i ∧ e ≠ it ∧ a ≠ it ∧ e ≠ a) where
  mem := by simp
  obj := fun i h st b hb => by
    obtain ⟨⟨old, he⟩, ⟨o, ho, hc, hd⟩, _⟩ := st
    rcases (show b = e ∨ b = it by simpa using hb) with z | z
    · exact z ▸ ⟨_, he, fun v q => nomatch q⟩
    · exact z ▸ ⟨o, ho, fun v q => by rw [hd] at q; cases q⟩
  keep := fun i h h' st k => by
    obtain ⟨⟨old, he⟩, hi, r⟩ := st
    exact ⟨⟨old, k e (by simp) _ he⟩, hi.at fun o q => k it (by simp) o q, r⟩
  item := by
    intro X hP hw hK hc i pins s σ H E I hf st hg
    subst hP hw hK
    obtain ⟨⟨old, he⟩, hit, hne, hai, hea⟩ := st
    obtain ⟨xs, x, hq, hx⟩ := hg
    obtain ⟨its, rv, p, hz⟩ := I.tuple hq
    obtain ⟨u, hu, ru⟩ := rv.get hx
    have el := Heap.lt_size he
    have il : it < s.heap.objs.size := by obtain ⟨_, q, _⟩ := hit; exact Heap.lt_size q
    have isz : i < its.toArray.size := by
      have := (List.getElem?_eq_some_iff.mp hu).1
      simpa using this
    refine wpAny_pyNext_enum_itemD (Draws.tuple (A := X.A.in1) (I.ok.hd hc) it a hai its.toArray) he ⟨hit, p⟩ isz hne (by simp [hne, hea]) fun u' h' tk hu' ho st' hT hsz hk => ?_
    have hu'' : u' = u := by
      have q : its.toArray[i]? = some u := by simpa using hu
      have q' : its.toArray[i]? = some u' := hu'
      rw [q] at q'; cases q'; rfl
    subst hu''
    refine ⟨_, rfl, wpAny_letOwnedTupleGo_enum (s := { s with heap := h', toks := tk + 1 }) ho fun h2 he2 sb => ?_⟩
    have hT2 := (sb.2 _ (Nat.ne_of_gt el)).trans hT
    have new : ObjOk X.prog X.w (upd H s.heap.objs.size (.frz { cls := .type "tuple", data := .seq #[.int i tk, u'] } (.tup [.int (i : Nat), x]))) h2 s.heap.objs.size (.frz { cls := .type "tuple", data := .seq #[.int i tk, u'] } (.tup [.int (i : Nat), x])) :=
      ⟨hT2, by show 2 ≤ sizeLine; decide, [.int i tk, u'], .cons ⟨_, rfl⟩ (.cons ru .nil), ⟨_, hT2, rfl, _, rfl⟩⟩
    have I1 : Inv X pins σ (upd H s.heap.objs.size (.frz { cls := .type "tuple", data := .seq #[.int i tk, u'] } (.tup [.int (i : Nat), x]))) { s with heap := h2, toks := tk + 1 } := by
      refine I.turnedNew (ch := [e, it]) (fun b ob hb q => ?_) hf (Nat.le_refl _) new
      have nb : b ≠ e ∧ b ≠ it := by simpa using hb
      exact (sb.2 b nb.1).trans (hk b ob nb.1 nb.2 q)
    refine ⟨.ref s.heap.objs.size, _, I1, rfl, ⟨_, x, rfl, ⟨I.hok.fresh (Nat.le_refl _), _, ⟨rfl, rfl⟩, rfl⟩, fun ys hy => by rw [I.tuple_inj hy hq]; exact hx⟩, ⟨⟨u', ?_⟩, st'.1.at fun o q => (sb.2 it (Ne.symm hne)).trans q, hne, hai, hea⟩, fun b hb => ?_⟩
    · rw [show ((i + 1 : Nat) : Int) = (i : Int) + 1 by omega]
      exact he2
    · have bl : b < s.heap.objs.size := by
        rcases (show b = e ∨ b = it by simpa using hb) with z | z
        · exact z ▸ el
        · exact z ▸ il
      rw [upd_ne (Nat.ne_of_lt bl)]
      exact (hf b hb).1
  done := by
    intro X hP hw hK hc i pins s σ H E I hf st hg
    subst hP hw hK
    obtain ⟨⟨old, he⟩, hit, hne, hai, hea⟩ := st
    obtain ⟨xs, hq, hx⟩ := hg
    obtain ⟨its, rv, p, hz⟩ := I.tuple hq
    obtain ⟨f0, f1, f2, f3, f4, f5⟩ := hf it (by simp)
    have hl := rv.length
    have hT : s.TypeIs (.ref e) "enumerate" := ⟨_, he, rfl⟩
    unfold pyNext
    refine wpAny_bind (wpAny_attempt (wpAny_callSpecial?_slot (name := Str.ofString "__next__") hT F.slot_enumerate_next (wpAny_call_entry F.slot_enumerate_next hT F.entry_enumerate_next ?_ (F.args_enumerate_next_1 _))))
    show wpAny _ _ (field (.ref e) 2 >>= _) _ _ _
    refine wpAny_bind (wpAny_field he rfl (x := .ref it) rfl ?_)
    refine wpAny_bind (wpAny_nextOf_tuple_end (I.ok.hd hc) hit p (by simp; omega) fun h' x he' hx' => ?_)
    obtain ⟨o, ho, hc⟩ := hx'
    refine wpAny_bind (wpAny_isInstance (T := "StopIteration") (b := true) ⟨o, ho, hc⟩ isSubtype_stop ?_)
    exact wpAny_pure ⟨rfl, I.turned (t' := s.toks) (fun b o hb q => he' b o hb q) f0 f1 f3 f4 f5⟩
  self := fun A i s Q E st h => by
    obtain ⟨⟨_, he⟩, _⟩ := st
    exact wpAny_pyIter_enum he h
def iEnumS (K : PySem.W.Frag) (ta : TA) : TI := fun σ H R => ta σ H fun vs H1 => ∃ a, vs = [.ref a] ∧ (((∃ xs, SqL K H1 a xs) ∧ R (IteL K a) H1) ∨ ((∃ xs, SqT K H1 a xs) ∧ R (IteT K a) H1))
theorem pi_enumS {X : Cx} {e1 : Expr} {ta : TA} {p pos tpos : Pos} {es : List Expr} {k1 : Nat} (hg : Gl X "enumerate") (hm : X.mg "enumerate" = none) (ha : PA X [e1] ta) (hs : starEach [e1] X.env = [(false, eval e1 X.env)] := by rfl) :
    PI X (.Tuple es k1 tpos) (.Call (.Name "enumerate" p) [e1] [] pos) (iEnumS X.K ta) := by
  refine ⟨fun pins s σ H R I h => ?_⟩
  refine wpAny_Call_Name_kw (ld_blt I hg hm boot_enumerate (callWith_type1 (thn (ha.run pos pins s σ H _ I h) fun us s1 ⟨vs, H1, I1, r1, q1⟩ => ?_) hs rfl))
  obtain ⟨a, ex, q⟩ := q1
  subst ex
  cases r1 with
  | cons r rr =>
    cases rr
    cases r
    have fr : ∀ b ∈ [s1.heap.objs.size + 1, s1.heap.objs.size], FpOk X pins H1 b := fun b hb => by
      have le : s1.heap.objs.size ≤ b := by
        rcases (show b = s1.heap.objs.size + 1 ∨ b = s1.heap.objs.size by simpa using hb) with z | z
        · rw [z]; exact Nat.le_add_right _ _
        · rw [z]; exact Nat.le_refl _
      exact I1.fpOk le (I1.hok.fresh le)
    rcases q with ⟨⟨xs, hq⟩, q⟩ | ⟨⟨xs, hq⟩, q⟩
    · obtain ⟨its, rv, p', hz⟩ := I1.list hq
      refine num_begins (begins_list a its.toArray) p'.isList fun h' he hit hk => wpAny_pyIter_enum he ?_
      exact ⟨s1.heap.objs.size + 1, [s1.heap.objs.size + 1, s1.heap.objs.size], _, _, H1, rfl, I1.kept (t' := s1.toks) hk, turn_enumL a (s1.heap.objs.size + 1) s1.heap.objs.size, ⟨⟨.none, he⟩, ⟨_, hit, rfl, rfl⟩, Nat.succ_ne_self _⟩, fr, q⟩
    · obtain ⟨its, rv, p', hz⟩ := I1.tuple hq
      have pt : s1.heap.IsTuple a its.toArray := p'
      have al : a < s1.heap.objs.size := by obtain ⟨_, q, _⟩ := pt; exact Heap.lt_size q
      refine num_begins (begins_tuple a its.toArray) pt fun h' he hit hk => wpAny_pyIter_enum he ?_
      exact ⟨s1.heap.objs.size + 1, [s1.heap.objs.size + 1, s1.heap.objs.size], _, _, H1, rfl, I1.kept (t' := s1.toks) hk, turn_enumT a (s1.heap.objs.size + 1) s1.heap.objs.size, ⟨⟨.none, he⟩, ⟨_, hit, rfl, rfl⟩, Nat.succ_ne_self _, Nat.ne_of_lt al, Nat.ne_of_gt (Nat.lt_succ_of_lt al)⟩, fr, q⟩
def enumP : Nat → List PV → List PV
  | _, [] => []
  | i, x :: xs => .tup [.int i, x] :: enumP (i + 1) xs
theorem enumP_get : ∀ {xs : List PV} {j i : Nat} {z : PV}, (enumP j xs)[i]? = some z → ∃ x, xs[i]? = some x ∧ z = .tup [.int ((j + i : Nat) : Int), x]
  | [], _, _, _, h => by simp [enumP] at h
  | x :: xs, j, 0, z, h => by
    simp [enumP] at h
    exact ⟨x, rfl, h.symm⟩
  | x :: xs, j, i + 1, z, h => by
    simp only [enumP, List.getElem?_cons_succ] at h
    obtain ⟨y, h1, h2⟩ := enumP_get h
    exact ⟨y, by simpa using h1, by rw [h2]; congr 3; congr 1; omega⟩
theorem enumP_length : ∀ (xs : List PV) (j : Nat), (enumP j xs).length = xs.length
  | [], _ => rfl
  | x :: xs, j => by simp [enumP, enumP_length xs]
section
variable {K : PySem.W.Frag} {d d' : Wd} {H H' : Hp} {a b : Addr} {vs us : List V} {xs ys : List PV} {μ : Store}
theorem it_enumT (h : TupAt K d H a vs) (r : RVs K d H xs vs) : ItOk (K := K) d H (IteT K a) (enumP 0 xs) := fun d1 d2 H2 μ2 bb e w => by
  have h2 : TupAt K d2 H2 a vs := e.tupAt (h.imp (fun z => ⟨z.1, by rw [bb.1]; exact z.2⟩) id)
  have r2 : RVs K d2 H2 xs vs := (r.bars bb).mono e
  refine ⟨fun i x hx => ?_, fun i hi => ⟨vs, h2.sq, by rw [enumP_length] at hi; rw [← r2.length]; exact hi⟩⟩
  obtain ⟨y, hy, rfl⟩ := enumP_get hx
  obtain ⟨v, hv, rv⟩ := r2.get hy
  refine ⟨⟨vs, v, h2.sq, hv⟩, fun u H3 hyl => ?_⟩
  obtain ⟨T, v', rfl, hT, f⟩ := hyl
  have e1 := f vs h2.sq
  rw [hv] at e1; cases e1
  rw [Nat.zero_add]
  exact tup_pair w hT (.int _) rv
theorem it_enumK (h : KlAt K d H a vs) (r : RVs K d H xs vs) : ItOk (K := K) d H (IteL K a) (enumP 0 xs) := fun d1 d2 H2 μ2 bb e w => by
  have h2 : KlAt K d2 H2 a vs := e.klAt (h.imp (fun z => ⟨z.1, by rw [bb.1]; exact z.2.1, fun q => (bb.2 _ q).elim z.2.2 (Rd.ne z.1)⟩) id)
  have r2 : RVs K d2 H2 xs vs := (r.bars bb).mono e
  refine ⟨fun i x hx => ?_, fun i hi => ⟨vs, h2.sq, by rw [enumP_length] at hi; rw [← r2.length]; exact hi⟩⟩
  obtain ⟨y, hy, rfl⟩ := enumP_get hx
  obtain ⟨v, hv, rv⟩ := r2.get hy
  refine ⟨⟨vs, v, h2.sq, hv⟩, fun u H3 hyl => ?_⟩
  obtain ⟨T, v', rfl, hT, f⟩ := hyl
  have e1 := f vs h2.sq
  rw [hv] at e1; cases e1
  rw [Nat.zero_add]
  exact tup_pair w hT (.int _) rv
def mEnum (m : MA) : MI := fun ρ μ P => m ρ μ fun xs μ1 => match xs with | [.tup ys] => P (enumP 0 ys) μ1 | [.lst ys] => P (enumP 0 ys) μ1 | [.kl ys] => P (enumP 0 ys) μ1 | _ => False
instance {t m} [h : FA K t m] : FI K (iEnumS K t) (mEnum m) := ⟨fun d σ H ρ μ P R w e q k => by
  refine h.run d σ H ρ μ _ _ w e q fun d1 H1 μ1 xs vs e1 w1 r1 q1 => ?_
  match xs, r1, q1 with
  | [.tup ys], .cons (.tup ha hr) .nil, q1 => exact ⟨_, rfl, .inr ⟨⟨_, ha.sq⟩, k d1 H1 μ1 _ _ e1 w1 (it_enumT ha hr) q1⟩⟩
  | [.lst ys], .cons (.lst ha hr) .nil, q1 => exact ⟨_, rfl, .inl ⟨⟨_, ha.sq⟩, k d1 H1 μ1 _ _ e1 w1 (it_enumK (.inl ⟨.inl ha.1, ha.2⟩) hr) q1⟩⟩
  | [.kl ys], .cons (.kl ha hr) .nil, q1 => exact ⟨_, rfl, .inl ⟨⟨_, ha.sq⟩, k d1 H1 μ1 _ _ e1 w1 (it_enumK ha hr) q1⟩⟩⟩
def ItW (K : PySem.W.Frag) (J : It) (xs : List PV) (Iv : Wd → Hp → Prop) : Prop :=
  (∀ d H d2 H2, Iv d H → Ext d H d2 H2 → Iv d2 H2) ∧ (∀ d H D l l', Iv d H → D ∈ d.ban → H D = some (.lst l) → Iv d (upd H D (.lst l'))) ∧
  ∀ d H μ, Iv d H → WOk K d H μ → (∀ (i : Nat) x, xs[i]? = some x → J.go i H ∧ ∀ v H', J.yld i H v H' → Ext d H d H' ∧ WOk K d H' μ ∧ RV K d H' x v) ∧ (∀ i, xs.length ≤ i → J.stop i H)
class FW (K : PySem.W.Frag) (t : TI) (m : outParam MI) : Prop where
  run : ∀ (d : Wd) (σ : L2.St) (H : Hp) (ρ : PEnv) (μ : Store) (P : List PV → Store → Prop) (R : It → Hp → Prop), WOk K d H μ → REnv K d H ρ σ → m ρ μ P →
    (∀ d' H' μ' J xs Iv, Ext d H d' H' → WOk K d' H' μ' → ItW K J xs Iv → Iv d' H' → P xs μ' → R J H') → t σ H R
theorem TupAt.made {D : Addr} {l l' : List V} (h : TupAt K d H a vs) (hD : H D = some (.lst l)) : TupAt K d (upd H D (.lst l')) a vs := by
  rcases h with ⟨r, n⟩ | h
  · have ne : a ≠ D := by
      rintro rfl
      obtain ⟨o, r, _⟩ := r
      rw [hD] at r; cases r
    exact .inl ⟨r.keep fun o q => by rw [upd_ne ne]; exact q, n⟩
  · exact .inr h
theorem KlAt.made {D : Addr} {l l' : List V} (h : KlAt K d H a vs) (hb : D ∈ d.ban) : KlAt K d (upd H D (.lst l')) a vs := by
  rcases h with ⟨r, n, b⟩ | h
  · have ne : a ≠ D := by
      rintro rfl
      exact b hb
    refine .inl ⟨?_, n, b⟩
    rcases r with r | ⟨o, r⟩
    · exact .inl (by rw [upd_ne ne]; exact r)
    · exact .inr ⟨o, by rw [upd_ne ne]; exact r⟩
  · exact .inr h
theorem itw_tup : ItW K (Itt K a) xs fun d H => ∃ vs, TupAt K d H a vs ∧ RVs K d H xs vs := by
  refine ⟨fun d H d2 H2 ⟨vs, h, r⟩ e => ⟨vs, e.tupAt h, r.mono e⟩, fun d H D l l' ⟨vs, h, r⟩ hb hD => ⟨vs, h.made hD, r.made hb (no_tup hD)⟩, fun d H μ ⟨vs, h, r⟩ w => ?_⟩
  exact it_tup h r d d H μ ⟨rfl, fun _ h => .inl h⟩ .refl w
theorem itw_kl : ItW K (Itl K a) xs fun d H => ∃ vs, KlAt K d H a vs ∧ RVs K d H xs vs := by
  refine ⟨fun d H d2 H2 ⟨vs, h, r⟩ e => ⟨vs, e.klAt h, r.mono e⟩, fun d H D l l' ⟨vs, h, r⟩ hb hD => ⟨vs, h.made hb (l := l), r.made hb (no_tup hD)⟩, fun d H μ ⟨vs, h, r⟩ w => ?_⟩
  exact it_kl h r d d H μ ⟨rfl, fun _ h => .inl h⟩ .refl w
instance {t m} [h : FE K t m] : FW K (iSeq K t) (mSeqI m) := ⟨fun d σ H ρ μ P R w e q k => by
  refine h.run d σ H ρ μ _ _ w e q fun d1 H1 μ1 x v e1 w1 r1 q1 => ?_
  cases x <;> try exact q1.elim
  · cases r1 with
    | tup ha hr => exact ⟨_, rfl, .inr ⟨⟨_, ha.sq⟩, k d1 H1 μ1 _ _ _ e1 w1 itw_tup ⟨_, ha, hr⟩ q1⟩⟩
  · cases r1 with
    | lst ha hr => exact ⟨_, rfl, .inl ⟨⟨_, ha.sq⟩, k d1 H1 μ1 _ _ _ e1 w1 itw_kl ⟨_, .inl ⟨.inl ha.1, ha.2⟩, hr⟩ q1⟩⟩
  · cases r1 with
    | kl ha hr => exact ⟨_, rfl, .inl ⟨⟨_, ha.sq⟩, k d1 H1 μ1 _ _ _ e1 w1 itw_kl ⟨_, ha, hr⟩ q1⟩⟩⟩
instance {t m} [h : FA K t m] : FW K (iRng1 t) (mRng1 m) := ⟨fun d σ H ρ μ P R w e q k => by
  refine h.run d σ H ρ μ _ _ w e q fun d1 H1 μ1 xs vs e1 w1 r1 q1 => ?_
  match xs, r1, q1 with
  | [.int j], .cons (.int _) .nil, ⟨z, q1⟩ =>
    exact ⟨j, rfl, by omega, by omega, k d1 H1 μ1 _ _ (fun _ _ => True) e1 w1 ⟨fun _ _ _ _ _ _ => trivial, fun _ _ _ _ _ _ _ _ => trivial, fun d H μ _ w => it_rng 0 j.toNat d d H μ ⟨rfl, fun _ h => .inl h⟩ .refl w⟩ trivial q1⟩⟩
def mLcO (g : MG) (c : MT) (i1 : MI) (g1 : MG) (c1 : MT) (e : ME) (vs1 : List Nat) (ρ0 : PEnv) (P : List PV → Store → Prop) : List PV → List PV → Store → Prop
  | [], acc, μ => P acc μ
  | x :: xs, acc, μ => g x ρ0 μ fun ρ1 μ1 => c ρ1 μ1 fun b μ2 => if b = true then i1 ρ1 μ2 fun ys μ3 => (acc.length + ys.length ≤ lim ∧ mLcL g1 c1 e (wipeP ρ1 vs1) (fun acc' μ4 => mLcO g c i1 g1 c1 e vs1 ρ0 P xs acc' μ4) ys acc μ3) else mLcO g c i1 g1 c1 e vs1 ρ0 P xs acc μ2
def mLc2 (mi : MI) (g : MG) (c : MT) (i1 : MI) (g1 : MG) (c1 : MT) (e : ME) (s vs s1 vs1 : List Nat) : ME := fun ρ μ P => ((∀ i ∈ s, i ∈ vs) ∧ ∀ i ∈ s1, i ∈ vs1) ∧ mi ρ μ fun xs μ1 => mLcO g c i1 g1 c1 e vs1 (wipeP ρ vs) (fun acc μ2 => P (.lst acc) μ2) xs [] μ1
instance {wi mi g mg s tt mt wi1 mi1 g1 mg1 s1 tt1 mt1 te me vs vs1} [hi : FI K wi mi] [hg : FG K g mg s] [hc : FT K tt mt] [hi1 : FW K wi1 mi1] [hg1 : FG K g1 mg1 s1] [hc1 : FT K tt1 mt1] [he : FE K te me] :
    FE K (tLc2 wi g tt wi1 g1 tt1 te vs vs1) (mLc2 mi mg mt mi1 mg1 mt1 me s vs s1 vs1) := ⟨fun d σ H ρ μ P Q w e q k => by
  obtain ⟨⟨hs, hs1⟩, q⟩ := q
  refine hi.run d σ H ρ μ _ _ w e q fun d1 H1 μ1 J xs e1 w1 it q1 => ?_
  intro D hD
  have bD : Bars d1 ⟨d1.am, D :: d1.ban⟩ H1 := ⟨rfl, fun x q => (List.mem_cons.mp q).elim (fun z => .inr (by rw [z]; exact hD)) .inl⟩
  have envB : REnv K ⟨d1.am, D :: d1.ban⟩ H1 (wipeP ρ vs) (wipe σ vs) := ((e.mono e1).bars bD).wipe vs
  have lay0 : Ext ⟨d1.am, D :: d1.ban⟩ H1 ⟨d1.am, D :: d1.ban⟩ (upd H1 D (.lst [])) := ⟨⟨[], by simp, fun p hp => by simp at hp⟩, rfl, fun b u e _ => by rw [upd_ne (ne_of_none e hD)]; exact e⟩
  refine ⟨fun i m H' => ∃ dB μ' acc avs, Ext ⟨d1.am, D :: d1.ban⟩ H1 dB H' ∧ WOk K dB H' μ' ∧ H' D = some (.lst avs) ∧ RVs K dB H' acc avs ∧ i + m = xs.length ∧ mLcO mg mt mi1 mg1 mt1 me vs1 (wipeP ρ vs) (fun acc μ2 => P (.lst acc) μ2) (xs.drop i) acc μ',
    ⟨xs.length, _, μ1, [], [], lay0, w1.barD hD, upd_same, .nil, by omega, by simpa using q1⟩, fun i m H' hW => ?_⟩
  obtain ⟨dB, μ', acc, avs, eB, wB, hDv, rA, em, q2⟩ := hW
  have hDban : D ∈ dB.ban := by rw [eB.ban]; exact List.mem_cons_self
  obtain ⟨itg, its⟩ := it _ dB H' μ' bD eB wB
  cases hx : xs[i]? with
  | none =>
    have hle : xs.length ≤ i := List.getElem?_eq_none_iff.mp hx
    rw [List.drop_of_length_le hle] at q2
    refine .inl ⟨its i hle, ?_⟩
    obtain ⟨x1, x2, x3⟩ := lc_frozen e1 hD (w1.notban hD) eB wB hDv rA
    exact k _ H' μ' _ _ x1 x2 x3 q2
  | some x =>
    have hlt : i < xs.length := (List.getElem?_eq_some_iff.mp hx).1
    rw [drop_cons hx] at q2
    obtain ⟨go, yl⟩ := itg i x hx
    refine .inr ⟨go, fun H3 => ∃ dB μ' acc avs, Ext ⟨d1.am, D :: d1.ban⟩ H1 dB H3 ∧ WOk K dB H3 μ' ∧ H3 D = some (.lst avs) ∧ RVs K dB H3 acc avs ∧ mLcO mg mt mi1 mg1 mt1 me vs1 (wipeP ρ vs) (fun acc μ2 => P (.lst acc) μ2) (xs.drop (i + 1)) acc μ', fun H3 hN => ?_, fun v H3 hy => ?_⟩
    · obtain ⟨a1, a2, a3, a4, a5, a6, a7, a8, a10⟩ := hN
      exact ⟨m - 1, by omega, a1, a2, a3, a4, a5, a6, a7, a8, by omega, a10⟩
    · obtain ⟨ey, wy, ry⟩ := yl v H3 hy
      refine hg.run dB (wipe σ vs) H3 (wipeP ρ vs) μ' x v _ _ wy (envB.mono (eB.trans ey)) ry q2 fun d4 σ4 H4 ρ4 μ4 e4 w4 ee4 hl4 hs4 q4 => ⟨wipe_same hl4 hs4 hs, ?_⟩
      refine hc.run d4 σ4 H4 ρ4 μ4 _ _ w4 ee4 q4 fun d5 H5 μ5 b e5 w5 q5 => ?_
      have nD : D ∉ dB.am := (wB.ban D hDban).2
      have E5 : Ext dB H' d5 H5 := (ey.trans e4).trans e5
      cases b
      · exact ⟨d5, μ5, acc, avs, eB.trans E5, w5, E5.keep _ _ hDv nD, rA.mono E5, q5⟩
      · refine hi1.run d5 σ4 H5 ρ4 μ5 _ _ w5 (ee4.mono e5) q5 fun d6 H6 μ6 J1 ys Iv e6 w6 ⟨iv1, iv2, iv3⟩ iv ⟨hyl, q6⟩ => ?_
        have E6 : Ext dB H' d6 H6 := E5.trans e6
        have b6 : D ∈ d6.ban := by rw [E6.ban]; exact hDban
        have hD6 : H6 D = some (.lst avs) := E6.keep _ _ hDv nD
        refine ⟨fun j n H7 => ∃ dC μ' acc' bvs, Ext ⟨d1.am, D :: d1.ban⟩ H1 dC H7 ∧ WOk K dC H7 μ' ∧ H7 D = some (.lst bvs) ∧ RVs K dC H7 acc' bvs ∧ REnv K dC H7 (wipeP ρ4 vs1) (wipe σ4 vs1) ∧ Iv dC H7 ∧ j + n = ys.length ∧ acc'.length ≤ acc.length + j ∧
          mLcL mg1 mt1 me (wipeP ρ4 vs1) (fun acc' μ4 => mLcO mg mt mi1 mg1 mt1 me vs1 (wipeP ρ vs) (fun acc μ2 => P (.lst acc) μ2) (xs.drop (i + 1)) acc' μ4) (ys.drop j) acc' μ',
          ⟨ys.length, d6, μ6, acc, avs, eB.trans E6, w6, hD6, rA.mono E6, (ee4.mono (e5.trans e6)).wipe vs1, iv, by omega, by omega, by simpa using q6⟩, fun j n H7 hW1 => ?_⟩
        obtain ⟨dC, μ7, acc', bvs, E7, w7, hD7, rA7, env7, iv7, en, hal, q7⟩ := hW1
        obtain ⟨itg1, its1⟩ := iv3 dC H7 μ7 iv7 w7
        have bC : D ∈ dC.ban := by rw [E7.ban]; exact List.mem_cons_self
        have nC : D ∉ dC.am := (w7.ban D bC).2
        cases hy1 : ys[j]? with
        | none =>
          have hle : ys.length ≤ j := List.getElem?_eq_none_iff.mp hy1
          rw [List.drop_of_length_le hle] at q7
          exact .inl ⟨its1 j hle, dC, μ7, acc', bvs, E7, w7, hD7, rA7, q7⟩
        | some y =>
          have hlt1 : j < ys.length := (List.getElem?_eq_some_iff.mp hy1).1
          rw [drop_cons hy1] at q7
          obtain ⟨go1, yl1⟩ := itg1 j y hy1
          refine .inr ⟨go1, fun H8 => ∃ dC μ' acc' bvs, Ext ⟨d1.am, D :: d1.ban⟩ H1 dC H8 ∧ WOk K dC H8 μ' ∧ H8 D = some (.lst bvs) ∧ RVs K dC H8 acc' bvs ∧ REnv K dC H8 (wipeP ρ4 vs1) (wipe σ4 vs1) ∧ Iv dC H8 ∧ acc'.length ≤ acc.length + (j + 1) ∧
            mLcL mg1 mt1 me (wipeP ρ4 vs1) (fun acc' μ4 => mLcO mg mt mi1 mg1 mt1 me vs1 (wipeP ρ vs) (fun acc μ2 => P (.lst acc) μ2) (xs.drop (i + 1)) acc' μ4) (ys.drop (j + 1)) acc' μ', fun H8 hN => ?_, fun v8 H8 hy8 => ?_⟩
          · obtain ⟨a1, a2, a3, a4, a5, a6, a7, a8, a9, a10, a11, a12⟩ := hN
            exact ⟨n - 1, by omega, a1, a2, a3, a4, a5, a6, a7, a8, a9, a10, by omega, a11, a12⟩
          · obtain ⟨ey8, wy8, ry8⟩ := yl1 v8 H8 hy8
            refine hg1.run dC (wipe σ4 vs1) H8 (wipeP ρ4 vs1) μ7 y v8 _ _ wy8 (env7.mono ey8) ry8 q7 fun d9 σ9 H9 ρ9 μ9 e9 w9 ee9 hl9 hs9 q9 => ⟨wipe_same hl9 hs9 hs1, ?_⟩
            refine hc1.run d9 σ9 H9 ρ9 μ9 _ _ w9 ee9 q9 fun dE HE μE b eE wE qE => ?_
            have F9 : Ext dC H7 dE HE := (ey8.trans e9).trans eE
            cases b
            · exact ⟨dE, μE, acc', bvs, E7.trans F9, wE, F9.keep _ _ hD7 nC, rA7.mono F9, env7.mono F9, iv1 _ _ _ _ iv7 F9, by omega, qE⟩
            · refine he.run dE σ9 HE ρ9 μE _ _ wE (ee9.mono eE) qE fun dG HG μG z u eG wG rG qG => ?_
              have FG : Ext dC H7 dG HG := F9.trans eG
              have hDG : HG D = some (.lst bvs) := FG.keep _ _ hD7 nC
              have bG : D ∈ dG.ban := by rw [FG.ban]; exact bC
              have rAG := (rA7.mono FG).append (.cons rG .nil)
              have EG := E7.trans FG
              have nG := no_tup hDG
              refine ⟨bvs, hDG, by rw [← rA7.length]; exact lim_lt' (by omega), dG, μG, acc' ++ [z], bvs ++ [u], ⟨EG.am, EG.ban, fun b o hb hn => by rw [upd_ne (ne_of_none hb hD)]; exact EG.keep b o hb hn⟩, wG.made bG nG, upd_same, rAG.made bG nG, ?_, iv2 _ _ _ _ _ (iv1 _ _ _ _ iv7 FG) bG hDG, by rw [List.length_append]; simp; omega, qG⟩
              have em := env7.mono FG
              exact ⟨em.1, fun i x q => let ⟨v, a, c⟩ := em.2 i x q; ⟨v, a, c.made bG nG⟩⟩⟩
end
end Fx
namespace Fx
open PySem PySem.Spec PyProof.Rows L2 RZ
section
variable {X : Cx}
theorem opk_plus (K : PySem.W.Frag) (h : X.K = K) : OpR X (binaryOp .Add) (rPlus K) := h ▸ op_plus
theorem opk_eqX (K : PySem.W.Frag) (h : X.K = K) (hu : X.A.units + 64 < cLine) : OpR X (compareOp .Eq) (rEqX K) := h ▸ op_eqX hu
theorem ixk_seq (K : PySem.W.Frag) (h : X.K = K) : IxR X (rIx K) := h ▸ ix_seq
theorem pgk_tup (K : PySem.W.Frag) (n : Nat) (h : X.K = K) {pos : Pos} {es : List Expr} {k : Nat} {t : TGs} (hc : X.calm = true) (hp : PGs X es t) (hn : (assignEach es X.env).length = n) (hs : (assignEach es X.env).findIdx? (fun x => x.fst) = none) :
    PG X (.Tuple es k pos) (gTup K n t) := h ▸ pg_tup hc hp hn hs
variable {k : Nat} {f : Addr} {fd : FuncData} {ps ks : List Str} {S : PSp} {x : Str} {p pos : Pos} {e : Expr} {es : List Expr} {kws : List Keyword} {t tk : TA}
theorem pek_call (K : PySem.W.Frag) (h : X.K = K) {k : Nat} {f : Addr} {fd : FuncData} {ps : List Str} {S : PSp} {x : Str} {p pos : Pos} {e : Expr} {es : List Expr} {t : TA}
    (F : FnG X.prog X.w X.K X.mg X.base k f fd ps S) (hr : Room k X.A) (hgd : X.A.guards = some []) (hg : Gl X x) (hm : X.mg x = some (.ref f)) (hk : PySem.W.keepIn X.K (.ref f) = true) (hb : Binds X.K fd ps [])
    (ha : PA X (e :: es) t) (hdb : (x == ("__debug__" : Str)) = false := by decide) (he : starEach (e :: es) X.env = (false, eval e X.env) :: starEach es X.env := by rfl) (hpl : (backTo pos (starEach es X.env)).any (·.1) = false := by rfl) :
    PE X (.Call (.Name x p) (e :: es) [] pos) (tCallG K S t) := h ▸ pe_callG F hr hgd hg hm hk hb ha hdb he hpl
end
end Fx
namespace Fx
open PySem PySem.Spec PyProof.Rows L2 RZ
abbrev MIC := PEnv → Store → (List PV → (Store → Prop) → Store → Prop) → Prop
def ItC (K : PySem.W.Frag) (d0 : Wd) (H0 : Hp) (J : It) (xs : List PV) (C : Store → Prop) : Prop :=
  ∀ d1 d H μ, Bars d0 d1 H0 → Ext d1 H0 d H → WOk K d H μ → C μ → (∀ (i : Nat) x, xs[i]? = some x → J.go i H ∧ ∀ v H', J.yld i H v H' → Ext d H d H' ∧ WOk K d H' μ ∧ RV K d H' x v) ∧ (∀ i, xs.length ≤ i → J.stop i H)
class FC (K : PySem.W.Frag) (t : TI) (m : outParam MIC) : Prop where
  run : ∀ (d : Wd) (σ : L2.St) (H : Hp) (ρ : PEnv) (μ : Store) (P : List PV → (Store → Prop) → Store → Prop) (R : It → Hp → Prop), WOk K d H μ → REnv K d H ρ σ → m ρ μ P →
    (∀ d' H' μ' J xs C, Ext d H d' H' → WOk K d' H' μ' → ItC K d' H' J xs C → P xs C μ' → R J H') → t σ H R
def iSeqM (K : PySem.W.Frag) (tl : TE) : TI := iSeq K tl
theorem pi_seqM {X : Cx} {tg l : Expr} {tl : TE} (hl : PE X l tl) : PI X tg l (iSeqM X.K tl) := pi_seq hl
section
variable {K : PySem.W.Frag} {d d' : Wd} {H H' : Hp} {a b : Addr} {vs us : List V} {xs ys : List PV} {μ : Store}
def mSeqC (m : ME) : MIC := fun ρ μ P => m ρ μ fun x μ1 => match x with | .mr n => (match μ1[n]? with | some (.lst xs) => P xs (fun μ2 => μ2[n]? = some (.lst xs)) μ1 | _ => False) | _ => False
instance {t m} [h : FE K t m] : FC K (iSeqM K t) (mSeqC m) := ⟨fun d σ H ρ μ P R w e q k => by
  refine h.run d σ H ρ μ _ _ w e q fun d1 H1 μ1 x v e1 w1 r1 q1 => ?_
  cases r1 with
  | @mr n a h1 =>
    simp only at q1
    cases e2 : μ1[n]? with
    | none => rw [e2] at q1; exact q1.elim
    | some m =>
      cases m with
      | dk _ => rw [e2] at q1; exact q1.elim
      | fd _ _ _ => rw [e2] at q1; exact q1.elim
      | tk _ => rw [e2] at q1; exact q1.elim
      | nk _ => rw [e2] at q1; exact q1.elim
      | ft _ _ _ => rw [e2] at q1; exact q1.elim
      | fn _ _ _ => rw [e2] at q1; exact q1.elim
      | lst xs =>
        rw [e2] at q1
        obtain ⟨vs, hq, rv⟩ := w1.obj h1 e2
        refine ⟨a, rfl, .inl ⟨⟨vs, .of hq⟩, k d1 H1 μ1 _ _ _ e1 w1 (fun d2 d3 H3 μ3 bb ee w3 hC => ?_) q1⟩⟩
        have h3 : d3.am[n]? = some a := ee.at (by rw [bb.1]; exact h1)
        obtain ⟨ws, hq3, rw3⟩ := w3.obj h3 hC
        refine ⟨fun i x hx => ?_, fun i hi => ⟨ws, .of hq3, by rw [← rw3.length]; exact hi⟩⟩
        obtain ⟨v, hv, rv'⟩ := rw3.get hx
        refine ⟨⟨ws, v, .of hq3, hv⟩, fun u H4 hy => ?_⟩
        obtain ⟨rfl, f⟩ := hy
        have e1 := f ws (.of hq3)
        rw [hv] at e1; cases e1
        exact ⟨.refl, w3, rv'⟩
  | _ => exact q1.elim⟩
def mForLC (C : Store → Prop) (g : MG) (b : MS) (P : MEnds) : List PV → PEnv → Store → Prop
  | [], ρ, μ => C μ ∧ P.nx ρ μ
  | x :: xs, ρ, μ => C μ ∧ g x ρ μ fun ρ1 μ1 => b { P with nx := mForLC C g b P xs, ct := mForLC C g b P xs, bk := P.nx } ρ1 μ1
def mForC (mi : MIC) (g : MG) (b : MS) : MS := fun P ρ μ => mi ρ μ fun xs C μ1 => mForLC C g b P xs ρ μ1
instance {wi mi g mg s tb mb} [hi : FC K wi mi] [hg : FG K g mg s] [hb : FS K tb mb] : FS K (tFor wi g tb) (mForC mi mg mb) := ⟨fun d σ H ρ μ P D w e q l => by
  refine hi.run d σ H ρ μ _ _ w e q fun d1 H1 μ1 J xs C e1 w1 it q1 => ?_
  refine ⟨fun i m σ' H' => ∃ d' ρ' μ', Ext d1 H1 d' H' ∧ WOk K d' H' μ' ∧ REnv K d' H' ρ' σ' ∧ i + m = xs.length ∧ mForLC C mg mb P (xs.drop i) ρ' μ', ⟨xs.length, d1, ρ, μ1, .refl, w1, e.mono e1, by omega, by simpa using q1⟩, fun i m σ' H' hW => ?_⟩
  obtain ⟨d2, ρ2, μ2, e2, w2, ee2, em, q2⟩ := hW
  have hC : C μ2 := by
    cases h : xs.drop i with
    | nil => rw [h] at q2; exact q2.1
    | cons x r => rw [h] at q2; exact q2.1
  obtain ⟨itg, its⟩ := it d1 d2 H' μ2 ⟨rfl, fun _ h => .inl h⟩ e2 w2 hC
  cases hx : xs[i]? with
  | none =>
    have hle : xs.length ≤ i := List.getElem?_eq_none_iff.mp hx
    rw [List.drop_of_length_le hle] at q2
    exact .inl ⟨its i hle, l.nx d2 σ' H' ρ2 μ2 (e1.trans e2) w2 ee2 q2.2⟩
  | some x =>
    have hlt : i < xs.length := (List.getElem?_eq_some_iff.mp hx).1
    rw [drop_cons hx] at q2
    obtain ⟨go, yl⟩ := itg i x hx
    refine .inr ⟨go, fun σ3 H3 => ∃ d' ρ' μ', Ext d1 H1 d' H3 ∧ WOk K d' H3 μ' ∧ REnv K d' H3 ρ' σ3 ∧ mForLC C mg mb P (xs.drop (i + 1)) ρ' μ', fun σ3 H3 hN => ?_, fun v H3 hy => ?_⟩
    · obtain ⟨d3, ρ3, μ3, a1, a2, a3, a4⟩ := hN
      exact ⟨m - 1, by omega, d3, ρ3, μ3, a1, a2, a3, by omega, a4⟩
    · obtain ⟨ey, wy, ry⟩ := yl v H3 hy
      refine hg.run d2 σ' H3 ρ2 μ2 x v _ _ wy (ee2.mono ey) ry q2.2 fun d4 σ4 H4 ρ4 μ4 e4 w4 ee4 _ _ q4 => ?_
      have E4 : Ext d H d4 H4 := ((e1.trans e2).trans ey).trans e4
      have E4' : Ext d1 H1 d4 H4 := (e2.trans ey).trans e4
      exact hb.run d4 σ4 H4 ρ4 μ4 _ _ w4 ee4 q4
        ⟨fun d5 σ5 H5 ρ5 μ5 e5 w5 ee5 q5 => ⟨d5, ρ5, μ5, E4'.trans e5, w5, ee5, q5⟩, fun d5 H5 μ5 x v e5 => l.rt d5 H5 μ5 x v (E4.trans e5),
         fun d5 σ5 H5 ρ5 μ5 e5 => l.nx d5 σ5 H5 ρ5 μ5 (E4.trans e5), fun d5 σ5 H5 ρ5 μ5 e5 w5 ee5 q5 => ⟨d5, ρ5, μ5, E4'.trans e5, w5, ee5, q5⟩⟩⟩
def mLcLC (C : Store → Prop) (g : MG) (c : MT) (e : ME) (ρ0 : PEnv) (P : List PV → Store → Prop) : List PV → List PV → Store → Prop
  | [], acc, μ => C μ ∧ P acc μ
  | x :: xs, acc, μ => C μ ∧ g x ρ0 μ fun ρ1 μ1 => c ρ1 μ1 fun b μ2 => if b = true then e ρ1 μ2 fun y μ3 => mLcLC C g c e ρ0 P xs (acc ++ [y]) μ3 else mLcLC C g c e ρ0 P xs acc μ2
theorem mLcLC_C {C : Store → Prop} {g : MG} {c : MT} {e : ME} {ρ0 : PEnv} {P : List PV → Store → Prop} {xs acc : List PV} {μ : Store} (h : mLcLC C g c e ρ0 P xs acc μ) : C μ := by
  cases xs <;> exact h.1
theorem lc_runC {wi mi g mg s tt mt te me} {vs : List Nat} [hi : FC K wi mi] [hg : FG K g mg s] [hc : FT K tt mt] [he : FE K te me] {σ : L2.St} {ρ : PEnv} {P : List PV → Store → Prop} {Q : VK} (w : WOk K d H μ) (e : REnv K d H ρ σ) (hs : ∀ i ∈ s, i ∈ vs)
    (q : mi ρ μ fun xs C μ1 => xs.length ≤ lim ∧ mLcLC C mg mt me (wipeP ρ vs) P xs [] μ1)
    (fin : ∀ (d1 : Wd) (H1 : Hp) (D : Addr) (dB : Wd) (H' : Hp) (μ' : Store) (acc : List PV) (avs : List V), Ext d H d1 H1 → H1 D = none → D ∉ d1.ban → Ext ⟨d1.am, D :: d1.ban⟩ H1 dB H' → WOk K dB H' μ' → H' D = some (.lst avs) → RVs K dB H' acc avs → P acc μ' → Q (.ref D) H') :
    tLc wi g tt te vs σ H Q := by
  refine hi.run d σ H ρ μ _ _ w e q fun d1 H1 μ1 J xs C e1 w1 it ⟨hz, q1⟩ => ?_
  intro D hD
  have bD : Bars d1 ⟨d1.am, D :: d1.ban⟩ H1 := ⟨rfl, fun x q => (List.mem_cons.mp q).elim (fun z => .inr (by rw [z]; exact hD)) .inl⟩
  have envB : REnv K ⟨d1.am, D :: d1.ban⟩ H1 (wipeP ρ vs) (wipe σ vs) := ((e.mono e1).bars bD).wipe vs
  have lay0 : Ext ⟨d1.am, D :: d1.ban⟩ H1 ⟨d1.am, D :: d1.ban⟩ (upd H1 D (.lst [])) := ⟨⟨[], by simp, fun p hp => by simp at hp⟩, rfl, fun b u e _ => by rw [upd_ne (ne_of_none e hD)]; exact e⟩
  refine ⟨fun i m H' => ∃ dB μ' acc avs, Ext ⟨d1.am, D :: d1.ban⟩ H1 dB H' ∧ WOk K dB H' μ' ∧ H' D = some (.lst avs) ∧ RVs K dB H' acc avs ∧ i + m = xs.length ∧ acc.length ≤ i ∧ mLcLC C mg mt me (wipeP ρ vs) P (xs.drop i) acc μ',
    ⟨xs.length, _, μ1, [], [], lay0, w1.barD hD, upd_same, .nil, by omega, Nat.le_refl _, by simpa using q1⟩, fun i m H' hW => ?_⟩
  obtain ⟨dB, μ', acc, avs, eB, wB, hDv, rA, em, hal, q2⟩ := hW
  have hDban : D ∈ dB.ban := by rw [eB.ban]; exact List.mem_cons_self
  obtain ⟨itg, its⟩ := it _ dB H' μ' bD eB wB (mLcLC_C q2)
  cases hx : xs[i]? with
  | none =>
    have hle : xs.length ≤ i := List.getElem?_eq_none_iff.mp hx
    rw [List.drop_of_length_le hle] at q2
    exact .inl ⟨its i hle, fin d1 H1 D dB H' μ' acc avs e1 hD (w1.notban hD) eB wB hDv rA q2.2⟩
  | some x =>
    have hlt : i < xs.length := (List.getElem?_eq_some_iff.mp hx).1
    rw [drop_cons hx] at q2
    obtain ⟨go, yl⟩ := itg i x hx
    refine .inr ⟨go, fun H3 => ∃ dB μ' acc avs, Ext ⟨d1.am, D :: d1.ban⟩ H1 dB H3 ∧ WOk K dB H3 μ' ∧ H3 D = some (.lst avs) ∧ RVs K dB H3 acc avs ∧ acc.length ≤ i + 1 ∧ mLcLC C mg mt me (wipeP ρ vs) P (xs.drop (i + 1)) acc μ', fun H3 hN => ?_, fun v H3 hy => ?_⟩
    · obtain ⟨a1, a2, a3, a4, a5, a6, a7, a8, a9, a10⟩ := hN
      exact ⟨m - 1, by omega, a1, a2, a3, a4, a5, a6, a7, a8, by omega, a9, a10⟩
    · obtain ⟨ey, wy, ry⟩ := yl v H3 hy
      refine hg.run dB (wipe σ vs) H3 (wipeP ρ vs) μ' x v _ _ wy (envB.mono (eB.trans ey)) ry q2.2 fun d4 σ4 H4 ρ4 μ4 e4 w4 ee4 hl4 hs4 q4 => ⟨wipe_same hl4 hs4 hs, ?_⟩
      refine hc.run d4 σ4 H4 ρ4 μ4 _ _ w4 ee4 q4 fun d5 H5 μ5 b e5 w5 q5 => ?_
      have nD : D ∉ dB.am := (wB.ban D hDban).2
      have E5 : Ext dB H' d5 H5 := (ey.trans e4).trans e5
      cases b
      · exact ⟨d5, μ5, acc, avs, eB.trans E5, w5, E5.keep _ _ hDv nD, rA.mono E5, by omega, q5⟩
      · refine he.run d5 σ4 H5 ρ4 μ5 _ _ w5 (ee4.mono e5) q5 fun d6 H6 μ6 y u e6 w6 r6 q6 => ?_
        have E6 : Ext dB H' d6 H6 := E5.trans e6
        have hD6 : H6 D = some (.lst avs) := E6.keep _ _ hDv nD
        have ban6 : D ∈ d6.ban := by rw [E6.ban]; exact hDban
        have rA6 := (rA.mono E6).append (.cons r6 .nil)
        refine ⟨avs, hD6, by rw [← rA.length]; exact lim_lt' (by omega), d6, μ6, acc ++ [y], avs ++ [u], ?_, w6.made ban6 (no_tup hD6), upd_same, rA6.made ban6 (no_tup hD6), by rw [List.length_append]; simp; omega, q6⟩
        have E7 := eB.trans E6
        exact ⟨E7.am, E7.ban, fun b o hb hn => by rw [upd_ne (ne_of_none hb hD)]; exact E7.keep b o hb hn⟩
def mLcC (mi : MIC) (g : MG) (c : MT) (e : ME) (s vs : List Nat) : ME := fun ρ μ P => (∀ i ∈ s, i ∈ vs) ∧ mi ρ μ fun xs C μ1 => xs.length ≤ lim ∧ mLcLC C g c e (wipeP ρ vs) (fun acc μ2 => P (.lst acc) μ2) xs [] μ1
instance {wi mi g mg s tt mt te me vs} [hi : FC K wi mi] [hg : FG K g mg s] [hc : FT K tt mt] [he : FE K te me] : FE K (tLc wi g tt te vs) (mLcC mi mg mt me s vs) := ⟨fun d σ H ρ μ P Q w e q k => by
  refine lc_runC w e q.1 q.2 fun d1 H1 D dB H' μ' acc avs e1 hD hDn eB w' hv r p => ?_
  obtain ⟨x1, x2, x3⟩ := lc_frozen e1 hD hDn eB w' hv r
  exact k _ H' μ' _ _ x1 x2 x3 p⟩
end
section
variable {α : Type} {g : MG} {c : MT} {e : ME} {ρ0 : PEnv} {P : List PV → Store → Prop} {C : Store → Prop}
theorem lc_any {enc : α → PV} (I : List α → List PV → Store → Prop) : ∀ {l done : List α} {acc : List PV} {μ : Store}, I done acc μ → (∀ pre a post acc μ, done ++ l = pre ++ a :: post → I pre acc μ → ∀ N : List PV → Store → Prop, (∀ acc μ, I (pre ++ [a]) acc μ → N acc μ) →
      g (enc a) ρ0 μ fun ρ1 μ1 => c ρ1 μ1 fun b μ2 => if b = true then e ρ1 μ2 (fun y μ3 => N (acc ++ [y]) μ3) else N acc μ2) → (∀ acc μ, I (done ++ l) acc μ → P acc μ) → mLcL g c e ρ0 P (l.map enc) acc μ
  | [], done, acc, μ, h0, _, hP => hP acc μ (by simpa using h0)
  | a :: l, done, acc, μ, h0, hs, hP => by
    have e1 : done ++ a :: l = (done ++ [a]) ++ l := by simp
    show g (enc a) ρ0 μ fun ρ1 μ1 => c ρ1 μ1 fun b μ2 => if b = true then e ρ1 μ2 (fun y μ3 => mLcL g c e ρ0 P (l.map enc) (acc ++ [y]) μ3) else mLcL g c e ρ0 P (l.map enc) acc μ2
    exact hs done a l acc μ rfl h0 (fun acc μ => mLcL g c e ρ0 P (l.map enc) acc μ) fun acc μ h => lc_any I (done := done ++ [a]) h (fun pre b post acc μ e2 => hs pre b post acc μ (by rw [e1]; exact e2)) fun acc μ h => hP acc μ (by rw [e1]; exact h)
theorem lcC_map {enc out : α → PV} {μ : Store} (hC : C μ) : ∀ {l : List α} {acc : List PV}, (∀ a ∈ l, ∀ k : PV → Store → Prop, k (out a) μ → g (enc a) ρ0 μ fun ρ1 μ1 => e ρ1 μ1 k) → P (acc ++ l.map out) μ → mLcLC C g mYes e ρ0 P (l.map enc) acc μ
  | [], acc, _, hP => by simpa [mLcLC, hC] using hP
  | a :: l, acc, h, hP => by
    refine ⟨hC, ?_⟩
    show g (enc a) ρ0 μ fun ρ1 μ1 => e ρ1 μ1 fun y μ3 => mLcLC C g mYes e ρ0 P (l.map enc) (acc ++ [y]) μ3
    exact h a List.mem_cons_self _ (lcC_map hC (fun b hb => h b (List.mem_cons_of_mem _ hb)) (by simpa using hP))
end
end Fx
namespace Fx
open PySem PySem.Spec PyProof.Rows L2 RZ
theorem fun_uniq {K : PySem.W.Frag} {x qual : Str} {st : Stmt} {f : Addr} {fd fd' : FuncData} (F : Fun K x qual st f fd) (F' : Fun K x qual st f fd') : fd = fd' := by
  obtain ⟨oc, od, kV, doc, pm, an, cdv, ct, osl, e, lk, hcd⟩ := F.ex
  obtain ⟨oc', od', kV', doc', pm', an', cdv', ct', osl', e', lk', hcd'⟩ := F'.ex
  rw [lk] at lk'
  injection lk' with h
  injection h with h1 h2 h3
  injection h3
theorem law_fin {P : Program} {w : World} {K : PySem.W.Frag} {mg : Str → Option Value} {k n : Nat} {st : Stmt} {fa : Addr} {ps : Str} {S : PSp} (hfa : mg "law" = some (.ref fa)) (o : Own K mg "law" st)
    (hb : ∀ (kV doc pm : Value) (an : Option Addr) (cdv ct : Value) (s : Shared) (u : Value), BindsTo s (PySem.W.fnOf "law" "law" (defArgs st) (defBody st) (defScope st) .none kV doc pm an cdv ct) ⟨[u], []⟩ [(ps, u)])
    (ok : ∀ base : Heap, K.In base → base.Ns mainGlobals mg → Ok P w K mg base k "law" st [ps] S) (hS : ∀ xs μ Q, lawS n xs μ Q → S xs μ Q) :
    ∃ fd : FuncData, (∀ (s : Shared) (u : Value), BindsTo s fd ⟨[u], []⟩ [(ps, u)]) ∧ ∀ base : Heap, K.In base → base.Ns mainGlobals mg → FnG P w K mg base k fa fd [ps] (lawS n) := by
  obtain ⟨f, fd, F, e⟩ := o
  rw [hfa] at e
  cases e
  obtain ⟨oc, od, kV, doc, pm, an, cdv, ct, osl, ef, lk, hcd⟩ := F.ex
  refine ⟨fd, fun s u => by rw [ef]; exact hb kV doc pm an cdv ct s u, fun base hK hg => ?_⟩
  obtain ⟨f', fd', F', e', b', G'⟩ := ok base hK hg
  rw [hfa] at e'
  cases e'
  have := fun_uniq F F'
  subst this
  exact G'.imp hS
theorem own_mk {K : PySem.W.Frag} {h : Heap} {mg : Str → Option Value} {x : Str} {st : Stmt} {f : Addr} {od an : Option Addr} {sl : Array (Option Value)} {oc kV dc pm cd ct : Value} (X : K.In h) (G : h.Ns mainGlobals mg)
    (a : PySem.W.nsIn K mainGlobals x = some (some (.ref f))) (l : K.lookup f = some ⟨oc, od, .func (PySem.W.fnOf x x (defArgs st) (defBody st) (defScope st) .none kV dc pm an cd ct), sl⟩) (c : PySem.W.codeIn K cd x = true) (k : PySem.W.keepIn K (.ref f) = true) : Own K mg x st :=
  ⟨f, _, fun_mk l c k, PySem.W.mg_of X G a⟩
theorem blt_mk {K : PySem.W.Frag} {h : Heap} {mg : Str → Option Value} (X : K.In h) (G : h.Ns mainGlobals mg) (z : ∀ x ∈ names0, PySem.W.nsIn K mainGlobals x = some none) : Blt mg := fun x hx => PySem.W.mg_none_of X G (z x hx)
end Fx
namespace Fx
open PySem PySem.Spec PyProof.Rows L2 RZ
section
variable {K : PySem.W.Frag}
def mSortSet (m : ME) : ME := fun ρ μ P => m ρ μ fun x μ1 => match x with | .tup ys => (match intsP ys with | some ns => ns.length < 63 ∧ ∀ ms : List Int, ms.Pairwise (· < ·) → (∀ k : Int, k ∈ ms ↔ k ∈ ns) → P (.lst (ms.map PV.int)) μ1 | none => False) | _ => False
end
end Fx
namespace Fx
open PySem PySem.Spec PyProof.Rows L2 RZ
section
variable {prog : Program} {w : World} {A : Around} {E : Value → Shared → Prop} {s : Shared}
end
section
variable {K : PySem.W.Frag}
def mRevT (m : ME) : ME := fun ρ μ P => m ρ μ fun x μ1 => match itemsOf x μ1 with | some xs => (match x with | .tup _ => P (.tup xs.reverse) μ1 | _ => False) | none => False
end
end Fx
namespace Fx
open PySem PySem.Spec PyProof.Rows L2 RZ
def tTruth (K : PySem.W.Frag) (t : TE) : TT := fun σ H Q => t σ H fun x H' => ∃ k, TruV K x H' k ∧ Q k H'
theorem pt_tru {X : Cx} {a : Expr} {ta : TE} (ha : PE X a ta) (he : ∀ whole, isTrue a X.env whole = (do let v ← whole; standAt a.pos; holding [v] (truthy v))) : PT X a (tTruth X.K ta) := pt_truth ha he
section
variable {K : PySem.W.Frag} {d d' : Wd} {H H' : Hp} {a b : Addr} {vs us : List V} {xs ys : List PV} {μ : Store}
def mTruth (m : ME) : MT := fun ρ μ P => m ρ μ fun x μ1 => match x with | .bl b => P b μ1 | .int i => P (i != 0) μ1 | _ => False
instance {t m} [h : FE K t m] : FT K (tTruth K t) (mTruth m) := ⟨fun d σ H ρ μ P Q w e q k => by
  refine h.run d σ H ρ μ _ _ w e q fun d1 H1 μ1 x v e1 w1 r1 q1 => ?_
  match x, r1, q1 with
  | .bl b, .bl _, q1 => exact ⟨b, rfl, k d1 H1 μ1 _ e1 w1 q1⟩
  | .int i, .int _, q1 => exact ⟨_, rfl, k d1 H1 μ1 _ e1 w1 q1⟩⟩
def pReprA : MB := fun xs μ P => match xs with
  | [x] => (match x with
    | .int i => i.natAbs.log2 < 1920 ∧ P (.str (toString i : String)) μ
    | .bl c => P (.str (if c then "True" else "False" : String)) μ
    | .non => P (.str ("None" : String)) μ
    | y => pRepr [y] μ P)
  | _ => False
end
section
variable {K : PySem.W.Frag} {d d' : Wd} {H H' : Hp} {a b : Addr} {vs us : List V} {xs ys : List PV} {μ : Store}
def dkOfP (x : PV) (μ : Store) : Option (List (Key × PV)) := match x with | .mr n => (match μ[n]? with | some (.dk kvs) => some kvs | _ => none) | _ => none
def pLenD : MB := fun xs μ P => match xs with | [x] => (match dkOfP x μ with | some kvs => P (.int (kvs.length : Nat)) μ | none => False) | _ => False
def keyPV : Key → PV
  | .inl i => .int i
  | .inr x => .str x
def pLstD : MB := fun xs μ P => match xs with | [x] => (match dkOfP x μ with | some kvs => P (.lst (kvs.map fun kv => keyPV kv.1)) μ | none => False) | _ => False
def mDNew : ME := fun _ μ P => P (.mr μ.length) (μ ++ [.dk []])
instance : FE K tDNewK mDNew := ⟨fun d σ H ρ μ P Q w e q k => fun p hp => by
  have ee := Ext.push (o := .dK []) w hp
  exact k (d.push p) _ _ _ _ ee (w.push (m := .dk []) hp ⟨[], upd_same, rfl, .nil⟩) (lay_mr w) q⟩
def rRepL : R2 := rRep
end
theorem op_repL {X : Cx} : OpR X (binaryOp .Mult) rRepL := op_rep
section
variable {K : PySem.W.Frag} {d d' : Wd} {H H' : Hp} {a b : Addr} {vs us : List V} {xs ys : List PV} {μ : Store}
def pRepL : MO2 := fun x y μ P => match x, y with
  | .lst xs, .int k => (0 ≤ k ∧ k ≤ 1000 ∧ xs.length ≤ 1000) ∧ P (.lst (List.replicate k.toNat xs).flatten) μ
  | _, _ => False
instance : F2 K rRepL pRepL := ⟨fun d H μ x y v u P Q w r1 r2 q k => by
  match x, y, r1, r2, q with
  | .lst xs, .int n, .lst (a := a) (vs := vs) h1 h2, .int _, ⟨⟨z1, z2, z3⟩, q⟩ =>
    refine ⟨a, n, vs, rfl, rfl, h1.1, by omega, by omega, ?_, fun p hp => k d _ μ _ _ (Ext.lay w hp) (w.lay hp) (lay_lst w (RVs.rep h2 _) hp) q⟩
    rw [← h2.length]
    refine Nat.le_trans (Nat.mul_le_mul z3 (show n.toNat ≤ 1000 by omega)) ?_
    rw [sizeLine_eq]; decide⟩
end
section
variable {K : PySem.W.Frag}
def mLenSetN (m : ME) : ME := fun ρ μ P => m ρ μ fun x μ1 => match x with | .tup ys => (match intsP ys with | some ns => ns.length ≤ 4000 ∧ ∀ ms : List Int, ms.Nodup → (∀ k : Int, k ∈ ms ↔ k ∈ ns) → P (.int (ms.length : Nat)) μ1 | none => False) | _ => False
end
theorem and_one (i : Int) : Builtin.bitAnd i 1 = i % 2 := bitAnd_m1 i
end Fx
namespace Fx
open PySem PySem.Spec PyProof.Rows L2 RZ
section
variable {K : PySem.W.Frag} {d d' : Wd} {H H' : Hp} {a b : Addr} {vs us : List V} {xs ys : List PV} {μ : Store}
def mLockV (i : Nat) (mb : MS) : MS := fun P ρ μ => match ρ[i]? with
  | some (some (.mr n)) => (match μ[n]? with
    | some (.dk kvs) => ∀ o ws, mb { nx := fun ρ' μ' => μ'[n]? = some (.fd o ws kvs) ∧ P.nx ρ' (μ'.set n (.dk kvs)), rt := fun x μ' => μ'[n]? = some (.fd o ws kvs) ∧ P.rt x (μ'.set n (.dk kvs)), bk := fun ρ' μ' => μ'[n]? = some (.fd o ws kvs) ∧ P.bk ρ' (μ'.set n (.dk kvs)), ct := fun ρ' μ' => μ'[n]? = some (.fd o ws kvs) ∧ P.ct ρ' (μ'.set n (.dk kvs)) } ρ (μ.set n (.fd o ws kvs))
    | _ => False)
  | _ => False
def mLockE (i : Nat) (me : ME) : ME := fun ρ μ P => match ρ[i]? with
  | some (some (.mr n)) => (match μ[n]? with
    | some (.dk kvs) => ∀ o ws, me ρ (μ.set n (.fd o ws kvs)) fun x μ' => μ'[n]? = some (.fd o ws kvs) ∧ P x (μ'.set n (.dk kvs))
    | _ => False)
  | _ => False
theorem rks_get {ws : List (Key × V)} : ∀ {kvs : List (Key × PV)} {ws : List (Key × V)}, ws.map (·.1) = kvs.map (·.1) → RVs K d H (kvs.map (·.2)) (ws.map (·.2)) → ∀ (i : Nat) (k : Key) (x : PV), kvs[i]? = some (k, x) → ∃ v, ws[i]? = some (k, v) ∧ RV K d H x v
  | [], _, _, _, i, k, x, h => by simp at h
  | p :: kvs, [], h1, _, _, _, _, _ => by simp at h1
  | p :: kvs, q :: ws, h1, h2, i, k, x, h => by
    simp only [List.map_cons, List.cons.injEq] at h1
    obtain ⟨z1, z2⟩ := h1
    cases h2 with
    | cons r t =>
      cases i with
      | zero =>
        simp at h
        subst h
        exact ⟨q.2, by obtain ⟨q1, q2⟩ := q; simp at z1; subst z1; rfl, r⟩
      | succ i =>
        obtain ⟨v, hv, rv⟩ := rks_get (ws := ws) z2 t i k x (by simpa using h)
        exact ⟨v, by simpa using hv, rv⟩
def mItemsC (m : ME) : MIC := fun ρ μ P => m ρ μ fun x μ1 => match x with | .mr n => (match μ1[n]? with | some (.fd o ws kvs) => P (kvs.map fun kv => .tup [keyPV kv.1, kv.2]) (fun μ2 => μ2[n]? = some (.fd o ws kvs)) μ1 | _ => False) | _ => False
def mKeysC (m : ME) : MIC := fun ρ μ P => m ρ μ fun x μ1 => match x with | .mr n => (match μ1[n]? with | some (.fd o ws kvs) => P (kvs.map fun kv => keyPV kv.1) (fun μ2 => μ2[n]? = some (.fd o ws kvs)) μ1 | _ => False) | _ => False
theorem key_rv (k : Key) : RV K d H (keyPV k) (kV k) := by
  cases k with
  | inl i => exact .int i
  | inr x => exact .str x
theorem fd_len {ws : List (Key × V)} {kvs : List (Key × PV)} (h : ws.map (·.1) = kvs.map (·.1)) : ws.length = kvs.length := by
  have := congrArg List.length h
  simpa using this
instance {t m} [h : FE K t m] : FC K (iKeys t) (mKeysC m) := ⟨fun d σ H ρ μ P R w e q k => by
  refine h.run d σ H ρ μ _ _ w e q fun d1 H1 μ1 x v e1 w1 r1 q1 => ?_
  cases r1 with
  | @mr n a h1 =>
    simp only at q1
    split at q1
    · rename_i o ws kvs e2
      obtain ⟨hq, k1, k2⟩ := w1.obj h1 e2
      refine ⟨a, o, rfl, .inl ⟨ws, hq, k d1 H1 μ1 _ _ _ e1 w1 (fun d2 d3 H3 μ3 bb ee w3 hC => ?_) q1⟩⟩
      have h3 : d3.am[n]? = some a := ee.at (by rw [bb.1]; exact h1)
      obtain ⟨hq3, k3, k4⟩ := w3.obj h3 hC
      refine ⟨fun i x hx => ?_, fun i hi => ⟨hq3, by rw [fd_len k3]; simpa using hi⟩⟩
      have hi : i < kvs.length := by simpa using (List.getElem?_eq_some_iff.mp hx).1
      refine ⟨⟨hq3, by rw [fd_len k3]; exact hi⟩, fun u H4 hy => ?_⟩
      obtain ⟨rfl, kk, v, hv, rfl⟩ := hy
      rw [List.getElem?_map, List.getElem?_eq_getElem hi] at hx
      have hx := Option.some.inj hx
      obtain ⟨v', hv', rv⟩ := rks_get (ws := ws) k3 k4 i _ _ (List.getElem?_eq_getElem hi)
      rw [hv'] at hv
      simp only [Option.some.injEq, Prod.mk.injEq] at hv
      rw [← hx, ← hv.1]
      exact ⟨.refl, w3, key_rv _⟩
    · exact q1.elim
  | _ => exact q1.elim⟩
def mDGet2 (md my mx : ME) : ME := fun ρ μ P => md ρ μ fun x μ1 => (dictOfP x μ1).isSome = true ∧ my ρ μ1 fun y μ2 => mx ρ μ2 fun z μ3 => match dictOfP x μ3, keyP y with | some kvs, some k => P ((valP kvs k).getD z) μ3 | _, _ => False
instance {td ty tx md my mx} [hd : FE K td md] [hy : FE K ty my] [hx : FE K tx mx] : FE K (tDGet2 td ty tx) (mDGet2 md my mx) := ⟨fun d σ H ρ μ P Q w e q k => by
  refine hd.run d σ H ρ μ _ _ w e q fun d1 H1 μ1 x v e1 w1 r1 ⟨q0, q1⟩ => ?_
  obtain ⟨kv0, a0⟩ := Option.isSome_iff_exists.mp q0
  obtain ⟨n, a, ws0, rfl, rfl, hn, hq0, _⟩ := dict_of w1 r1 a0
  refine ⟨a, rfl, .inl ⟨ws0, hq0⟩, hy.run d1 σ H1 ρ μ1 _ _ w1 (e.mono e1) q1 fun d2 H2 μ2 y u e2 w2 r2 q2 => ?_⟩
  refine hx.run d2 σ H2 ρ μ2 _ _ w2 (e.mono (e1.trans e2)) q2 fun d3 H3 μ3 z t e3 w3 r3 q3 => ?_
  cases a1 : dictOfP (.mr n) μ3 with
  | none => rw [a1] at q3; exact q3.elim
  | some kvs =>
    cases a2 : keyP y with
    | none => rw [a1, a2] at q3; exact q3.elim
    | some kk =>
      rw [a1, a2] at q3
      simp only at q3
      obtain ⟨n', a', ws, en, ea, _, hq, rk⟩ := dict_of w3 ((r1.mono e2).mono e3) a1
      cases ea
      obtain rfl := keyP_rv r2 a2
      rcases rk.val (k := kk) with ⟨z1, z2⟩ | ⟨x, v, z1, z2, rv⟩
      · rw [z1] at q3
        exact ⟨none, .inl ⟨ws, kk, hq, rfl, z2.symm⟩, k d3 H3 μ3 _ _ ((e1.trans e2).trans e3) w3 r3 q3⟩
      · rw [z1] at q3
        exact ⟨some v, .inl ⟨ws, kk, hq, rfl, z2.symm⟩, k d3 H3 μ3 _ _ ((e1.trans e2).trans e3) w3 rv q3⟩⟩
end
section
variable {K : PySem.W.Frag} {d d' : Wd} {H H' : Hp} {a b : Addr} {vs us : List V} {xs ys : List PV} {μ : Store}
def isNonP : PV → Bool | .non => true | _ => false
def pIsN (neg : Bool) : MO2 := fun x y μ P => match y with | .non => P (.bl (if neg then !isNonP x else isNonP x)) μ | _ => False
end
section
variable {K : PySem.W.Frag} {d d' : Wd} {H H' : Hp} {a b : Addr} {vs us : List V} {xs ys : List PV} {μ : Store}
def pRepLM : MO2 := fun x y μ P => match x, y with
  | .lst xs, .int k => (0 ≤ k ∧ k ≤ 1000 ∧ xs.length ≤ 1000) ∧ P (.mr μ.length) (μ ++ [.lst (List.replicate k.toNat xs).flatten])
  | _, _ => False
end
section
variable {K : PySem.W.Frag} {d d' : Wd} {H H' : Hp} {a b : Addr} {vs us : List V} {xs ys : List PV} {μ : Store}
def mTruD (m : ME) : MT := fun ρ μ P => m ρ μ fun x μ1 => match dkOfP x μ1 with | some kvs => P (!kvs.isEmpty) μ1 | none => False
def pPopAt : PV → List PV → Store → (PV → Store → Prop) → Prop := fun x zs μ P => match x, zs with
  | .mr n, [.int i] => (match μ[n]? with | some (.lst xs) => xs.length ≤ 1000000 ∧ (match ixN xs.length i with | some j => (match xs[j]? with | some y => P y (μ.set n (.lst (xs.eraseIdx j))) | none => False) | none => False) | _ => False)
  | _, _ => False
theorem RVs.eraseIdx : ∀ {xs : List PV} {vs : List V} (j : Nat), RVs K d H xs vs → RVs K d H (xs.eraseIdx j) (vs.eraseIdx j)
  | _, _, _, .nil => .nil
  | _, _, 0, .cons _ t => t
  | _, _, j + 1, .cons r t => .cons r (RVs.eraseIdx j t)
instance : FM K rPopAt pPopAt := ⟨fun d H μ x v zs us P Q w r rs q k => by
  match x, zs, r, rs, q with
  | .mr n, [.int i], .mr (a := a) h1, .cons (.int _) .nil, q =>
    simp only [pPopAt] at q
    cases e : μ[n]? with
    | none => rw [e] at q; exact q.elim
    | some m =>
      cases m with
      | dk _ => rw [e] at q; exact q.elim
      | fd _ _ _ => rw [e] at q; exact q.elim
      | tk _ => rw [e] at q; exact q.elim
      | nk _ => rw [e] at q; exact q.elim
      | ft _ _ _ => rw [e] at q; exact q.elim
      | fn _ _ _ => rw [e] at q; exact q.elim
      | lst xs =>
        rw [e] at q
        simp only at q
        obtain ⟨hl, q⟩ := q
        obtain ⟨vs, hq, rv⟩ := w.obj h1 e
        cases e2 : ixN xs.length i with
        | none => rw [e2] at q; exact q.elim
        | some j =>
          rw [e2] at q
          simp only at q
          obtain ⟨s1, s2, s3, s4⟩ := ixN_seq e2
          obtain ⟨u, hu, ru⟩ := rv.get (List.getElem?_eq_getElem s2)
          rw [List.getElem?_eq_getElem s2] at q
          obtain ⟨e1, w1⟩ := chg_list (vs := vs) w h1 (rv.eraseIdx j)
          exact ⟨a, vs, i, j, u, rfl, rfl, hq, by omega, by omega, by rw [← rv.length]; exact s1, hu, k d _ _ _ _ e1 w1 (ru.mono e1) q⟩⟩
def pIndex : PV → List PV → Store → (PV → Store → Prop) → Prop := fun x zs μ P => match x, zs with
  | .mr n, [.int i] => (match μ[n]? with | some (.lst xs) => (match intsP xs with | some ns => i ∈ ns ∧ P (.int (ns.idxOf i : Nat)) μ | none => False) | _ => False)
  | _, _ => False
instance : FM K (rIndex K) pIndex := ⟨fun d H μ x v zs us P Q w r rs q k => by
  match x, zs, r, rs, q with
  | .mr n, [.int i], .mr (a := a) h1, .cons (.int _) .nil, q =>
    simp only [pIndex] at q
    cases e : μ[n]? with
    | none => rw [e] at q; exact q.elim
    | some m =>
      cases m with
      | dk _ => rw [e] at q; exact q.elim
      | fd _ _ _ => rw [e] at q; exact q.elim
      | tk _ => rw [e] at q; exact q.elim
      | nk _ => rw [e] at q; exact q.elim
      | ft _ _ _ => rw [e] at q; exact q.elim
      | fn _ _ _ => rw [e] at q; exact q.elim
      | lst xs =>
        rw [e] at q
        simp only at q
        cases e2 : intsP xs with
        | none => rw [e2] at q; exact q.elim
        | some ns =>
          rw [e2] at q
          obtain ⟨hm, q⟩ := q
          obtain ⟨vs, hq, rv⟩ := w.obj h1 e
          have ev := RVs.ints_of rv (intsP_of e2)
          subst ev
          have hl := List.idxOf_lt_length_of_mem hm
          refine ⟨a, ns.map V.int, .int i, ns.idxOf i, .int i, rfl, rfl, .of hq, rfl, ?_, ?_, ?_, fun m z' hm' hz => ?_, k d H μ _ _ .refl w (.int _) q⟩
          · rw [List.all_map, List.all_eq_true]
            intro x _
            rfl
          · rw [List.getElem?_map, List.getElem?_eq_getElem hl, List.getElem_idxOf hl]
            rfl
          · show (i == i) = true
            simp
          · have hl2 : m < ns.length := by omega
            rw [List.getElem?_map, List.getElem?_eq_getElem hl2] at hz
            have hz := Option.some.inj hz
            subst hz
            show (ns[m] == i) = false
            have h := List.not_of_lt_findIdx (xs := ns) (p := (· == i)) (i := m) hm'
            simpa using h⟩
def mLstRgM (m : PEnv → Store → (Int → Int → Store → Prop) → Prop) : ME := fun ρ μ P => m ρ μ fun i j μ1 => (-1000000 ≤ i ∧ i ≤ 1000000 ∧ -1000000 ≤ j ∧ j ≤ 1000000) ∧ P (.mr μ1.length) (μ1 ++ [.lst (rangeP i (j - i).toNat)])
end
end Fx
namespace Fx
open PySem PySem.Spec PyProof.Rows L2 RZ
abbrev tkK (k : List Int) : PV := .tup (k.map .int)
def valT (kvs : List (List Int × PV)) (k : List Int) : Option PV := (kvs.find? fun kv => decide (kv.1 = k)).map (·.2)
def putT (kvs : List (List Int × PV)) (k : List Int) (v : PV) : List (List Int × PV) :=
  if (valT kvs k).isSome then kvs.map (fun kv => if kv.1 = k then (kv.1, v) else kv) else kvs ++ [(k, v)]
def RTs (K : PySem.W.Frag) (d : Wd) (H : Hp) (kvs : List (List Int × PV)) (ks : List (List Int × Addr × V)) : Prop :=
  ks.map (·.1) = kvs.map (·.1) ∧ RVs K d H (kvs.map fun kv => .tup (kv.1.map .int)) (ks.map fun p => .ref p.2.1) ∧ RVs K d H (kvs.map (·.2)) (ks.map (·.2.2))
section
variable {K : PySem.W.Frag} {d d' : Wd} {H H' : Hp} {a b : Addr} {vs us : List V} {xs ys : List PV} {μ : Store}
theorem RTs.nil : RTs K d H [] [] := ⟨rfl, .nil, .nil⟩
theorem RTs.cases {kvs : List (List Int × PV)} {ks : List (List Int × Addr × V)} (r : RTs K d H kvs ks) : (kvs = [] ∧ ks = []) ∨ ∃ k b x v kvs' ks', kvs = (k, x) :: kvs' ∧ ks = (k, b, v) :: ks' ∧ RV K d H (tkK k) (.ref b) ∧ RV K d H x v ∧ RTs K d H kvs' ks' := by
  obtain ⟨h1, h2, h3⟩ := r
  cases kvs with
  | nil => simp at h1; exact .inl ⟨rfl, h1⟩
  | cons p kvs =>
    cases ks with
    | nil => simp at h1
    | cons q ks =>
      obtain ⟨k, x⟩ := p
      obtain ⟨k', b, v⟩ := q
      simp only [List.map_cons, List.cons.injEq] at h1
      obtain ⟨e, h1⟩ := h1
      subst e
      cases h2 with
      | cons r t =>
        cases h3 with
        | cons r3 t3 => exact .inr ⟨_, _, _, _, _, _, rfl, rfl, r, r3, h1, t, t3⟩
theorem RTs.cons {k : List Int} {b : Addr} {x : PV} {v : V} {kvs : List (List Int × PV)} {ks : List (List Int × Addr × V)} (rk : RV K d H (tkK k) (.ref b)) (r : RV K d H x v) (t : RTs K d H kvs ks) : RTs K d H ((k, x) :: kvs) ((k, b, v) :: ks) :=
  ⟨by simp only [List.map_cons, t.1], .cons rk t.2.1, .cons r t.2.2⟩
theorem RTs.mono (e : Ext d H d' H') {kvs : List (List Int × PV)} {ks : List (List Int × Addr × V)} (r : RTs K d H kvs ks) : RTs K d' H' kvs ks := ⟨r.1, r.2.1.mono e, r.2.2.mono e⟩
theorem RTs.len {kvs : List (List Int × PV)} {ks : List (List Int × Addr × V)} (r : RTs K d H kvs ks) : kvs.length = ks.length := by
  have := congrArg List.length r.1
  simpa using this.symm
theorem RTs.append {kvs kvs' : List (List Int × PV)} {ks ks' : List (List Int × Addr × V)} (r : RTs K d H kvs ks) (t : RTs K d H kvs' ks') : RTs K d H (kvs ++ kvs') (ks ++ ks') := by
  refine ⟨by rw [List.map_append, List.map_append, r.1, t.1], ?_, ?_⟩
  · rw [List.map_append, List.map_append]
    exact r.2.1.append t.2.1
  · rw [List.map_append, List.map_append]
    exact r.2.2.append t.2.2
theorem tkK_sq {k : List Int} (r : RV K d H (tkK k) (.ref b)) : SqT K H b (k.map V.int) := by
  cases r with
  | tup h1 h2 =>
    have := RVs.ints h2
    subst this
    exact h1.sq
theorem RTs.sq : ∀ {kvs : List (List Int × PV)} {ks : List (List Int × Addr × V)}, RTs K d H kvs ks → ∀ p ∈ ks, SqT K H p.2.1 (p.1.map V.int)
  | [], ks, r, p, hp => by
    rcases r.cases with ⟨_, e⟩ | ⟨_, _, _, _, _, _, e, _⟩
    · subst e; simp at hp
    · cases e
  | q :: kvs, ks, r, p, hp => by
    rcases r.cases with ⟨e, _⟩ | ⟨k, b, x, v, kvs', ks', e1, e2, r1, r2, t⟩
    · cases e
    · cases e1; subst e2
      rcases List.mem_cons.mp hp with rfl | hp
      · exact tkK_sq r1
      · exact RTs.sq t p hp
theorem RTs.val {k : List Int} : ∀ {kvs : List (List Int × PV)} {ks : List (List Int × Addr × V)}, RTs K d H kvs ks → (valT kvs k = none ∧ valX ks k = none) ∨ ∃ x v, valT kvs k = some x ∧ valX ks k = some v ∧ RV K d H x v
  | [], ks, r => by
    rcases r.cases with ⟨_, e⟩ | ⟨_, _, _, _, _, _, e, _⟩
    · subst e; exact .inl ⟨rfl, rfl⟩
    · cases e
  | p :: kvs, ks, r => by
    rcases r.cases with ⟨e, _⟩ | ⟨k', b, x, v, kvs', ks', e1, e2, r1, r2, t⟩
    · cases e
    · cases e1; subst e2
      by_cases h : k' = k
      · subst h
        exact .inr ⟨x, v, by simp [valT], by simp [valX], r2⟩
      · have := RTs.val (k := k) t
        have a1 : valT ((k', x) :: kvs) k = valT kvs k := by simp [valT, List.find?_cons, h]
        have a2 : valX ((k', b, v) :: ks') k = valX ks' k := by simp [valX, List.find?_cons, h]
        rw [a1, a2]; exact this
theorem RTs.upd1 {k : List Int} {x : PV} {v : V} (rx : RV K d H x v) : ∀ {kvs : List (List Int × PV)} {ks : List (List Int × Addr × V)}, RTs K d H kvs ks → RTs K d H (kvs.map (fun kv => if kv.1 = k then (kv.1, x) else kv)) (ks.map fun p => if p.1 = k then (p.1, p.2.1, v) else p)
  | [], ks, r => by
    rcases r.cases with ⟨_, e⟩ | ⟨_, _, _, _, _, _, e, _⟩
    · subst e; exact .nil
    · cases e
  | p :: kvs, ks, r => by
    rcases r.cases with ⟨e, _⟩ | ⟨k', b, x', v', kvs', ks', e1, e2, r1, r2, t⟩
    · cases e
    · cases e1; subst e2
      rw [List.map_cons, List.map_cons]
      by_cases h : k' = k
      · simp only [h, if_true]
        exact .cons (h ▸ r1) rx (RTs.upd1 rx t)
      · simp only [h, if_false]
        exact .cons r1 r2 (RTs.upd1 rx t)
theorem RTs.put {k : List Int} {x : PV} {v : V} (rk : RV K d H (tkK k) (.ref b)) (rx : RV K d H x v) {kvs : List (List Int × PV)} {ks : List (List Int × Addr × V)} (r : RTs K d H kvs ks) : RTs K d H (putT kvs k x) (putX ks k b v) := by
  unfold putT putX
  have e : (valT kvs k).isSome = (valX ks k).isSome := by
    rcases r.val (k := k) with ⟨z, z'⟩ | ⟨x, v, z1, z2, _⟩
    · rw [z, z']; rfl
    · rw [z1, z2]; rfl
  rw [e]
  split
  · exact r.upd1 rx
  · exact r.append (.cons rk rx .nil)
def tkP : PV → Option (List Int)
  | .tup xs => intsP xs
  | _ => none
theorem tkP_of {x : PV} {k : List Int} (h : tkP x = some k) : x = tkK k := by
  cases x <;> simp only [tkP, reduceCtorEq] at h
  rw [intsP_of h]
theorem tkP_rv {x : PV} {v : V} {k : List Int} (r : RV K d H x v) (h : tkP x = some k) : ∃ b, v = .ref b ∧ RV K d H (tkK k) (.ref b) ∧ SqT K H b (k.map V.int) := by
  have := tkP_of h
  subst this
  have r' := r
  cases r with
  | tup h1 h2 => exact ⟨_, rfl, r', tkK_sq r'⟩
def tdP (x : PV) (μ : Store) : Option (List (List Int × PV)) := match x with | .mr n => (match μ[n]? with | some (.tk kvs) => some kvs | some (.ft _ _ kvs) => some kvs | _ => none) | _ => none
theorem td_of {x : PV} {v : V} {kvs : List (List Int × PV)} (w : WOk K d H μ) (r : RV K d H x v) (h : tdP x μ = some kvs) : ∃ n a ks, x = .mr n ∧ v = .ref a ∧ d.am[n]? = some a ∧ DtAt K H a ks ∧ RTs K d H kvs ks := by
  cases r with
  | @mr n a h1 =>
    unfold tdP at h
    simp only at h
    cases e : μ[n]? with
    | none => simp [e] at h
    | some m =>
      rw [e] at h
      cases m with
      | lst zs => cases h
      | dk zs => cases h
      | fd _ _ _ => cases h
      | nk _ => cases h
      | fn _ _ _ => cases h
      | tk zs =>
        injection h with h
        subst h
        obtain ⟨ks, q, r⟩ := w.obj h1 e
        have r : RTs K d H zs ks := r
        exact ⟨n, a, ks, rfl, rfl, h1, ⟨.inl q, r.sq⟩, r⟩
      | ft o ks zs =>
        injection h with h
        subst h
        obtain ⟨q, r⟩ := w.obj h1 e
        have r : RTs K d H zs ks := r
        exact ⟨n, a, ks, rfl, rfl, h1, ⟨.inr ⟨o, q⟩, r.sq⟩, r⟩
  | _ => cases h
def mDNewT : ME := fun _ μ P => P (.mr μ.length) (μ ++ [.tk []])
instance : FE K tDNewX mDNewT := ⟨fun d σ H ρ μ P Q w e q k => fun p hp => by
  have ee := Ext.push (o := DtO p []) w hp
  exact k (d.push p) _ _ _ _ ee (w.push (m := .tk []) hp ⟨[], upd_same, rfl, .nil, .nil⟩) (lay_mr w) q⟩
def mDGetT (md my : ME) : ME := fun ρ μ P => md ρ μ fun x μ1 => my ρ μ1 fun y μ2 => match tdP x μ2, tkP y with | some kvs, some k => (match valT kvs k with | some v => P v μ2 | none => False) | _, _ => False
instance {td ty md my} [hd : FE K td md] [hy : FE K ty my] : FE K (tDGetX K td ty) (mDGetT md my) := ⟨fun d σ H ρ μ P Q w e q k => by
  refine hd.run d σ H ρ μ _ _ w e q fun d1 H1 μ1 x v e1 w1 r1 q1 => ?_
  refine hy.run d1 σ H1 ρ μ1 _ _ w1 (e.mono e1) q1 fun d2 H2 μ2 y u e2 w2 r2 q2 => ?_
  cases a1 : tdP x μ2 with
  | none => rw [a1] at q2; exact q2.elim
  | some kvs =>
    cases a2 : tkP y with
    | none => rw [a1, a2] at q2; exact q2.elim
    | some kk =>
      rw [a1, a2] at q2
      simp only at q2
      obtain ⟨n, a, ks, rfl, rfl, _, hq, rk⟩ := td_of w2 (r1.mono e2) a1
      obtain ⟨b, rfl, rb, sb⟩ := tkP_rv r2 a2
      rcases rk.val (k := kk) with ⟨z, _⟩ | ⟨x, v, z1, z2, rv⟩
      · rw [z] at q2; exact q2.elim
      · rw [z1] at q2
        exact ⟨a, ks, b, kk, v, rfl, rfl, hq, sb, z2, k d2 H2 μ2 _ _ (e1.trans e2) w2 rv q2⟩⟩
def mDGet2T (md my mx : ME) : ME := fun ρ μ P => md ρ μ fun x μ1 => (tdP x μ1).isSome = true ∧ my ρ μ1 fun y μ2 => mx ρ μ2 fun z μ3 => match tdP x μ3, tkP y with | some kvs, some k => P ((valT kvs k).getD z) μ3 | _, _ => False
instance {td ty tx md my mx} [hd : FE K td md] [hy : FE K ty my] [hx : FE K tx mx] : FE K (tDGet2X K td ty tx) (mDGet2T md my mx) := ⟨fun d σ H ρ μ P Q w e q k => by
  refine hd.run d σ H ρ μ _ _ w e q fun d1 H1 μ1 x v e1 w1 r1 ⟨q0, q1⟩ => ?_
  obtain ⟨kv0, a0⟩ := Option.isSome_iff_exists.mp q0
  obtain ⟨n, a, ks0, rfl, rfl, hn, hq0, _⟩ := td_of w1 r1 a0
  refine ⟨a, ks0, rfl, hq0.1, hy.run d1 σ H1 ρ μ1 _ _ w1 (e.mono e1) q1 fun d2 H2 μ2 y u e2 w2 r2 q2 => ?_⟩
  refine hx.run d2 σ H2 ρ μ2 _ _ w2 (e.mono (e1.trans e2)) q2 fun d3 H3 μ3 z t e3 w3 r3 q3 => ?_
  cases a1 : tdP (.mr n) μ3 with
  | none => rw [a1] at q3; exact q3.elim
  | some kvs =>
    cases a2 : tkP y with
    | none => rw [a1, a2] at q3; exact q3.elim
    | some kk =>
      rw [a1, a2] at q3
      simp only at q3
      obtain ⟨n', a', ks, en, ea, _, hq, rk⟩ := td_of w3 ((r1.mono e2).mono e3) a1
      cases ea
      obtain ⟨b, rfl, rb, sb⟩ := tkP_rv (r2.mono e3) a2
      refine ⟨ks, b, kk, rfl, hq, sb, ?_⟩
      rcases rk.val (k := kk) with ⟨z1, z2⟩ | ⟨x, v, z1, z2, rv⟩
      · rw [z1] at q3
        rw [z2]
        exact k d3 H3 μ3 _ _ ((e1.trans e2).trans e3) w3 r3 q3
      · rw [z1] at q3
        rw [z2]
        exact k d3 H3 μ3 _ _ ((e1.trans e2).trans e3) w3 rv q3⟩
def mDInT (my md : ME) : ME := fun ρ μ P => my ρ μ fun y μ1 => md ρ μ1 fun x μ2 => match tdP x μ2, tkP y with | some kvs, some k => P (.bl (valT kvs k).isSome) μ2 | _, _ => False
def mDPutT (md my mv : ME) : MS := fun P ρ μ => mv ρ μ fun z μ1 => md ρ μ1 fun x μ2 => my ρ μ2 fun y μ3 => match x, tkP y with | .mr n, some k => (match μ3[n]? with | some (.tk kvs) => kvs.length ≤ lim ∧ P.nx ρ (μ3.set n (.tk (putT kvs k z))) | _ => False) | _, _ => False
instance {td ty tv md my mv} [hd : FE K td md] [hy : FE K ty my] [hv : FE K tv mv] : FS K (sDPutX K td ty tv) (mDPutT md my mv) := ⟨fun d σ H ρ μ P D w e q l => by
  refine hv.run d σ H ρ μ _ _ w e q fun d1 H1 μ1 z t e1 w1 r1 q1 => ?_
  refine hd.run d1 σ H1 ρ μ1 _ _ w1 (e.mono e1) q1 fun d2 H2 μ2 x v e2 w2 r2 q2 => ?_
  refine hy.run d2 σ H2 ρ μ2 _ _ w2 (e.mono (e1.trans e2)) q2 fun d3 H3 μ3 y u e3 w3 r3 q3 => ?_
  cases r2 with
  | @mr n a h1 =>
    cases a2 : tkP y with
    | none => rw [a2] at q3; exact q3.elim
    | some kk =>
      rw [a2] at q3
      simp only at q3
      split at q3
      · rename_i kvs a3
        have h3 := e3.at h1
        obtain ⟨ks, hq, rk⟩ := w3.obj h3 a3
        have rk : RTs K d3 H3 kvs ks := rk
        obtain ⟨b, rfl, rb, sb⟩ := tkP_rv r3 a2
        have ha : a ∈ d3.am := List.mem_of_getElem? h3
        have ee : Ext d3 H3 d3 (upd H3 a (DtO a (putX ks kk b t))) := Ext.chg ha
        have rk' := (rk.put rb (r1.mono (e2.trans e3))).mono ee
        refine ⟨a, ks, b, kk, rfl, rfl, hq, rk.sq, by rw [← rk.len]; exact lim_lt' q3.1, sb, ?_⟩
        exact l.nx d3 σ _ ρ _ (((e1.trans e2).trans e3).trans ee) (w3.chg (m := .tk (putT kvs kk z)) h3 ⟨_, upd_same, rk'⟩) (e.mono (((e1.trans e2).trans e3).trans ee)) q3.2
      · exact q3.elim
  | _ => exact q3.elim⟩
end
def tLockX (i : Nat) (t : TS) : TS := tLock t
theorem ps_lockX (i : Nat) {X : Cx} {st : Stmt} {t : TS} (h : PS X st t) : PS X st (tLockX i t) := ps_lock h
section
variable {K : PySem.W.Frag} {d d' : Wd} {H H' : Hp} {a b : Addr} {vs us : List V} {xs ys : List PV} {μ : Store}
theorem lock_inX {n : Nat} {kvs : List (List Int × PV)} (w : WOk K d H μ) (h1 : d.am[n]? = some a) (h2 : μ[n]? = some (.tk kvs)) :
    ∃ ks, H a = some (DtO a ks) ∧ ∀ od, Ext d H d (upd H a (.frz od (DtO a ks))) ∧ WOk K d (upd H a (.frz od (DtO a ks))) (μ.set n (.ft od ks kvs)) ∧
      ∀ d' H' μ', Ext d (upd H a (.frz od (DtO a ks))) d' H' → WOk K d' H' μ' → μ'[n]? = some (.ft od ks kvs) →
        H' a = some (.frz od (DtO a ks)) ∧ Ext d H d' (upd H' a (DtO a ks)) ∧ Ext d' H' d' (upd H' a (DtO a ks)) ∧ WOk K d' (upd H' a (DtO a ks)) (μ'.set n (.tk kvs)) := by
  obtain ⟨ks, hq, k0, k1, k2⟩ := w.obj h1 h2
  have ha : a ∈ d.am := List.mem_of_getElem? h1
  refine ⟨ks, hq, fun od => ?_⟩
  have ee : Ext d H d (upd H a (.frz od (DtO a ks))) := Ext.chg ha
  refine ⟨ee, w.chg (m := .ft od ks kvs) h1 ⟨upd_same, k0, k1.mono ee, k2.mono ee⟩, fun d' H' μ' f w' h3 => ?_⟩
  have h4 : d'.am[n]? = some a := f.at h1
  have ha' : a ∈ d'.am := List.mem_of_getElem? h4
  obtain ⟨q1, q0, q2, q3⟩ := w'.obj h4 h3
  have ef : Ext d' H' d' (upd H' a (DtO a ks)) := Ext.chg ha'
  exact ⟨q1, (ee.trans f).trans ef, ef, w'.chg (m := .tk kvs) h4 ⟨ks, upd_same, q0, q2.mono ef, q3.mono ef⟩⟩
def mLockX (i : Nat) (mb : MS) : MS := fun P ρ μ => match ρ[i]? with
  | some (some (.mr n)) => (match μ[n]? with
    | some (.tk kvs) => ∀ o ks, mb { nx := fun ρ' μ' => μ'[n]? = some (.ft o ks kvs) ∧ P.nx ρ' (μ'.set n (.tk kvs)), rt := fun x μ' => μ'[n]? = some (.ft o ks kvs) ∧ P.rt x (μ'.set n (.tk kvs)), bk := fun ρ' μ' => μ'[n]? = some (.ft o ks kvs) ∧ P.bk ρ' (μ'.set n (.tk kvs)), ct := fun ρ' μ' => μ'[n]? = some (.ft o ks kvs) ∧ P.ct ρ' (μ'.set n (.tk kvs)) } ρ (μ.set n (.ft o ks kvs))
    | _ => False)
  | _ => False
instance {i t m} [h : FS K t m] : FS K (tLockX i t) (mLockX i m) := ⟨fun d σ H ρ μ P D w e q l => by
  unfold mLockX at q
  split at q
  · rename_i n e1
    split at q
    · rename_i kvs e2
      obtain ⟨v, hv, r⟩ := e.2 i _ e1
      cases r with
      | @mr _ a h1 =>
        obtain ⟨ks, hq, hin⟩ := lock_inX w h1 e2
        refine ⟨a, DtO a ks, hq, trivial, fun od => ?_⟩
        obtain ⟨ee, w', back⟩ := hin od
        refine h.run d σ _ ρ _ _ _ w' (e.mono ee) (q od ks) ⟨fun d' σ' H' ρ' μ' f wk er ⟨q1, q2⟩ => ?_, fun d' H' μ' x v f wk rx ⟨q1, q2⟩ => ?_, fun d' σ' H' ρ' μ' f wk er ⟨q1, q2⟩ => ?_, fun d' σ' H' ρ' μ' f wk er ⟨q1, q2⟩ => ?_⟩
        · obtain ⟨b1, b2, b3, b4⟩ := back d' H' μ' f wk q1
          exact ⟨b1, l.nx d' σ' _ ρ' _ b2 b4 (er.mono b3) q2⟩
        · obtain ⟨b1, b2, b3, b4⟩ := back d' H' μ' f wk q1
          exact ⟨b1, l.rt d' _ _ x v b2 b4 (rx.mono b3) q2⟩
        · obtain ⟨b1, b2, b3, b4⟩ := back d' H' μ' f wk q1
          exact ⟨b1, l.bk d' σ' _ ρ' _ b2 b4 (er.mono b3) q2⟩
        · obtain ⟨b1, b2, b3, b4⟩ := back d' H' μ' f wk q1
          exact ⟨b1, l.ct d' σ' _ ρ' _ b2 b4 (er.mono b3) q2⟩
    · exact q.elim
  · exact q.elim⟩
def mLockEX (i : Nat) (me : ME) : ME := fun ρ μ P => match ρ[i]? with
  | some (some (.mr n)) => (match μ[n]? with
    | some (.tk kvs) => ∀ o ks, me ρ (μ.set n (.ft o ks kvs)) fun x μ' => μ'[n]? = some (.ft o ks kvs) ∧ P x (μ'.set n (.tk kvs))
    | _ => False)
  | _ => False
theorem rts_get {kvs : List (List Int × PV)} {ks : List (List Int × Addr × V)} (r : RTs K d H kvs ks) {i : Nat} {p : List Int × Addr × V} (h : ks[i]? = some p) : ∃ x, kvs[i]? = some (p.1, x) ∧ RV K d H (tkK p.1) (.ref p.2.1) ∧ RV K d H x p.2.2 := by
  have hi : i < ks.length := (List.getElem?_eq_some_iff.mp h).1
  have hj : i < kvs.length := by rw [r.len]; exact hi
  have e1 : (ks.map (·.1))[i]? = some p.1 := by rw [List.getElem?_map, h]; rfl
  rw [r.1, List.getElem?_map, List.getElem?_eq_getElem hj] at e1
  have e1 : kvs[i].1 = p.1 := Option.some.inj e1
  have g1 : (kvs.map fun kv => (PV.tup (kv.1.map .int)))[i]? = some (tkK p.1) := by rw [List.getElem?_map, List.getElem?_eq_getElem hj, ← e1]; rfl
  have g2 : (kvs.map (·.2))[i]? = some kvs[i].2 := by rw [List.getElem?_map, List.getElem?_eq_getElem hj]; rfl
  obtain ⟨v1, h1, r1⟩ := RVs.get r.2.1 g1
  obtain ⟨v2, h2, r2⟩ := RVs.get r.2.2 g2
  rw [List.getElem?_map, h] at h1 h2
  cases h1
  cases h2
  exact ⟨kvs[i].2, by rw [List.getElem?_eq_getElem hj, ← e1], r1, r2⟩
def mKeysX (m : ME) : MIC := fun ρ μ P => m ρ μ fun x μ1 => match x with | .mr n => (match μ1[n]? with | some (.ft o ks kvs) => P (kvs.map fun kv => tkK kv.1) (fun μ2 => μ2[n]? = some (.ft o ks kvs)) μ1 | _ => False) | _ => False
instance {t m} [h : FE K t m] : FC K (iKeysX t) (mKeysX m) := ⟨fun d σ H ρ μ P R w e q k => by
  refine h.run d σ H ρ μ _ _ w e q fun d1 H1 μ1 x v e1 w1 r1 q1 => ?_
  cases r1 with
  | @mr n a h1 =>
    simp only at q1
    split at q1
    · rename_i o ks kvs e2
      obtain ⟨hq, k1⟩ := w1.obj h1 e2
      refine ⟨a, o, ks, rfl, hq, k d1 H1 μ1 _ _ _ e1 w1 (fun d2 d3 H3 μ3 bb ee w3 hC => ?_) q1⟩
      have h3 : d3.am[n]? = some a := ee.at (by rw [bb.1]; exact h1)
      obtain ⟨hq3, k3⟩ := w3.obj h3 hC
      have k3 : RTs K d3 H3 kvs ks := k3
      refine ⟨fun i x hx => ?_, fun i hi => ⟨hq3, by rw [← k3.len]; simpa using hi⟩⟩
      have hi : i < kvs.length := by simpa using (List.getElem?_eq_some_iff.mp hx).1
      refine ⟨⟨hq3, by rw [← k3.len]; exact hi⟩, fun u H4 hy => ?_⟩
      obtain ⟨rfl, p, hp, rfl⟩ := hy
      obtain ⟨y, hy1, hy2, _⟩ := rts_get k3 hp
      rw [List.getElem?_map, hy1] at hx
      have hx := Option.some.inj hx
      rw [← hx]
      exact ⟨.refl, w3, hy2⟩
    · exact q1.elim
  | _ => exact q1.elim⟩
def pLstX : MB := fun xs μ P => match xs with | [x] => (match tdP x μ with | some kvs => P (.lst (kvs.map fun kv => tkK kv.1)) μ | none => False) | _ => False
def pLenX : MB := fun xs μ P => match xs with | [x] => (match tdP x μ with | some kvs => P (.int (kvs.length : Nat)) μ | none => False) | _ => False
end
end Fx
namespace Fx
open PySem PySem.Spec PyProof.Rows L2 RZ MR
def frP (q : Rat) : PV := .tup [.int q.num, .int (q.den : Nat)]
def tabP (qs : List Rat) : PV := .tup (qs.map frP)
def lotP (ns : List Nat) : PV := .tup (ns.map fun (n : Nat) => PV.int n)
def seqP : PV → Option (List PV)
  | .tup xs => some xs
  | .lst xs => some xs
  | _ => none
theorem log_lt {x : Int} {n : Nat} (h : x.natAbs < 2 ^ n) : x.natAbs.log2 < n + 1 := by
  by_cases h0 : x.natAbs = 0
  · rw [h0]; show Nat.log2 0 < n + 1; rw [Nat.log2_zero]; omega
  · have := (Nat.log2_lt h0).mpr h
    omega
theorem mulOk {x y : Int} {m n : Nat} (hx : x.natAbs < 2 ^ m) (hy : y.natAbs < 2 ^ n) (h : m + n ≤ 90000000) : MulOk x y := by
  have h1 := log_lt hx
  have h2 := log_lt hy
  exact .inr (show _ + _ < _ by omega)
theorem gcd_div {a b : Int} {n : Nat} (hb : 0 < b) (hz : b.natAbs < 2 ^ n) (hn : n ≤ 8990 := by decide) : DivOk a ((Nat.gcd a.natAbs b.natAbs : Nat) : Int) := by
  have h1 : Nat.gcd a.natAbs b.natAbs ≤ b.natAbs := Nat.le_of_dvd (by omega) (Nat.gcd_dvd_right _ _)
  have h0 : 0 < Nat.gcd a.natAbs b.natAbs := Nat.gcd_pos_of_pos_right _ (by omega)
  have h2 : (((Nat.gcd a.natAbs b.natAbs : Nat) : Int)).natAbs < 2 ^ n := by
    rw [Int.natAbs_natCast]; omega
  have := log_lt h2
  exact .inl ⟨by omega, by omega⟩
theorem ints_lot (ns : List Nat) : intsP (ns.map fun (n : Nat) => PV.int n) = some (ns.map fun (n : Nat) => (n : Int)) := by
  have := intsP_map (ns.map fun (n : Nat) => (n : Int))
  rw [List.map_map] at this
  exact this
theorem maxP_lot {ns : List Nat} (h : ns ≠ []) : maxP (ns.map fun (n : Nat) => (n : Int)) = ((maxN ns : Nat) : Int) := by
  refine (maxP_uniq (List.mem_map.mpr ⟨maxN ns, maxN_mem h, rfl⟩) fun y hy => ?_).symm
  obtain ⟨n, hn, rfl⟩ := List.mem_map.mp hy
  have := le_maxN hn
  show (n : Int) ≤ (maxN ns : Int)
  omega
theorem fr_eq {p q : Rat} : (p.num = q.num ∧ (p.den : Int) = (q.den : Int)) ↔ p = q := by
  constructor
  · intro ⟨h1, h2⟩
    exact Rat.ext h1 (by omega)
  · rintro rfl; exact ⟨rfl, rfl⟩
theorem eqP_tup2 (a b c d : Int) (μ : Store) : eqP (.tup [.int a, .int b]) (.tup [.int c, .int d]) μ = some (decide (a = c ∧ b = d)) := by
  have h : ∀ x y : Int, SeqAt.shaped (.tuple [.int x, .int y]) = true := fun x y => rfl
  unfold eqP
  simp only [scalP, frzP, datP, datPs, Option.map_some, h, and_self, if_true]
  simp only [PyData.eqv, PyData.eqvAll]
  congr 1
  by_cases h1 : a = c <;> by_cases h2 : b = d <;> simp [h1, h2]
theorem eqP_fr (p q : Rat) (μ : Store) : eqP (frP p) (frP q) μ = some (decide (p = q)) := by
  unfold frP
  rw [eqP_tup2]
  congr 1
  exact decide_eq_decide.mpr fr_eq
theorem one_fr : PV.tup [.int 1, .int 1] = frP 1 := rfl
theorem enumP_map {α : Type} (f : α → PV) : ∀ (xs : List α) (j : Nat), enumP j (xs.map f) = (numd j xs).map fun p => .tup [.int (p.1 : Nat), f p.2]
  | [], _ => rfl
  | x :: xs, j => by
    rw [List.map_cons, enumP, enumP_map f xs]
    rfl
theorem all_true {α : Type} (l : List α) : boolsP (([] : List PV) ++ l.map fun _ => PV.bl true) = some (l.map fun _ => true) := by
  have := boolsP_map (l.map fun _ => true)
  rw [List.map_map] at this
  exact this
theorem all_id {α : Type} (l : List α) : (l.map fun _ => true).all id = true := by simp
theorem fr_mul {m n : Nat} {p q : Rat} (hp : Sm m p) (hq : Sm n q) (h : m + n ≤ 90000000 := by decide) : MulOk p.num q.num ∧ MulOk p.num (q.den : Int) ∧ MulOk (p.den : Int) q.num ∧ MulOk (p.den : Int) (q.den : Int) :=
  ⟨mulOk hp.1 hq.1 h, mulOk (y := (q.den : Int)) hp.1 hq.2 h, mulOk (x := (p.den : Int)) hp.2 hq.1 h, mulOk (x := (p.den : Int)) (y := (q.den : Int)) hp.2 hq.2 h⟩
theorem gcd_one (q : Rat) : Nat.gcd q.num.natAbs ((q.den : Nat) : Int).natAbs = 1 := by
  rw [Int.natAbs_natCast]
  exact q.reduced
theorem cut1 (xs : List PV) : cutP xs (some 1) none = xs.drop 1 := by
  unfold cutP
  cases xs with
  | nil => rfl
  | cons x xs =>
    have h1 : HT.sIx (x :: xs).length 0 (some 1) = 1 := by
      show HT.sIx (xs.length + 1) 0 (some 1) = 1
      simp [HT.sIx]
    have h2 : HT.sIx (x :: xs).length (x :: xs).length none = (x :: xs).length := by simp [HT.sIx]
    rw [h1, h2]
    simp
theorem kit_tt : kitB "tuple" "tuple" = some true := rfl
theorem kit_ii : kitB "int" "int" = some true := rfl
theorem kit_ib : kitB "int" "bool" = some false := rfl
theorem eqP_int (a b : Int) (μ : Store) : eqP (.int a) (.int b) μ = some (decide (a = b)) := rfl
theorem eqP_str (a b : Str) (μ : Store) : eqP (.str a) (.str b) μ = some (decide (a = b)) := rfl
def DK (l : PV) (m k : Int) : List (Key × PV) := [(.inr (Str.ofString "left"), l), (.inr (Str.ofString "mixed"), .int m), (.inr (Str.ofString "draws"), .int k)]
theorem val_left (l : PV) (m k : Int) : valP (DK l m k) (.inr (Str.ofString "left")) = some l := rfl
theorem val_mixed (l : PV) (m k : Int) : valP (DK l m k) (.inr (Str.ofString "mixed")) = some (.int m) := by
  have h : (Str.ofString "left" = Str.ofString "mixed") = False := by decide
  simp [DK, valP, h]
theorem val_draws (l : PV) (m k : Int) : valP (DK l m k) (.inr (Str.ofString "draws")) = some (.int k) := by
  have h : (Str.ofString "left" = Str.ofString "draws") = False := by decide
  have h2 : (Str.ofString "mixed" = Str.ofString "draws") = False := by decide
  simp [DK, valP, h, h2]
theorem put_draws (l : PV) (m k j : Int) : putP (DK l m k) (.inr (Str.ofString "draws")) (.int j) = DK l m j := by
  have h : (Str.ofString "left" = Str.ofString "draws") = False := by decide
  have h2 : (Str.ofString "mixed" = Str.ofString "draws") = False := by decide
  simp [DK, putP, h, h2]
def DS (L : List Int) (m k : Int) (rest : Store) : Store := .lst (L.map PV.int) :: .dk (DK (.mr 0) m k) :: rest
theorem datPs_ints : ∀ L : List Int, datPs (L.map PV.int) = some (L.map PyData.int)
  | [] => rfl
  | x :: xs => by simp [datPs, datP, datPs_ints xs]
theorem canLay_ints : ∀ L : List Int, PyData.canLayAll0 (L.map PyData.int) = true
  | [] => rfl
  | x :: xs => by simp [PyData.canLayAll0, PyData.canLay0, canLay_ints xs]
theorem depth_ints : ∀ L : List Int, PyData.depthAll (L.map PyData.int) ≤ 1
  | [] => by simp [PyData.depthAll]
  | x :: xs => by
    have := depth_ints xs
    simp [PyData.depthAll, PyData.depth]
    omega
theorem shaped_ints (L : List Int) : SeqAt.shaped (.list (L.map PyData.int)) = true := by
  have := depth_ints L
  simp [SeqAt.shaped, PyData.canLay0, canLay_ints, PyData.depth]
  omega
theorem eqP_empty {n : Nat} {μ : Store} {L : List Int} (h : μ[n]? = some (.lst (L.map PV.int))) : eqP (.mr n) (.lst []) μ = some (decide (L = [])) := by
  have h1 := shaped_ints L
  have h2 := shaped_ints []
  simp only [List.map_nil] at h2
  unfold eqP
  simp only [scalP, frzP, h, datP, datPs_ints, datPs, Option.map_some, h1, h2, and_self, if_true]
  congr 1
  cases L <;> simp [PyData.eqv, PyData.eqvAll]
theorem eqP_e0 (L : List Int) (rest : Store) : eqP (.mr 0) (.lst []) (.lst (L.map PV.int) :: rest) = some (decide (L = [])) := eqP_empty rfl
theorem mulR {x c : Int} (h1 : -2 ^ 64 < c) (h2 : c < 2 ^ 64) : MulOk x c := .inl (.inr ⟨h1, h2⟩)
theorem mulL {x c : Int} (h1 : -2 ^ 64 < c) (h2 : c < 2 ^ 64) : MulOk c x := .inl (.inl ⟨h1, h2⟩)
theorem fmod_b {x m : Int} (h : 0 < m) : 0 ≤ x.fmod m ∧ x.fmod m < m := ⟨Int.fmod_nonneg_of_pos x h, Int.fmod_lt_of_pos x h⟩
theorem max2_pos (m : Int) : (0 : Int) < (if m > 2 then m else 2) := by split <;> omega
theorem eqP_nn (rest : Store) : eqP (.mr 0) (.lst []) (.lst [] :: rest) = some true := eqP_e0 [] rest
theorem eqP_nc (I : List Int) (c : Int) (rest : Store) : eqP (.mr 0) (.lst []) (.lst (I.map PV.int ++ [.int c]) :: rest) = some false := by
  have := eqP_e0 (I ++ [c]) rest
  simpa using this
theorem last_c (xs : List PV) (y : PV) : (xs ++ [y])[(xs ++ [y]).length - 1]? = some y := by simp
theorem sIx_nat (a d n : Nat) : HT.sIx a d (some (n : Int)) = min n a := by
  unfold HT.sIx
  simp only
  rw [if_neg (by omega), Int.toNat_natCast]
theorem sIx_none (a d : Nat) : HT.sIx a d none = d := rfl
theorem cut_to (xs : List PV) (n : Nat) : cutP xs none (some (n : Int)) = xs.take n := by
  unfold cutP
  rw [sIx_none, sIx_nat, List.drop_zero, Nat.sub_zero]
  by_cases h : n ≤ xs.length
  · rw [Nat.min_eq_left h]
  · rw [Nat.min_eq_right (by omega), List.take_of_length_le (Nat.le_refl _), List.take_of_length_le (by omega)]
def ShB (d l : Nat) (x : PV) : Prop := ∃ e, datP x = some e ∧ e.showable = true ∧ e.hasDict = false ∧ e.depth ≤ d ∧ e.shown.length ≤ l
def shwP (x : PV) : Str := match datP x with | some e => e.shown | none => ""
theorem ShB.mono {d l d' l' : Nat} {x : PV} (h : ShB d l x) (h1 : d ≤ d') (h2 : l ≤ l') : ShB d' l' x :=
  let ⟨e, a, b, c, f, g⟩ := h; ⟨e, a, b, c, by omega, by omega⟩
theorem shb_int {i : Int} (h : i.natAbs < 2 ^ 1900) : ShB 0 1901 (.int i) := by
  refine ⟨.int i, rfl, ?_, by simp [PyData.hasDict], by simp [PyData.depth], ?_⟩
  · have := log_lt h
    simp only [PyData.showable, decide_eq_true_eq]
    omega
  · have := int_text_length_le10 (a := i) (k := 1900) (by decide) (Nat.lt_of_lt_of_le h (Nat.pow_le_pow_left (by decide) 1900))
    rw [PyData.shown_int, PySem.ofString_length]
    exact this
theorem shb_all {d l : Nat} : ∀ {xs : List PV}, (∀ x ∈ xs, ShB d l x) → ∃ es, datPs xs = some es ∧ PyData.showableAll es = true ∧ PyData.hasDictAll es = false ∧ PyData.depthAll es ≤ d ∧ ((PyData.shownAll es).map (·.length)).sum ≤ xs.length * l ∧ (PyData.shownAll es).length = xs.length
  | [], _ => ⟨[], rfl, by simp [PyData.showableAll], by simp [PyData.hasDictAll], by simp [PyData.depthAll], by simp [PyData.shownAll], by simp [PyData.shownAll]⟩
  | x :: xs, h => by
    obtain ⟨e, a1, a2, a3, a4, a5⟩ := h x List.mem_cons_self
    obtain ⟨es, b1, b2, b3, b4, b5, b6⟩ := shb_all fun y hy => h y (List.mem_cons_of_mem _ hy)
    refine ⟨e :: es, by simp [datPs, a1, b1], by simp [PyData.showableAll, a2, b2], by simp [PyData.hasDictAll, a3, b3], ?_, ?_, ?_⟩
    · simp only [PyData.depthAll]; omega
    · simp only [PyData.shownAll, List.map_cons, List.sum_cons, List.length_cons, Nat.add_mul, Nat.one_mul]; omega
    · simp only [PyData.shownAll, List.length_cons]; omega
theorem shb_tup {d l : Nat} {xs : List PV} (h : ∀ x ∈ xs, ShB d l x) : ShB (d + 1) (xs.length * (l + 2) + 3) (.tup xs) := by
  obtain ⟨es, b1, b2, b3, b4, b5, b6⟩ := shb_all h
  refine ⟨.tuple es, by simp [datP, b1], by simp [PyData.showable, b2], by simp [PyData.hasDict, b3], by simp only [PyData.depth]; omega, ?_⟩
  have := tupleText_len_le (PyData.shownAll es)
  show (tupleText (PyData.shownAll es)).length ≤ _
  rw [Nat.mul_add]
  rw [b6] at this
  omega
theorem shb_fr {q : Rat} (h : Sm 1900 q) : ShB 1 4000 (frP q) := by
  have := shb_tup (xs := [.int q.num, .int (q.den : Nat)]) (d := 0) (l := 1901) fun x hx => by
    rcases List.mem_cons.mp hx with rfl | hx
    · exact shb_int h.1
    · rw [List.mem_singleton.mp hx]
      exact shb_int (by rw [Int.natAbs_natCast]; exact h.2)
  exact this.mono (by decide) (by show 2 * (1901 + 2) + 3 ≤ 4000; decide)
theorem pRepr_tup {xs : List PV} {d l : Nat} {μ : Store} {P : PV → Store → Prop} (h : ShB d l (.tup xs)) (hd : d ≤ 60) (hl : l ≤ lim) (hP : P (.str (shwP (.tup xs))) μ) : pRepr [.tup xs] μ P := by
  obtain ⟨e, a1, a2, a3, a4, a5⟩ := h
  have e1 : datP (frzP (.tup xs) μ) = some e := a1
  have e2 : shwP (.tup xs) = e.shown := by unfold shwP; rw [a1]
  have hs : isSeqD e = true := by
    simp only [datP] at a1
    cases z : datPs xs with
    | none => rw [z] at a1; cases a1
    | some es => rw [z] at a1; cases a1; rfl
  unfold pRepr
  simp only [e1]
  rw [e2] at hP
  exact ⟨⟨hs, a2, a3, by omega, by omega⟩, hP⟩
theorem noRef_lot (ns : List Nat) : noRef (lotP ns) = true := by
  unfold lotP
  show noRefs _ = true
  induction ns with
  | nil => rfl
  | cons n ns ih => rw [List.map_cons, noRefs, ih]; rfl
def Dk (m : Int) (rest : Store) (μ : Store) : Prop := ∃ (L : List Int) (k : Int), L.length ≤ 63 ∧ μ = DS L m k rest
theorem Dk.len {m : Int} {rest μ : Store} (h : Dk m rest μ) : μ.length = rest.length + 2 := by
  obtain ⟨L, k, _, rfl⟩ := h; rfl
theorem Dk.get {m : Int} {rest μ : Store} (h : Dk m rest μ) (j : Nat) : μ[j + 2]? = rest[j]? := by
  obtain ⟨L, k, _, rfl⟩ := h; rfl
theorem Dk.app {m : Int} {rest μ : Store} (h : Dk m rest μ) (g : Store) : Dk m (rest ++ g) (μ ++ g) := by
  obtain ⟨L, k, h1, rfl⟩ := h
  exact ⟨L, k, h1, rfl⟩
theorem Dk.set {m : Int} {rest μ : Store} (h : Dk m rest μ) (j : Nat) (x : MO) : Dk m (rest.set j x) (μ.set (j + 2) x) := by
  obtain ⟨L, k, h1, rfl⟩ := h
  exact ⟨L, k, h1, rfl⟩
theorem getl {α : Type} (μ : List α) (x : α) : (μ ++ [x])[μ.length]? = some x := by simp
theorem setl {α : Type} (μ : List α) (x y : α) : (μ ++ [x]).set μ.length y = μ ++ [y] := by simp
theorem max_parts {ps : List Int} : (0 < maxP ps) → ∃ p ∈ ps, 0 < p := fun h => by
  cases ps with
  | nil => exact absurd h (by decide)
  | cons a l => exact ⟨_, maxP_mem (by simp), h⟩
theorem ixN_zero (n : Nat) : ixN (n + 1) 0 = some 0 := by
  unfold ixN
  rw [if_pos (Int.le_refl 0), if_pos (by omega)]
  rfl
theorem pRepr_fr {q : Rat} {μ : Store} {P : PV → Store → Prop} (h : Sm 1900 q) (hP : P (.str (shwP (frP q))) μ) : pRepr [frP q] μ P := pRepr_tup (shb_fr h) (by decide) (by decide) hP
theorem items_tup (xs : List PV) (μ : Store) : itemsOf (.tup xs) μ = some xs := rfl
theorem items_lst (xs : List PV) (μ : Store) : itemsOf (.lst xs) μ = some xs := rfl
theorem items_kl (xs : List PV) (μ : Store) : itemsOf (.kl xs) μ = some xs := rfl
theorem items_mr (n : Nat) (μ : Store) : itemsOf (.mr n) μ = match μ[n]? with | some (.lst xs) => some xs | _ => none := rfl
theorem items_tab (qs : List Rat) (μ : Store) : itemsOf (tabP qs) μ = some (qs.map frP) := rfl
theorem items_lot (ns : List Nat) (μ : Store) : itemsOf (lotP ns) μ = some (ns.map fun (n : Nat) => PV.int n) := rfl
theorem items_fr (q : Rat) (μ : Store) : itemsOf (frP q) μ = some [.int q.num, .int (q.den : Nat)] := rfl
theorem merged_lot (n : Nat) : PV.tup ([PV.int 0, PV.int 0] ++ rangeP 1 (n - 2)) = lotP (mergedN n) := by
  unfold lotP mergedN rangeP
  simp only [List.map_cons, List.map_map, List.cons_append, List.nil_append]
  congr 3
  refine List.map_congr_left fun i _ => ?_
  show PV.int (1 + (i : Nat)) = PV.int ((i + 1 : Nat) : Int)
  congr 1
  omega
theorem eqP_bl (a b : Bool) (μ : Store) : eqP (.bl a) (.bl b) μ = some (decide (a = b)) := rfl
end Fx
namespace Fx
open PySem PySem.Spec PyProof.Rows L2 RZ MR
theorem bools_out {α : Type} (l : List α) (f : α → Bool) : boolsP (([] : List PV) ++ l.map fun a => PV.bl (f a)) = some (l.map f) := by
  have := boolsP_map (l.map f)
  rw [List.map_map] at this
  exact this
theorem all_out {α : Type} (l : List α) (f : α → Bool) : (l.map f).all id = l.all f := by rw [List.all_map]; rfl
def zs (ns : List Nat) : List Int := ns.map fun (n : Nat) => (n : Int)
theorem lot_ints (ns : List Nat) : lotP ns = .tup ((zs ns).map PV.int) := by
  unfold lotP zs
  rw [List.map_map]
  rfl
theorem zs_length (ns : List Nat) : (zs ns).length = ns.length := by simp [zs]
theorem while_inv {c : MT} {b : MS} {P : MEnds} {ρ : PEnv} {μ : Store} (W : Nat → PEnv → Store → Prop) {n : Nat} (h0 : W n ρ μ) (hs : ∀ n ρ μ, W n ρ μ →
    c ρ μ fun x μ1 => if x = true then b { P with nx := fun ρ' μ' => ∃ n', n' < n ∧ W n' ρ' μ', ct := fun ρ' μ' => ∃ n', n' < n ∧ W n' ρ' μ', bk := P.nx } ρ μ1 else P.nx ρ μ1) : mWhile c b P ρ μ := ⟨W, ⟨n, h0⟩, hs⟩
theorem divN (a : Int) {b n : Nat} (h0 : 0 < b) (h : b < 2 ^ n) (hn : n ≤ 8900 := by decide) : DivOk a (b : Nat) := by
  have := log_lt (x := (b : Nat)) (n := n) (by rw [Int.natAbs_natCast]; exact h)
  exact .inl ⟨by omega, by omega⟩
theorem stm_of {a b : MS} {P : MEnds} {ρ : PEnv} {μ : Store} (h : ∀ R : PEnv → Store → Prop, R = b P → a { P with nx := R } ρ μ) : mSeq a b P ρ μ := h _ rfl
end Fx
namespace Fx
open PySem PySem.Spec PyProof.Rows L2 RZ MR
def rowsD (r : Rows) : List (Key × PV) := r.map fun p => ((.inl (p.1 : Nat) : Key), PV.int (p.2 : Nat))
section
variable {α : Type} {C : Store → Prop} {g : MG} {b : MS} {P : MEnds}
theorem forC_inv {enc : α → PV} (I : List α → PEnv → Store → Prop) (hC : ∀ pre ρ μ, I pre ρ μ → C μ) : ∀ {l done : List α} {ρ : PEnv} {μ : Store}, I done ρ μ → (∀ pre a post ρ μ, done ++ l = pre ++ a :: post → I pre ρ μ → ∀ N : PEnv → Store → Prop, (∀ ρ μ, I (pre ++ [a]) ρ μ → N ρ μ) →
      g (enc a) ρ μ fun ρ1 μ1 => b { P with nx := N, ct := N, bk := P.nx } ρ1 μ1) → (∀ ρ μ, I (done ++ l) ρ μ → P.nx ρ μ) → mForLC C g b P (l.map enc) ρ μ
  | [], done, ρ, μ, h0, _, hP => ⟨hC _ _ _ h0, hP ρ μ (by simpa using h0)⟩
  | a :: l, done, ρ, μ, h0, hs, hP => by
    have e1 : done ++ a :: l = (done ++ [a]) ++ l := by simp
    exact ⟨hC _ _ _ h0, hs done a l ρ μ rfl h0 (mForLC C g b P (l.map enc)) fun ρ μ h => forC_inv I hC (done := done ++ [a]) h (fun pre x post ρ μ e2 => hs pre x post ρ μ (by rw [e1]; exact e2)) fun ρ μ h => hP ρ μ (by rw [e1]; exact h)⟩
end
theorem set_get {μ : Store} {r : Nat} (h : r < μ.length) (z : MO) : (μ.set r z)[r]? = some z := by
  rw [List.getElem?_set_self h]
theorem app_get {μ : Store} {r : Nat} {y : MO} (h : μ[r]? = some y) (g : Store) : (μ ++ g)[r]? = some y := by
  rw [List.getElem?_append_left (List.getElem?_eq_some_iff.mp h).1]
  exact h
theorem str_to : (Str.ofString "toss" = Str.ofString "out") = False := by simp only [eq_iff_iff, iff_false]; decide +kernel
theorem str_ot : (Str.ofString "out" = Str.ofString "toss") = False := by simp only [eq_iff_iff, iff_false]; decide +kernel
theorem range_split {n a : Nat} {pre post : List Nat} (h : List.range n = pre ++ a :: post) : a = pre.length ∧ pre.length < n := by
  have h1 : (List.range n)[pre.length]? = some a := by rw [h]; simp
  have h2 : pre.length < n := by
    have := congrArg List.length h
    simp at this
    omega
  rw [List.getElem?_range h2] at h1
  exact ⟨(Option.some.inj h1).symm, h2⟩
theorem fin_frozg {μ0 g : Store} {xs : List PV} {Q : PV → Store → Prop} (n : noRefs xs = true) (h : Q (.lst xs) μ0) : ∃ y μ', Gc μ0 (.mr (μ0.length + g.length)) (μ0 ++ g ++ [.lst xs]) y μ' ∧ Q y μ' := by
  refine ⟨_, _, .froz (μ0.length + g.length) (g ++ [.lst xs]) xs rfl (List.append_assoc ..) ?_ (by omega) n, h⟩
  rw [← List.length_append]
  exact getl _ _
theorem noRefs_lots : ∀ L : List (List Nat), noRefs (L.map lotP) = true
  | [] => rfl
  | a :: L => by rw [List.map_cons, noRefs, noRefs_lots L, noRef_lot]; rfl
theorem lot_snoc (l : List Nat) (d : Nat) : PV.tup ((l.map fun (n : Nat) => PV.int n) ++ [.int (d : Nat)]) = lotP (l ++ [d]) := by
  unfold lotP
  rw [List.map_append]
  rfl
structure CountI (S : Mch) (n b j : Nat) (ks : List Nat) (p : Nat) (μ : Store) : Prop where
  fnd : μ[b + 1]? = some (.lst (ks.map .mr))
  len : ks.length = j
  end_ : ∀ (i k : Nat), ks[i]? = some k → μ[k]? = some (.lst ((List.range n).map fun x => .int (endN S x i 0 : Nat))) ∧ b + 2 ≤ k
  now : μ[p]? = some (.dk (rowsD (rowsAt S j)))
  np : b ≤ p ∧ p ≠ b + 1
theorem set_off (μ h : Store) (z : MO) : (μ ++ h).set (μ.length + 1) z = μ ++ h.set 1 z := by
  rw [List.set_append_right _ _ (by omega)]
  congr 2
  omega
theorem CountI.start (S : Mch) (n : Nat) (μ : Store) : CountI S n μ.length 0 [] μ.length (μ ++ [.dk (rowsD (rowsAt S 0)), .lst []]) := by
  refine ⟨?_, rfl, fun i k h => by simp at h, ?_, Nat.le_refl _, by omega⟩
  · rw [List.getElem?_append_right (by omega)]
    simp
  · rw [List.getElem?_append_right (by omega)]
    simp
theorem CountI.next {S : Mch} {n j p : Nat} {μ h : Store} {ks : List Nat} (hC : CountI S n μ.length j ks p (μ ++ h)) :
    CountI S n μ.length (j + 1) (ks ++ [(μ ++ h).length]) ((μ ++ h).length + 1) (μ ++ (h.set 1 (.lst (ks.map .mr ++ [.mr (μ ++ h).length])) ++ [.lst ((List.range n).map fun x => .int (endN S x j 0 : Nat)), .dk (rowsD (rowsAt S (j + 1)))])) := by
  have hl := (List.getElem?_eq_some_iff.mp hC.fnd).1
  have hl2 : 1 < h.length := by rw [List.length_append] at hl; omega
  have e : μ ++ (h.set 1 (.lst (ks.map .mr ++ [.mr (μ ++ h).length])) ++ [MO.lst ((List.range n).map fun x => .int (endN S x j 0 : Nat)), .dk (rowsD (rowsAt S (j + 1)))]) = (μ ++ h).set (μ.length + 1) (.lst (ks.map .mr ++ [.mr (μ ++ h).length])) ++ [MO.lst ((List.range n).map fun x => .int (endN S x j 0 : Nat)), .dk (rowsD (rowsAt S (j + 1)))] := by
    rw [set_off, List.append_assoc]
  rw [e]
  have hsl : ((μ ++ h).set (μ.length + 1) (.lst (ks.map .mr ++ [.mr (μ ++ h).length]))).length = (μ ++ h).length := List.length_set
  refine ⟨?_, by rw [List.length_append, hC.len]; rfl, fun i k hk => ?_, ?_, ?_⟩
  · rw [app_get (set_get hl _)]
    rw [List.map_append]
    rfl
  · by_cases hi : i < ks.length
    · rw [List.getElem?_append_left hi] at hk
      obtain ⟨h1, h2⟩ := hC.end_ i k hk
      refine ⟨?_, h2⟩
      refine app_get ?_ _
      rw [List.getElem?_set_ne (by omega)]
      exact h1
    · rw [List.getElem?_append_right (by omega)] at hk
      have hij : i = ks.length := by
        have := (List.getElem?_eq_some_iff.mp hk).1
        simp at this
        omega
      subst hij
      rw [Nat.sub_self] at hk
      have hk : (μ ++ h).length = k := by simpa using hk
      subst hk
      refine ⟨?_, by rw [List.length_append]; omega⟩
      rw [List.getElem?_append_right (by omega), hsl, Nat.sub_self, hC.len]
      rfl
  · rw [List.getElem?_append_right (by omega), hsl]
    simp
  · rw [List.length_append]
    omega
end Fx
namespace Fx
open PySem PySem.Spec PyProof.Rows L2 RZ
section
variable {P : Program} {w : World} {A : Around} {E : Value → Shared → Prop} {s : Shared}
abbrev bare (w : World) : Obj := { cls := .type "set", dict := none, data := .set #[] 0 (.fresh 0 0 (!w.params.followText "set-order")) }
end
end Fx
namespace Fx
open PySem PySem.Spec PyProof.Rows L2 RZ
section
variable {K : PySem.W.Frag}
def mSortSetL (m : ME) : ME := fun ρ μ P => m ρ μ fun x μ1 => match x with | .lst ys => (match intsP ys with | some ns => ns.length < 63 ∧ ∀ ms : List Int, ms.Pairwise (· < ·) → (∀ k : Int, k ∈ ms ↔ k ∈ ns) → P (.lst (ms.map PV.int)) μ1 | none => False) | _ => False
end
open MR
theorem add_parts {D : Int} (hD : 0 < D) (a b : Int) : Rat.divInt a D + Rat.divInt b D = Rat.divInt (a + b) D := by
  rw [Rat.divInt_eq_div, Rat.divInt_eq_div, Rat.divInt_eq_div, Rat.intCast_add, Rat.div_def, Rat.div_def, Rat.div_def, Rat.add_mul]
theorem sum_parts {D : Int} (hD : 0 < D) : ∀ l : List Nat, (l.map fun (a : Nat) => Rat.divInt (a : Nat) D).sum = Rat.divInt (l.sum : Nat) D
  | [] => by simp
  | a :: l => by
    rw [List.map_cons, List.sum_cons, sum_parts hD l, add_parts hD, List.sum_cons]
    rfl
end Fx
namespace Fx
open PySem PySem.Spec PyProof.Rows L2 RZ MR
inductive PT (K : PySem.W.Frag) (H : Hp) : List V → List (Int × Int) → Prop
  | nil : PT K H [] []
  | cons {x : V} {p : Int × Int} {xs : List V} {ps : List (Int × Int)} : Dp K H x (.tuple [.int p.1, .int p.2]) → PT K H xs ps → PT K H (x :: xs) (p :: ps)
theorem PT.get {K : PySem.W.Frag} {H : Hp} : ∀ {xs : List V} {ps : List (Int × Int)} {i : Nat} {x : V}, PT K H xs ps → xs[i]? = some x → ∃ p, ps[i]? = some p ∧ Dp K H x (.tuple [.int p.1, .int p.2])
  | _, _, _, _, .nil, h => by simp at h
  | _, _, 0, _, .cons r _, h => by
    simp at h; subst h; exact ⟨_, rfl, r⟩
  | _, _, i + 1, _, .cons _ t, h => by
    obtain ⟨v, e, r⟩ := PT.get (i := i) t (by simpa using h)
    exact ⟨v, by simpa using e, r⟩
def pairsP : List PV → Option (List (Int × Int))
  | [] => some []
  | .tup [.int i, .int j] :: xs => (pairsP xs).map ((i, j) :: ·)
  | _ => none
def pMaxT (f : Int × Int → List (Int × Int) → Int × Int) : MB := fun xs μ P => match xs with | [.lst ys] => (match pairsP ys with | some (p :: ps) => P (.tup [.int (f p ps).1, .int (f p ps).2]) μ | _ => False) | _ => False
section
variable {K : PySem.W.Frag} {d : Wd} {H : Hp} {μ : Store}
end
section
variable {K : PySem.W.Frag} {d : Wd} {H : Hp} {μ : Store}
def pairV (p : Int × Int) : PV := .tup [.int p.1, .int p.2]
def lexP (p q : Int × Int) : Prop := p.1 < q.1 ∨ p.1 = q.1 ∧ p.2 ≤ q.2
def pSortT : MB := fun xs μ P => match xs with | [.lst ys] => (match pairsP ys with | some ps => ps.length < 64 ∧ (∀ p ∈ ps, 0 ≤ p.1 ∧ p.1 < 1000 ∧ 0 ≤ p.2 ∧ p.2 < 1000) ∧ ∀ qs : List (Int × Int), qs.Perm ps → qs.Pairwise lexP → P (.lst (qs.map pairV)) μ | none => False) | _ => False
end
end Fx
namespace MR
section
variable {W n m r : Nat}
end
end MR
namespace Fx
open PySem PySem.Spec PyProof.Rows L2 RZ MR
theorem fdivN (a b : Nat) : ((a : Nat) : Int).fdiv ((b : Nat) : Int) = ((a / b : Nat) : Int) := by
  rw [Int.fdiv_eq_ediv_of_nonneg _ (by omega), Int.natCast_ediv]
end Fx
namespace Fx
open PySem PySem.Spec PyProof.Rows L2 RZ MR
end Fx
section
set_option exponentiation.threshold 10000
namespace MR
def fct : Nat → Nat
  | 0 => 1
  | n + 1 => (n + 1) * fct n
theorem fct_pos : ∀ n, 0 < fct n
  | 0 => by decide
  | n + 1 => Nat.mul_pos (by omega) (fct_pos n)
def chz : Nat → Nat → Nat
  | _, 0 => 1
  | 0, _ + 1 => 0
  | n + 1, k + 1 => chz n k + chz n (k + 1)
theorem chz_zero (n : Nat) : chz n 0 = 1 := by cases n <;> rfl
theorem chz_above : ∀ {n k : Nat}, n < k → chz n k = 0
  | 0, 0, h => absurd h (by omega)
  | 0, k + 1, _ => rfl
  | n + 1, 0, h => absurd h (by omega)
  | n + 1, k + 1, h => by rw [chz, chz_above (by omega), chz_above (by omega)]
theorem chz_fct : ∀ {n k : Nat}, k ≤ n → chz n k * fct k * fct (n - k) = fct n
  | n, 0, _ => by rw [chz_zero, fct, Nat.sub_zero]; omega
  | 0, k + 1, h => absurd h (by omega)
  | n + 1, k + 1, h => by
    rw [chz, show n + 1 - (k + 1) = n - k by omega]
    have h1 := chz_fct (n := n) (k := k) (by omega)
    have e1 : chz n k * fct (k + 1) * fct (n - k) = (k + 1) * fct n := by
      rw [← h1, fct]; grind
    have e2 : chz n (k + 1) * fct (k + 1) * fct (n - k) = (n - k) * fct n := by
      by_cases hk : k + 1 ≤ n
      · have h2 := chz_fct (n := n) (k := k + 1) hk
        obtain ⟨m, hm⟩ : ∃ m, n - k = m + 1 := ⟨n - k - 1, by omega⟩
        rw [show n - (k + 1) = m by omega] at h2
        rw [hm, show fct (m + 1) = (m + 1) * fct m from rfl, ← h2]; grind
      · rw [chz_above (by omega), show n - k = 0 by omega]; simp
    rw [Nat.add_mul, Nat.add_mul, e1, e2, fct, ← Nat.add_mul]
    congr 1
    omega
theorem fp_fct : ∀ {n k : Nat}, k ≤ n → PySem.Builtin.Math.fallingProduct (n : Int) k * (fct (n - k) : Int) = (fct n : Int)
  | n, 0, _ => by rw [PySem.W.mc_fp_zero, Nat.sub_zero]; omega
  | n, k + 1, h => by
    have h1 := fp_fct (n := n) (k := k) (by omega)
    rw [PySem.W.mc_fp_succ]
    obtain ⟨m, hm⟩ : ∃ m, n - k = m + 1 := ⟨n - k - 1, by omega⟩
    rw [show n - (k + 1) = m by omega]
    rw [hm, fct] at h1
    rw [show (n : Int) - (k : Int) = ((m + 1 : Nat) : Int) by omega, Int.mul_assoc, ← Int.natCast_mul]
    exact h1
theorem fp_chz {n k : Nat} (h : k ≤ n) : PySem.Builtin.Math.fallingProduct (n : Int) k = ((chz n k * fct k : Nat) : Int) := by
  have h1 := fp_fct h
  have h2 := chz_fct h
  have hp : ((fct (n - k) : Nat) : Int) ≠ 0 := by have := fct_pos (n - k); omega
  refine Int.eq_of_mul_eq_mul_right hp ?_
  rw [h1, ← h2, Int.natCast_mul]
theorem chz_sym {n k : Nat} (h : k ≤ n) : chz n (n - k) = chz n k := by
  have h1 := chz_fct h
  have h2 := chz_fct (show n - k ≤ n by omega)
  rw [show n - (n - k) = k by omega] at h2
  have hp := Nat.mul_pos (fct_pos k) (fct_pos (n - k))
  refine Nat.eq_of_mul_eq_mul_right hp ?_
  have e1 : chz n (n - k) * (fct k * fct (n - k)) = chz n (n - k) * fct (n - k) * fct k := by grind
  rw [e1, h2, ← Nat.mul_assoc, h1]
theorem comb_chz {n k : Nat} (h : k ≤ n) : PySem.W.mcComb (n : Int) (k : Int) = (chz n k : Nat) := by
  obtain ⟨m, hm, hmn, hc⟩ : ∃ m : Nat, min (k : Int) ((n : Int) - (k : Int)) = (m : Int) ∧ m ≤ n ∧ chz n m = chz n k := by
    by_cases c : k ≤ n - k
    · exact ⟨k, by omega, h, rfl⟩
    · exact ⟨n - k, by omega, by omega, chz_sym h⟩
  rw [PySem.W.mcComb_at (by omega) (by omega) hm, Int.toNat_natCast, fp_chz hmn, fp_chz (Nat.le_refl m), hc]
  have h1 : chz m m = 1 := by
    have := chz_fct (Nat.le_refl m)
    rw [Nat.sub_self, show fct 0 = 1 from rfl, Nat.mul_one] at this
    exact Nat.eq_of_mul_eq_mul_right (fct_pos m) (by omega)
  rw [h1, Nat.one_mul, Int.natCast_mul]
  exact Int.mul_ediv_cancel _ (by have := fct_pos m; omega)
def ek (k : Nat) (x : Rat) : Rat := x ^ k / ((fct k : Nat) : Rat)
theorem fct_ne (k : Nat) : ((fct k : Nat) : Rat) ≠ 0 := by
  have := Rat.natCast_pos.mpr (fct_pos k)
  grind
theorem ek_zero (x : Rat) : ek 0 x = 1 := by
  unfold ek
  rw [Rat.pow_zero]
  have : ((fct 0 : Nat) : Rat) = 1 := rfl
  rw [this]
  decide +kernel
theorem ek_succ (k : Nat) (x : Rat) : ((k + 1 : Nat) : Rat) * ek (k + 1) x = x * ek k x := by
  unfold ek
  have h1 := fct_ne k
  have h2 : ((k + 1 : Nat) : Rat) ≠ 0 := by
    have := Rat.natCast_pos.mpr (show 0 < k + 1 by omega)
    grind
  rw [fct, Rat.natCast_mul, Rat.pow_succ]
  generalize ((fct k : Nat) : Rat) = a at *
  generalize ((k + 1 : Nat) : Rat) = b at *
  grind
theorem rs_front (k : Nat) (F : Nat → Rat) : rs (k + 1) F = F 0 + rs k fun i => F (i + 1) := by
  unfold rs
  rw [List.range_succ_eq_map, List.map_cons, List.sum_cons, List.map_map]
  rfl
theorem binom (x y : Rat) : ∀ w : Nat, rs (w + 1) (fun f => ek f x * ek (w - f) y) = ek w (x + y)
  | 0 => by
    rw [rs_succ, rs_zero, ek_zero, ek_zero, ek_zero]
    decide +kernel
  | w + 1 => by
    have ih := binom x y w
    have hne : ((w + 1 : Nat) : Rat) ≠ 0 := by
      have := Rat.natCast_pos.mpr (show 0 < w + 1 by omega)
      grind
    have key : ((w + 1 : Nat) : Rat) * rs (w + 2) (fun f => ek f x * ek (w + 1 - f) y) = ((w + 1 : Nat) : Rat) * ek (w + 1) (x + y) := by
      rw [ek_succ, ← ih, ← rs_mul]
      have e1 : rs (w + 2) (fun f => ((w + 1 : Nat) : Rat) * (ek f x * ek (w + 1 - f) y)) = rs (w + 2) (fun f => ((f : Nat) : Rat) * ek f x * ek (w + 1 - f) y) + rs (w + 2) (fun f => ek f x * (((w + 1 - f : Nat) : Rat) * ek (w + 1 - f) y)) := by
        rw [← rs_add]
        refine rs_congr fun f hf => ?_
        have : ((w + 1 : Nat) : Rat) = ((f : Nat) : Rat) + ((w + 1 - f : Nat) : Rat) := by
          rw [← Rat.natCast_add]
          congr 1
          omega
        rw [this]
        grind
      have e2 : rs (w + 2) (fun f => ((f : Nat) : Rat) * ek f x * ek (w + 1 - f) y) = x * rs (w + 1) (fun f => ek f x * ek (w - f) y) := by
        rw [rs_front, ← rs_mul]
        have z : (((0 : Nat) : Rat)) * ek 0 x * ek (w + 1 - 0) y = 0 := by
          have : ((0 : Nat) : Rat) = 0 := rfl
          rw [this]; grind
        rw [z, Rat.zero_add]
        refine rs_congr fun f hf => ?_
        rw [ek_succ, show w + 1 - (f + 1) = w - f by omega, Rat.mul_assoc]
      have e3 : rs (w + 2) (fun f => ek f x * (((w + 1 - f : Nat) : Rat) * ek (w + 1 - f) y)) = y * rs (w + 1) (fun f => ek f x * ek (w - f) y) := by
        rw [rs_succ, ← rs_mul]
        have z : ek (w + 1) x * (((w + 1 - (w + 1) : Nat) : Rat) * ek (w + 1 - (w + 1)) y) = 0 := by
          rw [Nat.sub_self]
          have : ((0 : Nat) : Rat) = 0 := rfl
          rw [this]; grind
        rw [z, Rat.add_zero]
        refine rs_congr fun f hf => ?_
        rw [show w + 1 - f = (w - f) + 1 by omega, ek_succ]
        grind
      rw [e1, e2, e3]
      grind
    generalize ((w + 1 : Nat) : Rat) = b at *
    generalize rs (w + 2) (fun f => ek f x * ek (w + 1 - f) y) = s at *
    generalize ek (w + 1) (x + y) = t at *
    show s = t
    have h2 : b * (s - t) = 0 := by grind
    rcases Rat.mul_eq_zero.mp h2 with z | z
    · exact absurd z hne
    · grind
def Em : List Rat → List Nat → Rat
  | q :: qs, c :: cs => ek c q * Em qs cs
  | _, _ => 1
def ccq (qs : List Rat) (cs : List Nat) : Rat := ((fct cs.sum : Nat) : Rat) * Em qs cs
def allc : Nat → Nat → List (List Nat)
  | 0, _ => []
  | 1, w => [[w]]
  | n + 2, w => (List.range (w + 1)).flatMap fun f => (allc (n + 1) (w - f)).map (f :: ·)
theorem sum_flatMap {α : Type} (F : α → List Rat) : ∀ l : List α, (l.flatMap F).sum = (l.map fun a => (F a).sum).sum
  | [] => rfl
  | a :: l => by rw [List.flatMap_cons, sum_append, sum_flatMap F l, List.map_cons, List.sum_cons]
theorem allc_em : ∀ (qs : List Rat) (w : Nat), qs ≠ [] → ((allc qs.length w).map (Em qs)).sum = ek w qs.sum
  | [], w, h => absurd rfl h
  | [q], w, _ => by
    show ((([[w]] : List (List Nat)).map (Em [q]))).sum = _
    simp only [List.map_cons, List.map_nil, List.sum_cons, List.sum_nil, Em, Rat.mul_one, Rat.add_zero]
  | q :: r :: qs, w, _ => by
    show (((List.range (w + 1)).flatMap fun f => (allc (qs.length + 1) (w - f)).map (f :: ·)).map (Em (q :: r :: qs))).sum = _
    rw [List.map_flatMap, sum_flatMap, List.sum_cons, ← binom]
    unfold rs
    congr 1
    refine List.map_congr_left fun f _ => ?_
    rw [List.map_map]
    have ih := allc_em (r :: qs) (w - f) (by simp)
    rw [← ih, ← sum_mulL]
    rfl
theorem allc_sum : ∀ {n w : Nat} {c : List Nat}, c ∈ allc n w → c.sum = w ∧ c.length = n
  | 0, _, _, h => by cases h
  | 1, w, c, h => by
    rw [List.mem_singleton.mp (show c ∈ [[w]] from h)]
    simp
  | n + 2, w, c, h => by
    have h' : c ∈ (List.range (w + 1)).flatMap fun f => (allc (n + 1) (w - f)).map (f :: ·) := h
    obtain ⟨f, hf, h2⟩ := List.mem_flatMap.mp h'
    obtain ⟨d, hd, rfl⟩ := List.mem_map.mp h2
    obtain ⟨e1, e2⟩ := allc_sum hd
    have := List.mem_range.mp hf
    rw [List.sum_cons, List.length_cons, e1, e2]
    omega
theorem one_pw : ∀ w : Nat, (1 : Rat) ^ w = 1
  | 0 => Rat.pow_zero 1
  | w + 1 => by rw [Rat.pow_succ, one_pw w, Rat.mul_one]
theorem allc_cc {qs : List Rat} (w : Nat) (h : qs ≠ []) (h1 : qs.sum = 1) : ((allc qs.length w).map (ccq qs)).sum = 1 := by
  have e : (allc qs.length w).map (ccq qs) = (allc qs.length w).map fun c => ((fct w : Nat) : Rat) * Em qs c := by
    refine List.map_congr_left fun c hc => ?_
    rw [ccq, (allc_sum hc).1]
  rw [e, sum_mulL, allc_em qs w h, h1, ek]
  have h0 := fct_ne w
  rw [one_pw]
  generalize ((fct w : Nat) : Rat) = a at *
  grind
def allr (n : Nat) : Nat → List (List Nat)
  | 0 => [[]]
  | L + 1 => (allr n L).flatMap fun r => (List.range n).map fun i => r ++ [i]
def rowq (qs : List Rat) (r : List Nat) : Rat := r.foldl (fun x i => x * qs.getD i 0) 1
theorem rowq_snoc (qs : List Rat) (r : List Nat) (i : Nat) : rowq qs (r ++ [i]) = rowq qs r * qs.getD i 0 := by
  unfold rowq
  rw [List.foldl_append]
  rfl
def cts (n : Nat) (r : List Nat) : List Nat := (List.range n).map fun i => r.count i
theorem rows_sum {qs : List Rat} (h1 : qs.sum = 1) : ∀ L : Nat, ((allr qs.length L).map (rowq qs)).sum = 1
  | 0 => by
    show (([[]] : List (List Nat)).map (rowq qs)).sum = 1
    simp only [List.map_cons, List.map_nil, List.sum_cons, List.sum_nil, rowq, List.foldl_nil]
    decide +kernel
  | L + 1 => by
    show (((allr qs.length L).flatMap fun r => (List.range qs.length).map fun i => r ++ [i]).map (rowq qs)).sum = 1
    rw [List.map_flatMap, sum_flatMap]
    have e : (allr qs.length L).map (fun r => (((List.range qs.length).map fun i => r ++ [i]).map (rowq qs)).sum) = (allr qs.length L).map (rowq qs) := by
      refine List.map_congr_left fun r _ => ?_
      rw [List.map_map]
      have : (rowq qs ∘ fun i => r ++ [i]) = fun i => rowq qs r * qs.getD i 0 := funext fun i => rowq_snoc qs r i
      rw [this, sum_mulL]
      have h2 := sum_rs qs
      unfold rs at h2
      rw [← h2, h1, Rat.mul_one]
    rw [e]
    exact rows_sum h1 L
def dec (c : List Nat) (i : Nat) : List Nat := c.set i (c.getD i 0 - 1)
theorem em_dec : ∀ {qs : List Rat} {c : List Nat} {i : Nat}, c.length = qs.length → i < c.length → 0 < c.getD i 0 → qs.getD i 0 * Em qs (dec c i) = ((c.getD i 0 : Nat) : Rat) * Em qs c
  | [], c, i, hl, hi, _ => by rw [List.length_nil] at hl; omega
  | q :: qs, [], i, _, hi, _ => by simp at hi
  | q :: qs, c :: cs, 0, hl, hi, h0 => by
    obtain ⟨k, hk⟩ : ∃ k, c = k + 1 := ⟨c - 1, by have : 0 < c := h0; omega⟩
    subst hk
    show q * (ek (k + 1 - 1) q * Em qs cs) = ((k + 1 : Nat) : Rat) * (ek (k + 1) q * Em qs cs)
    have := ek_succ k q
    rw [Nat.add_sub_cancel, ← Rat.mul_assoc, ← Rat.mul_assoc, this]
  | q :: qs, c :: cs, i + 1, hl, hi, h0 => by
    have ih := em_dec (qs := qs) (c := cs) (i := i) (by simpa using hl) (by simpa using hi) h0
    show qs.getD i 0 * (ek c q * Em qs (dec cs i)) = ((cs.getD i 0 : Nat) : Rat) * (ek c q * Em qs cs)
    generalize ek c q = a at *
    generalize Em qs (dec cs i) = b at *
    generalize Em qs cs = d at *
    grind
theorem em_zero : ∀ (qs : List Rat) (n : Nat), Em qs (List.replicate n 0) = 1
  | [], n => by cases n <;> rfl
  | q :: qs, 0 => rfl
  | q :: qs, n + 1 => by
    rw [List.replicate_succ, Em, ek_zero, em_zero qs n, Rat.one_mul]
theorem cts_len (n : Nat) (r : List Nat) : (cts n r).length = n := by rw [cts, List.length_map, List.length_range]
theorem cts_at {n : Nat} {r : List Nat} {i : Nat} (h : i < n) : (cts n r)[i]? = some (r.count i) := by
  rw [cts, List.getElem?_map, List.getElem?_range h]; rfl
theorem cts_snoc {n : Nat} {r c : List Nat} {i : Nat} (hi : i < n) (hc : c.length = n) : cts n (r ++ [i]) = c ↔ 0 < c.getD i 0 ∧ cts n r = dec c i := by
  have cnt : ∀ j, (r ++ [i]).count j = r.count j + if i = j then 1 else 0 := fun j => by
    rw [List.count_append, List.count_singleton]
    simp
  constructor
  · intro h
    have hci : c.getD i 0 = r.count i + 1 := by
      rw [← h, List.getD_eq_getElem?_getD, cts_at hi, cnt, if_pos rfl]; rfl
    refine ⟨by omega, ?_⟩
    unfold dec
    rw [hci, Nat.add_sub_cancel]
    apply List.ext_getElem?
    intro j
    by_cases hj : j < n
    · rw [cts_at hj, List.getElem?_set]
      by_cases e : i = j
      · subst e
        rw [if_pos rfl, if_pos (by omega)]
      · rw [if_neg e, ← h, cts_at hj, cnt, if_neg e]; rfl
    · rw [List.getElem?_eq_none (by rw [cts_len]; omega), List.getElem?_eq_none (by rw [List.length_set]; omega)]
  · rintro ⟨h0, h⟩
    apply List.ext_getElem?
    intro j
    by_cases hj : j < n
    · rw [cts_at hj, cnt]
      have h2 := congrArg (·[j]?) h
      simp only [cts_at hj] at h2
      unfold dec at h2
      rw [List.getElem?_set] at h2
      by_cases e : i = j
      · subst e
        rw [if_pos rfl, if_pos (by omega)] at h2
        rw [if_pos rfl, List.getElem?_eq_getElem (by omega)]
        rw [List.getD_eq_getElem?_getD, List.getElem?_eq_getElem (by omega)] at h0 h2
        simp only [Option.getD_some, Option.some.injEq] at h0 h2 ⊢
        omega
      · rw [if_neg e] at h2
        rw [if_neg e, Nat.add_zero, h2]
    · rw [List.getElem?_eq_none (by rw [cts_len]; omega), List.getElem?_eq_none (by omega)]
theorem dec_sum : ∀ {c : List Nat} {i : Nat}, i < c.length → 0 < c.getD i 0 → (dec c i).sum + 1 = c.sum
  | [], i, h, _ => by simp at h
  | a :: c, 0, _, h0 => by
    have : 0 < a := h0
    show ((a - 1) :: c).sum + 1 = (a :: c).sum
    rw [List.sum_cons, List.sum_cons]; omega
  | a :: c, i + 1, h, h0 => by
    have ih := dec_sum (c := c) (i := i) (by simpa using h) h0
    show (a :: dec c i).sum + 1 = (a :: c).sum
    rw [List.sum_cons, List.sum_cons]; omega
theorem cast_sum (c : List Nat) : ((c.sum : Nat) : Rat) = rs c.length fun i => ((c.getD i 0 : Nat) : Rat) := by
  induction c with
  | nil => rfl
  | cons a c ih =>
    rw [List.sum_cons, Rat.natCast_add, ih, List.length_cons, rs_front]
    rfl
theorem zero_of_sum {c : List Nat} (h : c.sum = 0) : c = List.replicate c.length 0 := by
  induction c with
  | nil => rfl
  | cons a c ih =>
    rw [List.sum_cons] at h
    rw [List.length_cons, List.replicate_succ, ← ih (by omega)]
    congr 1
    omega
theorem rows_cc {qs : List Rat} : ∀ {L : Nat} {c : List Nat}, c.length = qs.length → c.sum = L → ((allr qs.length L).map fun r => if cts qs.length r = c then rowq qs r else 0).sum = ((fct L : Nat) : Rat) * Em qs c
  | 0, c, hl, hs => by
    have hz := zero_of_sum hs
    show ((([[]] : List (List Nat)).map fun r => if cts qs.length r = c then rowq qs r else 0)).sum = _
    have e : cts qs.length [] = c := by
      rw [hz, hl, cts]
      simp [List.map_const']
    rw [List.map_cons, List.map_nil, List.sum_cons, List.sum_nil, if_pos e, hz, em_zero]
    show (1 : Rat) + 0 = ((1 : Nat) : Rat) * 1
    decide +kernel
  | L + 1, c, hl, hs => by
    show (((allr qs.length L).flatMap fun r => (List.range qs.length).map fun i => r ++ [i]).map fun r => if cts qs.length r = c then rowq qs r else 0).sum = _
    rw [List.map_flatMap, sum_flatMap]
    have e1 : (allr qs.length L).map (fun r => (((List.range qs.length).map fun i => r ++ [i]).map fun r => if cts qs.length r = c then rowq qs r else 0).sum) = (allr qs.length L).map fun r => rs qs.length fun i => if cts qs.length (r ++ [i]) = c then rowq qs r * qs.getD i 0 else 0 := by
      refine List.map_congr_left fun r _ => ?_
      rw [List.map_map]
      unfold rs
      congr 1
      refine List.map_congr_left fun i _ => ?_
      simp only [Function.comp, rowq_snoc]
    rw [e1]
    unfold rs
    rw [sum_swap (fun i r => if cts qs.length (r ++ [i]) = c then rowq qs r * qs.getD i 0 else 0)]
    have e2 : ((List.range qs.length).map fun i => ((allr qs.length L).map fun r => if cts qs.length (r ++ [i]) = c then rowq qs r * qs.getD i 0 else 0).sum).sum = rs qs.length fun i => ((fct L : Nat) : Rat) * Em qs c * ((c.getD i 0 : Nat) : Rat) := by
      show (rs qs.length fun i => _) = _
      refine rs_congr fun i hi => ?_
      by_cases h0 : 0 < c.getD i 0
      · have ih := rows_cc (L := L) (c := dec c i) (by unfold dec; rw [List.length_set]; exact hl) (by have := dec_sum (c := c) (i := i) (by omega) h0; omega)
        have e3 : ((allr qs.length L).map fun r => if cts qs.length (r ++ [i]) = c then rowq qs r * qs.getD i 0 else 0) = (allr qs.length L).map fun r => qs.getD i 0 * (if cts qs.length r = dec c i then rowq qs r else 0) := by
          refine List.map_congr_left fun r _ => ?_
          by_cases h2 : cts qs.length r = dec c i
          · rw [if_pos ((cts_snoc hi hl).mpr ⟨h0, h2⟩), if_pos h2, Rat.mul_comm]
          · rw [if_neg fun z => h2 ((cts_snoc hi hl).mp z).2, if_neg h2, Rat.mul_zero]
        rw [e3, sum_mulL, ih]
        have h4 := em_dec (qs := qs) hl (by omega) h0
        generalize Em qs (dec c i) = a at *
        generalize Em qs c = b at *
        generalize ((fct L : Nat) : Rat) = d at *
        grind
      · have e3 : ((allr qs.length L).map fun r => if cts qs.length (r ++ [i]) = c then rowq qs r * qs.getD i 0 else 0) = (allr qs.length L).map fun _ => 0 := by
          refine List.map_congr_left fun r _ => ?_
          rw [if_neg fun z => h0 ((cts_snoc hi hl).mp z).1]
        rw [e3, sum_zero, show c.getD i 0 = 0 by omega]
        have : ((0 : Nat) : Rat) = 0 := rfl
        rw [this, Rat.mul_zero]
    rw [e2, rs_mul, ← hl, ← cast_sum, hs, fct, Rat.natCast_mul]
    grind
def fcs : List Nat → Nat
  | [] => 1
  | c :: cs => fct c * fcs cs
def pws : List Rat → List Nat → Rat
  | q :: qs, c :: cs => q ^ c * pws qs cs
  | _, _ => 1
theorem fcs_pos : ∀ cs, 0 < fcs cs
  | [] => by decide
  | c :: cs => Nat.mul_pos (fct_pos c) (fcs_pos cs)
theorem em_pws : ∀ {qs : List Rat} {cs : List Nat}, qs.length = cs.length → Em qs cs * ((fcs cs : Nat) : Rat) = pws qs cs
  | [], [], _ => by show (1 : Rat) * ((1 : Nat) : Rat) = 1; decide +kernel
  | q :: qs, [], h => by simp at h
  | [], c :: cs, h => by simp at h
  | q :: qs, c :: cs, h => by
    have ih := em_pws (qs := qs) (cs := cs) (by simpa using h)
    have h0 := fct_ne c
    rw [Em, fcs, pws, ← ih, ek, Rat.natCast_mul]
    generalize ((fct c : Nat) : Rat) = a at *
    generalize ((fcs cs : Nat) : Rat) = b at *
    generalize q ^ c = p at *
    grind
theorem em_snoc : ∀ {qs : List Rat} {cs : List Nat} (q : Rat) (c : Nat), qs.length = cs.length → Em (qs ++ [q]) (cs ++ [c]) = Em qs cs * ek c q
  | [], [], q, c, _ => by
    show ek c q * 1 = 1 * ek c q
    grind
  | x :: qs, [], q, c, h => by simp at h
  | [], y :: cs, q, c, h => by simp at h
  | x :: qs, y :: cs, q, c, h => by
    have ih := em_snoc (qs := qs) (cs := cs) q c (by simpa using h)
    show ek y x * Em (qs ++ [q]) (cs ++ [c]) = ek y x * Em qs cs * ek c q
    rw [ih, Rat.mul_assoc]
theorem ccq_snoc {qs : List Rat} {cs : List Nat} (q : Rat) (c : Nat) (h : qs.length = cs.length) : ccq (qs ++ [q]) (cs ++ [c]) = ccq qs cs * ((chz (cs.sum + c) c : Nat) : Rat) * q ^ c := by
  have h1 := chz_fct (n := cs.sum + c) (k := c) (by omega)
  rw [Nat.add_sub_cancel] at h1
  have h2 := fct_ne c
  rw [ccq, ccq, em_snoc q c h, List.sum_append, List.sum_singleton, ← h1, Rat.natCast_mul, Rat.natCast_mul, ek]
  generalize ((fct c : Nat) : Rat) = a at *
  generalize ((fct cs.sum : Nat) : Rat) = b at *
  generalize ((chz (cs.sum + c) c : Nat) : Rat) = d at *
  generalize q ^ c = p at *
  generalize Em qs cs = e at *
  grind
def cw : List Nat → Nat
  | [] => 1
  | c :: cs => chz (c + cs.sum) c * cw cs
theorem cw_fcs : ∀ cs, cw cs * fcs cs = fct cs.sum
  | [] => rfl
  | c :: cs => by
    have ih := cw_fcs cs
    have h1 := chz_fct (n := c + cs.sum) (k := c) (by omega)
    rw [Nat.add_sub_cancel_left] at h1
    rw [cw, fcs, List.sum_cons, ← h1, ← ih]
    generalize chz (c + cs.sum) c = x
    generalize fct c = y
    generalize cw cs = z
    generalize fcs cs = t
    grind
theorem ways_eq (cs : List Nat) : fct cs.sum / fcs cs = cw cs := by
  rw [← cw_fcs, Nat.mul_div_cancel _ (fcs_pos cs)]
theorem ccq_cw {qs : List Rat} {cs : List Nat} (h : qs.length = cs.length) : ccq qs cs = ((cw cs : Nat) : Rat) * pws qs cs := by
  rw [ccq, ← em_pws h, ← cw_fcs, Rat.natCast_mul]
  generalize ((cw cs : Nat) : Rat) = x
  generalize ((fcs cs : Nat) : Rat) = y
  generalize Em qs cs = z
  grind
theorem parted (q0 q1 : Rat) (qs : List Rat) (m : Nat) (rest : List Nat) :
    rs (m + 1) (fun f => ccq (q0 :: q1 :: qs) (f :: (m - f) :: rest)) = ccq ((q0 + q1) :: qs) (m :: rest) := by
  have e : rs (m + 1) (fun f => ccq (q0 :: q1 :: qs) (f :: (m - f) :: rest)) = rs (m + 1) fun f => (((fct (m + rest.sum) : Nat) : Rat) * Em qs rest) * (ek f q0 * ek (m - f) q1) := by
    refine rs_congr fun f hf => ?_
    rw [ccq, List.sum_cons, List.sum_cons, show f + (m - f + rest.sum) = m + rest.sum by omega, Em, Em]
    grind
  rw [e, rs_mul, binom, ccq, List.sum_cons, Em]
  grind
def stp : Nat → Nat → Nat
  | x, 0 => 0
  | x, y + 1 => 1 + stp (y + 1) (x % (y + 1))
termination_by _ y => y
decreasing_by exact Nat.mod_lt _ (by omega)
theorem stp_zero (x : Nat) : stp x 0 = 0 := by rw [stp]
theorem stp_pos {x y : Nat} (h : 0 < y) : stp x y = 1 + stp y (x % y) := by
  obtain ⟨k, rfl⟩ : ∃ k, y = k + 1 := ⟨y - 1, by omega⟩
  rw [stp]
def fib : Nat → Nat
  | 0 => 1
  | 1 => 1
  | n + 2 => fib n + fib (n + 1)
theorem fib_mono : ∀ n, fib n ≤ fib (n + 1)
  | 0 => by decide
  | n + 1 => by show fib (n + 1) ≤ fib n + fib (n + 1); omega
theorem fib_two : ∀ n, fib (n + 1) ≤ 2 * fib n
  | 0 => by decide
  | n + 1 => by show fib n + fib (n + 1) ≤ 2 * fib (n + 1); have := fib_mono n; omega
theorem fib_three (n : Nat) : 4 * fib (n + 1) ≤ fib (n + 4) := by
  have a : fib (n + 4) = fib (n + 2) + fib (n + 3) := rfl
  have b : fib (n + 3) = fib (n + 1) + fib (n + 2) := rfl
  have c : fib (n + 2) = fib n + fib (n + 1) := rfl
  have d := fib_two n
  omega
theorem fib_pow : ∀ j, 2 ^ (2 * j) ≤ fib (3 * j + 1)
  | 0 => by decide
  | j + 1 => by
    have ih := fib_pow j
    have h := fib_three (3 * j)
    rw [show 3 * (j + 1) + 1 = 3 * j + 4 by omega, show 2 * (j + 1) = 2 * j + 2 by omega, Nat.pow_add]
    omega
theorem fib_le {m n : Nat} (h : m ≤ n) : fib m ≤ fib n := by
  induction n with
  | zero => rw [Nat.le_zero.mp h]; exact Nat.le_refl _
  | succ n ih =>
    rcases Nat.lt_or_ge n m with z | z
    · rw [show m = n + 1 by omega]; exact Nat.le_refl _
    · exact Nat.le_trans (ih z) (fib_mono n)
theorem stp_fib : ∀ (k x y : Nat), stp x y = k + 1 → fib (k + 1) ≤ y ∧ (y < x → fib (k + 2) ≤ x)
  | 0, x, y, h => by
    have hy : 0 < y := by
      rcases Nat.eq_zero_or_pos y with z | z
      · subst z; rw [stp_zero] at h; omega
      · exact z
    exact ⟨hy, fun hx => by show 2 ≤ x; omega⟩
  | k + 1, x, y, h => by
    have hy : 0 < y := by
      rcases Nat.eq_zero_or_pos y with z | z
      · subst z; rw [stp_zero] at h; omega
      · exact z
    rw [stp_pos hy] at h
    obtain ⟨a, b⟩ := stp_fib k y (x % y) (by omega)
    have hm := Nat.mod_lt x hy
    have b' := b hm
    refine ⟨b', fun hx => ?_⟩
    have h1 : x % y + y ≤ x := by
      have h2 := Nat.div_add_mod x y
      have h3 : 1 ≤ x / y := (Nat.one_le_div_iff hy).mpr (by omega)
      have h4 := Nat.mul_le_mul_left y h3
      omega
    show fib (k + 1) + fib (k + 2) ≤ x
    omega
theorem stp_mul {g : Nat} (hg : 0 < g) : ∀ (k x y : Nat), stp x y = k → stp (g * x) (g * y) = k
  | 0, x, y, h => by
    rcases Nat.eq_zero_or_pos y with z | z
    · subst z; rw [Nat.mul_zero, stp_zero]
    · rw [stp_pos z] at h; omega
  | k + 1, x, y, h => by
    rcases Nat.eq_zero_or_pos y with z | z
    · subst z; rw [stp_zero] at h; omega
    · rw [stp_pos z] at h
      rw [stp_pos (Nat.mul_pos hg z), Nat.mul_mod_mul_left, stp_mul hg k y (x % y) (by omega), Nat.add_comm]
theorem stp_few {x y : Nat} (h : y < 2 ^ 2660) : stp x y ≤ 4000 := by
  refine Classical.byContradiction fun hn => ?_
  obtain ⟨k, hk⟩ : ∃ k, stp x y = k + 1 := ⟨stp x y - 1, by omega⟩
  have h1 := (stp_fib k x y hk).1
  have h2 : fib 4000 ≤ fib (k + 1) := fib_le (by omega)
  have h3 : 2 ^ (2 * 1333) ≤ fib (3 * 1333 + 1) := fib_pow 1333
  have h4 : (2 : Nat) ^ 2660 ≤ 2 ^ (2 * 1333) := Nat.pow_le_pow_right (by decide) (by decide)
  have h5 : fib (3 * 1333 + 1) = fib 4000 := rfl
  rw [h5] at h3
  omega
end MR
end
namespace Fx
open PySem PySem.Spec PyProof.Rows L2
section
variable {K : PySem.W.Frag}
end
end Fx
namespace Fx
open PySem PySem.Spec PyProof.Rows L2
end Fx
namespace Fx
open PySem PySem.Spec PyProof.Rows L2
section
variable {K : PySem.W.Frag}
end
end Fx
namespace Fx
open PySem PySem.Spec PyProof.Rows L2
section
variable {K : PySem.W.Frag}
end
end Fx
namespace Fx
open PySem PySem.Spec PyProof.Rows L2
section
variable {K : PySem.W.Frag} {d : Wd} {H : Hp}
end
end Fx
namespace Fx
open PySem PySem.Spec PyProof.Rows L2
section
variable {K : PySem.W.Frag}
end
end Fx
namespace Fx
open PySem PySem.Spec PyProof.Rows L2 RZ
section
variable {P : Program} {w : World} {A : Around} {E : Value → Shared → Prop} {s : Shared}
end
section
variable {K : PySem.W.Frag} {d : Wd} {H : Hp} {a b : Addr} {xs ys : List PV} {vs us : List V}
def mZipM (m : MA) : MI := fun ρ μ P => m ρ μ fun zs μ1 => match zs with | [.lst xs, .tup ys] => P (zipP xs ys) μ1 | _ => False
end
end Fx
namespace Fx
open PySem PySem.Spec PyProof.Rows L2
end Fx
namespace Fx
open PySem PySem.Spec PyProof.Rows L2 RZ
section
variable {K : PySem.W.Frag} {d d' : Wd} {H H' : Hp} {μ : Store}
theorem WOk.barDc {D : Addr} (w : WOk K d H μ) (h : H D = none) : WOk K ⟨d.am, D :: d.ban⟩ (upd H D (.dK [])) μ := by
  have w1 := (w.barD h).made (D := D) (o := .dK []) List.mem_cons_self (no_tup upd_same)
  have e : upd (upd H D (.lst [])) D (.dK []) = upd H D (.dK []) := by
    funext c
    by_cases q : c = D
    · rw [q, upd_same, upd_same]
    · rw [upd_ne q, upd_ne q, upd_ne q]
  rw [e] at w1
  exact w1
def mDcL (g : MG) (c : MT) (ek ev : ME) (ρ0 : PEnv) (P : List (Key × PV) → Store → Prop) : List PV → List (Key × PV) → Store → Prop
  | [], kvs, μ => P kvs μ
  | x :: xs, kvs, μ => g x ρ0 μ fun ρ1 μ1 => c ρ1 μ1 fun b μ2 => if b = true then ek ρ1 μ2 fun y μ3 => ev ρ1 μ3 fun z μ4 => (match keyP y with | some k => mDcL g c ek ev ρ0 P xs (putP kvs k z) μ4 | none => False) else mDcL g c ek ev ρ0 P xs kvs μ2
theorem putP_len (kvs : List (Key × PV)) (k : Key) (v : PV) : (putP kvs k v).length ≤ kvs.length + 1 := by
  unfold putP
  split
  · rw [List.length_map]; omega
  · rw [List.length_append]; simp
theorem dc_run {wi mi g mg s tt mt tk mk tv mv} {vs : List Nat} [hi : FI K wi mi] [hg : FG K g mg s] [hc : FT K tt mt] [hk : FE K tk mk] [hv : FE K tv mv] {σ : L2.St} {ρ : PEnv} {P : List (Key × PV) → Store → Prop} {Q : VK} (w : WOk K d H μ) (e : REnv K d H ρ σ) (hs : ∀ i ∈ s, i ∈ vs)
    (q : mi ρ μ fun xs μ1 => xs.length ≤ lim ∧ mDcL mg mt mk mv (wipeP ρ vs) P xs [] μ1)
    (fin : ∀ (d1 : Wd) (H1 : Hp) (D : Addr) (dB : Wd) (H' : Hp) (μ' : Store) (kvs : List (Key × PV)) (ws : List (Key × V)), Ext d H d1 H1 → H1 D = none → D ∉ d1.ban → Ext ⟨d1.am, D :: d1.ban⟩ H1 dB H' → WOk K dB H' μ' → H' D = some (.dK ws) → RKs K dB H' kvs ws → P kvs μ' → Q (.ref D) H') :
    tDc wi g tt tk tv vs σ H Q := by
  refine hi.run d σ H ρ μ _ _ w e q fun d1 H1 μ1 J xs e1 w1 it ⟨hz, q1⟩ => ?_
  intro D hD
  have bD : Bars d1 ⟨d1.am, D :: d1.ban⟩ H1 := ⟨rfl, fun x q => (List.mem_cons.mp q).elim (fun z => .inr (by rw [z]; exact hD)) .inl⟩
  have envB : REnv K ⟨d1.am, D :: d1.ban⟩ H1 (wipeP ρ vs) (wipe σ vs) := ((e.mono e1).bars bD).wipe vs
  have lay0 : Ext ⟨d1.am, D :: d1.ban⟩ H1 ⟨d1.am, D :: d1.ban⟩ (upd H1 D (.dK [])) := ⟨⟨[], by simp, fun p hp => by simp at hp⟩, rfl, fun b u e _ => by rw [upd_ne (ne_of_none e hD)]; exact e⟩
  refine ⟨fun i m H' => ∃ dB μ' kvs ws, Ext ⟨d1.am, D :: d1.ban⟩ H1 dB H' ∧ WOk K dB H' μ' ∧ H' D = some (.dK ws) ∧ RKs K dB H' kvs ws ∧ i + m = xs.length ∧ kvs.length ≤ i ∧ mDcL mg mt mk mv (wipeP ρ vs) P (xs.drop i) kvs μ',
    ⟨xs.length, _, μ1, [], [], lay0, w1.barDc hD, upd_same, RKs.nil, by omega, Nat.le_refl _, by simpa using q1⟩, fun i m H' hW => ?_⟩
  obtain ⟨dB, μ', kvs, ws, eB, wB, hDv, rA, em, hal, q2⟩ := hW
  have hDban : D ∈ dB.ban := by rw [eB.ban]; exact List.mem_cons_self
  obtain ⟨itg, its⟩ := it _ dB H' μ' bD eB wB
  cases hx : xs[i]? with
  | none =>
    have hle : xs.length ≤ i := List.getElem?_eq_none_iff.mp hx
    rw [List.drop_of_length_le hle] at q2
    exact .inl ⟨its i hle, fin d1 H1 D dB H' μ' kvs ws e1 hD (w1.notban hD) eB wB hDv rA q2⟩
  | some x =>
    have hlt : i < xs.length := (List.getElem?_eq_some_iff.mp hx).1
    rw [drop_cons hx] at q2
    obtain ⟨go, yl⟩ := itg i x hx
    refine .inr ⟨go, fun H3 => ∃ dB μ' kvs ws, Ext ⟨d1.am, D :: d1.ban⟩ H1 dB H3 ∧ WOk K dB H3 μ' ∧ H3 D = some (.dK ws) ∧ RKs K dB H3 kvs ws ∧ kvs.length ≤ i + 1 ∧ mDcL mg mt mk mv (wipeP ρ vs) P (xs.drop (i + 1)) kvs μ', fun H3 hN => ?_, fun v H3 hy => ?_⟩
    · obtain ⟨a1, a2, a3, a4, a5, a6, a7, a8, a9, a10⟩ := hN
      exact ⟨m - 1, by omega, a1, a2, a3, a4, a5, a6, a7, a8, by omega, a9, a10⟩
    · obtain ⟨ey, wy, ry⟩ := yl v H3 hy
      refine hg.run dB (wipe σ vs) H3 (wipeP ρ vs) μ' x v _ _ wy (envB.mono (eB.trans ey)) ry q2 fun d4 σ4 H4 ρ4 μ4 e4 w4 ee4 hl4 hs4 q4 => ⟨wipe_same hl4 hs4 hs, ?_⟩
      refine hc.run d4 σ4 H4 ρ4 μ4 _ _ w4 ee4 q4 fun d5 H5 μ5 b e5 w5 q5 => ?_
      have nD : D ∉ dB.am := (wB.ban D hDban).2
      have E5 : Ext dB H' d5 H5 := (ey.trans e4).trans e5
      have rk5 : RKs K d5 H5 kvs ws := rA.mono E5
      cases b
      · exact ⟨d5, μ5, kvs, ws, eB.trans E5, w5, E5.keep _ _ hDv nD, rk5, by omega, q5⟩
      · refine hk.run d5 σ4 H5 ρ4 μ5 _ _ w5 (ee4.mono e5) q5 fun d6 H6 μ6 y u e6 w6 r6 q6 => ?_
        refine hv.run d6 σ4 H6 ρ4 μ6 _ _ w6 ((ee4.mono e5).mono e6) q6 fun d7 H7 μ7 z u2 e7 w7 r7 q7 => ?_
        have E7 : Ext dB H' d7 H7 := (E5.trans e6).trans e7
        have hD7 : H7 D = some (.dK ws) := E7.keep _ _ hDv nD
        have ban7 : D ∈ d7.ban := by rw [E7.ban]; exact hDban
        cases ek : keyP y with
        | none => rw [ek] at q7; exact q7.elim
        | some k =>
          rw [ek] at q7
          have rk7 : RKs K d7 H7 (putP kvs k z) (putK ws k u2) := RKs.put r7 (rA.mono E7)
          have rk8 : RKs K d7 (upd H7 D (.dK (putK ws k u2))) (putP kvs k z) (putK ws k u2) := ⟨rk7.1, rk7.2.made ban7 (no_tupK hD7)⟩
          have hlen : ws.length = kvs.length := by have := congrArg List.length rA.1; simpa using this
          have hpl := putP_len kvs k z
          refine ⟨ws, k, keyP_rv r6 ek, hD7, by rw [hlen]; exact lim_lt' (by omega), d7, μ7, putP kvs k z, putK ws k u2, ?_, w7.made ban7 (no_tupK hD7), upd_same, rk8, by omega, q7⟩
          have E8 := eB.trans E7
          exact ⟨E8.am, E8.ban, fun b o hb hn => by rw [upd_ne (ne_of_none hb hD)]; exact E8.keep b o hb hn⟩
theorem dc_store {d1 dB : Wd} {H1 : Hp} {D : Addr} {kvs : List (Key × PV)} {ws : List (Key × V)} (e1 : Ext d H d1 H1) (hD : H1 D = none) (hDn : D ∉ d1.ban) (eB : Ext ⟨d1.am, D :: d1.ban⟩ H1 dB H') (w : WOk K dB H' μ) (hv : H' D = some (.dK ws)) (r : RKs K dB H' kvs ws) :
    Ext d H ⟨dB.am ++ [D], d1.ban⟩ H' ∧ WOk K ⟨dB.am ++ [D], d1.ban⟩ H' (μ ++ [.dk kvs]) ∧ RV K ⟨dB.am ++ [D], d1.ban⟩ H' (.mr μ.length) (.ref D) := by
  have hs : ∀ b ∈ d1.ban, b ∈ dB.ban := fun b hb => by rw [eB.ban]; exact List.mem_cons_of_mem _ hb
  have hb : D ∈ dB.ban := by rw [eB.ban]; exact List.mem_cons_self
  have hn := (w.ban D hb).2
  have hm : MOK K ⟨dB.am ++ [D], d1.ban⟩ H' D (.dk kvs) := ⟨ws, hv, r.1, r.2.pushed hb (no_tupK hv) hs⟩
  refine ⟨e1.trans ⟨?_, rfl, eB.keep⟩, w.pushed hb (no_tupK hv) hs hDn hm, .mr ?_⟩
  · obtain ⟨ex, q, f⟩ := eB.am
    refine ⟨ex ++ [D], by rw [q, List.append_assoc], fun p hp => ?_⟩
    rcases List.mem_append.mp hp with z | z
    · exact f p z
    · have e := List.mem_singleton.mp z
      subst e
      refine ⟨hD, fun z => hn ?_⟩
      rw [q]; exact List.mem_append_left _ z
  · show (dB.am ++ [D])[μ.length]? = some D
    rw [← w.len, List.getElem?_append_right (Nat.le_refl _)]
    simp
def mDc (mi : MI) (g : MG) (c : MT) (ek ev : ME) (s vs : List Nat) : ME := fun ρ μ P => (∀ i ∈ s, i ∈ vs) ∧ mi ρ μ fun xs μ1 => xs.length ≤ lim ∧ mDcL g c ek ev (wipeP ρ vs) (fun kvs μ2 => P (.mr μ2.length) (μ2 ++ [.dk kvs])) xs [] μ1
instance {wi mi g mg s tt mt tk mk tv mv vs} [hi : FI K wi mi] [hg : FG K g mg s] [hc : FT K tt mt] [hk : FE K tk mk] [hv : FE K tv mv] : FE K (tDc wi g tt tk tv vs) (mDc mi mg mt mk mv s vs) := ⟨fun d σ H ρ μ P Q w e q k => by
  refine dc_run w e q.1 q.2 fun d1 H1 D dB H' μ' kvs ws e1 hD hDn eB w' hv r p => ?_
  obtain ⟨x1, x2, x3⟩ := dc_store e1 hD hDn eB w' hv r
  exact k _ H' _ _ _ x1 x2 x3 p⟩
end
section
variable {K : PySem.W.Frag}
def mLenSetL (m : ME) : ME := fun ρ μ P => m ρ μ fun x μ1 => match x with | .lst ys => (match intsP ys with | some ns => ns.length ≤ 4000 ∧ ∀ ms : List Int, ms.Nodup → (∀ k : Int, k ∈ ms ↔ k ∈ ns) → P (.int (ms.length : Nat)) μ1 | none => False) | _ => False
end
end Fx
namespace Fx
open PySem PySem.Spec PyProof.Rows L2 RZ
end Fx
namespace Fx
open PySem PySem.Spec PyProof.Rows L2 RZ
end Fx
namespace Fx
open PySem PySem.Spec PyProof.Rows L2 RZ
section
variable {K : PySem.W.Frag} {d : Wd} {H : Hp} {μ : Store}
end
end Fx
namespace Fx
open PySem PySem.Spec PyProof.Rows L2 RZ
section
variable {K : PySem.W.Frag} {d d' : Wd} {H H' : Hp} {a b : Addr} {vs us : List V} {xs ys : List PV} {μ : Store}
end
end Fx
namespace Fx
open PySem PySem.Spec PyProof.Rows L2 RZ
end Fx
namespace Fx
open PySem PySem.Spec PyProof.Rows L2 RZ
def valNT (kvs : List (KN × PV)) (k : KN) : Option PV := (kvs.find? fun kv => decide (kv.1 = k)).map (·.2)
def putNT (kvs : List (KN × PV)) (k : KN) (v : PV) : List (KN × PV) :=
  if (valNT kvs k).isSome then kvs.map (fun kv => if kv.1 = k then (kv.1, v) else kv) else kvs ++ [(k, v)]
def RNs (K : PySem.W.Frag) (d : Wd) (H : Hp) (kvs : List (KN × PV)) (ks : List (KN × Addr × V)) : Prop :=
  ks.map (·.1) = kvs.map (·.1) ∧ RVs K d H (kvs.map fun kv => nkK kv.1) (ks.map fun p => .ref p.2.1) ∧ RVs K d H (kvs.map (·.2)) (ks.map (·.2.2))
section
variable {K : PySem.W.Frag} {d d' : Wd} {H H' : Hp} {a b : Addr} {vs us : List V} {xs ys : List PV} {μ : Store}
theorem RNs.nil : RNs K d H [] [] := ⟨rfl, .nil, .nil⟩
theorem RNs.cases {kvs : List (KN × PV)} {ks : List (KN × Addr × V)} (r : RNs K d H kvs ks) : (kvs = [] ∧ ks = []) ∨ ∃ k b x v kvs' ks', kvs = (k, x) :: kvs' ∧ ks = (k, b, v) :: ks' ∧ RV K d H (nkK k) (.ref b) ∧ RV K d H x v ∧ RNs K d H kvs' ks' := by
  obtain ⟨h1, h2, h3⟩ := r
  cases kvs with
  | nil => simp at h1; exact .inl ⟨rfl, h1⟩
  | cons p kvs =>
    cases ks with
    | nil => simp at h1
    | cons q ks =>
      obtain ⟨k, x⟩ := p
      obtain ⟨k', b, v⟩ := q
      simp only [List.map_cons, List.cons.injEq] at h1
      obtain ⟨e, h1⟩ := h1
      subst e
      cases h2 with
      | cons r t =>
        cases h3 with
        | cons r3 t3 => exact .inr ⟨_, _, _, _, _, _, rfl, rfl, r, r3, h1, t, t3⟩
theorem RNs.cons {k : KN} {b : Addr} {x : PV} {v : V} {kvs : List (KN × PV)} {ks : List (KN × Addr × V)} (rk : RV K d H (nkK k) (.ref b)) (r : RV K d H x v) (t : RNs K d H kvs ks) : RNs K d H ((k, x) :: kvs) ((k, b, v) :: ks) :=
  ⟨by simp only [List.map_cons, t.1], .cons rk t.2.1, .cons r t.2.2⟩
theorem RNs.mono (e : Ext d H d' H') {kvs : List (KN × PV)} {ks : List (KN × Addr × V)} (r : RNs K d H kvs ks) : RNs K d' H' kvs ks := ⟨r.1, r.2.1.mono e, r.2.2.mono e⟩
theorem RNs.len {kvs : List (KN × PV)} {ks : List (KN × Addr × V)} (r : RNs K d H kvs ks) : kvs.length = ks.length := by
  have := congrArg List.length r.1
  simpa using this.symm
theorem RNs.append {kvs kvs' : List (KN × PV)} {ks ks' : List (KN × Addr × V)} (r : RNs K d H kvs ks) (t : RNs K d H kvs' ks') : RNs K d H (kvs ++ kvs') (ks ++ ks') := by
  refine ⟨by rw [List.map_append, List.map_append, r.1, t.1], ?_, ?_⟩
  · rw [List.map_append, List.map_append]
    exact r.2.1.append t.2.1
  · rw [List.map_append, List.map_append]
    exact r.2.2.append t.2.2
theorem nkK_sq {k : KN} (r : RV K d H (nkK k) (.ref b)) : SqN K H b k := by
  cases r with
  | tup h1 h2 =>
    cases h2 with
    | cons q1 t =>
      cases t with
      | cons q2 t2 =>
        cases t2
        cases q2
        cases q1 with
        | @tup _ c us h3 h4 =>
          have := RVs.ints h4
          subst this
          exact ⟨c, h1.sq, h3.sq⟩
theorem RNs.sq : ∀ {kvs : List (KN × PV)} {ks : List (KN × Addr × V)}, RNs K d H kvs ks → ∀ p ∈ ks, SqN K H p.2.1 p.1
  | [], ks, r, p, hp => by
    rcases r.cases with ⟨_, e⟩ | ⟨_, _, _, _, _, _, e, _⟩
    · subst e; simp at hp
    · cases e
  | q :: kvs, ks, r, p, hp => by
    rcases r.cases with ⟨e, _⟩ | ⟨k, b, x, v, kvs', ks', e1, e2, r1, r2, t⟩
    · cases e
    · cases e1; subst e2
      rcases List.mem_cons.mp hp with rfl | hp
      · exact nkK_sq r1
      · exact RNs.sq t p hp
theorem RNs.val {k : KN} : ∀ {kvs : List (KN × PV)} {ks : List (KN × Addr × V)}, RNs K d H kvs ks → (valNT kvs k = none ∧ valN ks k = none) ∨ ∃ x v, valNT kvs k = some x ∧ valN ks k = some v ∧ RV K d H x v
  | [], ks, r => by
    rcases r.cases with ⟨_, e⟩ | ⟨_, _, _, _, _, _, e, _⟩
    · subst e; exact .inl ⟨rfl, rfl⟩
    · cases e
  | p :: kvs, ks, r => by
    rcases r.cases with ⟨e, _⟩ | ⟨k', b, x, v, kvs', ks', e1, e2, r1, r2, t⟩
    · cases e
    · cases e1; subst e2
      by_cases h : k' = k
      · subst h
        exact .inr ⟨x, v, by simp [valNT], by simp [valN], r2⟩
      · have := RNs.val (k := k) t
        have a1 : valNT ((k', x) :: kvs) k = valNT kvs k := by simp [valNT, List.find?_cons, h]
        have a2 : valN ((k', b, v) :: ks') k = valN ks' k := by simp [valN, List.find?_cons, h]
        rw [a1, a2]; exact this
theorem RNs.upd1 {k : KN} {x : PV} {v : V} (rx : RV K d H x v) : ∀ {kvs : List (KN × PV)} {ks : List (KN × Addr × V)}, RNs K d H kvs ks → RNs K d H (kvs.map (fun kv => if kv.1 = k then (kv.1, x) else kv)) (ks.map fun p => if p.1 = k then (p.1, p.2.1, v) else p)
  | [], ks, r => by
    rcases r.cases with ⟨_, e⟩ | ⟨_, _, _, _, _, _, e, _⟩
    · subst e; exact .nil
    · cases e
  | p :: kvs, ks, r => by
    rcases r.cases with ⟨e, _⟩ | ⟨k', b, x', v', kvs', ks', e1, e2, r1, r2, t⟩
    · cases e
    · cases e1; subst e2
      rw [List.map_cons, List.map_cons]
      by_cases h : k' = k
      · simp only [h, if_true]
        exact .cons (h ▸ r1) rx (RNs.upd1 rx t)
      · simp only [h, if_false]
        exact .cons r1 r2 (RNs.upd1 rx t)
theorem RNs.put {k : KN} {x : PV} {v : V} (rk : RV K d H (nkK k) (.ref b)) (rx : RV K d H x v) {kvs : List (KN × PV)} {ks : List (KN × Addr × V)} (r : RNs K d H kvs ks) : RNs K d H (putNT kvs k x) (putN ks k b v) := by
  unfold putNT putN
  have e : (valNT kvs k).isSome = (valN ks k).isSome := by
    rcases r.val (k := k) with ⟨z, z'⟩ | ⟨x, v, z1, z2, _⟩
    · rw [z, z']; rfl
    · rw [z1, z2]; rfl
  rw [e]
  split
  · exact r.upd1 rx
  · exact r.append (.cons rk rx .nil)
end
section
variable {K : PySem.W.Frag} {d d' : Wd} {H H' : Hp} {a b : Addr} {vs us : List V} {xs ys : List PV} {μ : Store}
end
end Fx
namespace Fx
open PySem PySem.Spec PyProof.Rows L2 RZ
section
variable {K : PySem.W.Frag} {d : Wd} {H : Hp} {μ : Store}
end
end Fx
namespace Fx
open PySem PySem.Spec PyProof.Rows L2 RZ
abbrev hW1 (h : Heap) (l : Addr) : Heap := h.push { data := .fields #[.ref l, .int 0 0], cls := .type "tuple_iterator" }
section
variable {P : Program} {w : World} {A : Around} {E : Value → Shared → Prop} {s : Shared}
end
section
variable {K : PySem.W.Frag} {d : Wd} {H : Hp} {a b : Addr} {xs ys : List PV} {vs us : List V}
end
end Fx
section
set_option exponentiation.threshold 20000
namespace Fx
open PySem PySem.Spec PyProof.Rows L2 RZ
mutual
def shwB : PyData → Bool
  | .none | .bool _ | .str _ => true
  | .int i => decide (i.natAbs < 2 ^ 12900)
  | .list xs | .tuple xs => shwBs xs
  | .dict _ => false
def shwBs : List PyData → Bool
  | [] => true
  | x :: xs => shwB x && shwBs xs
end
theorem big10 {a : Int} (h : a.natAbs < 2 ^ 12900) : a.natAbs < 10 ^ 4300 := Nat.lt_of_lt_of_le h pow_lo
section
variable {prog : Program} {w : World} {h₀ : Heap}
theorem reprObj_big {A : Around} {E : Value → Shared → Prop} {s : Shared} {a : Int} {t : Tok} {Q : Value → Shared → Prop} (hn : s.heap.NoDigits) (ha : a.natAbs < 2 ^ 12900) (h : Q (.str (toString a) s.toks) { s with toks := s.toks + 1 }) : wpAny (model prog w) A (pyReprObj (.int a t)) Q E s := by
  have hx := int_text_fits10 (big10 ha)
  unfold pyReprObj
  simp only [cRoomFor, show ([Value.int a t].any Value.onHeap) = false from rfl, Bool.false_eq_true, if_false, pure_bind]
  refine wpAny_bind (wpAny_specialOf (name := Str.ofString "__repr__") (typeIs_int s a t) F.slot_int_repr.lookup ?_)
  refine wpAny_bind (m := callSpecialIfBound? (.int a t) (Str.ofString "__repr__")) (wpAny_callSpecialIfBound?_slot (name := Str.ofString "__repr__") (typeIs_int s a t) F.slot_int_repr ?_)
  refine wpAny_call_entry F.slot_int_repr (typeIs_int s a t) F.entry_int_repr ?_ (F.args_int_repr_1 _)
  unfold Builtin.«int.__repr__»
  show wpAny _ _ (do let r ← Builtin.overDigitLimit? a; _) _ _ s
  refine wpAny_bind (overDigitLimit_any hn (fun _ => ?_) (fun hge => absurd (big10 ha) (Nat.not_lt.mpr hge)))
  refine wpAny_bind (wpAny_mkStr (wpAny_pure ?_) hx)
  refine ⟨_, rfl, ?_⟩
  exact wpAny_bind (wpAny_isInstance (T := "str") (b := true) rfl isSubtype_str_str (wpAny_pure h))
theorem reprK_big {a : Int} (t : Tok) (hn : h₀.NoDigits) (ha : a.natAbs < 2 ^ 12900) : ReprK prog w [] h₀ 0 (.int a t) (toString a) := fun base hb A g E s Q hg _ hu hk hQ => by
  rw [pyReprUnder_leaf (v := .int a t) (by omega) (fun _ e => nomatch e)]
  unfold pyRepr
  exact wpAny_bind (reprObj_big (hn.keeps hk) ha (wpAny_pure (hQ s.heap _ fun _ _ e => e)))
mutual
theorem reprK_readsB (hn : h₀.NoDigits) : ∀ {v : Value} {d : PyData} {as : List Addr}, Reads h₀ v d as → shwB d = true → d.shown.length ≤ sizeLine → ∃ bs, ReadAtMost h₀ d.depth bs ∧ ReprK prog w bs h₀ d.depth v d.shown
  | _, _, _, .none, _, _ => ⟨[], (fun _ h => nomatch h), by simp only [PyData.shown]; exact .of_is ReprIs.none _ _ _⟩
  | _, _, _, .bool b, _, _ => ⟨[], (fun _ h => nomatch h), by simp only [PyData.shown]; exact .of_is (ReprIs.bool b) _ _ _⟩
  | _, _, _, .int i t, hs, _ => ⟨[], (fun _ h => nomatch h), by
      simp only [PyData.shown]
      exact (reprK_big t hn (by simpa [shwB] using hs)).level_le (Nat.zero_le _)⟩
  | _, _, _, .str x t, _, hz => ⟨[], (fun _ h => nomatch h), by simp only [PyData.shown]; exact .of_is (ReprIs.str x t (by simpa only [PyData.shown] using hz)) _ _ _⟩
  | _, _, _, .list (a := a) (vs := vs) (xs := xs) h1 h2 h3 h4, hs, hz => by
    have hz' : (listText (PyData.shownAll xs)).length ≤ sizeLine := by simpa only [PyData.shown] using hz
    obtain ⟨bs, hb, hk⟩ := reprAllK_readsB hn h4 (by simpa [shwB] using hs) (fun t ht => Nat.le_trans (listText_mem_le ht) hz')
    have r : Reads h₀ (.ref a) (.list xs) _ := .list h1 h2 h3 h4
    have hna : a ∉ bs := not_mem_of_deeper r (by simp only [PyData.depth]; omega) hb
    refine ⟨a :: bs, ReadAtMost.cons r (by simp only [PyData.depth]; omega) hb, ?_⟩
    simp only [PyData.depth, PyData.shown]
    obtain ⟨l⟩ := vs
    cases l with
    | nil =>
      have h4' : ReadsAll h₀ [] xs _ := h4
      cases h4'
      simp only [PyData.shownAll, listText_nil]
      exact ReprK.listEmpty h1 h2 h3
    | cons x l => exact ReprK.list h1 h2 h3 hna (by simpa using hk.length_eq) (fun i y e => hk.item i y (by simpa using e))
  | _, _, _, .tuple (a := a) (xs := xs) h1 h2 h3 h4, hs, hz => by
    have hz' : (tupleText (PyData.shownAll xs)).length ≤ sizeLine := by simpa only [PyData.shown] using hz
    obtain ⟨bs, hb, hk⟩ := reprAllK_readsB hn h4 (by simpa [shwB] using hs) (fun t ht => Nat.le_trans (tupleText_mem_le ht) hz')
    have r : Reads h₀ (.ref a) (.tuple xs) _ := .tuple h1 h2 h3 h4
    have hna : a ∉ bs := not_mem_of_deeper r (by simp only [PyData.depth]; omega) hb
    refine ⟨a :: bs, ReadAtMost.cons r (by simp only [PyData.depth]; omega) hb, ?_⟩
    simp only [PyData.depth, PyData.shown]
    exact ReprK.tuple h1 h2 h3 hna hk
  | _, _, _, .dict (kvs := kvs) h1 h2 h3 h4 h5, hs, hz => by simp [shwB] at hs
theorem reprAllK_readsB (hn : h₀.NoDigits) : ∀ {vs : List Value} {ds : List PyData} {as : List Addr}, ReadsAll h₀ vs ds as → shwBs ds = true → (∀ t ∈ PyData.shownAll ds, t.length ≤ sizeLine) →
    ∃ bs, ReadAtMost h₀ (PyData.depthAll ds) bs ∧ ReprAllK prog w bs h₀ (PyData.depthAll ds) vs (PyData.shownAll ds)
  | _, _, _, .nil, _, _ => ⟨[], (fun _ h => nomatch h), by simp only [PyData.shownAll]; exact .nil⟩
  | _, _, _, .cons (d := d) (ds := ds) r rs, hs, hz => by
    have hs' : shwB d = true ∧ shwBs ds = true := by simpa [shwBs] using hs
    obtain ⟨b1, hb1, k1⟩ := reprK_readsB hn r hs'.1 (hz _ (by simp only [PyData.shownAll]; exact List.mem_cons_self ..))
    obtain ⟨b2, hb2, k2⟩ := reprAllK_readsB hn rs hs'.2 (fun t ht => hz t (by simp only [PyData.shownAll]; exact List.mem_cons_of_mem _ ht))
    refine ⟨b1 ++ b2, ?_, ?_⟩
    · intro b hm
      simp only [PyData.depthAll]
      rcases List.mem_append.mp hm with hm | hm
      · obtain ⟨d', as', r', hd'⟩ := hb1 b hm
        exact ⟨d', as', r', Nat.le_trans hd' (Nat.le_max_left _ _)⟩
      · obtain ⟨d', as', r', hd'⟩ := hb2 b hm
        exact ⟨d', as', r', Nat.le_trans hd' (Nat.le_max_right _ _)⟩
    · simp only [PyData.depthAll, PyData.shownAll]
      exact .cons ((k1.more fun b hb => List.mem_append_left _ hb).level_le (Nat.le_max_left _ _)) (k2.more_le (fun b hb => List.mem_append_right _ hb) (Nat.le_max_right _ _))
end
theorem showsB {a : Addr} {d : PyData} {as : List Addr} (hn : h₀.NoDigits) (r : Reads h₀ (.ref a) d as) (hs : shwB d = true)
    (hsz : d.shown.length ≤ sizeLine) : ∃ T idr, ShowsBy prog w h₀ a d T idr := by
  cases r with
  | list h1 h2 h3 h4 =>
    rename_i o vs n xs bs₀
    have hz' : (listText (PyData.shownAll xs)).length ≤ sizeLine := by simpa only [PyData.shown] using hsz
    obtain ⟨bs, hb, hk⟩ := reprAllK_readsB (prog := prog) (w := w) hn h4 (by simpa [shwB] using hs) (fun t ht => Nat.le_trans (listText_mem_le ht) hz')
    have hna : a ∉ bs := not_mem_of_deeper (.list h1 h2 h3 h4) (by simp only [PyData.depth]; omega) hb
    refine ⟨"list", "list.__repr__", F.slot_list_repr.toG, F.slot_list_str, F.slot_list_format, fun s hk0 => ⟨o, hk0 _ _ h1, h2⟩, fun A E s Q hg hu hk0 hQ => ?_⟩
    simp only [PyData.depth] at hu
    simp only [PyData.shown] at hQ
    obtain ⟨l⟩ := vs
    cases l with
    | nil =>
      have h4' : ReadsAll h₀ [] xs _ := h4
      cases h4'
      simp only [PyData.shownAll, listText_nil] at hQ
      exact call_list_repr_empty ⟨o, hk0 _ _ h1, h2⟩ (hk0 _ _ h1) h3 (hQ s.heap _ _ fun _ _ e => e)
    | cons x l =>
      exact call_list_reprK h1 h2 h3 hna (by simpa using hk.length_eq) (fun i y e => hk.item i y (by simpa using e)) hg (fun b _ => Clear.nil b) hu hk0 hQ hz'
  | tuple h1 h2 h3 h4 =>
    rename_i o vs n xs
    have hz' : (tupleText (PyData.shownAll xs)).length ≤ sizeLine := by simpa only [PyData.shown] using hsz
    obtain ⟨bs, hb, hk⟩ := reprAllK_readsB (prog := prog) (w := w) hn h4 (by simpa [shwB] using hs) (fun t ht => Nat.le_trans (tupleText_mem_le ht) hz')
    have hna : a ∉ bs := not_mem_of_deeper (.tuple h1 h2 h3 h4) (by simp only [PyData.depth]; omega) hb
    refine ⟨"tuple", "tuple.__repr__", F.slot_tuple_repr, F.slot_tuple_str, F.slot_tuple_format, fun s hk0 => ⟨o, hk0 _ _ h1, h2⟩, fun A E s Q hg hu hk0 hQ => ?_⟩
    simp only [PyData.depth] at hu
    simp only [PyData.shown] at hQ
    exact call_tuple_reprK h1 h2 h3 hna hk hg (fun b _ => Clear.nil b) hu hk0 hQ hz'
  | dict h1 h2 h3 h4 h5 => simp [shwB] at hs
theorem repr_readsB {a : Addr} {d : PyData} {as : List Addr} {A : Around} {E : Value → Shared → Prop} {s : Shared} {Q : Value → Shared → Prop} (hn : h₀.NoDigits) (r : Reads h₀ (.ref a) d as) (hs : shwB d = true) (hg : A.guards = some []) (hu : A.units + (d.depth + 1) < cLine) (hk0 : ∀ b o, h₀.get? b = some o → s.heap.get? b = some o)
    (hQ : ∀ h' u tk, (∀ b o, s.heap.get? b = some o → h'.get? b = some o) → Q (.str d.shown u) { s with heap := h', toks := tk })
    (hsz : d.shown.length ≤ sizeLine) : wpAny (model prog w) A (call (.builtin "repr") [.ref a]) Q E s := by
  obtain ⟨T, idr, S⟩ := showsB (prog := prog) (w := w) hn r hs hsz
  exact call_repr_slot (by omega) (S.typeIs s hk0) S.slotRepr (S.call A.in1 E s _ hg (by show A.units + 1 + d.depth < cLine; omega) hk0 fun h' u tk hk => ⟨_, _, rfl, hQ h' u tk hk⟩)
end
def rReprB (K : PySem.W.Frag) : List V → Hp → VK → Prop := fun xs H Q => ∃ x e, xs = [x] ∧ Dp K H x e ∧ isSeqD e = true ∧ shwB e = true ∧ e.depth ≤ 60 ∧ e.shown.length ≤ lim ∧ Q (.str e.shown) H
theorem cb_reprB {X : Cx} (nd : PySem.W.nsIn X.K cStatics "sys.int_max_str_digits" = some none) (hg : X.A.guards = some []) (hu : X.A.units + 64 < cLine) : CallR X (.builtin "repr") (rReprB X.K) := by
  intro pins s σ H vs us Q I r h
  obtain ⟨x, e, rfl, hd, hs, h1, h3, h4, q⟩ := h
  obtain ⟨u, rfl, ru⟩ := vals1 r
  obtain ⟨as, rd⟩ := Dp.reads I e x u hd ru
  have hv : ∃ a, u = .ref a := by
    cases rd <;> first | exact ⟨_, rfl⟩ | cases hs
  obtain ⟨a, rfl⟩ := hv
  obtain ⟨mc, hns, _⟩ := I.nolimit
  have hn := PySem.W.ns_none_of I.kIn hns nd
  exact repr_readsB ⟨mc, hns, hn⟩ rd h1 hg (by omega) (fun _ _ z => z) (fun h' u tk hk => ⟨.str e.shown, H, I.kept hk, ⟨_, rfl⟩, q⟩) (lim_lt h4)
def pReprB : MB := fun xs μ P => match xs with | [x] => (match datP (frzP x μ) with | some e => (isSeqD e = true ∧ shwB e = true ∧ e.depth ≤ 60 ∧ e.shown.length ≤ lim) ∧ P (.str e.shown) μ | none => False) | _ => False
section
variable {K : PySem.W.Frag}
instance : FB K (rReprB K) pReprB := ⟨fun d H μ xs vs P Q w r q k => by
  match xs, r, q with
  | [x], .cons (v := v) r .nil, q =>
    unfold pReprB at q
    simp only at q
    cases e : datP (frzP x μ) with
    | none => rw [e] at q; exact q.elim
    | some dd =>
      rw [e] at q
      obtain ⟨⟨h1, h2, h4, h5⟩, q⟩ := q
      exact ⟨v, dd, rfl, frz_dp w r e, h1, h2, h4, h5, k d H μ _ _ .refl w (.str _) q⟩⟩
end
def ShBB (d l : Nat) (x : PV) : Prop := ∃ e, datP x = some e ∧ shwB e = true ∧ e.depth ≤ d ∧ e.shown.length ≤ l
theorem ShBB.mono {d l d' l' : Nat} {x : PV} (h : ShBB d l x) (h1 : d ≤ d') (h2 : l ≤ l') : ShBB d' l' x :=
  let ⟨e, a, b, f, g⟩ := h; ⟨e, a, b, by omega, by omega⟩
theorem shbb_int {i : Int} (h : i.natAbs < 2 ^ 12900) : ShBB 0 12901 (.int i) := by
  refine ⟨.int i, rfl, by simp only [shwB, decide_eq_true_eq]; exact h, by simp [PyData.depth], ?_⟩
  have := int_text_length_le10 (a := i) (k := 12900) (by decide) (Nat.lt_of_lt_of_le h (Nat.pow_le_pow_left (by decide) 12900))
  rw [PyData.shown_int, PySem.ofString_length]
  exact this
theorem shbb_all {d l : Nat} : ∀ {xs : List PV}, (∀ x ∈ xs, ShBB d l x) → ∃ es, datPs xs = some es ∧ shwBs es = true ∧ PyData.depthAll es ≤ d ∧ ((PyData.shownAll es).map (·.length)).sum ≤ xs.length * l ∧ (PyData.shownAll es).length = xs.length
  | [], _ => ⟨[], rfl, by simp [shwBs], by simp [PyData.depthAll], by simp [PyData.shownAll], by simp [PyData.shownAll]⟩
  | x :: xs, h => by
    obtain ⟨e, a1, a2, a4, a5⟩ := h x List.mem_cons_self
    obtain ⟨es, b1, b2, b4, b5, b6⟩ := shbb_all fun y hy => h y (List.mem_cons_of_mem _ hy)
    refine ⟨e :: es, by simp [datPs, a1, b1], by simp [shwBs, a2, b2], ?_, ?_, ?_⟩
    · simp only [PyData.depthAll]; omega
    · simp only [PyData.shownAll, List.map_cons, List.sum_cons, List.length_cons, Nat.add_mul, Nat.one_mul]; omega
    · simp only [PyData.shownAll, List.length_cons]; omega
theorem shbb_tup {d l : Nat} {xs : List PV} (h : ∀ x ∈ xs, ShBB d l x) : ShBB (d + 1) (xs.length * (l + 2) + 3) (.tup xs) := by
  obtain ⟨es, b1, b2, b4, b5, b6⟩ := shbb_all h
  refine ⟨.tuple es, by simp [datP, b1], by simp [shwB, b2], by simp only [PyData.depth]; omega, ?_⟩
  have := tupleText_len_le (PyData.shownAll es)
  show (tupleText (PyData.shownAll es)).length ≤ _
  rw [Nat.mul_add]
  rw [b6] at this
  omega
theorem shbb_fr {n : Nat} {q : Rat} (h : MR.Sm n q) (hn : n ≤ 12900) : ShBB 1 26000 (frP q) := by
  have hp : (2 : Nat) ^ n ≤ 2 ^ 12900 := Nat.pow_le_pow_right (by decide) hn
  have := shbb_tup (xs := [.int q.num, .int (q.den : Nat)]) (d := 0) (l := 12901) fun x hx => by
    rcases List.mem_cons.mp hx with rfl | hx
    · exact shbb_int (Nat.lt_of_lt_of_le h.1 hp)
    · rw [List.mem_singleton.mp hx]
      exact shbb_int (by rw [Int.natAbs_natCast]; exact Nat.lt_of_lt_of_le h.2 hp)
  exact this.mono (by decide) (by show 2 * (12901 + 2) + 3 ≤ 26000; decide)
theorem pReprB_tup {xs : List PV} {d l : Nat} {μ : Store} {P : PV → Store → Prop} (h : ShBB d l (.tup xs)) (hd : d ≤ 60) (hl : l ≤ lim) (hP : P (.str (shwP (.tup xs))) μ) : pReprB [.tup xs] μ P := by
  obtain ⟨e, a1, a2, a4, a5⟩ := h
  have e1 : datP (frzP (.tup xs) μ) = some e := a1
  have e2 : shwP (.tup xs) = e.shown := by unfold shwP; rw [a1]
  have hs : isSeqD e = true := by
    simp only [datP] at a1
    cases z : datPs xs with
    | none => rw [z] at a1; cases a1
    | some es => rw [z] at a1; cases a1; rfl
  unfold pReprB
  simp only [e1]
  rw [e2] at hP
  exact ⟨⟨hs, a2, by omega, by omega⟩, hP⟩
end Fx
end
namespace Fx
open PySem PySem.Spec PyProof.Rows L2 RZ
def DivV (i j : Int) : Prop := 0 < j ∧ (j.natAbs.log2 < 9000 ∨ i.natAbs.log2 ≤ j.natAbs.log2 + 4400)
theorem DivV.no {i j : Int} (h : DivV i j) : Builtin.divisionGoesByPylong i j = false := by
  rcases h.2 with z | z
  · exact PyProof.noPylong_of_log2 z
  · have hj : (j == 0) = false := by have := h.1; simp; omega
    have key : (if i == 0 then 0 else i.natAbs.log2 / 30 + 1) ≤ (if j == 0 then 0 else j.natAbs.log2 / 30 + 1) + 150 := by
      rw [hj]
      simp only [Bool.false_eq_true, if_false]
      split <;> omega
    show (decide _ && decide ((if i == 0 then 0 else i.natAbs.log2 / 30 + 1) > (if j == 0 then 0 else j.natAbs.log2 / 30 + 1) + 150)) = false
    rw [decide_eq_false (Nat.not_lt.mpr key), Bool.and_false]
theorem op_divV {X : Cx} : OpR X (binaryOp .FloorDiv) (rI DivV fun i j => .int (i.fdiv j)) := opI fun i j _ _ _ _ _ hc q => by
  have h1 : (0 : Int) < j := hc.1
  exact floordiv_int (by omega) q (.inl hc.no)
theorem divV_log {i j : Int} {n : Nat} (h : 0 < j) (hj : j.natAbs < 2 ^ n) (hn : n ≤ 8990) : DivV i j := ⟨h, .inl (by have := log_lt hj; omega)⟩
def rComb : List V → Hp → VK → Prop := fun vs H Q => ∃ a b : Int, vs = [.int a, .int b] ∧ (0 ≤ a ∧ 0 ≤ b ∧ a < 2 ^ 64 ∧ b ≤ 9000) ∧ Q (.int (PySem.W.mcComb a b)) H
theorem cb_comb {X : Cx} : CallR X (.builtin "math.comb") rComb := by
  intro pins s σ H vs us Q I r h
  obtain ⟨a, b, rfl, ⟨h1, h2, h3, h4⟩, q⟩ := h
  obtain ⟨t, u, rfl⟩ := Vals.int2 r
  exact PySem.W.mc_comb h1 h2 h3 (.inl h4) fun _ => ⟨.int _, H, I.tok _, ⟨_, rfl⟩, q⟩
def pComb : MB := fun xs μ P => match xs with | [.int a, .int b] => (0 ≤ a ∧ 0 ≤ b ∧ a < 2 ^ 64 ∧ b ≤ 9000) ∧ P (.int (PySem.W.mcComb a b)) μ | _ => False
section
variable {K : PySem.W.Frag}
instance : FB K rComb pComb := ⟨fun d H μ xs vs P Q w r q k => by
  match xs, r, q with
  | [.int i, .int j], .cons (.int _) (.cons (.int _) .nil), q => exact ⟨i, j, rfl, q.1, k d H μ _ _ .refl w (.int _) q.2⟩⟩
end
end Fx
namespace Fx
open PySem PySem.Spec PyProof.Rows L2 RZ MR
theorem divV_gcd {a b : Int} (h0 : 0 < b) (hb : b.natAbs < 2 ^ 8980 ∨ a = b) : DivV a ((Nat.gcd a.natAbs b.natAbs : Nat) : Int) ∧ DivV b ((Nat.gcd a.natAbs b.natAbs : Nat) : Int) := by
  have g0 : 0 < Nat.gcd a.natAbs b.natAbs := Nat.gcd_pos_of_pos_right _ (by omega)
  have gl : Nat.gcd a.natAbs b.natAbs ≤ b.natAbs := Nat.le_of_dvd (by omega) (Nat.gcd_dvd_right _ _)
  rcases hb with hb | rfl
  · have k : ∀ i : Int, DivV i ((Nat.gcd a.natAbs b.natAbs : Nat) : Int) := fun i => divV_log (n := 8980) (by omega) (by rw [Int.natAbs_natCast]; exact Nat.lt_of_le_of_lt gl hb) (by decide)
    exact ⟨k a, k b⟩
  · rw [Nat.gcd_self]
    have : DivV a ((a.natAbs : Nat) : Int) := ⟨by omega, .inr (by rw [Int.natAbs_natCast]; omega)⟩
    exact ⟨this, this⟩
theorem rowq_sm {qs : List Rat} (hq : ∀ q ∈ qs, Sm 45 q) : ∀ {r : List Nat}, (∀ i ∈ r, i < qs.length) → ∀ {p : Rat} {n : Nat}, Sm n p → Sm (n + 45 * r.length) (r.foldl (fun x i => x * qs.getD i 0) p)
  | [], _, p, n, h => by simpa using h
  | i :: r, hr, p, n, h => by
    have hi := hr i List.mem_cons_self
    have hm : qs.getD i 0 ∈ qs := by
      rw [List.getD_eq_getElem?_getD, List.getElem?_eq_getElem hi]
      exact List.getElem_mem _
    have := rowq_sm hq (r := r) (fun j hj => hr j (List.mem_cons_of_mem _ hj)) (h.mul (hq _ hm))
    rw [List.foldl_cons, List.length_cons]
    exact this.mono (by omega)
theorem rowq_sm1 {qs : List Rat} (hq : ∀ q ∈ qs, Sm 45 q) {r : List Nat} (hr : ∀ i ∈ r, i < qs.length) : Sm (1 + 45 * r.length) (rowq qs r) := rowq_sm hq hr (by constructor <;> decide)
theorem frP_atM {qs : List Rat} {i : Nat} (h : i < qs.length) : L2.atI (qs.map frP) ((i : Nat) : Int) = some (frP (qs.getD i 0)) := atI_some (by
  rw [List.getElem?_map, List.getD_eq_getElem?_getD, List.getElem?_eq_getElem h]
  rfl)
theorem getD_memM {qs : List Rat} {i : Nat} (h : i < qs.length) : qs.getD i 0 ∈ qs := by
  rw [List.getD_eq_getElem?_getD, List.getElem?_eq_getElem h]
  exact List.getElem_mem _
theorem ints_all {r : List Nat} {hi : Int} (h : ∀ i ∈ r, ((i : Nat) : Int) ≤ hi) : ((r.map fun (n : Nat) => (n : Int)).all fun i => decide (0 ≤ i) && decide (i ≤ hi)) = true := by
  rw [List.all_eq_true]
  intro x hx
  obtain ⟨n, hn, rfl⟩ := List.mem_map.mp hx
  have := h n hn
  simp; omega
theorem mul_step {t b : Int} {q : Rat} : Rat.divInt (t * q.num) (b * (q.den : Int)) = Rat.divInt t b * q := by
  conv => rhs; rw [← Rat.num_divInt_den q]
  rw [Rat.divInt_mul_divInt]
theorem num_le {q : Rat} (h0 : 0 ≤ q) (h1 : q ≤ 1) : ∃ a : Nat, q.num = (a : Int) ∧ a ≤ q.den := by
  have hn := Rat.num_nonneg.mpr h0
  refine ⟨q.num.toNat, (Int.toNat_of_nonneg hn).symm, ?_⟩
  have h2 : q.num ≤ 1 * (q.den : Int) := by
    have := (Rat.le_iff q 1).mp h1
    simpa using this
  omega
theorem fcs_snoc : ∀ (cs : List Nat) (c : Nat), fcs (cs ++ [c]) = fcs cs * fct c
  | [], c => by show fct c * 1 = 1 * fct c; omega
  | a :: cs, c => by
    show fct a * fcs (cs ++ [c]) = fct a * fcs cs * fct c
    rw [fcs_snoc cs c, Nat.mul_assoc]
theorem fct_lt : ∀ {n : Nat}, n ≤ 500 → fct n < 2 ^ (9 * n + 1)
  | 0, _ => by decide
  | n + 1, h => by
    have ih := fct_lt (n := n) (by omega)
    have h2 : n + 1 ≤ 2 ^ 9 := by omega
    have := Nat.mul_le_mul h2 (Nat.le_of_lt ih)
    have h3 : (n + 1) * fct n < 2 ^ 9 * 2 ^ (9 * n + 1) := by
      have h4 : (n + 1) * fct n < (n + 1) * 2 ^ (9 * n + 1) := Nat.mul_lt_mul_of_pos_left ih (by omega)
      exact Nat.lt_of_lt_of_le h4 (Nat.mul_le_mul_right _ h2)
    rw [← Nat.pow_add] at h3
    rw [fct, show 9 * (n + 1) + 1 = 9 + (9 * n + 1) by omega]
    exact h3
theorem fcs_le (cs : List Nat) : fcs cs ≤ fct cs.sum := by
  have h := cw_fcs cs
  have h0 := fct_pos cs.sum
  rcases Nat.eq_zero_or_pos (cw cs) with z | z
  · rw [z] at h; omega
  · rw [← h]; exact Nat.le_mul_of_pos_left _ z
theorem chz_le : ∀ n k, chz n k ≤ 2 ^ n
  | n, 0 => by rw [chz_zero]; exact Nat.two_pow_pos n
  | 0, k + 1 => by show 0 ≤ 1; omega
  | n + 1, k + 1 => by
    have a := chz_le n k
    have b := chz_le n (k + 1)
    rw [chz, Nat.pow_succ]
    omega
theorem allr_len (n : Nat) : ∀ L, (allr n L).length = n ^ L
  | 0 => rfl
  | L + 1 => by
    have h : ∀ l : List (List Nat), (l.flatMap fun r => (List.range n).map fun i => r ++ [i]).length = l.length * n := fun l => by
      induction l with
      | nil => simp
      | cons a l ih => rw [List.flatMap_cons, List.length_append, ih, List.length_map, List.length_range, List.length_cons, Nat.succ_mul, Nat.add_comm]
    show ((allr n L).flatMap fun r => (List.range n).map fun i => r ++ [i]).length = _
    rw [h, allr_len n L, Nat.pow_succ]
theorem lsum_le {k : Nat} : ∀ {cs : List Nat}, (∀ c ∈ cs, c ≤ k) → cs.sum ≤ k * cs.length
  | [], _ => by simp
  | c :: cs, h => by
    have ih := lsum_le (cs := cs) fun x hx => h x (List.mem_cons_of_mem _ hx)
    have := h c List.mem_cons_self
    rw [List.sum_cons, List.length_cons, Nat.mul_succ]
    omega
theorem flat_len (n : Nat) (l : List (List Nat)) : (l.flatMap fun r => (List.range n).map fun i => r ++ [i]).length = l.length * n := by
  induction l with
  | nil => simp
  | cons a l ih => rw [List.flatMap_cons, List.length_append, ih, List.length_map, List.length_range, List.length_cons, Nat.succ_mul, Nat.add_comm]
theorem allr_mem {n : Nat} : ∀ {L : Nat} {r : List Nat}, r ∈ allr n L → r.length = L
  | 0, r, h => by rw [List.mem_singleton.mp (show r ∈ [[]] from h)]; rfl
  | L + 1, r, h => by
    have h' : r ∈ (allr n L).flatMap fun r => (List.range n).map fun i => r ++ [i] := h
    obtain ⟨s, hs, h2⟩ := List.mem_flatMap.mp h'
    obtain ⟨i, _, rfl⟩ := List.mem_map.mp h2
    rw [List.length_append, allr_mem hs, List.length_singleton]
theorem allr_lt {n : Nat} : ∀ {L : Nat} {r : List Nat}, r ∈ allr n L → ∀ i ∈ r, i < n
  | 0, r, h, i, hi => by rw [List.mem_singleton.mp (show r ∈ [[]] from h)] at hi; cases hi
  | L + 1, r, h, i, hi => by
    have h' : r ∈ (allr n L).flatMap fun r => (List.range n).map fun i => r ++ [i] := h
    obtain ⟨s, hs, h2⟩ := List.mem_flatMap.mp h'
    obtain ⟨j, hj, rfl⟩ := List.mem_map.mp h2
    rcases List.mem_append.mp hi with hi | hi
    · exact allr_lt hs i hi
    · rw [List.mem_singleton.mp hi]; exact List.mem_range.mp hj
theorem cc_step {t b k a : Nat} {q : Rat} (ha : q.num = (a : Int)) : ∀ c : Nat, Rat.divInt ((t * k * a ^ c : Nat) : Int) ((b * q.den ^ c : Nat) : Int) = Rat.divInt (t : Int) (b : Int) * ((k : Nat) : Rat) * q ^ c
  | 0 => by
    rw [Nat.pow_zero, Nat.pow_zero, Nat.mul_one, Nat.mul_one, Rat.pow_zero, Rat.mul_one, Rat.divInt_eq_div, Rat.divInt_eq_div, Rat.intCast_natCast, Rat.intCast_natCast, Rat.intCast_natCast, Rat.natCast_mul, Rat.div_def, Rat.div_def]
    grind
  | c + 1 => by
    have ih := cc_step (t := t) (b := b) (k := k) ha c
    have e := mul_step (t := ((t * k * a ^ c : Nat) : Int)) (b := ((b * q.den ^ c : Nat) : Int)) (q := q)
    rw [ih, ha, ← Int.natCast_mul, ← Int.natCast_mul] at e
    rw [Nat.pow_succ, Nat.pow_succ, ← Nat.mul_assoc, ← Nat.mul_assoc, e, Rat.pow_succ, Rat.mul_assoc]
def rwc (j : Nat) (cs : List Nat) : List Nat := (numd j cs).flatMap fun p => List.replicate p.2 p.1
theorem rwc_len : ∀ (cs : List Nat) (j : Nat), (rwc j cs).length = cs.sum
  | [], _ => rfl
  | c :: cs, j => by
    have ih := rwc_len cs (j + 1)
    unfold rwc at ih ⊢
    rw [numd, List.flatMap_cons, List.length_append, ih, List.length_replicate, List.sum_cons]
theorem rwc_lt : ∀ {cs : List Nat} {j : Nat}, ∀ i ∈ rwc j cs, i < j + cs.length
  | [], _, i, h => by cases h
  | c :: cs, j, i, h => by
    have ih := rwc_lt (cs := cs) (j := j + 1)
    unfold rwc at ih h
    rw [numd, List.flatMap_cons] at h
    rw [List.length_cons]
    rcases List.mem_append.mp h with h | h
    · rw [(List.mem_replicate.mp h).2]; omega
    · have := ih i h; omega
theorem fold_rep (qs : List Rat) (i : Nat) : ∀ (c : Nat) (p : Rat), (List.replicate c i).foldl (fun x i => x * qs.getD i 0) p = p * qs.getD i 0 ^ c
  | 0, p => by rw [List.replicate_zero, List.foldl_nil, Rat.pow_zero, Rat.mul_one]
  | c + 1, p => by
    rw [List.replicate_succ, List.foldl_cons, fold_rep qs i c, Rat.pow_succ, Rat.mul_assoc, Rat.mul_comm (qs.getD i 0)]
theorem rwc_pws (qs : List Rat) : ∀ (cs : List Nat) (j : Nat) (p : Rat), (rwc j cs).foldl (fun x i => x * qs.getD i 0) p = p * pws (qs.drop j) cs ∨ qs.length < j + cs.length
  | [], j, p => by
    refine .inl ?_
    have : pws (qs.drop j) [] = 1 := by cases qs.drop j <;> rfl
    rw [this, Rat.mul_one]; rfl
  | c :: cs, j, p => by
    by_cases h : qs.length < j + (c :: cs).length
    · exact .inr h
    · rw [List.length_cons] at h
      have hj : j < qs.length := by omega
      have ih := rwc_pws qs cs (j + 1) (p * qs.getD j 0 ^ c)
      rcases ih with ih | ih
      · refine .inl ?_
        unfold rwc at ih ⊢
        rw [numd, List.flatMap_cons, List.foldl_append, fold_rep, ih, List.drop_eq_getElem_cons hj, pws, Rat.mul_assoc]
        congr 2
        rw [List.getD_eq_getElem?_getD, List.getElem?_eq_getElem hj]; rfl
      · omega
theorem rowq_rwc {qs : List Rat} {cs : List Nat} (h : cs.length = qs.length) : rowq qs (rwc 0 cs) = pws qs cs := by
  rcases rwc_pws qs cs 0 1 with z | z
  · unfold rowq
    rw [z, Rat.one_mul, List.drop_zero]
  · omega
theorem den_dvdA {a : Int} {b : Nat} (hb : 0 < b) : (Rat.divInt a (b : Int)).den ∣ b := by
  have e := (divInt_parts a (b : Int) (by omega)).2
  have e2 : (((Rat.divInt a (b : Int)).den : Nat) : Int) ∣ ((b : Nat) : Int) := by
    rw [e]
    refine Int.ediv_dvd_of_dvd ?_
    exact Int.natCast_dvd_natCast.mpr (Nat.gcd_dvd_right _ _)
  exact Int.natCast_dvd_natCast.mp e2
theorem rowq_den {qs : List Rat} {z : Nat} (hq : ∀ q ∈ qs, q.den ≤ 2 ^ z) : ∀ {r : List Nat} {p : Rat} {n : Nat}, (∀ i ∈ r, i < qs.length) → p.den ≤ 2 ^ n → (r.foldl (fun x i => x * qs.getD i 0) p).den ≤ 2 ^ (n + z * r.length)
  | [], p, n, _, h => by simpa using h
  | i :: r, p, n, hr, h => by
    have hi := hr i List.mem_cons_self
    have h2 := hq _ (getD_memM hi)
    have e : (p * qs.getD i 0).den ≤ 2 ^ (n + z) := by
      have h3 : p * qs.getD i 0 = Rat.divInt (p.num * (qs.getD i 0).num) ((p.den * (qs.getD i 0).den : Nat) : Int) := by
        rw [Int.natCast_mul, mul_step, Rat.num_divInt_den]
      have h4 : 0 < p.den * (qs.getD i 0).den := Nat.mul_pos p.den_pos (Rat.den_pos _)
      have h5 := Nat.le_of_dvd h4 (den_dvdA (a := p.num * (qs.getD i 0).num) h4)
      rw [← h3] at h5
      rw [Nat.pow_add]
      exact Nat.le_trans h5 (Nat.mul_le_mul h h2)
    have := rowq_den hq (r := r) (p := p * qs.getD i 0) (n := n + z) (fun j hj => hr j (List.mem_cons_of_mem _ hj)) e
    rw [List.foldl_cons, List.length_cons, Nat.mul_succ]
    rw [show n + (z * r.length + z) = n + z + z * r.length by omega]
    exact this
theorem allc_len : ∀ (n w : Nat), (allc (n + 1) w).length ≤ (w + 1) ^ (n + 1)
  | 0, w => by
    show ([[w]] : List (List Nat)).length ≤ _
    simp
  | n + 1, w => by
    have h : ∀ l : List Nat, (l.flatMap fun f => (allc (n + 1) (w - f)).map (f :: ·)).length ≤ l.length * (w + 1) ^ (n + 1) := fun l => by
      induction l with
      | nil => simp
      | cons a l ih =>
        rw [List.flatMap_cons, List.length_append, List.length_map, List.length_cons, Nat.succ_mul]
        have h1 := allc_len n (w - a)
        have h2 : (w - a + 1) ^ (n + 1) ≤ (w + 1) ^ (n + 1) := Nat.pow_le_pow_left (by omega) _
        omega
    have := h (List.range (w + 1))
    rw [List.length_range] at this
    show ((List.range (w + 1)).flatMap fun f => (allc (n + 1) (w - f)).map (f :: ·)).length ≤ _
    rw [Nat.pow_succ (w + 1) (n + 1), Nat.mul_comm _ (w + 1)]
    exact this
theorem rowq_unit {qs : List Rat} (hq : ∀ q ∈ qs, 0 ≤ q ∧ q ≤ 1) : ∀ {r : List Nat} {p : Rat}, (∀ i ∈ r, i < qs.length) → 0 ≤ p → p ≤ 1 → 0 ≤ r.foldl (fun x i => x * qs.getD i 0) p ∧ r.foldl (fun x i => x * qs.getD i 0) p ≤ 1
  | [], p, _, h0, h1 => ⟨h0, h1⟩
  | i :: r, p, hr, h0, h1 => by
    obtain ⟨q0, q1⟩ := hq _ (getD_memM (hr i List.mem_cons_self))
    rw [List.foldl_cons]
    refine rowq_unit hq (fun j hj => hr j (List.mem_cons_of_mem _ hj)) (Rat.mul_nonneg h0 q0) ?_
    have := Rat.mul_le_mul_of_nonneg_left q1 h0
    rw [Rat.mul_one] at this
    exact Rat.le_trans this h1
theorem cw_lt {cs : List Nat} (h : cs.sum ≤ 400) : cw cs < 2 ^ 3601 := by
  have h1 := cw_fcs cs
  have h2 := fcs_pos cs
  have h3 : cw cs ≤ fct cs.sum := by rw [← h1]; exact Nat.le_mul_of_pos_right _ h2
  exact Nat.lt_of_le_of_lt h3 (Nat.lt_of_lt_of_le (fct_lt (n := cs.sum) (by omega)) (Nat.pow_le_pow_right (by decide) (by omega)))
theorem ccq_int {cs : List Nat} {q : Rat} : Rat.divInt (q.num * ((cw cs : Nat) : Int)) ((q.den : Nat) : Int) = ((cw cs : Nat) : Rat) * q := by
  have h := mul_den q
  have hd : ((q.den : Nat) : Rat) ≠ 0 := by
    have := Rat.natCast_pos.mpr q.den_pos
    grind
  rw [Rat.divInt_eq_div, Rat.intCast_mul, Rat.intCast_natCast, Rat.intCast_natCast, ← h]
  generalize ((q.den : Nat) : Rat) = d at *
  generalize ((cw cs : Nat) : Rat) = k at *
  grind
theorem stp_frac {t b : Int} (hb : 0 < b) (h : (Rat.divInt t b).den < 2 ^ 2660) : stp t.natAbs b.natAbs ≤ 4000 := by
  obtain ⟨e1, e2⟩ := divInt_parts t b hb
  have g0 : 0 < Nat.gcd t.natAbs b.natAbs := Nat.gcd_pos_of_pos_right _ (by omega)
  obtain ⟨x, hx⟩ := Nat.gcd_dvd_left t.natAbs b.natAbs
  obtain ⟨y, hy⟩ := Nat.gcd_dvd_right t.natAbs b.natAbs
  have ey : (Rat.divInt t b).den = y := by
    have hbn : b = ((b.natAbs : Nat) : Int) := by omega
    have h2 : (((Rat.divInt t b).den : Nat) : Int) = ((b.natAbs / Nat.gcd t.natAbs b.natAbs : Nat) : Int) := by
      rw [e2, Int.natCast_ediv, ← hbn]
    have h3 := Int.ofNat_inj.mp h2
    rw [h3, Nat.div_eq_of_eq_mul_right g0 hy]
  have h4 := stp_mul g0 _ x y rfl
  have h5 := stp_few (x := x) (y := y) (by omega)
  have e3 : stp t.natAbs b.natAbs = stp (Nat.gcd t.natAbs b.natAbs * x) (Nat.gcd t.natAbs b.natAbs * y) := by rw [← hx, ← hy]
  omega
theorem divInt_one {t b : Int} (hb : 0 < b) (h : Rat.divInt t b = 1) : t = b := by
  have e : Rat.divInt t b = Rat.divInt b b := by rw [h, Rat.divInt_self' (by omega)]
  have := (Rat.divInt_eq_divInt_iff (by omega) (by omega)).mp e
  exact Int.eq_of_mul_eq_mul_right (by omega) this
def iSeqM2 (K : PySem.W.Frag) (tl : TE) : TI := iSeq K tl
theorem pi_seqM2 {X : Cx} {tg l : Expr} {tl : TE} (hl : PE X l tl) : PI X tg l (iSeqM2 X.K tl) := pi_seq hl
def mSeqC2 (m : ME) : MIC := fun ρ μ P => m ρ μ fun x μ1 => match x with | .mr n => (match μ1[n]? with | some (.lst xs) => P xs (fun μ2 => μ2[n]? = some (.lst xs)) μ1 | _ => False) | .lst xs => P xs (fun _ => True) μ1 | _ => False
section
variable {K : PySem.W.Frag}
instance {t m} [h : FE K t m] : FC K (iSeqM2 K t) (mSeqC2 m) := ⟨fun d σ H ρ μ P R w e q k => by
  refine h.run d σ H ρ μ _ _ w e q fun d1 H1 μ1 x v e1 w1 r1 q1 => ?_
  cases r1 with
  | @mr n a h1 =>
    simp only at q1
    cases e2 : μ1[n]? with
    | none => rw [e2] at q1; exact q1.elim
    | some m =>
      cases m with
      | dk _ => rw [e2] at q1; exact q1.elim
      | fd _ _ _ => rw [e2] at q1; exact q1.elim
      | tk _ => rw [e2] at q1; exact q1.elim
      | nk _ => rw [e2] at q1; exact q1.elim
      | ft _ _ _ => rw [e2] at q1; exact q1.elim
      | fn _ _ _ => rw [e2] at q1; exact q1.elim
      | lst xs =>
        rw [e2] at q1
        obtain ⟨vs, hq, rv⟩ := w1.obj h1 e2
        refine ⟨a, rfl, .inl ⟨⟨vs, .of hq⟩, k d1 H1 μ1 _ _ _ e1 w1 (fun d2 d3 H3 μ3 bb ee w3 hC => ?_) q1⟩⟩
        have h3 : d3.am[n]? = some a := ee.at (by rw [bb.1]; exact h1)
        obtain ⟨ws, hq3, rw3⟩ := w3.obj h3 hC
        refine ⟨fun i x hx => ?_, fun i hi => ⟨ws, .of hq3, by rw [← rw3.length]; exact hi⟩⟩
        obtain ⟨v, hv, rv'⟩ := rw3.get hx
        refine ⟨⟨ws, v, .of hq3, hv⟩, fun u H4 hy => ?_⟩
        obtain ⟨rfl, f⟩ := hy
        have e1 := f ws (.of hq3)
        rw [hv] at e1; cases e1
        exact ⟨.refl, w3, rv'⟩
  | lst ha hr => exact ⟨_, rfl, .inl ⟨⟨_, ha.sq⟩, k d1 H1 μ1 _ _ (fun _ => True) e1 w1 (fun d2 d3 H3 μ3 bb ee w3 _ => it_lst ha hr d2 d3 H3 μ3 bb ee w3) q1⟩⟩
  | _ => exact q1.elim⟩
end
theorem cm_denA {D : Nat} {q : Rat} (hD : 0 < D) (h : Cm D q) : q.den ∣ D := by
  obtain ⟨k, hk⟩ := h
  have hd : ((D : Nat) : Rat) ≠ 0 := by
    have := Rat.natCast_pos.mpr hD
    grind
  have e : q = Rat.divInt k ((D : Nat) : Int) := by
    rw [Rat.divInt_eq_div, ← hk, Rat.intCast_natCast]
    generalize ((D : Nat) : Rat) = d at *
    grind
  rw [e]
  exact den_dvdA hD
theorem den_cmA {D : Nat} {q : Rat} (h : q.den ∣ D) : Cm D q := by
  obtain ⟨c, rfl⟩ := h
  refine ⟨q.num * (c : Int), ?_⟩
  have := mul_den q
  rw [Rat.natCast_mul, Rat.intCast_mul, Rat.intCast_natCast, ← this, Rat.mul_assoc]
theorem sum_den {D : Nat} (hD : 0 < D) {qs : List Rat} (h : ∀ q ∈ qs, q.den ∣ D) : qs.sum.den ∣ D := cm_denA hD (Cm.sum fun q hq => den_cmA (h q hq))
end Fx
namespace Fx
open PySem PySem.Spec PyProof.Rows L2 RZ MR
def pwB (w i : Int) : Bool := if w = 4 then decide (i = 1 ∨ i = 3 ∨ i = 1000000007 ∨ i = 1000000000000) else if w = 2 then decide (0 ≤ i ∧ i ≤ 30) else decide (0 ≤ i ∧ i ≤ 5)
theorem pw_one (w : Int) : pwB w 1 = true := by
  unfold pwB
  split
  · decide
  · split <;> decide
def NFq (qs : List Rat) : Prop := (∃ q ∈ qs, 1000000 < q.den) ∨ ∀ q ∈ qs, q.den ≤ 2 ^ 8
theorem nf_small {ps : List Int} (h0 : 0 < ps.sum) (h : ps.sum ≤ 256) : NFq (ptab ps) := by
  refine .inr fun q hq => ?_
  unfold ptab at hq
  obtain ⟨p, _, rfl⟩ := List.mem_map.mp hq
  have e : ps.sum = ((ps.sum.toNat : Nat) : Int) := by omega
  have hp : 0 < ps.sum.toNat := by omega
  have := Nat.le_of_dvd hp (den_dvdA (a := p) hp)
  rw [← e] at this
  omega
theorem den_of (p W : Int) (hW : 0 < W) : (((Rat.divInt p W).den : Nat) : Int) = W / ((Nat.gcd p.natAbs W.natAbs : Nat) : Int) := (divInt_parts p W hW).2
theorem sum_AB : ∀ {ps : List Int}, (∀ p ∈ ps, p = 1000000007 ∨ p = 1000000000000) → ∃ k l : Nat, k + l = ps.length ∧ ps.sum = k * 1000000007 + l * 1000000000000 ∧ (0 < k → (1000000007 : Int) ∈ ps) ∧ (0 < l → (1000000000000 : Int) ∈ ps) ∧ (k = 0 → ∀ p ∈ ps, p = 1000000000000) ∧ (l = 0 → ∀ p ∈ ps, p = 1000000007)
  | [], _ => ⟨0, 0, rfl, rfl, fun h => by omega, fun h => by omega, (fun _ _ h => by cases h), (fun _ _ h => by cases h)⟩
  | p :: ps, h => by
    obtain ⟨k, l, e1, e2, e3, e4, e5, e6⟩ := sum_AB fun x hx => h x (List.mem_cons_of_mem _ hx)
    rcases h p List.mem_cons_self with rfl | rfl
    · refine ⟨k + 1, l, by rw [List.length_cons]; omega, by rw [List.sum_cons, e2]; omega, fun _ => List.mem_cons_self, fun z => List.mem_cons_of_mem _ (e4 z), fun z => by omega, fun z x hx => ?_⟩
      rcases List.mem_cons.mp hx with rfl | hx
      · rfl
      · exact e6 z x hx
    · refine ⟨k, l + 1, by rw [List.length_cons]; omega, by rw [List.sum_cons, e2]; omega, fun z => List.mem_cons_of_mem _ (e3 z), fun _ => List.mem_cons_self, fun z x hx => ?_, fun z => by omega⟩
      rcases List.mem_cons.mp hx with rfl | hx
      · rfl
      · exact e5 z x hx
theorem far_dec : ∀ k : Fin 9, ∀ l : Fin 9, 0 < k.val → 0 < l.val → 1000000 < (k.val * 1000000007 + l.val * 1000000000000) / Nat.gcd 1000000007 (k.val * 1000000007 + l.val * 1000000000000) := by decide +kernel
theorem near_decA : ∀ k : Fin 9, 0 < k.val → (k.val * 1000000007) / Nat.gcd 1000000007 (k.val * 1000000007) ≤ 256 := by decide +kernel
theorem near_decB : ∀ k : Fin 9, 0 < k.val → (k.val * 1000000000000) / Nat.gcd 1000000000000 (k.val * 1000000000000) ≤ 256 := by decide +kernel
theorem mem_le_isum {ps : List Int} (h : ∀ p ∈ ps, 0 ≤ p) {x : Int} (hx : x ∈ ps) : x ≤ ps.sum := by
  induction ps with
  | nil => cases hx
  | cons a ps ih =>
    rw [List.sum_cons]
    have h0 := isum_pos ps fun p hp => h p (List.mem_cons_of_mem _ hp)
    have ha := h a List.mem_cons_self
    rcases List.mem_cons.mp hx with rfl | hx
    · omega
    · have := ih (fun p hp => h p (List.mem_cons_of_mem _ hp)) hx
      omega
theorem nf_four {n : Nat} {b : Int} {ps : List Int} (hP : Parts n b ps) (hn : n ≤ 8) (h : ∀ p ∈ ps, pwB 4 p = true) : NFq (ptab ps) := by
  have h' : ∀ p ∈ ps, p = 1 ∨ p = 3 ∨ p = 1000000007 ∨ p = 1000000000000 := fun p hp => by
    have := h p hp
    unfold pwB at this
    simpa using this
  have hW := hP.sum
  have tabm : ∀ p ∈ ps, Rat.divInt p ps.sum ∈ ptab ps := fun p hp => List.mem_map.mpr ⟨p, hp, rfl⟩
  have hm : ∀ p ∈ ps, p ≤ ps.sum := fun p hp => mem_le_isum hP.pos hp
  by_cases big : ∃ p ∈ ps, 1000000007 ≤ p
  · obtain ⟨p, hp, hp2⟩ := big
    have hWb : 1000000007 ≤ ps.sum := by have := hm p hp; omega
    by_cases c1 : (1 : Int) ∈ ps
    · refine .inl ⟨_, tabm 1 c1, ?_⟩
      have := den_of 1 ps.sum hW.1
      rw [show Nat.gcd (1 : Int).natAbs ps.sum.natAbs = 1 from Nat.gcd_one_left _] at this
      omega
    by_cases c3 : (3 : Int) ∈ ps
    · refine .inl ⟨_, tabm 3 c3, ?_⟩
      have e := den_of 3 ps.sum hW.1
      have hg : Nat.gcd (3 : Int).natAbs ps.sum.natAbs ≤ 3 := Nat.le_of_dvd (by decide) (Nat.gcd_dvd_left _ _)
      have hg0 : 0 < Nat.gcd (3 : Int).natAbs ps.sum.natAbs := Nat.gcd_pos_of_pos_left _ (by decide)
      have : ps.sum / 3 ≤ ps.sum / ((Nat.gcd (3 : Int).natAbs ps.sum.natAbs : Nat) : Int) := by
        generalize Nat.gcd (3 : Int).natAbs ps.sum.natAbs = g at *
        obtain rfl | rfl | rfl : g = 1 ∨ g = 2 ∨ g = 3 := by omega
        all_goals omega
      omega
    have hab : ∀ p ∈ ps, p = 1000000007 ∨ p = 1000000000000 := fun p hp => by
      rcases h' p hp with e | e | e | e
      · exact absurd (e ▸ hp) c1
      · exact absurd (e ▸ hp) c3
      · exact .inl e
      · exact .inr e
    obtain ⟨k, l, e1, e2, e3, e4, e5, e6⟩ := sum_AB hab
    rw [hP.len] at e1
    have hWn : ps.sum.natAbs = k * 1000000007 + l * 1000000000000 := by omega
    have dn : ∀ p : Int, 0 ≤ p → (Rat.divInt p ps.sum).den = (k * 1000000007 + l * 1000000000000) / Nat.gcd p.toNat (k * 1000000007 + l * 1000000000000) := fun p hp => by
      have e := den_of p ps.sum hW.1
      rw [hWn, show p.natAbs = p.toNat by omega] at e
      have : ps.sum = ((k * 1000000007 + l * 1000000000000 : Nat) : Int) := by omega
      rw [this, ← Int.natCast_ediv] at e
      have := Int.ofNat_inj.mp e
      rw [← this]
      congr 2
    rcases Nat.eq_zero_or_pos k with k0 | k0
    · refine .inr fun q hq => ?_
      unfold ptab at hq
      obtain ⟨p, hp, rfl⟩ := List.mem_map.mp hq
      rw [e5 k0 p hp, dn _ (by decide), k0]
      have l0 : 0 < l := by
        rcases Nat.eq_zero_or_pos l with z | z
        · rw [k0, z] at hWn; omega
        · exact z
      have := near_decB ⟨l, by omega⟩ l0
      simpa using this
    · rcases Nat.eq_zero_or_pos l with l0 | l0
      · refine .inr fun q hq => ?_
        unfold ptab at hq
        obtain ⟨p, hp, rfl⟩ := List.mem_map.mp hq
        rw [e6 l0 p hp, dn _ (by decide), l0]
        have := near_decA ⟨k, by omega⟩ k0
        simpa using this
      · refine .inl ⟨_, tabm _ (e3 k0), ?_⟩
        rw [dn _ (by decide)]
        exact far_dec ⟨k, by omega⟩ ⟨l, by omega⟩ k0 l0
  · have hsm : ∀ p ∈ ps, p ≤ 3 := fun p hp => by
      rcases h' p hp with e | e | e | e
      · omega
      · omega
      · exact absurd ⟨p, hp, by omega⟩ big
      · exact absurd ⟨p, hp, by omega⟩ big
    have := isum_le ps hsm
    rw [hP.len] at this
    exact nf_small hW.1 (by omega)
end Fx
namespace Fx
open PySem PySem.Spec PyProof.Rows L2 RZ MR
theorem pw_le {i : Int} (h : pwB 1 i = true) : i ≤ 5 := by
  unfold pwB at h
  rw [if_neg (by decide), if_neg (by decide)] at h
  have := of_decide_eq_true h
  omega
theorem nf_way {n : Nat} {b w : Int} {ps : List Int} (hP : Parts n b ps) (hn : n ≤ 8) (w0 : 0 ≤ w) (w4 : w ≤ 4) (h : ∀ p ∈ ps, pwB w p = true) : NFq (ptab ps) := by
  by_cases c : w = 4
  · subst c
    exact nf_four hP hn h
  · have hs : ∀ p ∈ ps, p ≤ 30 := fun p hp => by
      have := h p hp
      unfold pwB at this
      rw [if_neg c] at this
      split at this <;> (have := of_decide_eq_true this; omega)
    have := isum_le ps hs
    rw [hP.len] at this
    exact nf_small hP.sum.1 (by omega)
end Fx
namespace Fx
open PySem PySem.Spec PyProof.Rows L2 RZ
def bareK (K : PySem.W.Frag) (x : V) (H : Hp) : Prop := bareV "tuple" x H ∨ tyV K "tuple" x H
def tCnt (K : PySem.W.Frag) (to : TE) (t : TA) : TE := fun σ H Q => to σ H fun x H1 => bareK K x H1 ∧ t σ H1 fun xs H2 => rCountF K x xs H2 Q
theorem pe_cnt {X : Cx} {o e : Expr} {es : List Expr} {to : TE} {t : TA} {apos cpos : Pos} (hu : X.A.units + 64 < cLine) (ho : PE X o to) (ha : PA X (e :: es) t)
    (hbase : attributeBase o "count" X.env (eval o X.env) = eval o X.env := by rfl)
    (hfew : ((backTo cpos (starEach (e :: es) X.env)).all (fun x => !x.1) && (backToKw cpos (keywordEach [] X.env)).all (fun x => x.1.isSome)
      && decide ((e :: es).length + ([] : List Keyword).length + (if ([] : List Keyword).isEmpty then 0 else 1) < 30)) = true := by rfl)
    (hline : (apos.endLine == cpos.line) = true := by rfl) (hs : starEach (e :: es) X.env = (false, eval e X.env) :: starEach es X.env := by rfl) (hplain : (backTo cpos (starEach es X.env)).any (·.1) = false := by rfl) :
    PE X (.Call (.Attribute o "count" apos) (e :: es) [] cpos) (tCnt X.K to t) := by
  refine ⟨fun pins s σ H Q I h => wpAny_Call_method_late hbase hfew hline rfl (thn (ho.run pins s σ H _ I h) fun v s1 ⟨x, H1, I1, r1, ty, q1⟩ => ?_)⟩
  obtain ⟨g1, g2⟩ : s1.TypeIs v "tuple" ∧ ∀ a, v = .ref a → ∃ ob, s1.heap.get? a = some ob ∧ ob.dict = none := by
    rcases ty with z | z
    · exact bareV_is I1 r1 z
    · exact tyV_is I1 r1 z
  refine ⟨"tuple", "tuple.count", F.plainAttrs_tuple, F.slot_tuple_count, F.type_tuple_count, g1, g2, ?_⟩
  have hA := ha.run cpos pins s1 σ H1 _ I1 q1
  rw [hs] at hA ⊢
  exact Calls.callWith_builtin (by show (false || (backTo cpos (starEach es X.env)).any (·.1)) = false; rw [hplain] <;> rfl) (Calls.evalArgs_plain (thn hA fun us s2 ⟨vs, H2, I2, r2, q2⟩ => mt_countF hu pins s2 σ H2 x vs v us Q I2 r1 r2 q2))
theorem pek_cnt (K : PySem.W.Frag) {X : Cx} (h : X.K = K) {o e : Expr} {es : List Expr} {to : TE} {t : TA} {apos cpos : Pos} (hu : X.A.units + 64 < cLine) (ho : PE X o to) (ha : PA X (e :: es) t)
    (hbase : attributeBase o "count" X.env (eval o X.env) = eval o X.env := by rfl)
    (hfew : ((backTo cpos (starEach (e :: es) X.env)).all (fun x => !x.1) && (backToKw cpos (keywordEach [] X.env)).all (fun x => x.1.isSome)
      && decide ((e :: es).length + ([] : List Keyword).length + (if ([] : List Keyword).isEmpty then 0 else 1) < 30)) = true := by rfl)
    (hline : (apos.endLine == cpos.line) = true := by rfl) (hs : starEach (e :: es) X.env = (false, eval e X.env) :: starEach es X.env := by rfl) (hplain : (backTo cpos (starEach es X.env)).any (·.1) = false := by rfl) :
    PE X (.Call (.Attribute o "count" apos) (e :: es) [] cpos) (tCnt K to t) := h ▸ pe_cnt hu ho ha hbase hfew hline hs hplain
section
variable {K : PySem.W.Frag} {d : Wd} {H : Hp} {a : Addr} {vs : List V}
theorem TupAt.bare (h : TupAt K d H a vs) : bareK K (.ref a) H := by
  rcases h with ⟨⟨o, q, hc, hd⟩, _⟩ | ⟨_, o, q, hc, hd⟩
  · exact .inl ⟨a, o, _, rfl, q, hc, hd⟩
  · exact .inr (.inr (.inl ⟨rfl, o, q, hc, hd⟩))
def cntI (ns : List Int) (i : Int) : Nat := ns.count i
def mCnt (mo : ME) (ma : MA) : ME := fun ρ μ P => mo ρ μ fun x μ1 => match x with | .tup ys => (match intsP ys with | some ns => ma ρ μ1 fun zs μ2 => (match zs with | [.int i] => P (.int (cntI ns i : Nat)) μ2 | _ => False) | none => False) | _ => False
theorem dps_ints {H : Hp} : ∀ (ns : List Int), DpAll K H (ns.map V.int) (ns.map PyData.int)
  | [] => .nil
  | n :: ns => .cons (.int n) (dps_ints ns)
theorem plain_intsC : ∀ l : List Int, PyData.plainAll (l.map PyData.int) = true
  | [] => rfl
  | _ :: l => plain_intsC l
theorem count_ints (i : Int) : ∀ ns : List Int, ((ns.map PyData.int).countP fun z => PyData.eqv z (.int i)) = cntI ns i
  | [] => rfl
  | n :: ns => by
    rw [List.map_cons, List.countP_cons, count_ints i ns]
    unfold cntI
    rw [List.count_cons]
    rfl
instance {to mo t ma} [ho : FE K to mo] [ha : FA K t ma] : FE K (tCnt K to t) (mCnt mo ma) := ⟨fun d σ H ρ μ P Q w e q k => by
  refine ho.run d σ H ρ μ _ _ w e q fun d1 H1 μ1 x v e1 w1 r1 q1 => ?_
  cases r1 with
  | @tup ys a vs h1 h2 =>
    simp only at q1
    cases e2 : intsP ys with
    | none => rw [e2] at q1; exact q1.elim
    | some ns =>
      rw [e2] at q1
      have ev := RVs.ints_of h2 (intsP_of e2)
      subst ev
      refine ⟨h1.bare, ha.run d1 σ H1 ρ μ1 _ _ w1 (e.mono e1) q1 fun d2 H2 μ2 zs us e2 w2 r2 q2 => ?_⟩
      match zs, r2, q2 with
      | [.int i], .cons (.int _) .nil, q2 =>
        refine ⟨.int i, .int i, ns.map PyData.int, rfl, .tup (e2.tupAt h1).sq (dps_ints ns), .int i, plain_intsC ns, rfl, by show (0 : Nat) ≤ 60; decide, ?_⟩
        rw [count_ints]
        exact k d2 H2 μ2 _ _ (e1.trans e2) w2 (.int _) q2
  | _ => exact q1.elim⟩
end
end Fx
namespace Fx
open PySem PySem.Spec PyProof.Rows L2 RZ MR
theorem valT_putA (kvs : List (List Int × PV)) (k k' : List Int) (x : PV) : valT (putT kvs k x) k' = if k = k' then some x else valT kvs k' := by
  unfold putT
  split
  · rename_i c
    induction kvs with
    | nil => simp [valT] at c
    | cons p kvs ih =>
      by_cases e : p.1 = k
      · by_cases e' : k = k'
        · simp [valT, List.find?_cons, e, e']
        · have e2 : ¬ p.1 = k' := fun z => e' (e.symm.trans z)
          have h1 : valT (List.map (fun kv => if kv.1 = k then (kv.1, x) else kv) (p :: kvs)) k' = valT (List.map (fun kv => if kv.1 = k then (kv.1, x) else kv) kvs) k' := by
            rw [List.map_cons, if_pos e]
            simp [valT, List.find?_cons, e2]
          have h2 : valT (p :: kvs) k' = valT kvs k' := by simp [valT, List.find?_cons, e2]
          rw [h1, h2, if_neg e']
          clear h1 h2 c ih
          induction kvs with
          | nil => rfl
          | cons q kvs ih2 =>
            rw [List.map_cons]
            by_cases f : q.1 = k
            · rw [if_pos f]
              have f2 : ¬ q.1 = k' := fun z => e' (f.symm.trans z)
              simp only [valT, List.find?_cons, f2, decide_false] at ih2 ⊢
              exact ih2
            · rw [if_neg f]
              by_cases f2 : q.1 = k'
              · simp [valT, List.find?_cons, f2]
              · simp only [valT, List.find?_cons, f2, decide_false] at ih2 ⊢
                exact ih2
      · have c' : (valT kvs k).isSome = true := by
          have : valT (p :: kvs) k = valT kvs k := by simp [valT, List.find?_cons, e]
          rw [this] at c; exact c
        have := ih c'
        rw [List.map_cons, if_neg e]
        by_cases e2 : p.1 = k'
        · have : ¬ k = k' := fun z => e (e2.trans z.symm)
          simp [valT, List.find?_cons, e2, this]
        · have h2 : valT (p :: kvs) k' = valT kvs k' := by simp [valT, List.find?_cons, e2]
          rw [h2, ← this]
          simp [valT, List.find?_cons, e2]
  · rename_i c
    unfold valT at c ⊢
    rw [List.find?_append]
    by_cases e : k = k'
    · subst e
      rw [if_pos rfl]
      cases h : kvs.find? (fun kv => decide (kv.1 = k)) with
      | none => simp
      | some y => rw [h] at c; simp at c
    · rw [if_neg e]
      cases h : kvs.find? (fun kv => decide (kv.1 = k')) with
      | none => simp [List.find?_cons, e]
      | some y => simp
theorem putT_lenA (kvs : List (List Int × PV)) (k : List Int) (x : PV) : (putT kvs k x).length ≤ kvs.length + 1 := by
  unfold putT
  split <;> simp
theorem putT_memA {kvs : List (List Int × PV)} {k : List Int} {x : PV} : ∀ kv ∈ putT kvs k x, kv.1 = k ∨ kv.1 ∈ kvs.map (·.1) := by
  intro kv h
  unfold putT at h
  split at h
  · obtain ⟨p, hp, rfl⟩ := List.mem_map.mp h
    right
    split
    · exact List.mem_map.mpr ⟨p, hp, rfl⟩
    · exact List.mem_map.mpr ⟨p, hp, rfl⟩
  · rcases List.mem_append.mp h with h | h
    · exact .inr (List.mem_map.mpr ⟨kv, h, rfl⟩)
    · left
      rw [List.mem_singleton.mp h]
theorem tkP_lotA (w : List Nat) : tkP (lotP w) = some (zs w) := by
  have key : ∀ l : List Int, intsP (l.map PV.int) = some l := fun l => by
    induction l with
    | nil => rfl
    | cons a l ih => rw [List.map_cons, intsP, ih]; rfl
  have e : lotP w = .tup ((zs w).map PV.int) := by rw [lotP, zs, List.map_map]; rfl
  rw [e]
  exact key _
theorem tk_lotA (w : List Nat) : tkK (zs w) = lotP w := by
  show PV.tup ((zs w).map PV.int) = lotP w
  rw [lotP, zs, List.map_map]; rfl
def csum (qs : List Rat) (pre : List (List Nat)) (c : List Nat) : Rat := (pre.map fun r => if cts qs.length r = c then rowq qs r else 0).sum
theorem csum_snoc (qs : List Rat) (pre : List (List Nat)) (r c : List Nat) : csum qs (pre ++ [r]) c = csum qs pre c + if cts qs.length r = c then rowq qs r else 0 := by
  unfold csum
  rw [List.map_append, sum_append]
  show _ + (_ + 0) = _
  rw [Rat.add_zero]
theorem zs_inj {a b : List Nat} (h : zs a = zs b) : a = b := by
  unfold zs at h
  induction a generalizing b with
  | nil =>
    cases b with
    | nil => rfl
    | cons y b => simp at h
  | cons x a ih =>
    cases b with
    | nil => simp at h
    | cons y b =>
      simp only [List.map_cons, List.cons.injEq] at h
      rw [ih h.2, show x = y by have := h.1; omega]
structure KC (qs : List Rat) (pre : List (List Nat)) (kvs : List (List Int × PV)) : Prop where
  val : ∀ c : List Nat, (valT kvs (zs c)).getD (frP 0) = frP (csum qs pre c)
  has : ∀ r ∈ pre, valT kvs (zs (cts qs.length r)) = some (frP (csum qs pre (cts qs.length r)))
  mem : ∀ kv ∈ kvs, ∃ r ∈ pre, kv.1 = zs (cts qs.length r)
  len : kvs.length ≤ pre.length
theorem KC.start (qs : List Rat) : KC qs [] [] := ⟨fun c => rfl, fun r h => by simp at h, fun kv h => by simp at h, Nat.le_refl _⟩
theorem KC.step {qs : List Rat} {pre : List (List Nat)} {kvs : List (List Int × PV)} (h : KC qs pre kvs) (r : List Nat) : KC qs (pre ++ [r]) (putT kvs (zs (cts qs.length r)) (frP (csum qs pre (cts qs.length r) + rowq qs r))) := by
  refine ⟨fun c => ?_, fun x hx => ?_, fun kv hk => ?_, ?_⟩
  · rw [valT_putA, csum_snoc]
    by_cases e : cts qs.length r = c
    · subst e
      rw [if_pos rfl, if_pos rfl]; rfl
    · rw [if_neg fun z => e (zs_inj z), if_neg e, Rat.add_zero]
      exact h.val c
  · rw [valT_putA, csum_snoc]
    by_cases e : cts qs.length r = cts qs.length x
    · rw [← e, if_pos rfl, if_pos rfl]
    · rw [if_neg fun z => e (zs_inj z), if_neg e, Rat.add_zero]
      rcases List.mem_append.mp hx with hx | hx
      · exact h.has x hx
      · rw [List.mem_singleton.mp hx] at e
        exact absurd rfl e
  · rcases putT_memA kv hk with e | e
    · exact ⟨r, by simp, e⟩
    · obtain ⟨p, hp, e⟩ := List.mem_map.mp e
      obtain ⟨x, hx, e2⟩ := h.mem p hp
      exact ⟨x, List.mem_append_left _ hx, by rw [← e, e2]⟩
  · rw [List.length_append]
    exact Nat.le_trans (putT_lenA _ _ _) (Nat.add_le_add_right h.len 1)
theorem cts_sum {n : Nat} : ∀ {r : List Nat}, (∀ i ∈ r, i < n) → (cts n r).sum = r.length := by
  intro r hr
  have key : ∀ (m : Nat), ((List.range m).map fun i => r.count i).sum = r.countP fun x => decide (x < m) := by
    intro m
    induction m with
    | zero => simp
    | succ m ih =>
      rw [List.range_succ, List.map_append, List.sum_append, ih]
      simp only [List.map_cons, List.map_nil, List.sum_cons, List.sum_nil, Nat.add_zero]
      clear ih hr
      induction r with
      | nil => rfl
      | cons a r ih =>
        rw [List.countP_cons, List.countP_cons, List.count_cons]
        by_cases h1 : a < m
        · have h2 : a < m + 1 := by omega
          have h3 : (a == m) = false := by simpa using (by omega : ¬ a = m)
          simp only [h1, h2, h3, decide_true, if_true, Bool.false_eq_true, if_false]
          omega
        · by_cases h4 : a = m
          · subst h4
            simp only [Nat.lt_irrefl, decide_false, Bool.false_eq_true, if_false, Nat.lt_succ_self, decide_true, if_true, beq_self_eq_true]
            omega
          · have h2 : ¬ a < m + 1 := by omega
            have h3 : (a == m) = false := by simpa using h4
            simp only [h1, h2, h3, decide_false, Bool.false_eq_true, if_false]
            omega
  unfold cts
  rw [key n]
  exact List.countP_eq_length.mpr fun x hx => by simpa using hr x hx
theorem cts_le {n : Nat} {r : List Nat} : ∀ c ∈ cts n r, c ≤ r.length := fun c hc => by
  obtain ⟨i, _, rfl⟩ := List.mem_map.mp hc
  exact List.count_le_length
theorem rowq_cm {qs : List Rat} {D : Nat} (hq : ∀ q ∈ qs, Cm D q) : ∀ {r : List Nat} {p : Rat} {n : Nat}, (∀ i ∈ r, i < qs.length) → Cm (D ^ n) p → Cm (D ^ (n + r.length)) (r.foldl (fun x i => x * qs.getD i 0) p)
  | [], p, n, _, h => h
  | i :: r, p, n, hr, h => by
    have := rowq_cm hq (r := r) (p := p * qs.getD i 0) (n := n + 1) (fun j hj => hr j (List.mem_cons_of_mem _ hj)) (by rw [Nat.pow_succ]; exact h.mul (hq _ (getD_memM (hr i List.mem_cons_self))))
    rw [List.foldl_cons, List.length_cons, show n + (r.length + 1) = n + 1 + r.length by omega]
    exact this
theorem csum_cm {qs : List Rat} {E : Nat} {c : List Nat} {pre : List (List Nat)} (h : ∀ r ∈ pre, Cm E (rowq qs r)) : Cm E (csum qs pre c) := by
  refine Cm.sum fun q hq => ?_
  obtain ⟨r, hr, rfl⟩ := List.mem_map.mp hq
  split
  · exact h r hr
  · exact ⟨0, by rw [Rat.zero_mul]; rfl⟩
theorem csum_bd {qs : List Rat} {c : List Nat} : ∀ {pre : List (List Nat)}, (∀ r ∈ pre, 0 ≤ rowq qs r ∧ rowq qs r ≤ 1) → 0 ≤ csum qs pre c ∧ csum qs pre c ≤ ((pre.length : Nat) : Rat)
  | [], _ => ⟨Rat.le_refl, Rat.le_refl⟩
  | r :: pre, h => by
    obtain ⟨a0, a1⟩ := h r List.mem_cons_self
    obtain ⟨b0, b1⟩ := csum_bd (qs := qs) (c := c) (pre := pre) fun x hx => h x (List.mem_cons_of_mem _ hx)
    have e : csum qs (r :: pre) c = (if cts qs.length r = c then rowq qs r else 0) + csum qs pre c := rfl
    rw [e, List.length_cons, Rat.natCast_add]
    split <;> constructor <;> grind
theorem tdP_tk2 (μ : Store) (kvs : List (List Int × PV)) (x : MO) : tdP (.mr μ.length) (μ ++ [.tk kvs, x]) = some kvs := by
  unfold tdP
  simp
theorem tdP_ft2 (μ : Store) (o : Obj) (ks : List (List Int × Addr × V)) (kvs : List (List Int × PV)) (x : MO) : tdP (.mr μ.length) (μ ++ [.ft o ks kvs, x]) = some kvs := by
  unfold tdP
  simp
theorem frac_sm {E : Nat} {q : Rat} (h : Cm E q) (hE : 0 < E) (h1 : E < 2 ^ 177) (h0 : 0 ≤ q) {k : Nat} (hk : q ≤ ((k : Nat) : Rat)) (hl : k ≤ 100) : Sm 184 q := by
  have this : ((k : Nat) : Rat) < ((2 ^ 7 : Nat) : Rat) := Rat.natCast_lt_natCast.mpr (by omega)
  exact (h.sm hE h1 (m := 7) h0 (by grind)).mono (by decide)
theorem intsP_lot (w : List Nat) : intsP (w.map fun (n : Nat) => PV.int n) = some (zs w) := by
  have key : ∀ l : List Int, intsP (l.map PV.int) = some l := fun l => by
    induction l with
    | nil => rfl
    | cons a l ih => rw [List.map_cons, intsP, ih]; rfl
  have := key (zs w)
  rw [zs, List.map_map] at this
  exact this
theorem cntI_zs (i : Nat) : ∀ r : List Nat, cntI (zs r) (i : Int) = r.count i
  | [] => rfl
  | a :: r => by
    have := cntI_zs i r
    unfold cntI zs at this ⊢
    rw [List.map_cons, List.count_cons, List.count_cons, this]
    congr 1
    by_cases e : a = i
    · subst e; simp
    · have : ¬ ((a : Nat) : Int) = (i : Nat) := by omega
      simp [e, this]
theorem row_cm {qs : List Rat} {D : Nat} (hq : ∀ q ∈ qs, Cm D q) {L : Nat} {r : List Nat} (hr : r ∈ allr qs.length L) : Cm (D ^ L) (rowq qs r) := by
  have := rowq_cm hq (r := r) (p := 1) (n := 0) (fun i hi => allr_lt hr i hi) ⟨1, by rw [Nat.pow_zero, Rat.one_mul]; rfl⟩
  rw [allr_mem hr, Nat.zero_add] at this
  exact this
theorem row_unit {n : Nat} {qs : List Rat} (hT : Tab n qs) {L : Nat} {r : List Nat} (hr : r ∈ allr qs.length L) : 0 ≤ rowq qs r ∧ rowq qs r ≤ 1 :=
  rowq_unit (fun q hq => ⟨hT.pos q hq, hT.le1 hq⟩) (allr_lt hr) (by decide) Rat.le_refl
theorem csum_all {n : Nat} {qs : List Rat} {L : Nat} {r : List Nat} (hT : Tab n qs) (hr : r ∈ allr qs.length L) : csum qs (allr qs.length L) (cts qs.length r) = ccq qs (cts qs.length r) := by
  have hs := cts_sum (allr_lt hr)
  rw [allr_mem hr] at hs
  unfold csum ccq
  rw [rows_cc (cts_len _ _) hs, hs]
theorem shbb_lst {d l : Nat} {xs : List PV} (h : ∀ x ∈ xs, ShBB d l x) : ShBB (d + 1) (xs.length * (l + 2) + 3) (.lst xs) := by
  obtain ⟨es, a1, a2, a3, a4, a5⟩ := shbb_all h
  refine ⟨.list es, ?_, a2, ?_, ?_⟩
  · simp [datP, a1]
  · show PyData.depthAll es + 1 ≤ d + 1
    omega
  · have := listText_len_le (PyData.shownAll es)
    show (listText (PyData.shownAll es)).length ≤ _
    rw [Nat.mul_add]
    rw [a5] at this
    omega
theorem pReprB_lst {xs : List PV} {d l : Nat} {μ : Store} {P : PV → Store → Prop} (h : ShBB d l (.lst xs)) (hd : d ≤ 60) (hl : l ≤ lim) (hP : P (.str (shwP (.lst xs))) μ) : pReprB [.lst xs] μ P := by
  obtain ⟨e, a1, a2, a4, a5⟩ := h
  have e1 : datP (frzP (.lst xs) μ) = some e := a1
  have e2 : shwP (.lst xs) = e.shown := by unfold shwP; rw [a1]
  have hs : isSeqD e = true := by
    simp only [datP] at a1
    cases z : datPs xs with
    | none => rw [z] at a1; cases a1
    | some es => rw [z] at a1; cases a1; rfl
  unfold pReprB
  simp only [e1]
  rw [e2] at hP
  exact ⟨⟨hs, a2, by omega, by omega⟩, hP⟩
theorem pReprB_frs {qs : List Rat} {n : Nat} {μ : Store} {P : PV → Store → Prop} (h : ∀ q ∈ qs, Sm n q) (hn : n ≤ 12900) (hl : qs.length ≤ 20) (hP : P (.str (shwP (.lst (qs.map frP)))) μ) : pReprB [.lst (qs.map frP)] μ P := by
  refine pReprB_lst (d := 2) (l := 600000) ((shbb_lst (d := 1) (l := 26000) fun x hx => ?_).mono (by decide) (by rw [List.length_map]; omega)) (by decide) (by decide) hP
  obtain ⟨q, hq, rfl⟩ := List.mem_map.mp hx
  exact shbb_fr (h q hq) hn
theorem pReprB_fr {q : Rat} {n : Nat} {μ : Store} {P : PV → Store → Prop} (h : Sm n q) (hn : n ≤ 12900) (hP : P (.str (shwP (frP q))) μ) : pReprB [frP q] μ P :=
  pReprB_tup (shbb_fr h hn) (by decide) (by decide) hP
theorem rowq_app (qs : List Rat) (r s : List Nat) : rowq qs (r ++ s) = rowq qs r * rowq qs s := by
  have key : ∀ (s : List Nat) (p : Rat), s.foldl (fun x i => x * qs.getD i 0) p = p * rowq qs s := by
    intro s
    induction s with
    | nil => intro p; show p = p * 1; rw [Rat.mul_one]
    | cons a s ih =>
      intro p
      show s.foldl (fun x i => x * qs.getD i 0) (p * qs.getD a 0) = p * (s.foldl (fun x i => x * qs.getD i 0) (1 * qs.getD a 0))
      rw [ih, ih, Rat.one_mul, Rat.mul_assoc]
  unfold rowq
  rw [List.foldl_append, key]
  rfl
theorem lc_drawsR {α : Type} {enc : α → PV} {g : MG} {e : ME} {ρ0 : PEnv} {P : List PV → Store → Prop} {m : Int} {G : Store} (many : Nat) : ∀ {l : List α} {r : List Nat} {μ : Store}, Dk m G μ → (∀ i ∈ r, i < many) →
    (∀ a ∈ l, ∀ (ν : Store) (k : PV → Store → Prop), Dk m G ν → (∀ (n : Int) (ν' : Store), 0 ≤ n → n < (many : Nat) → Dk m G ν' → k (.int n) ν') → g (enc a) ρ0 ν fun ρ1 μ1 => e ρ1 μ1 k) →
    (∀ (s : List Nat) (ν : Store), s.length = r.length + l.length → (∀ i ∈ s, i < many) → Dk m G ν → P (s.map fun (n : Nat) => PV.int n) ν) → mLcL g mYes e ρ0 P (l.map enc) (r.map fun (n : Nat) => PV.int n) μ
  | [], r, μ, hD, hr, _, hP => hP r μ rfl hr hD
  | a :: l, r, μ, hD, hr, h, hP => by
    show g (enc a) ρ0 μ fun ρ1 μ1 => e ρ1 μ1 fun y μ3 => mLcL g mYes e ρ0 P (l.map enc) ((r.map fun (n : Nat) => PV.int n) ++ [y]) μ3
    refine h a List.mem_cons_self μ _ hD fun n ν' h0 hn hD' => ?_
    have := lc_drawsR many (l := l) (r := r ++ [n.toNat]) (μ := ν') hD' (fun i hi => by
      rcases List.mem_append.mp hi with hi | hi
      · exact hr i hi
      · rw [List.mem_singleton.mp hi]; omega) (fun b hb => h b (List.mem_cons_of_mem _ hb)) (fun s ν hs => hP s ν (by simp only [hs, List.length_append, List.length_cons, List.length_nil]; omega))
    rw [List.map_append, List.map_singleton, Int.toNat_of_nonneg h0] at this
    exact this
theorem lc_draws {α : Type} {enc : α → PV} {g : MG} {e : ME} {ρ0 : PEnv} {P : List PV → Store → Prop} {m : Int} {G : Store} (many : Nat) {l : List α} {μ : Store} (hD : Dk m G μ)
    (h : ∀ a ∈ l, ∀ (ν : Store) (k : PV → Store → Prop), Dk m G ν → (∀ (n : Int) (ν' : Store), 0 ≤ n → n < (many : Nat) → Dk m G ν' → k (.int n) ν') → g (enc a) ρ0 ν fun ρ1 μ1 => e ρ1 μ1 k)
    (hP : ∀ (r : List Nat) (ν : Store), r.length = l.length → (∀ i ∈ r, i < many) → Dk m G ν → P (r.map fun (n : Nat) => PV.int n) ν) : mLcL g mYes e ρ0 P (l.map enc) [] μ :=
  lc_drawsR many (r := []) hD (fun i hi => by simp at hi) h fun s ν hs => hP s ν (by simpa using hs)
theorem ccq_sm {qs : List Rat} {cs : List Nat} {z : Nat} (hq : ∀ q ∈ qs, 0 ≤ q ∧ q ≤ 1 ∧ q.den ≤ 2 ^ z) (hl : cs.length = qs.length) (hs : cs.sum ≤ 320) (hz : z * cs.sum ≤ 2650) : Sm 6500 (ccq qs cs) := by
  have hlt : ∀ i ∈ rwc 0 cs, i < qs.length := fun i hi => by have := rwc_lt i hi; omega
  have hlen := rwc_len cs 0
  have hv := rowq_rwc hl
  have hden := rowq_den (qs := qs) (z := z) (fun q hq' => (hq q hq').2.2) (r := rwc 0 cs) (p := 1) (n := 0) hlt (by decide)
  rw [hlen, Nat.zero_add] at hden
  have hu := rowq_unit (qs := qs) (fun q hq' => ⟨(hq q hq').1, (hq q hq').2.1⟩) (r := rwc 0 cs) (p := 1) hlt (by decide) Rat.le_refl
  obtain ⟨a, ha, had⟩ := num_le (q := rowq qs (rwc 0 cs)) hu.1 hu.2
  have hcw := cw_lt (cs := cs) (by omega)
  have hp1 : 2 ^ (z * cs.sum) ≤ 2 ^ 2650 := Nat.pow_le_pow_right (by decide) hz
  have hp2 : (2 : Nat) ^ 2650 < 2 ^ 2660 := Nat.pow_lt_pow_right (by decide) (by decide)
  have hd0 := (rowq qs (rwc 0 cs)).den_pos
  have hden2 : (rowq qs (rwc 0 cs)).den ≤ 2 ^ (z * cs.sum) := hden
  have hd : (rowq qs (rwc 0 cs)).den < 2 ^ 2660 := by omega
  have e : ccq qs cs = Rat.divInt ((rowq qs (rwc 0 cs)).num * ((cw cs : Nat) : Int)) (((rowq qs (rwc 0 cs)).den : Nat) : Int) := by
    rw [ccq_int, hv, ← ccq_cw hl.symm]
  have hnum : (Rat.divInt ((rowq qs (rwc 0 cs)).num * ((cw cs : Nat) : Int)) (((rowq qs (rwc 0 cs)).den : Nat) : Int)).num.natAbs ≤ ((rowq qs (rwc 0 cs)).num * ((cw cs : Nat) : Int)).natAbs := by
    rw [(divInt_parts _ _ (by omega)).1, Int.natAbs_ediv_of_dvd (Int.ofNat_dvd_left.mpr (Nat.gcd_dvd_left _ _))]
    exact Nat.div_le_self _ _
  have hdn : (Rat.divInt ((rowq qs (rwc 0 cs)).num * ((cw cs : Nat) : Int)) (((rowq qs (rwc 0 cs)).den : Nat) : Int)).den ≤ (rowq qs (rwc 0 cs)).den := Nat.le_of_dvd hd0 (den_dvdA hd0)
  rw [← e] at hnum hdn
  constructor
  · refine Nat.lt_of_le_of_lt hnum ?_
    rw [Int.natAbs_mul, Int.natAbs_natCast, ha, Int.natAbs_natCast]
    have h1 : a < 2 ^ 2660 := by omega
    refine Nat.lt_of_lt_of_le (Nat.mul_lt_mul'' h1 hcw) ?_
    rw [← Nat.pow_add]
    exact Nat.pow_le_pow_right (by decide) (by decide)
  · exact Nat.lt_of_le_of_lt hdn (Nat.lt_trans hd (Nat.pow_lt_pow_right (by decide) (by decide)))
theorem ccq_cm {qs : List Rat} {cs : List Nat} {D : Nat} (hq : ∀ q ∈ qs, Cm D q) (hl : cs.length = qs.length) : Cm (D ^ cs.sum) (ccq qs cs) := by
  have h1 := rowq_cm hq (r := rwc 0 cs) (p := 1) (n := 0) (fun i hi => by have := rwc_lt i hi; omega) ⟨1, by rw [Nat.pow_zero, Rat.one_mul]; rfl⟩
  rw [rwc_len, Nat.zero_add] at h1
  have h2 := cm_int 1 ((cw cs : Nat) : Int)
  have := h2.mul h1
  rw [Nat.one_mul] at this
  rw [ccq_cw hl.symm, ← rowq_rwc hl]
  exact this
theorem ccq_nn {qs : List Rat} {cs : List Nat} (hq : ∀ q ∈ qs, 0 ≤ q ∧ q ≤ 1) (hl : cs.length = qs.length) : 0 ≤ ccq qs cs := by
  rw [ccq_cw hl.symm, ← rowq_rwc hl]
  exact Rat.mul_nonneg (Rat.natCast_nonneg) (rowq_unit hq (r := rwc 0 cs) (p := 1) (fun i hi => by have := rwc_lt i hi; omega) (by decide) Rat.le_refl).1
theorem allc_few : ∀ n : Fin 9, ∀ w : Fin 6, (w.val = 5 → n.val < 5) → (w.val = 5 ∨ w.val ≤ 3) → (allc n.val w.val).length ≤ 200 := by decide +kernel
theorem allc_unit {n : Nat} {qs : List Rat} (hT : Tab n qs) {w : Nat} {cs : List Nat} (hc : cs ∈ allc qs.length w) : 0 ≤ ccq qs cs ∧ ccq qs cs ≤ 1 := by
  have hn : ∀ c ∈ allc qs.length w, 0 ≤ ccq qs c := fun c hc => ccq_nn (fun q hq => ⟨hT.pos q hq, hT.le1 hq⟩) (allc_sum hc).2
  refine ⟨hn cs hc, ?_⟩
  have h1 := allc_cc w hT.ne hT.one
  have := mem_le_sum (List.mem_map.mpr ⟨cs, hc, rfl⟩ : ccq qs cs ∈ (allc qs.length w).map (ccq qs)) fun q hq => by
    obtain ⟨c, hc, rfl⟩ := List.mem_map.mp hq
    exact hn c hc
  rw [h1] at this
  exact this
theorem mem_le_nsum {x : Nat} : ∀ {l : List Nat}, x ∈ l → x ≤ l.sum
  | a :: l, h => by
    rw [List.sum_cons]
    rcases List.mem_cons.mp h with rfl | h
    · omega
    · have := mem_le_nsum h; omega
theorem allc_mem : ∀ {n : Nat} {c : List Nat}, c.length = n + 1 → c ∈ allc (n + 1) c.sum
  | 0, [x], _ => by simp [allc]
  | n + 1, x :: c, h => by
    have hc : c.length = n + 1 := by simpa using h
    have ih := allc_mem hc
    show x :: c ∈ (List.range ((x :: c).sum + 1)).flatMap fun f => (allc (n + 1) ((x :: c).sum - f)).map (f :: ·)
    rw [List.sum_cons]
    refine List.mem_flatMap.mpr ⟨x, List.mem_range.mpr (by omega), List.mem_map.mpr ⟨c, ?_, rfl⟩⟩
    rw [Nat.add_sub_cancel_left]
    exact ih
theorem ccq_unit {n : Nat} {qs : List Rat} (hT : Tab n qs) {cs : List Nat} (hl : cs.length = qs.length) : 0 ≤ ccq qs cs ∧ ccq qs cs ≤ 1 := by
  refine allc_unit hT (w := cs.sum) ?_
  have h1 : 0 < qs.length := List.length_pos_iff.mpr hT.ne
  obtain ⟨k, hk⟩ : ∃ k, qs.length = k + 1 := ⟨qs.length - 1, by omega⟩
  rw [hk] at hl ⊢
  exact allc_mem hl
theorem merged_cc {n : Nat} {qs : List Rat} (hT : Tab n qs) (h2 : 2 ≤ qs.length) : Tab n (ren qs (mergedN qs.length)) ∧ (ren qs (mergedN qs.length)).length = qs.length - 1 ∧ (∀ x ∈ mergedN qs.length, x ≤ 7) ∧ (mergedN qs.length).length = qs.length ∧
    ∀ (M : Nat) (rest : List Nat), ((List.range (M + 1)).map fun f => ccq qs (f :: (M - f) :: rest)).sum = ccq (ren qs (mergedN qs.length)) (M :: rest) := by
  match qs, h2 with
  | q0 :: q1 :: qs', _ =>
    have h8 := hT.len
    have h7 : ∀ x ∈ mergedN (q0 :: q1 :: qs').length, x ≤ 7 := fun x hx => by
      simp only [mergedN, List.mem_cons, List.mem_map, List.mem_range, List.length_cons] at hx h8
      rcases hx with rfl | rfl | ⟨i, hi, rfl⟩ <;> omega
    have hl : (mergedN (q0 :: q1 :: qs').length).length = (q0 :: q1 :: qs').length := by simp [mergedN]
    have e : ren (q0 :: q1 :: qs') (mergedN (q0 :: q1 :: qs').length) = (q0 + q1) :: qs' := mergedN_ren
    refine ⟨ren_tab hT hl h7, by rw [e]; simp, h7, hl, fun M rest => ?_⟩
    rw [e]
    exact parted q0 q1 qs' M rest
theorem pow_sz {a z : Nat} (h : a < 2 ^ z) (f : Nat) : a ^ f < 2 ^ (z * f + 1) := by
  have h1 : a ^ f ≤ (2 ^ z) ^ f := Nat.pow_le_pow_left (Nat.le_of_lt h) f
  rw [← Nat.pow_mul] at h1
  have : (2 : Nat) ^ (z * f) < 2 ^ (z * f + 1) := Nat.pow_lt_pow_right (by decide) (by omega)
  omega
end Fx
namespace Fx
open PySem PySem.Spec PyProof.Rows L2 RZ MR
abbrev S_is_integer : PSp := fun xs μ Q => xs.length = 1 ∧ ∃ i, xs = [.int i] ∧ Q (.bl true) μ
abbrev S_is_within : PSp := fun xs μ Q => xs.length = 3 ∧ ∃ (i lo hi : Int), xs = [.int i, .int lo, .int hi] ∧ Q (.bl (decide (lo ≤ i) && decide (i ≤ hi))) μ
abbrev S_are_integers : PSp := fun xs μ Q => xs.length = 3 ∧ ∃ (vs : List Int) (lo hi : Int), xs = [.tup (vs.map PV.int), .int lo, .int hi] ∧ vs.length ≤ lim ∧ Q (.bl (vs.all fun i => decide (lo ≤ i) && decide (i ≤ hi))) μ
abbrev S_lowest : PSp := fun xs μ Q => xs.length = 2 ∧ ∃ a b, xs = [.int a, .int b] ∧ 0 < b ∧ b.natAbs < 2 ^ 8900 ∧ Q (frP (Rat.divInt a b)) μ
abbrev S_added : PSp := fun xs μ Q => xs.length = 2 ∧ ∃ p q, xs = [frP p, frP q] ∧ Sm 4000 p ∧ Sm 4000 q ∧ Q (frP (p + q)) μ
abbrev S_times : PSp := fun xs μ Q => xs.length = 2 ∧ ∃ p q, xs = [frP p, frP q] ∧ Sm 4000 p ∧ Sm 4000 q ∧ Q (frP (p * q)) μ
abbrev S_total : PSp := fun xs μ Q => xs.length = 1 ∧ ∃ x qs, xs = [x] ∧ seqP x = some (qs.map frP) ∧ Sb 3900 qs ∧ Q (frP qs.sum) μ
abbrev S_is_fraction : PSp := fun xs μ Q => xs.length = 1 ∧ ∃ q, xs = [frP q] ∧ Q (.bl true) μ
abbrev S_is_amount : PSp := fun xs μ Q => xs.length = 1 ∧ ∃ q, xs = [frP q] ∧ 0 ≤ q ∧ Q (.bl true) μ
abbrev S_are_amounts : PSp := fun xs μ Q => xs.length = 2 ∧ ∃ (qs : List Rat) (n : Nat), xs = [tabP qs, .int (n : Nat)] ∧ qs.length = n ∧ qs.length ≤ lim ∧ (∀ q ∈ qs, 0 ≤ q) ∧ Q (.bl true) μ
abbrev S_is_table : PSp := fun xs μ Q => xs.length = 1 ∧ ∃ qs, xs = [tabP qs] ∧ Tab 3800 qs ∧ Q (.bl true) μ
abbrev S_check_table : PSp := fun xs μ Q => xs.length = 1 ∧ ∃ qs, xs = [tabP qs] ∧ Tab 3800 qs ∧ Q .non μ
abbrev S_named_chance : PSp := fun xs μ Q => xs.length = 3 ∧ ∃ qs ns x, xs = [tabP qs, lotP ns, .int (x : Nat)] ∧ Tab 3800 qs ∧ Q (frP (named qs ns x).sum) μ
abbrev S_renamed : PSp := fun xs μ Q => xs.length = 2 ∧ ∃ qs ns, xs = [tabP qs, lotP ns] ∧ Tab 3800 qs ∧ ns.length = qs.length ∧ (∀ x ∈ ns, x ≤ 7) ∧ Q (tabP (ren qs ns)) μ
abbrev S__law_draw : PSp := fun xs μ Q => xs.length = 2 ∧ ∃ (many m : Int) (rest : Store), xs = [.mr 1, .int many] ∧ Dk m rest μ ∧ 0 < many ∧ many < 2 ^ 60 ∧
  ∀ (n : Int) (μ' : Store), 0 ≤ n → n < many → Dk m rest μ' → Q (.int n) μ' 
abbrev S__law_pick : PSp := fun xs μ Q => xs.length = 2 ∧ ∃ (x : PV) (items : List PV) (m : Int) (rest : Store), xs = [.mr 1, x] ∧ (seqP x = some items ∨ ∃ j, x = .mr (j + 2) ∧ rest[j]? = some (.lst items)) ∧ Dk m rest μ ∧ 0 < items.length ∧ items.length ≤ 1000 ∧
  ∀ v ∈ items, ∀ μ', Dk m rest μ' → Q v μ' 
abbrev S__law_deck : PSp := fun xs μ Q => xs.length = 2 ∧ ∃ (ns : List Int) (c : Int), xs = [.kl (ns.map PV.int), .int c] ∧ μ = [] ∧
  ∀ (m : Int) (μ' : Store), Dk m [] μ' → Q (.mr 1) μ' 
abbrev S__law_common : PSp := fun xs μ Q => xs.length = 2 ∧ ∃ a b, xs = [.int a, .int b] ∧ stp a.natAbs b.natAbs ≤ 4000 ∧ Q (.int (Nat.gcd a.natAbs b.natAbs : Nat)) μ
abbrev S__law_fraction : PSp := fun xs μ Q => xs.length = 2 ∧ ∃ a b, xs = [.int a, .int b] ∧ stp a.natAbs b.natAbs ≤ 4000 ∧ (b.natAbs < 2 ^ 8980 ∨ a = b) ∧ 0 < b ∧ Q (frP (Rat.divInt a b)) μ
abbrev S__law_times : PSp := fun xs μ Q => xs.length = 2 ∧ ∃ (z : Nat) (p q : Rat), xs = [frP p, frP q] ∧ Sm 4000 p ∧ Sm 4000 q ∧ p.den * q.den < 2 ^ 2660 ∧ Q (frP (p * q)) μ
abbrev S__law_sum : PSp := fun xs μ Q => xs.length = 1 ∧ ∃ (x : PV) (qs : List Rat) (D m : Nat), xs = [x] ∧ (x = .lst (qs.map frP) ∨ ∃ j, x = .mr j ∧ μ[j]? = some (.lst (qs.map frP))) ∧ (∀ q ∈ qs, Sm m q) ∧ m * qs.length ≤ 1000000 ∧ qs.length ≤ 10000 ∧ 0 < D ∧ D < 2 ^ 2660 ∧ (∀ q ∈ qs, q.den ∣ D) ∧ ((m + 1) * qs.length ≤ 8900 ∨ qs.sum = 1) ∧ Q (frP qs.sum) μ
abbrev S__law_is_far : PSp := fun xs μ Q => xs.length = 2 ∧ ∃ (qs : List Rat) (k : Int), xs = [tabP qs, .int k] ∧ qs ≠ [] ∧ qs.length ≤ 8 ∧ ∀ b, (b = false → ∀ q ∈ qs, ((q.den : Nat) : Int) ≤ k) → Q (.bl b) μ
abbrev S__law_parts : PSp := fun xs μ Q => xs.length = 3 ∧ ∃ (n : Nat) (way m : Int) (rest : Store), xs = [.mr 1, .int (n : Nat), .int way] ∧ 1 ≤ n ∧ n ≤ 8 ∧ 0 ≤ way ∧ way ≤ 4 ∧ Dk m rest μ ∧
  ∀ (ps : List Int) (g : Store) (μ' : Store), Parts n 1000000000000 ps → (∀ p ∈ ps, pwB way p = true) → Dk m (rest ++ g ++ [.lst (ps.map PV.int)]) μ' → Q (.mr (rest.length + g.length + 2)) μ' 
abbrev S__law_table : PSp := fun xs μ Q => xs.length = 3 ∧ ∃ (n : Nat) (way m : Int) (rest : Store), xs = [.mr 1, .int (n : Nat), .int way] ∧ 1 ≤ n ∧ n ≤ 8 ∧ 0 ≤ way ∧ way ≤ 4 ∧ Dk m rest μ ∧
  ∀ (qs : List Rat) (g : Store) (μ' : Store), Tab 44 qs → qs.length = n → NFq qs → Dk m (rest ++ g) μ' → Q (tabP qs) μ' 
abbrev S__law_some_table : PSp := fun xs μ Q => xs.length = 1 ∧ ∃ (m : Int) (rest : Store), xs = [.mr 1] ∧ Dk m rest μ ∧
  ∀ (qs : List Rat) (g : Store) (μ' : Store), Tab 44 qs → NFq qs → Dk m (rest ++ g) μ' → Q (tabP qs) μ' 
abbrev S_law : PSp := fun xs μ Q => xs.length = 1 ∧ ∃ ns : List Int, xs = [.kl (ns.map PV.int)] ∧ μ = [] ∧ ∀ μ', Q (.bl true) μ' 
abbrev S__law_ways : PSp := fun xs μ Q => xs.length = 1 ∧ ∃ (cs : List Nat), xs = [lotP cs] ∧ cs.length ≤ 8 ∧ cs.sum ≤ 400 ∧ Q (.int (cw cs : Nat)) μ
abbrev S_power : PSp := fun xs μ Q => xs.length = 2 ∧ ∃ (a m z : Nat), xs = [.int (a : Nat), .int (m : Nat)] ∧ a < 2 ^ z ∧ z * m ≤ 300000 ∧ m < 2 ^ 60 ∧ Q (.int (a ^ m : Nat)) μ
abbrev S_row_chance : PSp := fun xs μ Q => xs.length = 2 ∧ ∃ (qs : List Rat) (r : List Nat), xs = [tabP qs, lotP r] ∧ Tab 44 qs ∧ (∀ i ∈ r, i < qs.length) ∧ r.length ≤ 60 ∧ Q (frP (rowq qs r)) μ
abbrev S__law_row_chance : PSp := fun xs μ Q => xs.length = 2 ∧ ∃ (qs : List Rat) (x : PV) (r : List Nat) (z : Nat), xs = [tabP qs, x] ∧ seqP x = some (r.map fun (n : Nat) => PV.int n) ∧ (∀ q ∈ qs, 0 ≤ q ∧ q ≤ 1 ∧ q.den ≤ 2 ^ z) ∧ (∀ i ∈ r, i < qs.length) ∧ z * r.length ≤ 2650 ∧ r.length ≤ 400 ∧ Q (frP (rowq qs r)) μ
abbrev S_counts_chance : PSp := fun xs μ Q => xs.length = 2 ∧ ∃ (qs : List Rat) (cs : List Nat) (z : Nat), xs = [tabP qs, lotP cs] ∧ Tab 44 qs ∧ (∀ q ∈ qs, q.den ≤ 2 ^ z) ∧ cs.length = qs.length ∧ (∀ c ∈ cs, c ≤ 40) ∧ z * cs.sum ≤ 2650 ∧ Q (frP (ccq qs cs)) μ
abbrev S__law_all_rows : PSp := fun xs μ Q => xs.length = 2 ∧ ∃ (n L : Nat), xs = [.int (n : Nat), .int (L : Nat)] ∧ 1 ≤ n ∧ n ^ L ≤ 1000 ∧ L ≤ 10 ∧ n ≤ 10 ∧ Q (.lst ((allr n L).map lotP)) μ
abbrev S__law_counts_chance : PSp := fun xs μ Q => xs.length = 2 ∧ ∃ (qs : List Rat) (cs : List Nat) (z : Nat), xs = [tabP qs, lotP cs] ∧ (∀ q ∈ qs, 0 ≤ q ∧ q ≤ 1 ∧ q.den ≤ 2 ^ z) ∧ cs.length = qs.length ∧ qs.length ≤ 8 ∧ cs.sum ≤ 320 ∧ z * cs.sum ≤ 2650 ∧ Q (frP (ccq qs cs)) μ
abbrev S__law_all_counts_n (dd : Nat) : PSp := fun xs μ Q => 0 < dd ∧ xs.length = 2 ∧ ∃ (n w : Nat), xs = [.int (n : Nat), .int (w : Nat)] ∧ 1 ≤ n ∧ n ≤ dd ∧ n ≤ 10 ∧ (w + 1) ^ n ≤ 100000 ∧ w ≤ 1000 ∧ Q (.lst ((allc n w).map lotP)) μ
abbrev S__law_all_counts : PSp := S__law_all_counts_n 10
abbrev S__law_are_sums_right : PSp := fun xs μ Q => xs.length = 2 ∧ ∃ (qs : List Rat) (L : Nat), xs = [tabP qs, .int (L : Nat)] ∧ Tab 44 qs ∧ qs.length ≤ 3 ∧ L ≤ 4 ∧ Q (.bl true) μ
end Fx
namespace K05
open PySem PySem.Spec PyProof.Rows L2 RZ Fx MR

def topS (i : Nat) : Stmt := PySem.Challenge.pw_drawnbits_k05_whole_row_chances_and_coun.main.body.getD i (.Pass ⟨0, 0, 0, 0⟩)
abbrev s_is_integer : Stmt := topS 7
abbrev s_is_within : Stmt := topS 8
abbrev s_are_integers : Stmt := topS 9
abbrev s_lowest : Stmt := topS 10
abbrev s_added : Stmt := topS 11
abbrev s_total : Stmt := topS 12
abbrev s_times : Stmt := topS 13
abbrev s_power : Stmt := topS 14
abbrev s_is_fraction : Stmt := topS 18
abbrev s_is_amount : Stmt := topS 19
abbrev s_are_amounts : Stmt := topS 20
abbrev s_is_table : Stmt := topS 21
abbrev s_check_table : Stmt := topS 22
abbrev s_renamed : Stmt := topS 23
abbrev s_named_chance : Stmt := topS 24
abbrev s_row_chance : Stmt := topS 25
abbrev s_counts_chance : Stmt := topS 26
abbrev s__law_deck : Stmt := topS 28
abbrev s__law_draw : Stmt := topS 29
abbrev s__law_pick : Stmt := topS 30
abbrev s__law_common : Stmt := topS 31
abbrev s__law_fraction : Stmt := topS 32
abbrev s__law_is_far : Stmt := topS 33
abbrev s__law_parts : Stmt := topS 34
abbrev s__law_table : Stmt := topS 35
abbrev s__law_some_table : Stmt := topS 36
abbrev s__law_sum : Stmt := topS 37
abbrev s__law_times : Stmt := topS 38
abbrev s__law_row_chance : Stmt := topS 39
abbrev s__law_ways : Stmt := topS 40
abbrev s__law_counts_chance : Stmt := topS 41
abbrev s__law_all_counts : Stmt := topS 42
abbrev s__law_all_rows : Stmt := topS 43
abbrev s__law_are_sums_right : Stmt := topS 44
abbrev s_law : Stmt := topS 45
section
variable {P : Program} {w : World} {K : PySem.W.Frag} {mg : Str → Option Value} {base : Heap}
abbrev N__law_deck : List Str := ["_law_script", "_law_number", "_law_mixed", "_law_cell"]
theorem sc__law_deck : FnScope N__law_deck ["_law_script", "_law_number"] (defScope s__law_deck) := ⟨rfl, rfl, rfl, by decide +kernel, rfl, by decide +kernel, by decide +kernel⟩
theorem ok__law_deck (B : Blt mg) (h__law_deck : Own K mg "_law_deck" s__law_deck) : Ok P w K mg base 1 "_law_deck" s__law_deck ["_law_script", "_law_number"] S__law_deck := by
  obtain ⟨f_s, fd_s, F_s, g_s⟩ := h__law_deck
  refine ⟨f_s, fd_s, F_s, g_s, F_s.binds (fun _ _ _ _ _ _ us hl => match us, hl with | [_, _], _ => rfl), FnG.of F_s sc__law_deck (fun xs μ Q h => by first | exact h.1 | exact h.2.1 | (obtain ⟨⟩ := h)) fun cdv A outer s H hr hgd => ⟨_, _, (pss_cons (ps_set (i := 2) sc__law_deck.nd rfl (Or.inl rfl) (pe_op op_plus pe_int (pv 1)))
 (pss_cons (ps_for PassesOwn.never rfl (pi_seq (pe_slice sl_any (pv 0) po_none (po_some pe_int))) (pg_name (i := 3) sc__law_deck.nd rfl (Or.inl rfl))
 (pss_one (ps_set (i := 2) sc__law_deck.nd rfl (Or.inl rfl) (pe_op op_modX (pe_callTy cb_int1 (by rfl) (B "int" (by decide)) (by decide +kernel) (pa_cons (pe_op op_plus (pe_op op_plus (pe_op op_times (pv 2) pe_int) (pe_op op_modX (pe_callTy cb_int1 (by rfl) (B "int" (by decide)) (by decide +kernel) (pa_cons (pv 3) pa_nil)) pe_int)) (pv 1)) pa_nil)) pe_int))))
 (pss_one (ps_ret (pe_disp (pps_cons pe_str (peRM (pe_revL (pe_callTy cb_lst (by rfl) (B "list" (by decide)) (by decide +kernel) (pa_cons (pe_slice sl_any (pv 0) po_none (po_some pe_int)) pa_nil)))) (pps_cons pe_str (pv 2) (pps_cons pe_str pe_int pps_nil))) (by rfl) (by rfl) (fun z => by cases z) (by decide)))))), (by (try dsimp only [cxOf]); exact inferInstance), ?_⟩⟩
  intro xs μ Q hS
  obtain ⟨_, ns, c, rfl, rfl, hQ⟩ := hS
  rw [show startP N__law_deck [.kl (ns.map PV.int), .int c] = [some (.kl (ns.map PV.int)), some (.int c), none, none] from rfl]
  have hc : cutP (ns.map PV.int) none (some 63) = (ns.take 63).map PV.int := by rw [List.map_take]; exact cut_to _ 63
  simp only [pComb, mCnt, mDNewT, mZipM, mDc, mLenSetL, mDGetT, mDGet2T, mDInT, mDPutT, mLockX, mLockEX, mKeysX, pLstX, pLenX, pMaxT, pSortT, str_to, str_ot, mPar3, mLockV, mLockE, mItemsC, mKeysC, mDGet2, pIsN, isNonP, pRepLM, mTruD, dkOfP, pPopAt, pIndex, mLstRgM, mTruth, pReprA, pLenD, pLstD, mDNew, pRepL, mLenSetN, mDIn, mSortSet, mSortSetL, mRevT, mForC, mSeqC, mLcC, pAbs, pMax2, pMin2, pInt1, mDGet, mDPut, mBM, mBM0, pPop, pAppend, pExtend, pSetL, mSub, mDisp, mPs, mPs0, mRevL, mRevLM, pLstOfM, mTupRg, mRg1, mRg2, pPlusM, lstItems, dictOfP, keyP, keysP, val_left, val_mixed, val_draws, put_draws, mLc, mLcM, mLc2, mFor, mSeqI, mRng1, mRng2, mZip, mEnum, mSl, mNoPart, mPart, mSeq, mAsg, mAsg2, mCB, mCons, mNil, mVar, mC, mOp, mUn, pU, mTup, mLst, mRet, mRetN, mLstM, getl, setl, mName, mCall, mCallK, mIf, mIfS, mTest, mAnd, mOr, mNot, mYes, mAndV, mOrV, mNotV, mNext, mNever, mBreak, mCont, mDrop, mChain, mPar, mGTup, mGCons, mGNil, pGcd, pI, pI0, pIx, pTimes, pPlus, pEq, pNe, pLen, pSum, pMaxS, pAll, pAny, pTupOf, pLstOf, pIn, pIsB, pIsi, items_tup, items_lst, items_kl, items_mr, items_tab, items_lot, items_fr, decide_true, decide_false, eqP_int, eqP_bl, eqP_str, eqP_tup2, kit_tt, kit_ii, kit_ib, tyP, mEnd, wipeP, List.map_cons, List.map_nil, List.getElem?_cons_zero, List.getElem?_cons_succ, List.set_cons_zero, List.set_cons_succ, atI_zero, atI_one, if_true, if_false, ite_true, ite_false, Bool.false_eq_true, List.length_cons, List.length_nil, Bool.not_true, Bool.not_false, hc]
  refine for_inv (enc := PV.int) (fun pre ρ μ' => (∃ m y, ρ = [some (.kl (ns.map PV.int)), some (.int c), some (.int m), y]) ∧ μ' = []) (done := []) ⟨⟨_, _, rfl⟩, rfl⟩ (fun pre a post ρ μ' e hI N hN => ?_) fun ρ μ' hI => ?_
  · obtain ⟨⟨m, y, rfl⟩, rfl⟩ := hI
    simp only [pComb, mCnt, mDNewT, mZipM, mDc, mLenSetL, mDGetT, mDGet2T, mDInT, mDPutT, mLockX, mLockEX, mKeysX, pLstX, pLenX, pMaxT, pSortT, str_to, str_ot, mPar3, mLockV, mLockE, mItemsC, mKeysC, mDGet2, pIsN, isNonP, pRepLM, mTruD, dkOfP, pPopAt, pIndex, mLstRgM, mTruth, pReprA, pLenD, pLstD, mDNew, pRepL, mLenSetN, mDIn, mSortSet, mSortSetL, mRevT, mForC, mSeqC, mLcC, pAbs, pMax2, pMin2, pInt1, mDGet, mDPut, mBM, mBM0, pPop, pAppend, pExtend, pSetL, mSub, mDisp, mPs, mPs0, mRevL, mRevLM, pLstOfM, mTupRg, mRg1, mRg2, pPlusM, lstItems, dictOfP, keyP, keysP, val_left, val_mixed, val_draws, put_draws, mLc, mLcM, mLc2, mFor, mSeqI, mRng1, mRng2, mZip, mEnum, mSl, mNoPart, mPart, mSeq, mAsg, mAsg2, mCB, mCons, mNil, mVar, mC, mOp, mUn, pU, mTup, mLst, mRet, mRetN, mLstM, getl, setl, mName, mCall, mCallK, mIf, mIfS, mTest, mAnd, mOr, mNot, mYes, mAndV, mOrV, mNotV, mNext, mNever, mBreak, mCont, mDrop, mChain, mPar, mGTup, mGCons, mGNil, pGcd, pI, pI0, pIx, pTimes, pPlus, pEq, pNe, pLen, pSum, pMaxS, pAll, pAny, pTupOf, pLstOf, pIn, pIsB, pIsi, items_tup, items_lst, items_kl, items_mr, items_tab, items_lot, items_fr, decide_true, decide_false, eqP_int, eqP_bl, eqP_str, eqP_tup2, kit_tt, kit_ii, kit_ib, tyP, mEnd, wipeP, List.map_cons, List.map_nil, List.getElem?_cons_zero, List.getElem?_cons_succ, List.set_cons_zero, List.set_cons_succ, atI_zero, atI_one, if_true, if_false, ite_true, ite_false, Bool.false_eq_true, List.length_cons, List.length_nil, Bool.not_true, Bool.not_false]
    exact ⟨mulR (by decide) (by decide), by decide, by decide, hN _ _ ⟨⟨_, _, rfl⟩, rfl⟩⟩
  · obtain ⟨⟨m, y, rfl⟩, rfl⟩ := hI
    simp only [pComb, mCnt, mDNewT, mZipM, mDc, mLenSetL, mDGetT, mDGet2T, mDInT, mDPutT, mLockX, mLockEX, mKeysX, pLstX, pLenX, pMaxT, pSortT, str_to, str_ot, mPar3, mLockV, mLockE, mItemsC, mKeysC, mDGet2, pIsN, isNonP, pRepLM, mTruD, dkOfP, pPopAt, pIndex, mLstRgM, mTruth, pReprA, pLenD, pLstD, mDNew, pRepL, mLenSetN, mDIn, mSortSet, mSortSetL, mRevT, mForC, mSeqC, mLcC, pAbs, pMax2, pMin2, pInt1, mDGet, mDPut, mBM, mBM0, pPop, pAppend, pExtend, pSetL, mSub, mDisp, mPs, mPs0, mRevL, mRevLM, pLstOfM, mTupRg, mRg1, mRg2, pPlusM, lstItems, dictOfP, keyP, keysP, val_left, val_mixed, val_draws, put_draws, mLc, mLcM, mLc2, mFor, mSeqI, mRng1, mRng2, mZip, mEnum, mSl, mNoPart, mPart, mSeq, mAsg, mAsg2, mCB, mCons, mNil, mVar, mC, mOp, mUn, pU, mTup, mLst, mRet, mRetN, mLstM, getl, setl, mName, mCall, mCallK, mIf, mIfS, mTest, mAnd, mOr, mNot, mYes, mAndV, mOrV, mNotV, mNext, mNever, mBreak, mCont, mDrop, mChain, mPar, mGTup, mGCons, mGNil, pGcd, pI, pI0, pIx, pTimes, pPlus, pEq, pNe, pLen, pSum, pMaxS, pAll, pAny, pTupOf, pLstOf, pIn, pIsB, pIsi, items_tup, items_lst, items_kl, items_mr, items_tab, items_lot, items_fr, decide_true, decide_false, eqP_int, eqP_bl, eqP_str, eqP_tup2, kit_tt, kit_ii, kit_ib, tyP, mEnd, wipeP, List.map_cons, List.map_nil, List.getElem?_cons_zero, List.getElem?_cons_succ, List.set_cons_zero, List.set_cons_succ, atI_zero, atI_one, if_true, if_false, ite_true, ite_false, Bool.false_eq_true, List.length_cons, List.length_nil, Bool.not_true, Bool.not_false, hc]
    refine ⟨by decide, fin_keep ?_⟩
    have h := hQ m (DS (ns.take 63).reverse m 0 []) ⟨_, _, by simp; omega, rfl⟩
    have e : DS (ns.take 63).reverse m 0 [] = [MO.lst ((ns.take 63).map PV.int).reverse] ++ [MO.dk (List.foldl (fun acc kv => putP acc kv.1 kv.2) [] [(.inr (Str.ofString "left"), PV.mr 0), (.inr (Str.ofString "mixed"), PV.int m), (.inr (Str.ofString "draws"), PV.int 0)])] := by
      unfold DS
      rw [List.map_reverse]
      rfl
    rw [e] at h
    exact h
abbrev N__law_draw : List Str := ["_law_deck_here", "_law_many", "_law_figure", "_law_cell"]
theorem sc__law_draw : FnScope N__law_draw ["_law_deck_here", "_law_many"] (defScope s__law_draw) := ⟨rfl, rfl, rfl, by decide +kernel, rfl, by decide +kernel, by decide +kernel⟩
theorem ok__law_draw (B : Blt mg) (h__law_draw : Own K mg "_law_draw" s__law_draw) : Ok P w K mg base 1 "_law_draw" s__law_draw ["_law_deck_here", "_law_many"] S__law_draw := by
  obtain ⟨f_s, fd_s, F_s, g_s⟩ := h__law_draw
  refine ⟨f_s, fd_s, F_s, g_s, F_s.binds (fun _ _ _ _ _ _ us hl => match us, hl with | [_, _], _ => rfl), FnG.of F_s sc__law_draw (fun xs μ Q h => by first | exact h.1 | exact h.2.1 | (obtain ⟨⟩ := h)) fun cdv A outer s H hr hgd => ⟨_, _, (pss_cons (ps_dput (hu_of hr) (pv 0) pe_str (pe_op op_plus (pe_dget (hu_of hr) (pv 0) pe_str (fun _ _ => rfl)) pe_int) (by rfl))
 (pss_cons (ps_set (i := 2) sc__law_draw.nd rfl (Or.inl rfl) (pe_op op_plus (pe_dget (hu_of hr) (pv 0) pe_str (fun _ _ => rfl)) (pe_op op_times pe_int (pe_dget (hu_of hr) (pv 0) pe_str (fun _ _ => rfl)))))
 (pss_cons (ps_if (pt_cmpR (op_neX hr.units) (pe_dget (hu_of hr) (pv 0) pe_str (fun _ _ => rfl)) (pe_lst pa_nil) (nomark _))
 (pss_cons (ps_set (i := 3) sc__law_draw.nd rfl (Or.inl rfl) (pe_bm0 PySem.F.plainAttrs_list PySem.F.slot_list_pop PySem.F.type_list_pop mt_pop (pe_dget (hu_of hr) (pv 0) pe_str (fun _ _ => rfl))))
 (pss_cons (ps_if (pt_cmpR op_ge (pv 3) (pe_op op_pow pe_int pe_int) (nomark _))
 (pss_cons (ps_expr (pe_bm PySem.F.plainAttrs_list PySem.F.slot_list_append PySem.F.type_list_append mt_append (pe_dget (hu_of hr) (pv 0) pe_str (fun _ _ => rfl)) (pa_cons (pe_op op_divX (pv 3) (pe_callB (cb_max2 rfl) (by rfl) (B "max" (by decide)) (by decide +kernel) (pa_cons pe_int (pa_cons (pv 1) pa_nil)))) pa_nil)))
 (pss_one (ps_ret (pe_op op_modX (pe_callTy cb_int1 (by rfl) (B "int" (by decide)) (by decide +kernel) (pa_cons (pv 3) pa_nil)) (pv 1)))))
 pss_nil)
 (pss_one (ps_set (i := 2) sc__law_draw.nd rfl (Or.inl rfl) (pe_op op_plus (pv 2) (pe_op op_modX (pe_callTy cb_int1 (by rfl) (B "int" (by decide)) (by decide +kernel) (pa_cons (pv 3) pa_nil)) pe_int))))))
 pss_nil)
 (pss_cons (ps_set (i := 2) sc__law_draw.nd rfl (Or.inl rfl) (pe_op op_modX (pe_callTy cb_int1 (by rfl) (B "int" (by decide)) (by decide +kernel) (pa_cons (pe_op op_plus (pe_op op_times (pv 2) pe_int) pe_int) pa_nil)) pe_int))
 (pss_cons (ps_set (i := 2) sc__law_draw.nd rfl (Or.inl rfl) (pe_op op_modX (pe_callTy cb_int1 (by rfl) (B "int" (by decide)) (by decide +kernel) (pa_cons (pe_op op_plus (pe_op op_plus (pe_op op_times (pv 2) (pv 2)) (pe_op op_times pe_int (pe_dget (hu_of hr) (pv 0) pe_str (fun _ _ => rfl)))) pe_int) pa_nil)) pe_int))
 (pss_cons (ps_set (i := 2) sc__law_draw.nd rfl (Or.inl rfl) (pe_op op_modX (pe_callTy cb_int1 (by rfl) (B "int" (by decide)) (by decide +kernel) (pa_cons (pe_op op_times (pv 2) pe_int) pa_nil)) pe_int))
 (pss_one (ps_ret (pe_op op_modX (pe_callTy cb_int1 (by rfl) (B "int" (by decide)) (by decide +kernel) (pa_cons (pe_op op_divX (pv 2) pe_int) pa_nil)) (pv 1)))))))))), (by (try dsimp only [cxOf]); exact inferInstance), ?_⟩⟩
  intro xs μ Q hS
  obtain ⟨_, many, m, rest, rfl, ⟨L, k, hL, rfl⟩, hm, hm2, hQ⟩ := hS
  rw [show startP N__law_draw [.mr 1, .int many] = [some (.mr 1), some (.int many), none, none] from rfl]
  have fin : ∀ (x : Int) (L' : List Int) (k' : Int), L'.length ≤ 63 → ∃ y μ', Gc (DS L m k rest) (.int (x.fmod many)) (DS L' m k' rest) y μ' ∧ Q y μ' := fun x L' k' hl => fin_keep (hQ _ _ (fmod_b hm).1 (fmod_b hm).2 ⟨L', k', hl, rfl⟩)
  have m0 : many ≠ 0 := by omega
  have hq : ∀ (x : Int) {m : Int}, 0 < m → m ≤ 2147483647 → MulOk (x.fmod m) (x.fmod m) := fun x m hm0 hm1 => by
    have := fmod_b (x := x) (m := m) hm0
    exact mulR (by omega) (by omega)
  have d64 : ∀ x : Int, DivOk x 64 := fun x => .inl ⟨by decide, by decide⟩
  have DKl : ∀ a b c, (DK a b c).length ≤ lim := fun _ _ _ => by unfold lim DK; simp
  rcases List.eq_nil_or_concat L with rfl | ⟨I, c, rfl⟩
  · simp only [pComb, mCnt, mDNewT, mZipM, mDc, mLenSetL, mDGetT, mDGet2T, mDInT, mDPutT, mLockX, mLockEX, mKeysX, pLstX, pLenX, pMaxT, pSortT, str_to, str_ot, mPar3, mLockV, mLockE, mItemsC, mKeysC, mDGet2, pIsN, isNonP, pRepLM, mTruD, dkOfP, pPopAt, pIndex, mLstRgM, mTruth, pReprA, pLenD, pLstD, mDNew, pRepL, mLenSetN, mDIn, mSortSet, mSortSetL, mRevT, mForC, mSeqC, mLcC, pAbs, pMax2, pMin2, pInt1, mDGet, mDPut, mBM, mBM0, pPop, pAppend, pExtend, pSetL, mSub, mDisp, mPs, mPs0, mRevL, mRevLM, pLstOfM, mTupRg, mRg1, mRg2, pPlusM, lstItems, dictOfP, keyP, keysP, val_left, val_mixed, val_draws, put_draws, mLc, mLcM, mLc2, mFor, mSeqI, mRng1, mRng2, mZip, mEnum, mSl, mNoPart, mPart, mSeq, mAsg, mAsg2, mCB, mCons, mNil, mVar, mC, mOp, mUn, pU, mTup, mLst, mRet, mRetN, mLstM, getl, setl, mName, mCall, mCallK, mIf, mIfS, mTest, mAnd, mOr, mNot, mYes, mAndV, mOrV, mNotV, mNext, mNever, mBreak, mCont, mDrop, mChain, mPar, mGTup, mGCons, mGNil, pGcd, pI, pI0, pIx, pTimes, pPlus, pEq, pNe, pLen, pSum, pMaxS, pAll, pAny, pTupOf, pLstOf, pIn, pIsB, pIsi, items_tup, items_lst, items_kl, items_mr, items_tab, items_lot, items_fr, decide_true, decide_false, eqP_int, eqP_bl, eqP_str, eqP_tup2, kit_tt, kit_ii, kit_ib, tyP, mEnd, wipeP, List.map_cons, List.map_nil, List.getElem?_cons_zero, List.getElem?_cons_succ, List.set_cons_zero, List.set_cons_succ, atI_zero, atI_one, if_true, if_false, ite_true, ite_false, Bool.false_eq_true, List.length_cons, List.length_nil, Bool.not_true, Bool.not_false, DS, List.map_nil, eqP_nn]
    exact ⟨DKl _ _ _, mulL (by decide) (by decide), by decide, mulR (by decide) (by decide), by decide, hq _ (by decide) (by decide), mulL (by decide) (by decide), by decide, mulR (by decide) (by decide), by decide, d64 _, m0, fin _ [] _ hL⟩
  · have lI : I.length ≤ 62 := by simp at hL; omega
    by_cases hc : decide ((10 : Int) ^ (18 : Int).toNat ≤ c) = true
    · simp only [pComb, mCnt, mDNewT, mZipM, mDc, mLenSetL, mDGetT, mDGet2T, mDInT, mDPutT, mLockX, mLockEX, mKeysX, pLstX, pLenX, pMaxT, pSortT, str_to, str_ot, mPar3, mLockV, mLockE, mItemsC, mKeysC, mDGet2, pIsN, isNonP, pRepLM, mTruD, dkOfP, pPopAt, pIndex, mLstRgM, mTruth, pReprA, pLenD, pLstD, mDNew, pRepL, mLenSetN, mDIn, mSortSet, mSortSetL, mRevT, mForC, mSeqC, mLcC, pAbs, pMax2, pMin2, pInt1, mDGet, mDPut, mBM, mBM0, pPop, pAppend, pExtend, pSetL, mSub, mDisp, mPs, mPs0, mRevL, mRevLM, pLstOfM, mTupRg, mRg1, mRg2, pPlusM, lstItems, dictOfP, keyP, keysP, val_left, val_mixed, val_draws, put_draws, mLc, mLcM, mLc2, mFor, mSeqI, mRng1, mRng2, mZip, mEnum, mSl, mNoPart, mPart, mSeq, mAsg, mAsg2, mCB, mCons, mNil, mVar, mC, mOp, mUn, pU, mTup, mLst, mRet, mRetN, mLstM, getl, setl, mName, mCall, mCallK, mIf, mIfS, mTest, mAnd, mOr, mNot, mYes, mAndV, mOrV, mNotV, mNext, mNever, mBreak, mCont, mDrop, mChain, mPar, mGTup, mGCons, mGNil, pGcd, pI, pI0, pIx, pTimes, pPlus, pEq, pNe, pLen, pSum, pMaxS, pAll, pAny, pTupOf, pLstOf, pIn, pIsB, pIsi, items_tup, items_lst, items_kl, items_mr, items_tab, items_lot, items_fr, decide_true, decide_false, eqP_int, eqP_bl, eqP_str, eqP_tup2, kit_tt, kit_ii, kit_ib, tyP, mEnd, wipeP, List.map_cons, List.map_nil, List.getElem?_cons_zero, List.getElem?_cons_succ, List.set_cons_zero, List.set_cons_succ, atI_zero, atI_one, if_true, if_false, ite_true, ite_false, Bool.false_eq_true, List.length_cons, List.length_nil, Bool.not_true, Bool.not_false, DS, List.concat_eq_append, List.map_append, eqP_nc, last_c, List.dropLast_concat, hc]
      have h := fin c (I ++ [c.fdiv (if many > 2 then many else 2)]) (k + 1) (by simp; omega)
      simp only [DS, List.concat_eq_append, List.map_append, List.map_cons, List.map_nil] at h
      refine ⟨DKl _ _ _, mulL (by decide) (by decide), by decide, ⟨by decide, by decide, by decide⟩, .inl ⟨max2_pos many, ?_⟩, by rw [List.length_map]; unfold lim; omega, m0, h⟩
      have : (if many > 2 then many else 2).natAbs < 2 ^ 60 := by split <;> omega
      have := log_lt this
      omega
    · simp only [pComb, mCnt, mDNewT, mZipM, mDc, mLenSetL, mDGetT, mDGet2T, mDInT, mDPutT, mLockX, mLockEX, mKeysX, pLstX, pLenX, pMaxT, pSortT, str_to, str_ot, mPar3, mLockV, mLockE, mItemsC, mKeysC, mDGet2, pIsN, isNonP, pRepLM, mTruD, dkOfP, pPopAt, pIndex, mLstRgM, mTruth, pReprA, pLenD, pLstD, mDNew, pRepL, mLenSetN, mDIn, mSortSet, mSortSetL, mRevT, mForC, mSeqC, mLcC, pAbs, pMax2, pMin2, pInt1, mDGet, mDPut, mBM, mBM0, pPop, pAppend, pExtend, pSetL, mSub, mDisp, mPs, mPs0, mRevL, mRevLM, pLstOfM, mTupRg, mRg1, mRg2, pPlusM, lstItems, dictOfP, keyP, keysP, val_left, val_mixed, val_draws, put_draws, mLc, mLcM, mLc2, mFor, mSeqI, mRng1, mRng2, mZip, mEnum, mSl, mNoPart, mPart, mSeq, mAsg, mAsg2, mCB, mCons, mNil, mVar, mC, mOp, mUn, pU, mTup, mLst, mRet, mRetN, mLstM, getl, setl, mName, mCall, mCallK, mIf, mIfS, mTest, mAnd, mOr, mNot, mYes, mAndV, mOrV, mNotV, mNext, mNever, mBreak, mCont, mDrop, mChain, mPar, mGTup, mGCons, mGNil, pGcd, pI, pI0, pIx, pTimes, pPlus, pEq, pNe, pLen, pSum, pMaxS, pAll, pAny, pTupOf, pLstOf, pIn, pIsB, pIsi, items_tup, items_lst, items_kl, items_mr, items_tab, items_lot, items_fr, decide_true, decide_false, eqP_int, eqP_bl, eqP_str, eqP_tup2, kit_tt, kit_ii, kit_ib, tyP, mEnd, wipeP, List.map_cons, List.map_nil, List.getElem?_cons_zero, List.getElem?_cons_succ, List.set_cons_zero, List.set_cons_succ, atI_zero, atI_one, if_true, if_false, ite_true, ite_false, Bool.false_eq_true, List.length_cons, List.length_nil, Bool.not_true, Bool.not_false, DS, List.concat_eq_append, List.map_append, eqP_nc, last_c, List.dropLast_concat, eq_false_of_ne_true hc]
      have h := fun x => fin x I (k + 1) (by omega)
      simp only [DS, List.concat_eq_append, List.map_append, List.map_cons, List.map_nil] at h
      exact ⟨DKl _ _ _, mulL (by decide) (by decide), by decide, ⟨by decide, by decide, by decide⟩, by decide, mulR (by decide) (by decide), by decide, hq _ (by decide) (by decide), mulL (by decide) (by decide), by decide, mulR (by decide) (by decide), by decide, d64 _, m0, h _⟩
abbrev N__law_common : List Str := ["_law_one", "_law_other", "_law_turn"]
theorem sc__law_common : FnScope N__law_common ["_law_one", "_law_other"] (defScope s__law_common) := ⟨rfl, rfl, rfl, by decide +kernel, rfl, by decide +kernel, by decide +kernel⟩
theorem ok__law_common (B : Blt mg) (h__law_common : Own K mg "_law_common" s__law_common) : Ok P w K mg base 1 "_law_common" s__law_common ["_law_one", "_law_other"] S__law_common := by
  obtain ⟨f_s, fd_s, F_s, g_s⟩ := h__law_common
  refine ⟨f_s, fd_s, F_s, g_s, F_s.binds (fun _ _ _ _ _ _ us hl => match us, hl with | [_, _], _ => rfl), FnG.of F_s sc__law_common (fun xs μ Q h => by first | exact h.1 | exact h.2.1 | (obtain ⟨⟩ := h)) fun cdv A outer s H hr hgd => ⟨_, _, (pss_cons (ps_par (i := 0) (j := 1) (by rfl) sc__law_common.nd rfl rfl (by decide) rfl rfl (pa_cons (pe_callB cb_abs (by rfl) (B "abs" (by decide)) (by decide +kernel) (pa_cons (pv 0) pa_nil)) (pa_cons (pe_callB cb_abs (by rfl) (B "abs" (by decide)) (by decide +kernel) (pa_cons (pv 1) pa_nil)) pa_nil)) (by rfl))
 (pss_cons (ps_for PassesOwn.never rfl (pi_range1 (by rfl) (B "range" (by decide)) (pa_cons pe_int pa_nil)) (pg_name (i := 2) sc__law_common.nd rfl (Or.inl rfl))
 (pss_cons (ps_if (pt_cmpR (op_eqX hr.units) (pv 1) pe_int (nomark _))
 (pss_one ps_break)
 pss_nil)
 (pss_one (ps_par (i := 0) (j := 1) (by rfl) sc__law_common.nd rfl rfl (by decide) rfl rfl (pa_cons (pv 1) (pa_cons (pe_op op_modX (pe_callTy cb_int1 (by rfl) (B "int" (by decide)) (by decide +kernel) (pa_cons (pv 0) pa_nil)) (pv 1)) pa_nil)) (by rfl)))))
 (pss_one (ps_ret (pv 0))))), (by (try dsimp only [cxOf]); exact inferInstance), ?_⟩⟩
  intro xs μ Q hS
  obtain ⟨_, a, b, rfl, hst, hQ⟩ := hS
  rw [show startP N__law_common [.int a, .int b] = [some (.int a), some (.int b), none] from rfl]
  simp only [pComb, mCnt, mDNewT, mZipM, mDc, mLenSetL, mDGetT, mDGet2T, mDInT, mDPutT, mLockX, mLockEX, mKeysX, pLstX, pLenX, pMaxT, pSortT, str_to, str_ot, mPar3, mLockV, mLockE, mItemsC, mKeysC, mDGet2, pIsN, isNonP, pRepLM, mTruD, dkOfP, pPopAt, pIndex, mLstRgM, mTruth, pReprA, pLenD, pLstD, mDNew, pRepL, mLenSetN, mDIn, mSortSet, mSortSetL, mRevT, mForC, mSeqC, mLcC, pAbs, pMax2, pMin2, pInt1, mDGet, mDPut, mBM, mBM0, pPop, pAppend, pExtend, pSetL, mSub, mDisp, mPs, mPs0, mRevL, mRevLM, pLstOfM, mTupRg, mRg1, mRg2, pPlusM, lstItems, dictOfP, keyP, keysP, val_left, val_mixed, val_draws, put_draws, mLc, mLcM, mLc2, mFor, mSeqI, mRng1, mRng2, mZip, mEnum, mSl, mNoPart, mPart, mSeq, mAsg, mAsg2, mCB, mCons, mNil, mVar, mC, mOp, mUn, pU, mTup, mLst, mRet, mRetN, mLstM, getl, setl, mName, mCall, mCallK, mIf, mIfS, mTest, mAnd, mOr, mNot, mYes, mAndV, mOrV, mNotV, mNext, mNever, mBreak, mCont, mDrop, mChain, mPar, mGTup, mGCons, mGNil, pGcd, pI, pI0, pIx, pTimes, pPlus, pEq, pNe, pLen, pSum, pMaxS, pAll, pAny, pTupOf, pLstOf, pIn, pIsB, pIsi, items_tup, items_lst, items_kl, items_mr, items_tab, items_lot, items_fr, decide_true, decide_false, eqP_int, eqP_bl, eqP_str, eqP_tup2, kit_tt, kit_ii, kit_ib, tyP, mEnd, wipeP, List.map_cons, List.map_nil, List.getElem?_cons_zero, List.getElem?_cons_succ, List.set_cons_zero, List.set_cons_succ, atI_zero, atI_one, if_true, if_false, ite_true, ite_false, Bool.false_eq_true, List.length_cons, List.length_nil, Bool.not_true, Bool.not_false]
  have e1 : ∀ z : Int, (if z < 0 then -z else z) = ((z.natAbs : Nat) : Int) := fun z => by split <;> omega
  simp only [e1]
  rw [show (4000 : Int).toNat = 4000 from rfl, rangeP_eq]
  refine ⟨by decide, for_inv (enc := fun (i : Nat) => PV.int i) (fun pre ρ μ' => (∃ (x y : Nat) (t : Option PV), ρ = [some (.int (x : Nat)), some (.int (y : Nat)), t] ∧ Nat.gcd x y = Nat.gcd a.natAbs b.natAbs ∧ stp x y + pre.length ≤ 4000) ∧ μ' = μ) (done := []) ⟨⟨_, _, _, rfl, rfl, hst⟩, rfl⟩ (fun pre a' post ρ μ' e hI N hN => ?_) fun ρ μ' hI => ?_⟩
  · obtain ⟨⟨x, y, t, rfl, hg, he⟩, rfl⟩ := hI
    simp only [pComb, mCnt, mDNewT, mZipM, mDc, mLenSetL, mDGetT, mDGet2T, mDInT, mDPutT, mLockX, mLockEX, mKeysX, pLstX, pLenX, pMaxT, pSortT, str_to, str_ot, mPar3, mLockV, mLockE, mItemsC, mKeysC, mDGet2, pIsN, isNonP, pRepLM, mTruD, dkOfP, pPopAt, pIndex, mLstRgM, mTruth, pReprA, pLenD, pLstD, mDNew, pRepL, mLenSetN, mDIn, mSortSet, mSortSetL, mRevT, mForC, mSeqC, mLcC, pAbs, pMax2, pMin2, pInt1, mDGet, mDPut, mBM, mBM0, pPop, pAppend, pExtend, pSetL, mSub, mDisp, mPs, mPs0, mRevL, mRevLM, pLstOfM, mTupRg, mRg1, mRg2, pPlusM, lstItems, dictOfP, keyP, keysP, val_left, val_mixed, val_draws, put_draws, mLc, mLcM, mLc2, mFor, mSeqI, mRng1, mRng2, mZip, mEnum, mSl, mNoPart, mPart, mSeq, mAsg, mAsg2, mCB, mCons, mNil, mVar, mC, mOp, mUn, pU, mTup, mLst, mRet, mRetN, mLstM, getl, setl, mName, mCall, mCallK, mIf, mIfS, mTest, mAnd, mOr, mNot, mYes, mAndV, mOrV, mNotV, mNext, mNever, mBreak, mCont, mDrop, mChain, mPar, mGTup, mGCons, mGNil, pGcd, pI, pI0, pIx, pTimes, pPlus, pEq, pNe, pLen, pSum, pMaxS, pAll, pAny, pTupOf, pLstOf, pIn, pIsB, pIsi, items_tup, items_lst, items_kl, items_mr, items_tab, items_lot, items_fr, decide_true, decide_false, eqP_int, eqP_bl, eqP_str, eqP_tup2, kit_tt, kit_ii, kit_ib, tyP, mEnd, wipeP, List.map_cons, List.map_nil, List.getElem?_cons_zero, List.getElem?_cons_succ, List.set_cons_zero, List.set_cons_succ, atI_zero, atI_one, if_true, if_false, ite_true, ite_false, Bool.false_eq_true, List.length_cons, List.length_nil, Bool.not_true, Bool.not_false]
    by_cases h0 : y = 0
    · subst h0
      simp only [Int.natCast_zero, decide_true, if_true]
      have : x = Nat.gcd a.natAbs b.natAbs := by rw [← hg, Nat.gcd_zero_right]
      rw [this]
      exact fin_keep hQ
    · have e2 : decide ((y : Int) = 0) = false := by simpa using h0
      simp only [e2, Bool.false_eq_true, if_false]
      refine ⟨by omega, hN _ _ ⟨⟨y, x % y, some (.int (a' : Nat)), ?_, ?_, ?_⟩, rfl⟩⟩
      · rw [Int.fmod_eq_emod_of_nonneg _ (by omega), Int.natCast_emod]
      · rw [← hg, Nat.gcd_comm y, ← Nat.gcd_rec, Nat.gcd_comm]
      · rw [List.length_append, List.length_singleton]
        rw [stp_pos (by omega)] at he
        omega
  · obtain ⟨⟨x, y, t, rfl, hg, he⟩, rfl⟩ := hI
    simp only [pComb, mCnt, mDNewT, mZipM, mDc, mLenSetL, mDGetT, mDGet2T, mDInT, mDPutT, mLockX, mLockEX, mKeysX, pLstX, pLenX, pMaxT, pSortT, str_to, str_ot, mPar3, mLockV, mLockE, mItemsC, mKeysC, mDGet2, pIsN, isNonP, pRepLM, mTruD, dkOfP, pPopAt, pIndex, mLstRgM, mTruth, pReprA, pLenD, pLstD, mDNew, pRepL, mLenSetN, mDIn, mSortSet, mSortSetL, mRevT, mForC, mSeqC, mLcC, pAbs, pMax2, pMin2, pInt1, mDGet, mDPut, mBM, mBM0, pPop, pAppend, pExtend, pSetL, mSub, mDisp, mPs, mPs0, mRevL, mRevLM, pLstOfM, mTupRg, mRg1, mRg2, pPlusM, lstItems, dictOfP, keyP, keysP, val_left, val_mixed, val_draws, put_draws, mLc, mLcM, mLc2, mFor, mSeqI, mRng1, mRng2, mZip, mEnum, mSl, mNoPart, mPart, mSeq, mAsg, mAsg2, mCB, mCons, mNil, mVar, mC, mOp, mUn, pU, mTup, mLst, mRet, mRetN, mLstM, getl, setl, mName, mCall, mCallK, mIf, mIfS, mTest, mAnd, mOr, mNot, mYes, mAndV, mOrV, mNotV, mNext, mNever, mBreak, mCont, mDrop, mChain, mPar, mGTup, mGCons, mGNil, pGcd, pI, pI0, pIx, pTimes, pPlus, pEq, pNe, pLen, pSum, pMaxS, pAll, pAny, pTupOf, pLstOf, pIn, pIsB, pIsi, items_tup, items_lst, items_kl, items_mr, items_tab, items_lot, items_fr, decide_true, decide_false, eqP_int, eqP_bl, eqP_str, eqP_tup2, kit_tt, kit_ii, kit_ib, tyP, mEnd, wipeP, List.map_cons, List.map_nil, List.getElem?_cons_zero, List.getElem?_cons_succ, List.set_cons_zero, List.set_cons_succ, atI_zero, atI_one, if_true, if_false, ite_true, ite_false, Bool.false_eq_true, List.length_cons, List.length_nil, Bool.not_true, Bool.not_false]
    have hy : y = 0 := by
      rw [List.nil_append, List.length_range] at he
      rcases Nat.eq_zero_or_pos y with z | z
      · exact z
      · rw [stp_pos z] at he; omega
    subst hy
    have : x = Nat.gcd a.natAbs b.natAbs := by rw [← hg, Nat.gcd_zero_right]
    rw [this]
    exact fin_keep hQ
abbrev N_is_integer : List Str := ["thing"]
theorem sc_is_integer : FnScope N_is_integer ["thing"] (defScope s_is_integer) := ⟨rfl, rfl, rfl, by decide +kernel, rfl, by decide +kernel, by decide +kernel⟩
theorem ok_is_integer (B : Blt mg) (h_is_integer : Own K mg "is_integer" s_is_integer) : Ok P w K mg base 1 "is_integer" s_is_integer ["thing"] S_is_integer := by
  obtain ⟨f_s, fd_s, F_s, g_s⟩ := h_is_integer
  refine ⟨f_s, fd_s, F_s, g_s, F_s.binds (fun _ _ _ _ _ _ us hl => match us, hl with | [_], _ => rfl), FnG.of F_s sc_is_integer (fun xs μ Q h => by first | exact h.1 | exact h.2.1 | (obtain ⟨⟩ := h)) fun cdv A outer s H hr hgd => ⟨_, _, (pss_one (ps_ret (pe_and (pe_callB call_isi (by rfl) (B "isinstance" (by decide)) (by decide +kernel) (pa_cons (pv 0) (pa_cons (pe_bltn (v := .ty "int") (u := .type "int") (by rfl) (B "int" (by decide)) (by decide +kernel) rfl) pa_nil))) (pe_one (pe_not (pe_callB call_isi (by rfl) (B "isinstance" (by decide)) (by decide +kernel) (pa_cons (pv 0) (pa_cons (pe_bltn (v := .ty "bool") (u := .type "bool") (by rfl) (B "bool" (by decide)) (by decide +kernel) rfl) pa_nil)))))))), (by (try dsimp only [cxOf]); exact inferInstance), ?_⟩⟩
  intro xs μ Q hS
  obtain ⟨_, i, rfl, hQ⟩ := hS
  rw [show startP N_is_integer [.int i] = [some (.int i)] from rfl]
  simp only [pComb, mCnt, mDNewT, mZipM, mDc, mLenSetL, mDGetT, mDGet2T, mDInT, mDPutT, mLockX, mLockEX, mKeysX, pLstX, pLenX, pMaxT, pSortT, str_to, str_ot, mPar3, mLockV, mLockE, mItemsC, mKeysC, mDGet2, pIsN, isNonP, pRepLM, mTruD, dkOfP, pPopAt, pIndex, mLstRgM, mTruth, pReprA, pLenD, pLstD, mDNew, pRepL, mLenSetN, mDIn, mSortSet, mSortSetL, mRevT, mForC, mSeqC, mLcC, pAbs, pMax2, pMin2, pInt1, mDGet, mDPut, mBM, mBM0, pPop, pAppend, pExtend, pSetL, mSub, mDisp, mPs, mPs0, mRevL, mRevLM, pLstOfM, mTupRg, mRg1, mRg2, pPlusM, lstItems, dictOfP, keyP, keysP, val_left, val_mixed, val_draws, put_draws, mLc, mLcM, mLc2, mFor, mSeqI, mRng1, mRng2, mZip, mEnum, mSl, mNoPart, mPart, mSeq, mAsg, mAsg2, mCB, mCons, mNil, mVar, mC, mOp, mUn, pU, mTup, mLst, mRet, mRetN, mLstM, getl, setl, mName, mCall, mCallK, mIf, mIfS, mTest, mAnd, mOr, mNot, mYes, mAndV, mOrV, mNotV, mNext, mNever, mBreak, mCont, mDrop, mChain, mPar, mGTup, mGCons, mGNil, pGcd, pI, pI0, pIx, pTimes, pPlus, pEq, pNe, pLen, pSum, pMaxS, pAll, pAny, pTupOf, pLstOf, pIn, pIsB, pIsi, items_tup, items_lst, items_kl, items_mr, items_tab, items_lot, items_fr, decide_true, decide_false, eqP_int, eqP_bl, eqP_str, eqP_tup2, kit_tt, kit_ii, kit_ib, tyP, mEnd, wipeP, List.map_cons, List.map_nil, List.getElem?_cons_zero, List.getElem?_cons_succ, List.set_cons_zero, List.set_cons_succ, atI_zero, atI_one, if_true, if_false, ite_true, ite_false, Bool.false_eq_true, List.length_cons, List.length_nil, Bool.not_true, Bool.not_false]
  exact fin_keep hQ
abbrev N_lowest : List Str := ["top", "bottom", "shared"]
theorem sc_lowest : FnScope N_lowest ["top", "bottom"] (defScope s_lowest) := ⟨rfl, rfl, rfl, by decide +kernel, rfl, by decide +kernel, by decide +kernel⟩
theorem ok_lowest (B : Blt mg) (h_lowest : Own K mg "lowest" s_lowest) (i_gcd : mg "gcd" = some (.builtin "math.gcd")) : Ok P w K mg base 1 "lowest" s_lowest ["top", "bottom"] S_lowest := by
  obtain ⟨f_s, fd_s, F_s, g_s⟩ := h_lowest
  refine ⟨f_s, fd_s, F_s, g_s, F_s.binds (fun _ _ _ _ _ _ us hl => match us, hl with | [_, _], _ => rfl), FnG.of F_s sc_lowest (fun xs μ Q h => by first | exact h.1 | exact h.2.1 | (obtain ⟨⟩ := h)) fun cdv A outer s H hr hgd => ⟨_, _, (pss_cons (ps_set (i := 2) sc_lowest.nd rfl (Or.inl rfl) (pe_callBfun cr_gcd (by rfl) i_gcd (pa_cons (pv 0) (pa_cons (pv 1) pa_nil))))
 (pss_one (ps_ret (pe_tupF (pa_cons (pe_op op_divX (pv 0) (pv 2)) (pa_cons (pe_op op_divX (pv 1) (pv 2)) pa_nil)))))), (by (try dsimp only [cxOf]); exact inferInstance), ?_⟩⟩
  intro xs μ Q hS
  obtain ⟨_, a, b, rfl, hb, hz, hQ⟩ := hS
  rw [show startP N_lowest [.int a, .int b] = [some (.int a), some (.int b), none] from rfl]
  simp only [pComb, mCnt, mDNewT, mZipM, mDc, mLenSetL, mDGetT, mDGet2T, mDInT, mDPutT, mLockX, mLockEX, mKeysX, pLstX, pLenX, pMaxT, pSortT, str_to, str_ot, mPar3, mLockV, mLockE, mItemsC, mKeysC, mDGet2, pIsN, isNonP, pRepLM, mTruD, dkOfP, pPopAt, pIndex, mLstRgM, mTruth, pReprA, pLenD, pLstD, mDNew, pRepL, mLenSetN, mDIn, mSortSet, mSortSetL, mRevT, mForC, mSeqC, mLcC, pAbs, pMax2, pMin2, pInt1, mDGet, mDPut, mBM, mBM0, pPop, pAppend, pExtend, pSetL, mSub, mDisp, mPs, mPs0, mRevL, mRevLM, pLstOfM, mTupRg, mRg1, mRg2, pPlusM, lstItems, dictOfP, keyP, keysP, val_left, val_mixed, val_draws, put_draws, mLc, mLcM, mLc2, mFor, mSeqI, mRng1, mRng2, mZip, mEnum, mSl, mNoPart, mPart, mSeq, mAsg, mAsg2, mCB, mCons, mNil, mVar, mC, mOp, mUn, pU, mTup, mLst, mRet, mRetN, mLstM, getl, setl, mName, mCall, mCallK, mIf, mIfS, mTest, mAnd, mOr, mNot, mYes, mAndV, mOrV, mNotV, mNext, mNever, mBreak, mCont, mDrop, mChain, mPar, mGTup, mGCons, mGNil, pGcd, pI, pI0, pIx, pTimes, pPlus, pEq, pNe, pLen, pSum, pMaxS, pAll, pAny, pTupOf, pLstOf, pIn, pIsB, pIsi, items_tup, items_lst, items_kl, items_mr, items_tab, items_lot, items_fr, decide_true, decide_false, eqP_int, eqP_bl, eqP_str, eqP_tup2, kit_tt, kit_ii, kit_ib, tyP, mEnd, wipeP, List.map_cons, List.map_nil, List.getElem?_cons_zero, List.getElem?_cons_succ, List.set_cons_zero, List.set_cons_succ, atI_zero, atI_one, if_true, if_false, ite_true, ite_false, Bool.false_eq_true, List.length_cons, List.length_nil, Bool.not_true, Bool.not_false]
  have hd : DivOk a ((Nat.gcd a.natAbs b.natAbs : Nat) : Int) := gcd_div hb hz
  have hd2 : DivOk b ((Nat.gcd a.natAbs b.natAbs : Nat) : Int) := hd
  obtain ⟨e1, e2⟩ := lowest_eq a b hb
  refine ⟨hd, hd2, by decide, ?_⟩
  rw [e1, e2]
  exact fin_keep hQ
abbrev N_power : List Str := ["base", "many", "found", "square", "left"]
theorem sc_power : FnScope N_power ["base", "many"] (defScope s_power) := ⟨rfl, rfl, rfl, by decide +kernel, rfl, by decide +kernel, by decide +kernel⟩
theorem ok_power (B : Blt mg) (h_power : Own K mg "power" s_power) : Ok P w K mg base 1 "power" s_power ["base", "many"] S_power := by
  obtain ⟨f_s, fd_s, F_s, g_s⟩ := h_power
  refine ⟨f_s, fd_s, F_s, g_s, F_s.binds (fun _ _ _ _ _ _ us hl => match us, hl with | [_, _], _ => rfl), FnG.of F_s sc_power (fun xs μ Q h => by first | exact h.1 | exact h.2.1 | (obtain ⟨⟩ := h)) fun cdv A outer s H hr hgd => ⟨_, _, (pss_cons (ps_set (i := 2) sc_power.nd rfl (Or.inl rfl) pe_int)
 (pss_cons (ps_set (i := 3) sc_power.nd rfl (Or.inl rfl) (pv 0))
 (pss_cons (ps_set (i := 4) sc_power.nd rfl (Or.inl rfl) (pv 1))
 (pss_cons (ps_while PassesOwn.never (pt_cmpR op_gt (pv 4) pe_int (nomark _))
 (pss_cons (ps_if (pt_tru (pe_op op_and (pv 4) pe_int) (by intro _; rfl))
 (pss_one (ps_set (i := 2) sc_power.nd rfl (Or.inl rfl) (pe_op op_times (pv 2) (pv 3))))
 pss_nil)
 (pss_cons (ps_set (i := 4) sc_power.nd rfl (Or.inl rfl) (pe_op op_divX (pv 4) pe_int))
 (pss_one (ps_if (pt_cmpR op_gt (pv 4) pe_int (nomark _))
 (pss_one (ps_set (i := 3) sc_power.nd rfl (Or.inl rfl) (pe_op op_times (pv 3) (pv 3))))
 pss_nil)))))
 (pss_one (ps_ret (pv 2))))))), (by (try dsimp only [cxOf]); exact inferInstance), ?_⟩⟩
  intro xs μ Q hS
  obtain ⟨_, a, m, z, rfl, ha, hz, hm, hQ⟩ := hS
  rw [show startP N_power [.int a, .int m] = [some (.int a), some (.int m), none, none, none] from rfl]
  refine stm_of fun R hR => ?_
  simp only [pComb, mCnt, mDNewT, mZipM, mDc, mLenSetL, mDGetT, mDGet2T, mDInT, mDPutT, mLockX, mLockEX, mKeysX, pLstX, pLenX, pMaxT, pSortT, str_to, str_ot, mPar3, mLockV, mLockE, mItemsC, mKeysC, mDGet2, pIsN, isNonP, pRepLM, mTruD, dkOfP, pPopAt, pIndex, mLstRgM, mTruth, pReprA, pLenD, pLstD, mDNew, pRepL, mLenSetN, mDIn, mSortSet, mSortSetL, mRevT, mForC, mSeqC, mLcC, pAbs, pMax2, pMin2, pInt1, mDGet, mDPut, mBM, mBM0, pPop, pAppend, pExtend, pSetL, mSub, mDisp, mPs, mPs0, mRevL, mRevLM, pLstOfM, mTupRg, mRg1, mRg2, pPlusM, lstItems, dictOfP, keyP, keysP, val_left, val_mixed, val_draws, put_draws, mLc, mLcM, mLc2, mFor, mSeqI, mRng1, mRng2, mZip, mEnum, mSl, mNoPart, mPart, mSeq, mAsg, mAsg2, mCB, mCons, mNil, mVar, mC, mOp, mUn, pU, mTup, mLst, mRet, mRetN, mLstM, getl, setl, mName, mCall, mCallK, mIf, mIfS, mTest, mAnd, mOr, mNot, mYes, mAndV, mOrV, mNotV, mNext, mNever, mBreak, mCont, mDrop, mChain, mPar, mGTup, mGCons, mGNil, pGcd, pI, pI0, pIx, pTimes, pPlus, pEq, pNe, pLen, pSum, pMaxS, pAll, pAny, pTupOf, pLstOf, pIn, pIsB, pIsi, items_tup, items_lst, items_kl, items_mr, items_tab, items_lot, items_fr, decide_true, decide_false, eqP_int, eqP_bl, eqP_str, eqP_tup2, kit_tt, kit_ii, kit_ib, tyP, mEnd, wipeP, List.map_cons, List.map_nil, List.getElem?_cons_zero, List.getElem?_cons_succ, List.set_cons_zero, List.set_cons_succ, atI_zero, atI_one, if_true, if_false, ite_true, ite_false, Bool.false_eq_true, List.length_cons, List.length_nil, Bool.not_true, Bool.not_false]
  subst hR
  refine stm_of fun R1 hR1 => ?_
  simp only [pComb, mCnt, mDNewT, mZipM, mDc, mLenSetL, mDGetT, mDGet2T, mDInT, mDPutT, mLockX, mLockEX, mKeysX, pLstX, pLenX, pMaxT, pSortT, str_to, str_ot, mPar3, mLockV, mLockE, mItemsC, mKeysC, mDGet2, pIsN, isNonP, pRepLM, mTruD, dkOfP, pPopAt, pIndex, mLstRgM, mTruth, pReprA, pLenD, pLstD, mDNew, pRepL, mLenSetN, mDIn, mSortSet, mSortSetL, mRevT, mForC, mSeqC, mLcC, pAbs, pMax2, pMin2, pInt1, mDGet, mDPut, mBM, mBM0, pPop, pAppend, pExtend, pSetL, mSub, mDisp, mPs, mPs0, mRevL, mRevLM, pLstOfM, mTupRg, mRg1, mRg2, pPlusM, lstItems, dictOfP, keyP, keysP, val_left, val_mixed, val_draws, put_draws, mLc, mLcM, mLc2, mFor, mSeqI, mRng1, mRng2, mZip, mEnum, mSl, mNoPart, mPart, mSeq, mAsg, mAsg2, mCB, mCons, mNil, mVar, mC, mOp, mUn, pU, mTup, mLst, mRet, mRetN, mLstM, getl, setl, mName, mCall, mCallK, mIf, mIfS, mTest, mAnd, mOr, mNot, mYes, mAndV, mOrV, mNotV, mNext, mNever, mBreak, mCont, mDrop, mChain, mPar, mGTup, mGCons, mGNil, pGcd, pI, pI0, pIx, pTimes, pPlus, pEq, pNe, pLen, pSum, pMaxS, pAll, pAny, pTupOf, pLstOf, pIn, pIsB, pIsi, items_tup, items_lst, items_kl, items_mr, items_tab, items_lot, items_fr, decide_true, decide_false, eqP_int, eqP_bl, eqP_str, eqP_tup2, kit_tt, kit_ii, kit_ib, tyP, mEnd, wipeP, List.map_cons, List.map_nil, List.getElem?_cons_zero, List.getElem?_cons_succ, List.set_cons_zero, List.set_cons_succ, atI_zero, atI_one, if_true, if_false, ite_true, ite_false, Bool.false_eq_true, List.length_cons, List.length_nil, Bool.not_true, Bool.not_false]
  subst hR1
  refine stm_of fun R2 hR2 => ?_
  simp only [pComb, mCnt, mDNewT, mZipM, mDc, mLenSetL, mDGetT, mDGet2T, mDInT, mDPutT, mLockX, mLockEX, mKeysX, pLstX, pLenX, pMaxT, pSortT, str_to, str_ot, mPar3, mLockV, mLockE, mItemsC, mKeysC, mDGet2, pIsN, isNonP, pRepLM, mTruD, dkOfP, pPopAt, pIndex, mLstRgM, mTruth, pReprA, pLenD, pLstD, mDNew, pRepL, mLenSetN, mDIn, mSortSet, mSortSetL, mRevT, mForC, mSeqC, mLcC, pAbs, pMax2, pMin2, pInt1, mDGet, mDPut, mBM, mBM0, pPop, pAppend, pExtend, pSetL, mSub, mDisp, mPs, mPs0, mRevL, mRevLM, pLstOfM, mTupRg, mRg1, mRg2, pPlusM, lstItems, dictOfP, keyP, keysP, val_left, val_mixed, val_draws, put_draws, mLc, mLcM, mLc2, mFor, mSeqI, mRng1, mRng2, mZip, mEnum, mSl, mNoPart, mPart, mSeq, mAsg, mAsg2, mCB, mCons, mNil, mVar, mC, mOp, mUn, pU, mTup, mLst, mRet, mRetN, mLstM, getl, setl, mName, mCall, mCallK, mIf, mIfS, mTest, mAnd, mOr, mNot, mYes, mAndV, mOrV, mNotV, mNext, mNever, mBreak, mCont, mDrop, mChain, mPar, mGTup, mGCons, mGNil, pGcd, pI, pI0, pIx, pTimes, pPlus, pEq, pNe, pLen, pSum, pMaxS, pAll, pAny, pTupOf, pLstOf, pIn, pIsB, pIsi, items_tup, items_lst, items_kl, items_mr, items_tab, items_lot, items_fr, decide_true, decide_false, eqP_int, eqP_bl, eqP_str, eqP_tup2, kit_tt, kit_ii, kit_ib, tyP, mEnd, wipeP, List.map_cons, List.map_nil, List.getElem?_cons_zero, List.getElem?_cons_succ, List.set_cons_zero, List.set_cons_succ, atI_zero, atI_one, if_true, if_false, ite_true, ite_false, Bool.false_eq_true, List.length_cons, List.length_nil, Bool.not_true, Bool.not_false]
  subst hR2
  refine stm_of fun R3 hR3 => ?_
  refine while_inv (fun k ρ μ' => (∃ (f e l : Nat), ρ = [some (.int (a : Nat)), some (.int (m : Nat)), some (.int (a ^ f : Nat)), some (.int (a ^ e : Nat)), some (.int (l : Nat))] ∧ f + e * l = m ∧ l = k ∧ (0 < l → e ≤ m)) ∧ μ' = μ) (n := m) ⟨⟨0, 1, m, by rw [Nat.pow_zero, Nat.pow_one]; rfl, by omega, rfl, fun h => h⟩, rfl⟩ fun k ρ μ1 hI => ?_
  obtain ⟨⟨f, e, l, rfl, h1, rfl, h2⟩, rfl⟩ := hI
  simp only [pComb, mCnt, mDNewT, mZipM, mDc, mLenSetL, mDGetT, mDGet2T, mDInT, mDPutT, mLockX, mLockEX, mKeysX, pLstX, pLenX, pMaxT, pSortT, str_to, str_ot, mPar3, mLockV, mLockE, mItemsC, mKeysC, mDGet2, pIsN, isNonP, pRepLM, mTruD, dkOfP, pPopAt, pIndex, mLstRgM, mTruth, pReprA, pLenD, pLstD, mDNew, pRepL, mLenSetN, mDIn, mSortSet, mSortSetL, mRevT, mForC, mSeqC, mLcC, pAbs, pMax2, pMin2, pInt1, mDGet, mDPut, mBM, mBM0, pPop, pAppend, pExtend, pSetL, mSub, mDisp, mPs, mPs0, mRevL, mRevLM, pLstOfM, mTupRg, mRg1, mRg2, pPlusM, lstItems, dictOfP, keyP, keysP, val_left, val_mixed, val_draws, put_draws, mLc, mLcM, mLc2, mFor, mSeqI, mRng1, mRng2, mZip, mEnum, mSl, mNoPart, mPart, mAsg, mAsg2, mCB, mCons, mNil, mVar, mC, mOp, mUn, pU, mTup, mLst, mRet, mRetN, mLstM, getl, setl, mName, mCall, mCallK, mIf, mIfS, mTest, mAnd, mOr, mNot, mYes, mAndV, mOrV, mNotV, mNext, mNever, mBreak, mCont, mDrop, mChain, mPar, mGTup, mGCons, mGNil, pGcd, pI, pI0, pIx, pTimes, pPlus, pEq, pNe, pLen, pSum, pMaxS, pAll, pAny, pTupOf, pLstOf, pIn, pIsB, pIsi, items_tup, items_lst, items_kl, items_mr, items_tab, items_lot, items_fr, decide_true, decide_false, eqP_int, eqP_bl, eqP_str, eqP_tup2, kit_tt, kit_ii, kit_ib, tyP, mEnd, wipeP, List.map_cons, List.map_nil, List.getElem?_cons_zero, List.getElem?_cons_succ, List.set_cons_zero, List.set_cons_succ, atI_zero, atI_one, if_true, if_false, ite_true, ite_false, Bool.false_eq_true, List.length_cons, List.length_nil, Bool.not_true, Bool.not_false]
  by_cases c : 0 < l
  · rw [decide_eq_true (by omega), if_pos rfl]
    have he := h2 c
    have hel : e * l ≤ m := by omega
    have hfm : f ≤ m := by omega
    have zf : z * f ≤ 300000 := Nat.le_trans (Nat.mul_le_mul_left _ hfm) hz
    have ze : z * e ≤ 300000 := Nat.le_trans (Nat.mul_le_mul_left _ he) hz
    have pf := pow_sz ha f
    have pe := pow_sz ha e
    have hl2 : l = 2 * (l / 2) + l % 2 := (Nat.div_add_mod l 2).symm
    refine stm_of fun R4 hR4 => ?_
    have h4 : ∀ f', f' = f + e * (l % 2) → R4 [some (.int (a : Nat)), some (.int (m : Nat)), some (.int (a ^ f' : Nat)), some (.int (a ^ e : Nat)), some (.int (l : Nat))] μ1 := by
      intro f' hf'
      subst hR4
      refine stm_of fun R5 hR5 => ?_
      simp only [pComb, mCnt, mDNewT, mZipM, mDc, mLenSetL, mDGetT, mDGet2T, mDInT, mDPutT, mLockX, mLockEX, mKeysX, pLstX, pLenX, pMaxT, pSortT, str_to, str_ot, mPar3, mLockV, mLockE, mItemsC, mKeysC, mDGet2, pIsN, isNonP, pRepLM, mTruD, dkOfP, pPopAt, pIndex, mLstRgM, mTruth, pReprA, pLenD, pLstD, mDNew, pRepL, mLenSetN, mDIn, mSortSet, mSortSetL, mRevT, mForC, mSeqC, mLcC, pAbs, pMax2, pMin2, pInt1, mDGet, mDPut, mBM, mBM0, pPop, pAppend, pExtend, pSetL, mSub, mDisp, mPs, mPs0, mRevL, mRevLM, pLstOfM, mTupRg, mRg1, mRg2, pPlusM, lstItems, dictOfP, keyP, keysP, val_left, val_mixed, val_draws, put_draws, mLc, mLcM, mLc2, mFor, mSeqI, mRng1, mRng2, mZip, mEnum, mSl, mNoPart, mPart, mSeq, mAsg, mAsg2, mCB, mCons, mNil, mVar, mC, mOp, mUn, pU, mTup, mLst, mRet, mRetN, mLstM, getl, setl, mName, mCall, mCallK, mIf, mIfS, mTest, mAnd, mOr, mNot, mYes, mAndV, mOrV, mNotV, mNext, mNever, mBreak, mCont, mDrop, mChain, mPar, mGTup, mGCons, mGNil, pGcd, pI, pI0, pIx, pTimes, pPlus, pEq, pNe, pLen, pSum, pMaxS, pAll, pAny, pTupOf, pLstOf, pIn, pIsB, pIsi, items_tup, items_lst, items_kl, items_mr, items_tab, items_lot, items_fr, decide_true, decide_false, eqP_int, eqP_bl, eqP_str, eqP_tup2, kit_tt, kit_ii, kit_ib, tyP, mEnd, wipeP, List.map_cons, List.map_nil, List.getElem?_cons_zero, List.getElem?_cons_succ, List.set_cons_zero, List.set_cons_succ, atI_zero, atI_one, if_true, if_false, ite_true, ite_false, Bool.false_eq_true, List.length_cons, List.length_nil, Bool.not_true, Bool.not_false]
      rw [show ((l : Nat) : Int).fdiv 2 = ((l / 2 : Nat) : Int) from fdivN l 2]
      refine ⟨.inl ⟨by decide, by decide⟩, ?_⟩
      subst hR5
      simp only [pComb, mCnt, mDNewT, mZipM, mDc, mLenSetL, mDGetT, mDGet2T, mDInT, mDPutT, mLockX, mLockEX, mKeysX, pLstX, pLenX, pMaxT, pSortT, str_to, str_ot, mPar3, mLockV, mLockE, mItemsC, mKeysC, mDGet2, pIsN, isNonP, pRepLM, mTruD, dkOfP, pPopAt, pIndex, mLstRgM, mTruth, pReprA, pLenD, pLstD, mDNew, pRepL, mLenSetN, mDIn, mSortSet, mSortSetL, mRevT, mForC, mSeqC, mLcC, pAbs, pMax2, pMin2, pInt1, mDGet, mDPut, mBM, mBM0, pPop, pAppend, pExtend, pSetL, mSub, mDisp, mPs, mPs0, mRevL, mRevLM, pLstOfM, mTupRg, mRg1, mRg2, pPlusM, lstItems, dictOfP, keyP, keysP, val_left, val_mixed, val_draws, put_draws, mLc, mLcM, mLc2, mFor, mSeqI, mRng1, mRng2, mZip, mEnum, mSl, mNoPart, mPart, mAsg, mAsg2, mCB, mCons, mNil, mVar, mC, mOp, mUn, pU, mTup, mLst, mRet, mRetN, mLstM, getl, setl, mName, mCall, mCallK, mIf, mIfS, mTest, mAnd, mOr, mNot, mYes, mAndV, mOrV, mNotV, mNext, mNever, mBreak, mCont, mDrop, mChain, mPar, mGTup, mGCons, mGNil, pGcd, pI, pI0, pIx, pTimes, pPlus, pEq, pNe, pLen, pSum, pMaxS, pAll, pAny, pTupOf, pLstOf, pIn, pIsB, pIsi, items_tup, items_lst, items_kl, items_mr, items_tab, items_lot, items_fr, decide_true, decide_false, eqP_int, eqP_bl, eqP_str, eqP_tup2, kit_tt, kit_ii, kit_ib, tyP, mEnd, wipeP, List.map_cons, List.map_nil, List.getElem?_cons_zero, List.getElem?_cons_succ, List.set_cons_zero, List.set_cons_succ, atI_zero, atI_one, if_true, if_false, ite_true, ite_false, Bool.false_eq_true, List.length_cons, List.length_nil, Bool.not_true, Bool.not_false]
      have hsum : f' + 2 * e * (l / 2) = m := by
        rw [hf', ← h1, Nat.mul_comm 2 e, Nat.mul_assoc, Nat.add_assoc, ← Nat.mul_add]
        congr 2
        omega
      by_cases c2 : 0 < l / 2
      · rw [decide_eq_true (by omega), if_pos rfl]
        refine ⟨mulOk (m := z * e + 1) (n := z * e + 1) (by rw [Int.natAbs_natCast]; exact pe) (by rw [Int.natAbs_natCast]; exact pe) (by omega), l / 2, by omega, ⟨f', 2 * e, l / 2, ?_, hsum, rfl, fun _ => ?_⟩, trivial⟩
        · rw [← Int.natCast_mul, ← Nat.pow_add, ← Nat.two_mul]
        · have : 2 * e * 1 ≤ 2 * e * (l / 2) := Nat.mul_le_mul_left _ c2
          omega
      · rw [decide_eq_false (by omega), if_neg (by decide)]
        exact ⟨l / 2, by omega, ⟨f', e, l / 2, rfl, by
          have : l / 2 = 0 := by omega
          rw [this] at hsum ⊢
          simpa using hsum, rfl, fun z => absurd z c2⟩, trivial⟩
    simp only [pComb, mCnt, mDNewT, mZipM, mDc, mLenSetL, mDGetT, mDGet2T, mDInT, mDPutT, mLockX, mLockEX, mKeysX, pLstX, pLenX, pMaxT, pSortT, str_to, str_ot, mPar3, mLockV, mLockE, mItemsC, mKeysC, mDGet2, pIsN, isNonP, pRepLM, mTruD, dkOfP, pPopAt, pIndex, mLstRgM, mTruth, pReprA, pLenD, pLstD, mDNew, pRepL, mLenSetN, mDIn, mSortSet, mSortSetL, mRevT, mForC, mSeqC, mLcC, pAbs, pMax2, pMin2, pInt1, mDGet, mDPut, mBM, mBM0, pPop, pAppend, pExtend, pSetL, mSub, mDisp, mPs, mPs0, mRevL, mRevLM, pLstOfM, mTupRg, mRg1, mRg2, pPlusM, lstItems, dictOfP, keyP, keysP, val_left, val_mixed, val_draws, put_draws, mLc, mLcM, mLc2, mFor, mSeqI, mRng1, mRng2, mZip, mEnum, mSl, mNoPart, mPart, mAsg, mAsg2, mCB, mCons, mNil, mVar, mC, mOp, mUn, pU, mTup, mLst, mRet, mRetN, mLstM, getl, setl, mName, mCall, mCallK, mIf, mIfS, mTest, mAnd, mOr, mNot, mYes, mAndV, mOrV, mNotV, mNext, mNever, mBreak, mCont, mDrop, mChain, mPar, mGTup, mGCons, mGNil, pGcd, pI, pI0, pIx, pTimes, pPlus, pEq, pNe, pLen, pSum, pMaxS, pAll, pAny, pTupOf, pLstOf, pIn, pIsB, pIsi, items_tup, items_lst, items_kl, items_mr, items_tab, items_lot, items_fr, decide_true, decide_false, eqP_int, eqP_bl, eqP_str, eqP_tup2, kit_tt, kit_ii, kit_ib, tyP, mEnd, wipeP, List.map_cons, List.map_nil, List.getElem?_cons_zero, List.getElem?_cons_succ, List.set_cons_zero, List.set_cons_succ, atI_zero, atI_one, if_true, if_false, ite_true, ite_false, Bool.false_eq_true, List.length_cons, List.length_nil, Bool.not_true, Bool.not_false, and_one]
    rcases Nat.mod_two_eq_zero_or_one l with z2 | z2
    · rw [show ((l : Nat) : Int) % 2 = 0 by omega, if_neg (by decide)]
      exact h4 f (by rw [z2]; simp)
    · rw [show ((l : Nat) : Int) % 2 = 1 by omega, if_pos (by decide)]
      refine ⟨mulOk (m := z * f + 1) (n := z * e + 1) (by rw [Int.natAbs_natCast]; exact pf) (by rw [Int.natAbs_natCast]; exact pe) (by omega), ?_⟩
      rw [← Int.natCast_mul, ← Nat.pow_add]
      exact h4 (f + e) (by rw [z2, Nat.mul_one])
  · rw [decide_eq_false (by omega), if_neg (by decide)]
    subst hR3
    simp only [pComb, mCnt, mDNewT, mZipM, mDc, mLenSetL, mDGetT, mDGet2T, mDInT, mDPutT, mLockX, mLockEX, mKeysX, pLstX, pLenX, pMaxT, pSortT, str_to, str_ot, mPar3, mLockV, mLockE, mItemsC, mKeysC, mDGet2, pIsN, isNonP, pRepLM, mTruD, dkOfP, pPopAt, pIndex, mLstRgM, mTruth, pReprA, pLenD, pLstD, mDNew, pRepL, mLenSetN, mDIn, mSortSet, mSortSetL, mRevT, mForC, mSeqC, mLcC, pAbs, pMax2, pMin2, pInt1, mDGet, mDPut, mBM, mBM0, pPop, pAppend, pExtend, pSetL, mSub, mDisp, mPs, mPs0, mRevL, mRevLM, pLstOfM, mTupRg, mRg1, mRg2, pPlusM, lstItems, dictOfP, keyP, keysP, val_left, val_mixed, val_draws, put_draws, mLc, mLcM, mLc2, mFor, mSeqI, mRng1, mRng2, mZip, mEnum, mSl, mNoPart, mPart, mSeq, mAsg, mAsg2, mCB, mCons, mNil, mVar, mC, mOp, mUn, pU, mTup, mLst, mRet, mRetN, mLstM, getl, setl, mName, mCall, mCallK, mIf, mIfS, mTest, mAnd, mOr, mNot, mYes, mAndV, mOrV, mNotV, mNext, mNever, mBreak, mCont, mDrop, mChain, mPar, mGTup, mGCons, mGNil, pGcd, pI, pI0, pIx, pTimes, pPlus, pEq, pNe, pLen, pSum, pMaxS, pAll, pAny, pTupOf, pLstOf, pIn, pIsB, pIsi, items_tup, items_lst, items_kl, items_mr, items_tab, items_lot, items_fr, decide_true, decide_false, eqP_int, eqP_bl, eqP_str, eqP_tup2, kit_tt, kit_ii, kit_ib, tyP, mEnd, wipeP, List.map_cons, List.map_nil, List.getElem?_cons_zero, List.getElem?_cons_succ, List.set_cons_zero, List.set_cons_succ, atI_zero, atI_one, if_true, if_false, ite_true, ite_false, Bool.false_eq_true, List.length_cons, List.length_nil, Bool.not_true, Bool.not_false]
    have : l = 0 := by omega
    subst this
    rw [Nat.mul_zero, Nat.add_zero] at h1
    rw [h1]
    exact fin_keep hQ
abbrev N__law_all_rows : List Str := ["_law_n", "_law_length", "_law_found", "_law_turn", "_law_longer", "_law_row", "_law_i"]
theorem sc__law_all_rows : FnScope N__law_all_rows ["_law_n", "_law_length"] (defScope s__law_all_rows) := ⟨rfl, rfl, rfl, by decide +kernel, rfl, by decide +kernel, by decide +kernel⟩
theorem ok__law_all_rows (B : Blt mg) (h__law_all_rows : Own K mg "_law_all_rows" s__law_all_rows) : Ok P w K mg base 1 "_law_all_rows" s__law_all_rows ["_law_n", "_law_length"] S__law_all_rows := by
  obtain ⟨f_s, fd_s, F_s, g_s⟩ := h__law_all_rows
  refine ⟨f_s, fd_s, F_s, g_s, F_s.binds (fun _ _ _ _ _ _ us hl => match us, hl with | [_, _], _ => rfl), FnG.of F_s sc__law_all_rows (fun xs μ Q h => by first | exact h.1 | exact h.2.1 | (obtain ⟨⟩ := h)) fun cdv A outer s H hr hgd => ⟨_, _, (pss_cons (ps_set (i := 2) sc__law_all_rows.nd rfl (Or.inl rfl) (peLM (pe_lst (pa_cons (pe_tupF pa_nil) pa_nil))))
 (pss_cons (ps_for PassesOwn.never rfl (pi_range1 (by rfl) (B "range" (by decide)) (pa_cons (pv 1) pa_nil)) (pg_name (i := 3) sc__law_all_rows.nd rfl (Or.inl rfl))
 (pss_cons (ps_set (i := 4) sc__law_all_rows.nd rfl (Or.inl rfl) (peLM (pe_lst pa_nil)))
 (pss_cons (ps_for PassesOwn.never rfl (pi_seqM (pv 2)) (pg_name (i := 5) sc__law_all_rows.nd rfl (Or.inr rfl))
 (pss_one (ps_expr (pe_bm PySem.F.plainAttrs_list PySem.F.slot_list_extend PySem.F.type_list_extend mt_extend (pv 4) (pa_cons (pe_lc (own := [("_law_i", 6)]) (by rfl) sc__law_all_rows.nd (pi_range1 (by rfl) (B "range" (by decide)) (pa_cons (pv 0) pa_nil)) (blkOk_by (own := [("_law_i", 6)]) (N := N__law_all_rows) (sc := defScope s__law_all_rows) (by decide +kernel)) (fun _ _ _ _ _ => (pg_name (i := 6) sc__law_all_rows.nd rfl (Or.inl rfl))) (fun _ _ _ _ _ => pts_nil) (fun _ _ _ _ _ => (pe_op (opk_plus K rfl) (pv 5) (pe_tupF (pa_cons (pv 6) pa_nil))))) pa_nil)))))
 (pss_one (ps_set (i := 2) sc__law_all_rows.nd rfl (Or.inl rfl) (pv 4))))))
 (pss_one (ps_ret (pv 2))))), (by (try dsimp only [cxOf]); exact inferInstance), ?_⟩⟩
  intro xs μ Q hS
  obtain ⟨_, n, L, rfl, h1, hp, hL, hn, hQ⟩ := hS
  rw [show startP N__law_all_rows [.int n, .int L] = [some (.int n), some (.int L), none, none, none, none, none] from rfl]
  refine stm_of fun R hR => ?_
  simp only [pComb, mCnt, mDNewT, mZipM, mDc, mLenSetL, mDGetT, mDGet2T, mDInT, mDPutT, mLockX, mLockEX, mKeysX, pLstX, pLenX, pMaxT, pSortT, str_to, str_ot, mPar3, mLockV, mLockE, mItemsC, mKeysC, mDGet2, pIsN, isNonP, pRepLM, mTruD, dkOfP, pPopAt, pIndex, mLstRgM, mTruth, pReprA, pLenD, pLstD, mDNew, pRepL, mLenSetN, mDIn, mSortSet, mSortSetL, mRevT, mForC, mSeqC, mLcC, pAbs, pMax2, pMin2, pInt1, mDGet, mDPut, mBM, mBM0, pPop, pAppend, pExtend, pSetL, mSub, mDisp, mPs, mPs0, mRevL, mRevLM, pLstOfM, mTupRg, mRg1, mRg2, pPlusM, lstItems, dictOfP, keyP, keysP, val_left, val_mixed, val_draws, put_draws, mLc, mLcM, mLc2, mFor, mSeqI, mRng1, mRng2, mZip, mEnum, mSl, mNoPart, mPart, mSeq, mAsg, mAsg2, mCB, mCons, mNil, mVar, mC, mOp, mUn, pU, mTup, mLst, mRet, mRetN, mLstM, getl, setl, mName, mCall, mCallK, mIf, mIfS, mTest, mAnd, mOr, mNot, mYes, mAndV, mOrV, mNotV, mNext, mNever, mBreak, mCont, mDrop, mChain, mPar, mGTup, mGCons, mGNil, pGcd, pI, pI0, pIx, pTimes, pPlus, pEq, pNe, pLen, pSum, pMaxS, pAll, pAny, pTupOf, pLstOf, pIn, pIsB, pIsi, items_tup, items_lst, items_kl, items_mr, items_tab, items_lot, items_fr, decide_true, decide_false, eqP_int, eqP_bl, eqP_str, eqP_tup2, kit_tt, kit_ii, kit_ib, tyP, mEnd, wipeP, List.map_cons, List.map_nil, List.getElem?_cons_zero, List.getElem?_cons_succ, List.set_cons_zero, List.set_cons_succ, atI_zero, atI_one, if_true, if_false, ite_true, ite_false, Bool.false_eq_true, List.length_cons, List.length_nil, Bool.not_true, Bool.not_false]
  refine ⟨by decide, by decide, ?_⟩
  subst hR
  refine stm_of fun R0 hR0 => ?_
  simp only [pComb, mCnt, mDNewT, mZipM, mDc, mLenSetL, mDGetT, mDGet2T, mDInT, mDPutT, mLockX, mLockEX, mKeysX, pLstX, pLenX, pMaxT, pSortT, str_to, str_ot, mPar3, mLockV, mLockE, mItemsC, mKeysC, mDGet2, pIsN, isNonP, pRepLM, mTruD, dkOfP, pPopAt, pIndex, mLstRgM, mTruth, pReprA, pLenD, pLstD, mDNew, pRepL, mLenSetN, mDIn, mSortSet, mSortSetL, mRevT, mForC, mSeqC, mLcC, pAbs, pMax2, pMin2, pInt1, mDGet, mDPut, mBM, mBM0, pPop, pAppend, pExtend, pSetL, mSub, mDisp, mPs, mPs0, mRevL, mRevLM, pLstOfM, mTupRg, mRg1, mRg2, pPlusM, lstItems, dictOfP, keyP, keysP, val_left, val_mixed, val_draws, put_draws, mLc, mLcM, mLc2, mFor, mSeqI, mRng1, mRng2, mZip, mEnum, mSl, mNoPart, mPart, mSeq, mAsg, mAsg2, mCB, mCons, mNil, mVar, mC, mOp, mUn, pU, mTup, mLst, mRet, mRetN, mLstM, getl, setl, mName, mCall, mCallK, mIf, mIfS, mTest, mAnd, mOr, mNot, mYes, mAndV, mOrV, mNotV, mNext, mNever, mBreak, mCont, mDrop, mChain, mPar, mGTup, mGCons, mGNil, pGcd, pI, pI0, pIx, pTimes, pPlus, pEq, pNe, pLen, pSum, pMaxS, pAll, pAny, pTupOf, pLstOf, pIn, pIsB, pIsi, items_tup, items_lst, items_kl, items_mr, items_tab, items_lot, items_fr, decide_true, decide_false, eqP_int, eqP_bl, eqP_str, eqP_tup2, kit_tt, kit_ii, kit_ib, tyP, mEnd, wipeP, List.map_cons, List.map_nil, List.getElem?_cons_zero, List.getElem?_cons_succ, List.set_cons_zero, List.set_cons_succ, atI_zero, atI_one, if_true, if_false, ite_true, ite_false, Bool.false_eq_true, List.length_cons, List.length_nil, Bool.not_true, Bool.not_false]
  rw [Int.toNat_natCast, rangeP_eq]
  have hpw : ∀ j, j ≤ L → n ^ j ≤ 1000 := fun j hj => Nat.le_trans (Nat.pow_le_pow_right (by omega) hj) hp
  refine ⟨⟨by omega, by omega⟩, for_inv (enc := fun (i : Nat) => PV.int i) (fun pre ρ μ' => ∃ (g : Store) (y3 y4 y5 y6 : Option PV), ρ = [some (.int (n : Nat)), some (.int (L : Nat)), some (.mr (μ.length + g.length)), y3, y4, y5, y6] ∧ μ' = μ ++ g ++ [.lst ((allr n pre.length).map lotP)]) (done := []) ⟨[], _, _, _, _, rfl, by simp; rfl⟩ (fun pre a post ρ μ' e hI N hN => ?_) fun ρ μ' hI => ?_⟩
  · obtain ⟨g, y3, y4, y5, y6, rfl, rfl⟩ := hI
    obtain ⟨hap, hpl⟩ := range_split e
    have hgt : (μ ++ g ++ [.lst ((allr n pre.length).map lotP)])[μ.length + g.length]? = some (.lst ((allr n pre.length).map lotP)) := by
      rw [← List.length_append]; exact getl _ _
    show mSeq _ _ _ _ _
    refine stm_of fun R1 hR1 => ?_
    simp only [pComb, mCnt, mDNewT, mZipM, mDc, mLenSetL, mDGetT, mDGet2T, mDInT, mDPutT, mLockX, mLockEX, mKeysX, pLstX, pLenX, pMaxT, pSortT, str_to, str_ot, mPar3, mLockV, mLockE, mItemsC, mKeysC, mDGet2, pIsN, isNonP, pRepLM, mTruD, dkOfP, pPopAt, pIndex, mLstRgM, mTruth, pReprA, pLenD, pLstD, mDNew, pRepL, mLenSetN, mDIn, mSortSet, mSortSetL, mRevT, mForC, mSeqC, mLcC, pAbs, pMax2, pMin2, pInt1, mDGet, mDPut, mBM, mBM0, pPop, pAppend, pExtend, pSetL, mSub, mDisp, mPs, mPs0, mRevL, mRevLM, pLstOfM, mTupRg, mRg1, mRg2, pPlusM, lstItems, dictOfP, keyP, keysP, val_left, val_mixed, val_draws, put_draws, mLc, mLcM, mLc2, mFor, mSeqI, mRng1, mRng2, mZip, mEnum, mSl, mNoPart, mPart, mSeq, mAsg, mAsg2, mCB, mCons, mNil, mVar, mC, mOp, mUn, pU, mTup, mLst, mRet, mRetN, mLstM, getl, setl, mName, mCall, mCallK, mIf, mIfS, mTest, mAnd, mOr, mNot, mYes, mAndV, mOrV, mNotV, mNext, mNever, mBreak, mCont, mDrop, mChain, mPar, mGTup, mGCons, mGNil, pGcd, pI, pI0, pIx, pTimes, pPlus, pEq, pNe, pLen, pSum, pMaxS, pAll, pAny, pTupOf, pLstOf, pIn, pIsB, pIsi, items_tup, items_lst, items_kl, items_mr, items_tab, items_lot, items_fr, decide_true, decide_false, eqP_int, eqP_bl, eqP_str, eqP_tup2, kit_tt, kit_ii, kit_ib, tyP, mEnd, wipeP, List.map_cons, List.map_nil, List.getElem?_cons_zero, List.getElem?_cons_succ, List.set_cons_zero, List.set_cons_succ, atI_zero, atI_one, if_true, if_false, ite_true, ite_false, Bool.false_eq_true, List.length_cons, List.length_nil, Bool.not_true, Bool.not_false]
    refine ⟨by decide, ?_⟩
    subst hR1
    refine stm_of fun R2 hR2 => ?_
    simp only [pComb, mCnt, mDNewT, mZipM, mDc, mLenSetL, mDGetT, mDGet2T, mDInT, mDPutT, mLockX, mLockEX, mKeysX, pLstX, pLenX, pMaxT, pSortT, str_to, str_ot, mPar3, mLockV, mLockE, mItemsC, mKeysC, mDGet2, pIsN, isNonP, pRepLM, mTruD, dkOfP, pPopAt, pIndex, mLstRgM, mTruth, pReprA, pLenD, pLstD, mDNew, pRepL, mLenSetN, mDIn, mSortSet, mSortSetL, mRevT, mForC, mSeqC, mLcC, pAbs, pMax2, pMin2, pInt1, mDGet, mDPut, mBM, mBM0, pPop, pAppend, pExtend, pSetL, mSub, mDisp, mPs, mPs0, mRevL, mRevLM, pLstOfM, mTupRg, mRg1, mRg2, pPlusM, lstItems, dictOfP, keyP, keysP, val_left, val_mixed, val_draws, put_draws, mLc, mLcM, mLc2, mFor, mSeqI, mRng1, mRng2, mZip, mEnum, mSl, mNoPart, mPart, mSeq, mAsg, mAsg2, mCB, mCons, mNil, mVar, mC, mOp, mUn, pU, mTup, mLst, mRet, mRetN, mLstM, getl, setl, mName, mCall, mCallK, mIf, mIfS, mTest, mAnd, mOr, mNot, mYes, mAndV, mOrV, mNotV, mNext, mNever, mBreak, mCont, mDrop, mChain, mPar, mGTup, mGCons, mGNil, pGcd, pI, pI0, pIx, pTimes, pPlus, pEq, pNe, pLen, pSum, pMaxS, pAll, pAny, pTupOf, pLstOf, pIn, pIsB, pIsi, items_tup, items_lst, items_kl, items_mr, items_tab, items_lot, items_fr, decide_true, decide_false, eqP_int, eqP_bl, eqP_str, eqP_tup2, kit_tt, kit_ii, kit_ib, tyP, mEnd, wipeP, List.map_cons, List.map_nil, List.getElem?_cons_zero, List.getElem?_cons_succ, List.set_cons_zero, List.set_cons_succ, atI_zero, atI_one, if_true, if_false, ite_true, ite_false, Bool.false_eq_true, List.length_cons, List.length_nil, Bool.not_true, Bool.not_false, app_get hgt]
    have hbl := allr_len n pre.length
    have hb8 := hpw pre.length (by omega)
    have hb9 := hpw (pre.length + 1) (by omega)
    generalize hbase : μ ++ g ++ [.lst ((allr n pre.length).map lotP)] = base at *
    have hgb : ∀ l : List PV, (base ++ [MO.lst l])[base.length]? = some (MO.lst l) := fun l => by simp
    have hsb : ∀ (l l' : List PV), (base ++ [MO.lst l]).set base.length (MO.lst l') = base ++ [MO.lst l'] := fun l l' => by simp
    refine forC_inv (enc := lotP) (fun done2 ρ μ' => (∃ y5 y6 : Option PV, ρ = [some (.int (n : Nat)), some (.int (L : Nat)), some (.mr (μ.length + g.length)), some (.int (a : Nat)), some (.mr base.length), y5, y6]) ∧ μ' = base ++ [.lst ((done2.flatMap fun r => (List.range n).map fun i => r ++ [i]).map lotP)] ∧ done2.length ≤ 1000) (fun _ ρ μ' hI => by rw [hI.2.1]; exact app_get hgt _) (done := []) ⟨⟨_, _, rfl⟩, rfl, by simp⟩ (fun pre2 l post2 ρ μ' e2 hI2 N2 hN2 => ?_) fun ρ μ' hI2 => ?_
    · obtain ⟨⟨y5, y6, rfl⟩, rfl, hl2⟩ := hI2
      have hl3 : pre2.length + 1 ≤ 1000 := by
        have := congrArg List.length (show allr n pre.length = pre2 ++ l :: post2 from e2)
        simp at this
        omega
      simp only [pComb, mCnt, mDNewT, mZipM, mDc, mLenSetL, mDGetT, mDGet2T, mDInT, mDPutT, mLockX, mLockEX, mKeysX, pLstX, pLenX, pMaxT, pSortT, str_to, str_ot, mPar3, mLockV, mLockE, mItemsC, mKeysC, mDGet2, pIsN, isNonP, pRepLM, mTruD, dkOfP, pPopAt, pIndex, mLstRgM, mTruth, pReprA, pLenD, pLstD, mDNew, pRepL, mLenSetN, mDIn, mSortSet, mSortSetL, mRevT, mForC, mSeqC, mLcC, pAbs, pMax2, pMin2, pInt1, mDGet, mDPut, mBM, mBM0, pPop, pAppend, pExtend, pSetL, mSub, mDisp, mPs, mPs0, mRevL, mRevLM, pLstOfM, mTupRg, mRg1, mRg2, pPlusM, lstItems, dictOfP, keyP, keysP, val_left, val_mixed, val_draws, put_draws, mLc, mLcM, mLc2, mFor, mSeqI, mRng1, mRng2, mZip, mEnum, mSl, mNoPart, mPart, mAsg, mAsg2, mCB, mCons, mNil, mVar, mC, mOp, mUn, pU, mTup, mLst, mRet, mRetN, mLstM, getl, setl, mName, mCall, mCallK, mIf, mIfS, mTest, mAnd, mOr, mNot, mYes, mAndV, mOrV, mNotV, mNext, mNever, mBreak, mCont, mDrop, mChain, mPar, mGTup, mGCons, mGNil, pGcd, pI, pI0, pIx, pTimes, pPlus, pEq, pNe, pLen, pSum, pMaxS, pAll, pAny, pTupOf, pLstOf, pIn, pIsB, pIsi, items_tup, items_lst, items_kl, items_mr, items_tab, items_lot, items_fr, decide_true, decide_false, eqP_int, eqP_bl, eqP_str, eqP_tup2, kit_tt, kit_ii, kit_ib, tyP, mEnd, wipeP, List.map_cons, List.map_nil, List.getElem?_cons_zero, List.getElem?_cons_succ, List.set_cons_zero, List.set_cons_succ, atI_zero, atI_one, if_true, if_false, ite_true, ite_false, Bool.false_eq_true, List.length_cons, List.length_nil, Bool.not_true, Bool.not_false, lotP, hgb, hsb]
      rw [Int.toNat_natCast, rangeP_eq]
      have e7 : (pre2.flatMap fun r => (List.range n).map fun i => r ++ [i]).length = pre2.length * n := flat_len n pre2
      have h10 : pre2.length * n ≤ 1000 * 10 := Nat.mul_le_mul (by omega) hn
      refine ⟨by decide, by omega, by rw [List.length_map, List.length_range]; unfold lim; omega, lc_map (enc := fun (i : Nat) => PV.int i) (out := fun i => lotP (l ++ [i])) (fun i _ k hk => ?_) ?_⟩
      · simp only [pComb, mCnt, mDNewT, mZipM, mDc, mLenSetL, mDGetT, mDGet2T, mDInT, mDPutT, mLockX, mLockEX, mKeysX, pLstX, pLenX, pMaxT, pSortT, str_to, str_ot, mPar3, mLockV, mLockE, mItemsC, mKeysC, mDGet2, pIsN, isNonP, pRepLM, mTruD, dkOfP, pPopAt, pIndex, mLstRgM, mTruth, pReprA, pLenD, pLstD, mDNew, pRepL, mLenSetN, mDIn, mSortSet, mSortSetL, mRevT, mForC, mSeqC, mLcC, pAbs, pMax2, pMin2, pInt1, mDGet, mDPut, mBM, mBM0, pPop, pAppend, pExtend, pSetL, mSub, mDisp, mPs, mPs0, mRevL, mRevLM, pLstOfM, mTupRg, mRg1, mRg2, pPlusM, lstItems, dictOfP, keyP, keysP, val_left, val_mixed, val_draws, put_draws, mLc, mLcM, mLc2, mFor, mSeqI, mRng1, mRng2, mZip, mEnum, mSl, mNoPart, mPart, mSeq, mAsg, mAsg2, mCB, mCons, mNil, mVar, mC, mOp, mUn, pU, mTup, mLst, mRet, mRetN, mLstM, getl, setl, mName, mCall, mCallK, mIf, mIfS, mTest, mAnd, mOr, mNot, mYes, mAndV, mOrV, mNotV, mNext, mNever, mBreak, mCont, mDrop, mChain, mPar, mGTup, mGCons, mGNil, pGcd, pI, pI0, pIx, pTimes, pPlus, pEq, pNe, pLen, pSum, pMaxS, pAll, pAny, pTupOf, pLstOf, pIn, pIsB, pIsi, items_tup, items_lst, items_kl, items_mr, items_tab, items_lot, items_fr, decide_true, decide_false, eqP_int, eqP_bl, eqP_str, eqP_tup2, kit_tt, kit_ii, kit_ib, tyP, mEnd, wipeP, List.map_cons, List.map_nil, List.getElem?_cons_zero, List.getElem?_cons_succ, List.set_cons_zero, List.set_cons_succ, atI_zero, atI_one, if_true, if_false, ite_true, ite_false, Bool.false_eq_true, List.length_cons, List.length_nil, Bool.not_true, Bool.not_false]
        rw [← lot_snoc] at hk
        exact ⟨by decide, by rw [List.length_map, allr_mem (n := n) (L := pre.length) (by rw [show allr n pre.length = pre2 ++ l :: post2 from e2]; simp)]; unfold lim; omega, hk⟩
      · rw [List.nil_append]
        simp only [pComb, mCnt, mDNewT, mZipM, mDc, mLenSetL, mDGetT, mDGet2T, mDInT, mDPutT, mLockX, mLockEX, mKeysX, pLstX, pLenX, pMaxT, pSortT, str_to, str_ot, mPar3, mLockV, mLockE, mItemsC, mKeysC, mDGet2, pIsN, isNonP, pRepLM, mTruD, dkOfP, pPopAt, pIndex, mLstRgM, mTruth, pReprA, pLenD, pLstD, mDNew, pRepL, mLenSetN, mDIn, mSortSet, mSortSetL, mRevT, mForC, mSeqC, mLcC, pAbs, pMax2, pMin2, pInt1, mDGet, mDPut, mBM, mBM0, pPop, pAppend, pExtend, pSetL, mSub, mDisp, mPs, mPs0, mRevL, mRevLM, pLstOfM, mTupRg, mRg1, mRg2, pPlusM, lstItems, dictOfP, keyP, keysP, val_left, val_mixed, val_draws, put_draws, mLc, mLcM, mLc2, mFor, mSeqI, mRng1, mRng2, mZip, mEnum, mSl, mNoPart, mPart, mAsg, mAsg2, mCB, mCons, mNil, mVar, mC, mOp, mUn, pU, mTup, mLst, mRet, mRetN, mLstM, getl, setl, mName, mCall, mCallK, mIf, mIfS, mTest, mAnd, mOr, mNot, mYes, mAndV, mOrV, mNotV, mNext, mNever, mBreak, mCont, mDrop, mChain, mPar, mGTup, mGCons, mGNil, pGcd, pI, pI0, pIx, pTimes, pPlus, pEq, pNe, pLen, pSum, pMaxS, pAll, pAny, pTupOf, pLstOf, pIn, pIsB, pIsi, items_tup, items_lst, items_kl, items_mr, items_tab, items_lot, items_fr, decide_true, decide_false, eqP_int, eqP_bl, eqP_str, eqP_tup2, kit_tt, kit_ii, kit_ib, tyP, mEnd, wipeP, List.map_cons, List.map_nil, List.getElem?_cons_zero, List.getElem?_cons_succ, List.set_cons_zero, List.set_cons_succ, atI_zero, atI_one, if_true, if_false, ite_true, ite_false, Bool.false_eq_true, List.length_cons, List.length_nil, Bool.not_true, Bool.not_false, hgb, hsb]
        refine ⟨by rw [List.length_map, List.length_map, e7, List.length_range]; unfold lim; omega, hN2 _ _ ⟨⟨_, _, rfl⟩, ?_, by rw [List.length_append, List.length_singleton]; exact hl3⟩⟩
        rw [List.flatMap_append, List.map_append, List.flatMap_cons, List.flatMap_nil, List.append_nil, List.map_map]
        rfl
    · obtain ⟨⟨y5, y6, rfl⟩, rfl, hl2⟩ := hI2
      subst hR2
      simp only [pComb, mCnt, mDNewT, mZipM, mDc, mLenSetL, mDGetT, mDGet2T, mDInT, mDPutT, mLockX, mLockEX, mKeysX, pLstX, pLenX, pMaxT, pSortT, str_to, str_ot, mPar3, mLockV, mLockE, mItemsC, mKeysC, mDGet2, pIsN, isNonP, pRepLM, mTruD, dkOfP, pPopAt, pIndex, mLstRgM, mTruth, pReprA, pLenD, pLstD, mDNew, pRepL, mLenSetN, mDIn, mSortSet, mSortSetL, mRevT, mForC, mSeqC, mLcC, pAbs, pMax2, pMin2, pInt1, mDGet, mDPut, mBM, mBM0, pPop, pAppend, pExtend, pSetL, mSub, mDisp, mPs, mPs0, mRevL, mRevLM, pLstOfM, mTupRg, mRg1, mRg2, pPlusM, lstItems, dictOfP, keyP, keysP, val_left, val_mixed, val_draws, put_draws, mLc, mLcM, mLc2, mFor, mSeqI, mRng1, mRng2, mZip, mEnum, mSl, mNoPart, mPart, mSeq, mAsg, mAsg2, mCB, mCons, mNil, mVar, mC, mOp, mUn, pU, mTup, mLst, mRet, mRetN, mLstM, getl, setl, mName, mCall, mCallK, mIf, mIfS, mTest, mAnd, mOr, mNot, mYes, mAndV, mOrV, mNotV, mNext, mNever, mBreak, mCont, mDrop, mChain, mPar, mGTup, mGCons, mGNil, pGcd, pI, pI0, pIx, pTimes, pPlus, pEq, pNe, pLen, pSum, pMaxS, pAll, pAny, pTupOf, pLstOf, pIn, pIsB, pIsi, items_tup, items_lst, items_kl, items_mr, items_tab, items_lot, items_fr, decide_true, decide_false, eqP_int, eqP_bl, eqP_str, eqP_tup2, kit_tt, kit_ii, kit_ib, tyP, mEnd, wipeP, List.map_cons, List.map_nil, List.getElem?_cons_zero, List.getElem?_cons_succ, List.set_cons_zero, List.set_cons_succ, atI_zero, atI_one, if_true, if_false, ite_true, ite_false, Bool.false_eq_true, List.length_cons, List.length_nil, Bool.not_true, Bool.not_false]
      refine hN _ _ ⟨g ++ [.lst ((allr n pre.length).map lotP)], some (.int (a : Nat)), some (.mr base.length), y5, y6, ?_, ?_⟩
      · rw [← hbase]; simp [Nat.add_assoc]
      · rw [← hbase, List.length_append (as := pre), List.length_singleton]
        simp only [List.append_assoc]
        rfl
  · obtain ⟨g, y3, y4, y5, y6, rfl, rfl⟩ := hI
    subst hR0
    simp only [pComb, mCnt, mDNewT, mZipM, mDc, mLenSetL, mDGetT, mDGet2T, mDInT, mDPutT, mLockX, mLockEX, mKeysX, pLstX, pLenX, pMaxT, pSortT, str_to, str_ot, mPar3, mLockV, mLockE, mItemsC, mKeysC, mDGet2, pIsN, isNonP, pRepLM, mTruD, dkOfP, pPopAt, pIndex, mLstRgM, mTruth, pReprA, pLenD, pLstD, mDNew, pRepL, mLenSetN, mDIn, mSortSet, mSortSetL, mRevT, mForC, mSeqC, mLcC, pAbs, pMax2, pMin2, pInt1, mDGet, mDPut, mBM, mBM0, pPop, pAppend, pExtend, pSetL, mSub, mDisp, mPs, mPs0, mRevL, mRevLM, pLstOfM, mTupRg, mRg1, mRg2, pPlusM, lstItems, dictOfP, keyP, keysP, val_left, val_mixed, val_draws, put_draws, mLc, mLcM, mLc2, mFor, mSeqI, mRng1, mRng2, mZip, mEnum, mSl, mNoPart, mPart, mSeq, mAsg, mAsg2, mCB, mCons, mNil, mVar, mC, mOp, mUn, pU, mTup, mLst, mRet, mRetN, mLstM, getl, setl, mName, mCall, mCallK, mIf, mIfS, mTest, mAnd, mOr, mNot, mYes, mAndV, mOrV, mNotV, mNext, mNever, mBreak, mCont, mDrop, mChain, mPar, mGTup, mGCons, mGNil, pGcd, pI, pI0, pIx, pTimes, pPlus, pEq, pNe, pLen, pSum, pMaxS, pAll, pAny, pTupOf, pLstOf, pIn, pIsB, pIsi, items_tup, items_lst, items_kl, items_mr, items_tab, items_lot, items_fr, decide_true, decide_false, eqP_int, eqP_bl, eqP_str, eqP_tup2, kit_tt, kit_ii, kit_ib, tyP, mEnd, wipeP, List.map_cons, List.map_nil, List.getElem?_cons_zero, List.getElem?_cons_succ, List.set_cons_zero, List.set_cons_succ, atI_zero, atI_one, if_true, if_false, ite_true, ite_false, Bool.false_eq_true, List.length_cons, List.length_nil, Bool.not_true, Bool.not_false]
    rw [List.nil_append, List.length_range]
    exact fin_frozg (noRefs_lots _) hQ
abbrev N__law_is_far : List Str := ["_law_table_here", "_law_most", "_law_it"]
theorem sc__law_is_far : FnScope N__law_is_far ["_law_table_here", "_law_most"] (defScope s__law_is_far) := ⟨rfl, rfl, rfl, by decide +kernel, rfl, by decide +kernel, by decide +kernel⟩
theorem ok__law_is_far (B : Blt mg) (h__law_is_far : Own K mg "_law_is_far" s__law_is_far) : Ok P w K mg base 1 "_law_is_far" s__law_is_far ["_law_table_here", "_law_most"] S__law_is_far := by
  obtain ⟨f_s, fd_s, F_s, g_s⟩ := h__law_is_far
  refine ⟨f_s, fd_s, F_s, g_s, F_s.binds (fun _ _ _ _ _ _ us hl => match us, hl with | [_, _], _ => rfl), FnG.of F_s sc__law_is_far (fun xs μ Q h => by first | exact h.1 | exact h.2.1 | (obtain ⟨⟩ := h)) fun cdv A outer s H hr hgd => ⟨_, _, (pss_one (ps_ret (pe_cmpR op_gt (pe_callB (cb_maxS rfl hr.units) (by rfl) (B "max" (by decide)) (by decide +kernel) (pa_cons (pe_lc (own := [("_law_it", 2)]) (by rfl) sc__law_is_far.nd (pi_seq (pv 0)) (blkOk_by (own := [("_law_it", 2)]) (N := N__law_is_far) (sc := defScope s__law_is_far) (by decide +kernel)) (fun _ _ _ _ _ => (pg_name (i := 2) sc__law_is_far.nd rfl (Or.inl rfl))) (fun _ _ _ _ _ => pts_nil) (fun _ _ _ _ _ => (pe_ix (ixk_seq K rfl) (pv 2) pe_int (fun _ _ => rfl)))) pa_nil)) (pv 1) (nomark _)))), (by (try dsimp only [cxOf]); exact inferInstance), ?_⟩⟩
  intro xs μ Q hS
  obtain ⟨_, qs, k, rfl, hne, hl, hQ⟩ := hS
  rw [show startP N__law_is_far [tabP qs, .int k] = [some (tabP qs), some (.int k), none] from rfl]
  simp only [pComb, mCnt, mDNewT, mZipM, mDc, mLenSetL, mDGetT, mDGet2T, mDInT, mDPutT, mLockX, mLockEX, mKeysX, pLstX, pLenX, pMaxT, pSortT, str_to, str_ot, mPar3, mLockV, mLockE, mItemsC, mKeysC, mDGet2, pIsN, isNonP, pRepLM, mTruD, dkOfP, pPopAt, pIndex, mLstRgM, mTruth, pReprA, pLenD, pLstD, mDNew, pRepL, mLenSetN, mDIn, mSortSet, mSortSetL, mRevT, mForC, mSeqC, mLcC, pAbs, pMax2, pMin2, pInt1, mDGet, mDPut, mBM, mBM0, pPop, pAppend, pExtend, pSetL, mSub, mDisp, mPs, mPs0, mRevL, mRevLM, pLstOfM, mTupRg, mRg1, mRg2, pPlusM, lstItems, dictOfP, keyP, keysP, val_left, val_mixed, val_draws, put_draws, mLc, mLcM, mLc2, mFor, mSeqI, mRng1, mRng2, mZip, mEnum, mSl, mNoPart, mPart, mSeq, mAsg, mAsg2, mCB, mCons, mNil, mVar, mC, mOp, mUn, pU, mTup, mLst, mRet, mRetN, mLstM, getl, setl, mName, mCall, mCallK, mIf, mIfS, mTest, mAnd, mOr, mNot, mYes, mAndV, mOrV, mNotV, mNext, mNever, mBreak, mCont, mDrop, mChain, mPar, mGTup, mGCons, mGNil, pGcd, pI, pI0, pIx, pTimes, pPlus, pEq, pNe, pLen, pSum, pMaxS, pAll, pAny, pTupOf, pLstOf, pIn, pIsB, pIsi, items_tup, items_lst, items_kl, items_mr, items_tab, items_lot, items_fr, decide_true, decide_false, eqP_int, eqP_bl, eqP_str, eqP_tup2, kit_tt, kit_ii, kit_ib, tyP, mEnd, wipeP, List.map_cons, List.map_nil, List.getElem?_cons_zero, List.getElem?_cons_succ, List.set_cons_zero, List.set_cons_succ, atI_zero, atI_one, if_true, if_false, ite_true, ite_false, Bool.false_eq_true, List.length_cons, List.length_nil, Bool.not_true, Bool.not_false, tabP]
  refine ⟨by decide, by rw [List.length_map]; unfold lim; omega, lc_map (out := fun q : Rat => PV.int (q.den : Nat)) (fun q hq k hk => ?_) ?_⟩
  · simp only [pComb, mCnt, mDNewT, mZipM, mDc, mLenSetL, mDGetT, mDGet2T, mDInT, mDPutT, mLockX, mLockEX, mKeysX, pLstX, pLenX, pMaxT, pSortT, str_to, str_ot, mPar3, mLockV, mLockE, mItemsC, mKeysC, mDGet2, pIsN, isNonP, pRepLM, mTruD, dkOfP, pPopAt, pIndex, mLstRgM, mTruth, pReprA, pLenD, pLstD, mDNew, pRepL, mLenSetN, mDIn, mSortSet, mSortSetL, mRevT, mForC, mSeqC, mLcC, pAbs, pMax2, pMin2, pInt1, mDGet, mDPut, mBM, mBM0, pPop, pAppend, pExtend, pSetL, mSub, mDisp, mPs, mPs0, mRevL, mRevLM, pLstOfM, mTupRg, mRg1, mRg2, pPlusM, lstItems, dictOfP, keyP, keysP, val_left, val_mixed, val_draws, put_draws, mLc, mLcM, mLc2, mFor, mSeqI, mRng1, mRng2, mZip, mEnum, mSl, mNoPart, mPart, mSeq, mAsg, mAsg2, mCB, mCons, mNil, mVar, mC, mOp, mUn, pU, mTup, mLst, mRet, mRetN, mLstM, getl, setl, mName, mCall, mCallK, mIf, mIfS, mTest, mAnd, mOr, mNot, mYes, mAndV, mOrV, mNotV, mNext, mNever, mBreak, mCont, mDrop, mChain, mPar, mGTup, mGCons, mGNil, pGcd, pI, pI0, pIx, pTimes, pPlus, pEq, pNe, pLen, pSum, pMaxS, pAll, pAny, pTupOf, pLstOf, pIn, pIsB, pIsi, items_tup, items_lst, items_kl, items_mr, items_tab, items_lot, items_fr, decide_true, decide_false, eqP_int, eqP_bl, eqP_str, eqP_tup2, kit_tt, kit_ii, kit_ib, tyP, mEnd, wipeP, List.map_cons, List.map_nil, List.getElem?_cons_zero, List.getElem?_cons_succ, List.set_cons_zero, List.set_cons_succ, atI_zero, atI_one, if_true, if_false, ite_true, ite_false, Bool.false_eq_true, List.length_cons, List.length_nil, Bool.not_true, Bool.not_false, frP]
    exact hk
  · have e : ([] ++ qs.map fun q : Rat => PV.int (q.den : Nat)) = (qs.map fun q : Rat => ((q.den : Nat) : Int)).map PV.int := by
      rw [List.map_map]; rfl
    rw [e]
    simp only [intsP_map]
    refine ⟨by simpa using hne, ?_⟩
    refine fin_keep (hQ _ fun hb q hq => ?_)
    have h1 := maxP_le (List.mem_map.mpr ⟨q, hq, rfl⟩ : ((q.den : Nat) : Int) ∈ qs.map fun q : Rat => ((q.den : Nat) : Int))
    have h2 := of_decide_eq_false hb
    omega
abbrev N__law_ways : List Str := ["_law_counts", "_law_whole", "_law_parts_here", "_law_n", "_law_count", "_law_it"]
theorem sc__law_ways : FnScope N__law_ways ["_law_counts"] (defScope s__law_ways) := ⟨rfl, rfl, rfl, by decide +kernel, rfl, by decide +kernel, by decide +kernel⟩
theorem ok__law_ways (B : Blt mg) (h__law_ways : Own K mg "_law_ways" s__law_ways) : Ok P w K mg base 1 "_law_ways" s__law_ways ["_law_counts"] S__law_ways := by
  obtain ⟨f_s, fd_s, F_s, g_s⟩ := h__law_ways
  refine ⟨f_s, fd_s, F_s, g_s, F_s.binds (fun _ _ _ _ _ _ us hl => match us, hl with | [_], _ => rfl), FnG.of F_s sc__law_ways (fun xs μ Q h => by first | exact h.1 | exact h.2.1 | (obtain ⟨⟩ := h)) fun cdv A outer s H hr hgd => ⟨_, _, (pss_cons (ps_asg (pe_tupF (pa_cons pe_int (pa_cons pe_int (pa_cons pe_int pa_nil)))) (pg_tup (n := 3) rfl (pgs_cons (pg_name (i := 1) sc__law_ways.nd rfl (Or.inl rfl)) (pgs_cons (pg_name (i := 2) sc__law_ways.nd rfl (Or.inl rfl)) (pgs_cons (pg_name (i := 3) sc__law_ways.nd rfl (Or.inl rfl)) pgs_nil)))))
 (pss_cons (ps_for PassesOwn.never rfl (pi_seq (pv 0)) (pg_name (i := 4) sc__law_ways.nd rfl (Or.inl rfl))
 (pss_one (ps_for PassesOwn.never rfl (pi_range1 (by rfl) (B "range" (by decide)) (pa_cons (pv 4) pa_nil)) (pg_name (i := 5) sc__law_ways.nd rfl (Or.inl rfl))
 (pss_cons (ps_set (i := 3) sc__law_ways.nd rfl (Or.inl rfl) (pe_op op_plus (pv 3) pe_int))
 (pss_one (ps_par (i := 1) (j := 2) (by rfl) sc__law_ways.nd rfl rfl (by decide) rfl rfl (pa_cons (pe_op op_times (pv 1) (pv 3)) (pa_cons (pe_op op_times (pv 2) (pe_op op_plus (pv 5) pe_int)) pa_nil)) (by rfl)))))))
 (pss_one (ps_ret (pe_op op_divX (pv 1) (pv 2)))))), (by (try dsimp only [cxOf]); exact inferInstance), ?_⟩⟩
  intro xs μ Q hS
  obtain ⟨_, cs, rfl, hl, hs, hQ⟩ := hS
  rw [show startP N__law_ways [lotP cs] = [some (lotP cs), none, none, none, none, none] from rfl]
  refine stm_of fun R hR => ?_
  simp only [pComb, mCnt, mDNewT, mZipM, mDc, mLenSetL, mDGetT, mDGet2T, mDInT, mDPutT, mLockX, mLockEX, mKeysX, pLstX, pLenX, pMaxT, pSortT, str_to, str_ot, mPar3, mLockV, mLockE, mItemsC, mKeysC, mDGet2, pIsN, isNonP, pRepLM, mTruD, dkOfP, pPopAt, pIndex, mLstRgM, mTruth, pReprA, pLenD, pLstD, mDNew, pRepL, mLenSetN, mDIn, mSortSet, mSortSetL, mRevT, mForC, mSeqC, mLcC, pAbs, pMax2, pMin2, pInt1, mDGet, mDPut, mBM, mBM0, pPop, pAppend, pExtend, pSetL, mSub, mDisp, mPs, mPs0, mRevL, mRevLM, pLstOfM, mTupRg, mRg1, mRg2, pPlusM, lstItems, dictOfP, keyP, keysP, val_left, val_mixed, val_draws, put_draws, mLc, mLcM, mLc2, mFor, mSeqI, mRng1, mRng2, mZip, mEnum, mSl, mNoPart, mPart, mSeq, mAsg, mAsg2, mCB, mCons, mNil, mVar, mC, mOp, mUn, pU, mTup, mLst, mRet, mRetN, mLstM, getl, setl, mName, mCall, mCallK, mIf, mIfS, mTest, mAnd, mOr, mNot, mYes, mAndV, mOrV, mNotV, mNext, mNever, mBreak, mCont, mDrop, mChain, mPar, mGTup, mGCons, mGNil, pGcd, pI, pI0, pIx, pTimes, pPlus, pEq, pNe, pLen, pSum, pMaxS, pAll, pAny, pTupOf, pLstOf, pIn, pIsB, pIsi, items_tup, items_lst, items_kl, items_mr, items_tab, items_lot, items_fr, decide_true, decide_false, eqP_int, eqP_bl, eqP_str, eqP_tup2, kit_tt, kit_ii, kit_ib, tyP, mEnd, wipeP, List.map_cons, List.map_nil, List.getElem?_cons_zero, List.getElem?_cons_succ, List.set_cons_zero, List.set_cons_succ, atI_zero, atI_one, if_true, if_false, ite_true, ite_false, Bool.false_eq_true, List.length_cons, List.length_nil, Bool.not_true, Bool.not_false]
  refine ⟨by decide, trivial, ?_⟩
  subst hR
  refine stm_of fun R hR => ?_
  simp only [pComb, mCnt, mDNewT, mZipM, mDc, mLenSetL, mDGetT, mDGet2T, mDInT, mDPutT, mLockX, mLockEX, mKeysX, pLstX, pLenX, pMaxT, pSortT, str_to, str_ot, mPar3, mLockV, mLockE, mItemsC, mKeysC, mDGet2, pIsN, isNonP, pRepLM, mTruD, dkOfP, pPopAt, pIndex, mLstRgM, mTruth, pReprA, pLenD, pLstD, mDNew, pRepL, mLenSetN, mDIn, mSortSet, mSortSetL, mRevT, mForC, mSeqC, mLcC, pAbs, pMax2, pMin2, pInt1, mDGet, mDPut, mBM, mBM0, pPop, pAppend, pExtend, pSetL, mSub, mDisp, mPs, mPs0, mRevL, mRevLM, pLstOfM, mTupRg, mRg1, mRg2, pPlusM, lstItems, dictOfP, keyP, keysP, val_left, val_mixed, val_draws, put_draws, mLc, mLcM, mLc2, mFor, mSeqI, mRng1, mRng2, mZip, mEnum, mSl, mNoPart, mPart, mAsg, mAsg2, mCB, mCons, mNil, mVar, mC, mOp, mUn, pU, mTup, mLst, mRet, mRetN, mLstM, getl, setl, mName, mCall, mCallK, mIf, mIfS, mTest, mAnd, mOr, mNot, mYes, mAndV, mOrV, mNotV, mNext, mNever, mBreak, mCont, mDrop, mChain, mPar, mGTup, mGCons, mGNil, pGcd, pI, pI0, pIx, pTimes, pPlus, pEq, pNe, pLen, pSum, pMaxS, pAll, pAny, pTupOf, pLstOf, pIn, pIsB, pIsi, items_tup, items_lst, items_kl, items_mr, items_tab, items_lot, items_fr, decide_true, decide_false, eqP_int, eqP_bl, eqP_str, eqP_tup2, kit_tt, kit_ii, kit_ib, tyP, mEnd, wipeP, List.map_cons, List.map_nil, List.getElem?_cons_zero, List.getElem?_cons_succ, List.set_cons_zero, List.set_cons_succ, atI_zero, atI_one, if_true, if_false, ite_true, ite_false, Bool.false_eq_true, List.length_cons, List.length_nil, Bool.not_true, Bool.not_false, lotP]
  have bd : ∀ n, n ≤ 400 → fct n < 2 ^ 3601 := fun n hn => Nat.lt_of_lt_of_le (fct_lt (n := n) (by omega)) (Nat.pow_le_pow_right (by decide) (by omega))
  refine for_inv (enc := fun (n : Nat) => PV.int n) (fun pre ρ μ' => (∃ y4 y5 : Option PV, ρ = [some (.tup (cs.map fun (n : Nat) => PV.int n)), some (.int (fct pre.sum : Nat)), some (.int (fcs pre : Nat)), some (.int (pre.sum : Nat)), y4, y5]) ∧ μ' = μ) (done := []) ⟨⟨none, none, rfl⟩, rfl⟩ (fun pre c post ρ μ' e hI N hN => ?_) fun ρ μ' hI => ?_
  · obtain ⟨⟨y4, y5, rfl⟩, rfl⟩ := hI
    have e' : cs = pre ++ c :: post := e
    have hsum : pre.sum + c ≤ 400 := by
      have : cs.sum = pre.sum + (c + post.sum) := by rw [e', List.sum_append, List.sum_cons]
      omega
    simp only [pComb, mCnt, mDNewT, mZipM, mDc, mLenSetL, mDGetT, mDGet2T, mDInT, mDPutT, mLockX, mLockEX, mKeysX, pLstX, pLenX, pMaxT, pSortT, str_to, str_ot, mPar3, mLockV, mLockE, mItemsC, mKeysC, mDGet2, pIsN, isNonP, pRepLM, mTruD, dkOfP, pPopAt, pIndex, mLstRgM, mTruth, pReprA, pLenD, pLstD, mDNew, pRepL, mLenSetN, mDIn, mSortSet, mSortSetL, mRevT, mForC, mSeqC, mLcC, pAbs, pMax2, pMin2, pInt1, mDGet, mDPut, mBM, mBM0, pPop, pAppend, pExtend, pSetL, mSub, mDisp, mPs, mPs0, mRevL, mRevLM, pLstOfM, mTupRg, mRg1, mRg2, pPlusM, lstItems, dictOfP, keyP, keysP, val_left, val_mixed, val_draws, put_draws, mLc, mLcM, mLc2, mFor, mSeqI, mRng1, mRng2, mZip, mEnum, mSl, mNoPart, mPart, mAsg, mAsg2, mCB, mCons, mNil, mVar, mC, mOp, mUn, pU, mTup, mLst, mRet, mRetN, mLstM, getl, setl, mName, mCall, mCallK, mIf, mIfS, mTest, mAnd, mOr, mNot, mYes, mAndV, mOrV, mNotV, mNext, mNever, mBreak, mCont, mDrop, mChain, mPar, mGTup, mGCons, mGNil, pGcd, pI, pI0, pIx, pTimes, pPlus, pEq, pNe, pLen, pSum, pMaxS, pAll, pAny, pTupOf, pLstOf, pIn, pIsB, pIsi, items_tup, items_lst, items_kl, items_mr, items_tab, items_lot, items_fr, decide_true, decide_false, eqP_int, eqP_bl, eqP_str, eqP_tup2, kit_tt, kit_ii, kit_ib, tyP, mEnd, wipeP, List.map_cons, List.map_nil, List.getElem?_cons_zero, List.getElem?_cons_succ, List.set_cons_zero, List.set_cons_succ, atI_zero, atI_one, if_true, if_false, ite_true, ite_false, Bool.false_eq_true, List.length_cons, List.length_nil, Bool.not_true, Bool.not_false]
    rw [Int.toNat_natCast, rangeP_eq]
    refine ⟨by omega, for_inv (enc := fun (n : Nat) => PV.int n) (fun pr ρ μ'' => (∃ y5 : Option PV, ρ = [some (.tup (cs.map fun (n : Nat) => PV.int n)), some (.int (fct (pre.sum + pr.length) : Nat)), some (.int (fcs pre * fct pr.length : Nat)), some (.int (pre.sum + pr.length : Nat)), some (.int (c : Nat)), y5]) ∧ μ'' = μ') (done := []) ⟨⟨y5, by simp [fct]⟩, rfl⟩ (fun pr j po ρ μ'' e2 hI N2 hN2 => ?_) fun ρ μ'' hI => ?_⟩
    · obtain ⟨⟨y5, rfl⟩, rfl⟩ := hI
      obtain ⟨ej, hj⟩ := range_split (show List.range c = pr ++ j :: po from e2)
      have f1 := bd (pre.sum + pr.length) (by omega)
      have f2 := bd pre.sum (by omega)
      have f3 := bd pr.length (by omega)
      have f4 := fcs_le pre
      simp only [pComb, mCnt, mDNewT, mZipM, mDc, mLenSetL, mDGetT, mDGet2T, mDInT, mDPutT, mLockX, mLockEX, mKeysX, pLstX, pLenX, pMaxT, pSortT, str_to, str_ot, mPar3, mLockV, mLockE, mItemsC, mKeysC, mDGet2, pIsN, isNonP, pRepLM, mTruD, dkOfP, pPopAt, pIndex, mLstRgM, mTruth, pReprA, pLenD, pLstD, mDNew, pRepL, mLenSetN, mDIn, mSortSet, mSortSetL, mRevT, mForC, mSeqC, mLcC, pAbs, pMax2, pMin2, pInt1, mDGet, mDPut, mBM, mBM0, pPop, pAppend, pExtend, pSetL, mSub, mDisp, mPs, mPs0, mRevL, mRevLM, pLstOfM, mTupRg, mRg1, mRg2, pPlusM, lstItems, dictOfP, keyP, keysP, val_left, val_mixed, val_draws, put_draws, mLc, mLcM, mLc2, mFor, mSeqI, mRng1, mRng2, mZip, mEnum, mSl, mNoPart, mPart, mSeq, mAsg, mAsg2, mCB, mCons, mNil, mVar, mC, mOp, mUn, pU, mTup, mLst, mRet, mRetN, mLstM, getl, setl, mName, mCall, mCallK, mIf, mIfS, mTest, mAnd, mOr, mNot, mYes, mAndV, mOrV, mNotV, mNext, mNever, mBreak, mCont, mDrop, mChain, mPar, mGTup, mGCons, mGNil, pGcd, pI, pI0, pIx, pTimes, pPlus, pEq, pNe, pLen, pSum, pMaxS, pAll, pAny, pTupOf, pLstOf, pIn, pIsB, pIsi, items_tup, items_lst, items_kl, items_mr, items_tab, items_lot, items_fr, decide_true, decide_false, eqP_int, eqP_bl, eqP_str, eqP_tup2, kit_tt, kit_ii, kit_ib, tyP, mEnd, wipeP, List.map_cons, List.map_nil, List.getElem?_cons_zero, List.getElem?_cons_succ, List.set_cons_zero, List.set_cons_succ, atI_zero, atI_one, if_true, if_false, ite_true, ite_false, Bool.false_eq_true, List.length_cons, List.length_nil, Bool.not_true, Bool.not_false]
      subst ej
      rw [show ((pre.sum + pr.length : Nat) : Int) + 1 = ((pre.sum + pr.length + 1 : Nat) : Int) by omega, show ((pr.length : Nat) : Int) + 1 = ((pr.length + 1 : Nat) : Int) by omega, ← Int.natCast_mul, ← Int.natCast_mul]
      have f5 : fcs pre * fct pr.length < 2 ^ 3601 * 2 ^ 3601 := Nat.mul_lt_mul'' (by omega) f3
      rw [← Nat.pow_add] at f5
      refine ⟨mulOk (m := 3601) (n := 12) (by rw [Int.natAbs_natCast]; exact f1) (by rw [Int.natAbs_natCast]; omega) (by decide), mulOk (m := 7202) (n := 12) (by rw [Int.natAbs_natCast]; exact f5) (by rw [Int.natAbs_natCast]; omega) (by decide), hN2 _ _ ⟨⟨some (.int (pr.length : Nat)), ?_⟩, rfl⟩⟩
      rw [List.length_append, List.length_singleton, ← Nat.add_assoc, show fct (pre.sum + pr.length) * (pre.sum + pr.length + 1) = fct (pre.sum + pr.length + 1) by rw [fct, Nat.mul_comm], show fcs pre * fct pr.length * (pr.length + 1) = fcs pre * fct (pr.length + 1) by rw [fct, Nat.mul_assoc, Nat.mul_comm (fct _)]]
    · obtain ⟨⟨y5, rfl⟩, rfl⟩ := hI
      rw [List.nil_append, List.length_range]
      refine hN _ _ ⟨⟨some (.int (c : Nat)), y5, ?_⟩, rfl⟩
      rw [fcs_snoc, List.sum_append, List.sum_singleton]
  · obtain ⟨⟨y4, y5, rfl⟩, rfl⟩ := hI
    rw [List.nil_append]
    show R _ _
    subst hR
    simp only [pComb, mCnt, mDNewT, mZipM, mDc, mLenSetL, mDGetT, mDGet2T, mDInT, mDPutT, mLockX, mLockEX, mKeysX, pLstX, pLenX, pMaxT, pSortT, str_to, str_ot, mPar3, mLockV, mLockE, mItemsC, mKeysC, mDGet2, pIsN, isNonP, pRepLM, mTruD, dkOfP, pPopAt, pIndex, mLstRgM, mTruth, pReprA, pLenD, pLstD, mDNew, pRepL, mLenSetN, mDIn, mSortSet, mSortSetL, mRevT, mForC, mSeqC, mLcC, pAbs, pMax2, pMin2, pInt1, mDGet, mDPut, mBM, mBM0, pPop, pAppend, pExtend, pSetL, mSub, mDisp, mPs, mPs0, mRevL, mRevLM, pLstOfM, mTupRg, mRg1, mRg2, pPlusM, lstItems, dictOfP, keyP, keysP, val_left, val_mixed, val_draws, put_draws, mLc, mLcM, mLc2, mFor, mSeqI, mRng1, mRng2, mZip, mEnum, mSl, mNoPart, mPart, mSeq, mAsg, mAsg2, mCB, mCons, mNil, mVar, mC, mOp, mUn, pU, mTup, mLst, mRet, mRetN, mLstM, getl, setl, mName, mCall, mCallK, mIf, mIfS, mTest, mAnd, mOr, mNot, mYes, mAndV, mOrV, mNotV, mNext, mNever, mBreak, mCont, mDrop, mChain, mPar, mGTup, mGCons, mGNil, pGcd, pI, pI0, pIx, pTimes, pPlus, pEq, pNe, pLen, pSum, pMaxS, pAll, pAny, pTupOf, pLstOf, pIn, pIsB, pIsi, items_tup, items_lst, items_kl, items_mr, items_tab, items_lot, items_fr, decide_true, decide_false, eqP_int, eqP_bl, eqP_str, eqP_tup2, kit_tt, kit_ii, kit_ib, tyP, mEnd, wipeP, List.map_cons, List.map_nil, List.getElem?_cons_zero, List.getElem?_cons_succ, List.set_cons_zero, List.set_cons_succ, atI_zero, atI_one, if_true, if_false, ite_true, ite_false, Bool.false_eq_true, List.length_cons, List.length_nil, Bool.not_true, Bool.not_false]
    rw [fdivN, ways_eq]
    have f2 := bd cs.sum hs
    have f4 := fcs_le cs
    exact ⟨divN (n := 3601) _ (fcs_pos cs) (by omega), fin_keep hQ⟩
abbrev N__law_pick : List Str := ["_law_deck_here", "_law_some"]
theorem sc__law_pick : FnScope N__law_pick ["_law_deck_here", "_law_some"] (defScope s__law_pick) := ⟨rfl, rfl, rfl, by decide +kernel, rfl, by decide +kernel, by decide +kernel⟩
theorem ok__law_pick (B : Blt mg) (h__law_pick : Own K mg "_law_pick" s__law_pick) (k__law_draw : Ok P w K mg base 1 "_law_draw" s__law_draw ["_law_deck_here", "_law_many"] S__law_draw) : Ok P w K mg base 2 "_law_pick" s__law_pick ["_law_deck_here", "_law_some"] S__law_pick := by
  obtain ⟨f_s, fd_s, F_s, g_s⟩ := h__law_pick
  obtain ⟨f__law_draw, fd__law_draw, F__law_draw, g__law_draw, b__law_draw, G__law_draw⟩ := k__law_draw
  refine ⟨f_s, fd_s, F_s, g_s, F_s.binds (fun _ _ _ _ _ _ us hl => match us, hl with | [_, _], _ => rfl), FnG.of F_s sc__law_pick (fun xs μ Q h => by first | exact h.1 | exact h.2.1 | (obtain ⟨⟩ := h)) fun cdv A outer s H hr hgd => ⟨_, _, (pss_one (ps_ret (pe_ix ix_seq (pv 1) (pe_callG (G__law_draw.mono (by decide)) hr hgd (by rfl) g__law_draw F__law_draw.kp b__law_draw (pa_cons (pv 0) (pa_cons (pe_callB cb_len (by rfl) (B "len" (by decide)) (by decide +kernel) (pa_cons (pv 1) pa_nil)) pa_nil))) (fun _ _ => rfl)))), (by (try dsimp only [cxOf]); exact inferInstance), ?_⟩⟩
  intro xs μ Q hS
  obtain ⟨_, x, items, m, rest, rfl, hx, hD, hi, hi2, hQ⟩ := hS
  rw [show startP N__law_pick [.mr 1, x] = [some (.mr 1), some x] from rfl]
  rcases hx with hx | ⟨j, rfl, hj⟩
  · have key : S__law_draw [.mr 1, .int (items.length : Nat)] μ fun y μ2 => match y with | .int i => (match atI items i with | some v => ∃ y μ', Gc μ v μ2 y μ' ∧ Q y μ' | none => False) | _ => False := by
      refine ⟨rfl, _, _, _, rfl, hD, by omega, by omega, fun n μ' h0 h1 hD' => ?_⟩
      obtain ⟨j, rfl⟩ : ∃ j : Nat, n = (j : Int) := ⟨n.toNat, by omega⟩
      have hj : j < items.length := by omega
      simp only [atI_some (List.getElem?_eq_getElem hj)]
      exact fin_keep (hQ _ (List.getElem_mem hj) _ hD')
    cases x <;> simp only [seqP, reduceCtorEq, Option.some.injEq] at hx
    · subst hx
      simp only [pComb, mCnt, mDNewT, mZipM, mDc, mLenSetL, mDGetT, mDGet2T, mDInT, mDPutT, mLockX, mLockEX, mKeysX, pLstX, pLenX, pMaxT, pSortT, str_to, str_ot, mPar3, mLockV, mLockE, mItemsC, mKeysC, mDGet2, pIsN, isNonP, pRepLM, mTruD, dkOfP, pPopAt, pIndex, mLstRgM, mTruth, pReprA, pLenD, pLstD, mDNew, pRepL, mLenSetN, mDIn, mSortSet, mSortSetL, mRevT, mForC, mSeqC, mLcC, pAbs, pMax2, pMin2, pInt1, mDGet, mDPut, mBM, mBM0, pPop, pAppend, pExtend, pSetL, mSub, mDisp, mPs, mPs0, mRevL, mRevLM, pLstOfM, mTupRg, mRg1, mRg2, pPlusM, lstItems, dictOfP, keyP, keysP, val_left, val_mixed, val_draws, put_draws, mLc, mLcM, mLc2, mFor, mSeqI, mRng1, mRng2, mZip, mEnum, mSl, mNoPart, mPart, mSeq, mAsg, mAsg2, mCB, mCons, mNil, mVar, mC, mOp, mUn, pU, mTup, mLst, mRet, mRetN, mLstM, getl, setl, mName, mCall, mCallK, mIf, mIfS, mTest, mAnd, mOr, mNot, mYes, mAndV, mOrV, mNotV, mNext, mNever, mBreak, mCont, mDrop, mChain, mPar, mGTup, mGCons, mGNil, pGcd, pI, pI0, pIx, pTimes, pPlus, pEq, pNe, pLen, pSum, pMaxS, pAll, pAny, pTupOf, pLstOf, pIn, pIsB, pIsi, items_tup, items_lst, items_kl, items_mr, items_tab, items_lot, items_fr, decide_true, decide_false, eqP_int, eqP_bl, eqP_str, eqP_tup2, kit_tt, kit_ii, kit_ib, tyP, mEnd, wipeP, List.map_cons, List.map_nil, List.getElem?_cons_zero, List.getElem?_cons_succ, List.set_cons_zero, List.set_cons_succ, atI_zero, atI_one, if_true, if_false, ite_true, ite_false, Bool.false_eq_true, List.length_cons, List.length_nil, Bool.not_true, Bool.not_false]
      exact key
    · subst hx
      simp only [pComb, mCnt, mDNewT, mZipM, mDc, mLenSetL, mDGetT, mDGet2T, mDInT, mDPutT, mLockX, mLockEX, mKeysX, pLstX, pLenX, pMaxT, pSortT, str_to, str_ot, mPar3, mLockV, mLockE, mItemsC, mKeysC, mDGet2, pIsN, isNonP, pRepLM, mTruD, dkOfP, pPopAt, pIndex, mLstRgM, mTruth, pReprA, pLenD, pLstD, mDNew, pRepL, mLenSetN, mDIn, mSortSet, mSortSetL, mRevT, mForC, mSeqC, mLcC, pAbs, pMax2, pMin2, pInt1, mDGet, mDPut, mBM, mBM0, pPop, pAppend, pExtend, pSetL, mSub, mDisp, mPs, mPs0, mRevL, mRevLM, pLstOfM, mTupRg, mRg1, mRg2, pPlusM, lstItems, dictOfP, keyP, keysP, val_left, val_mixed, val_draws, put_draws, mLc, mLcM, mLc2, mFor, mSeqI, mRng1, mRng2, mZip, mEnum, mSl, mNoPart, mPart, mSeq, mAsg, mAsg2, mCB, mCons, mNil, mVar, mC, mOp, mUn, pU, mTup, mLst, mRet, mRetN, mLstM, getl, setl, mName, mCall, mCallK, mIf, mIfS, mTest, mAnd, mOr, mNot, mYes, mAndV, mOrV, mNotV, mNext, mNever, mBreak, mCont, mDrop, mChain, mPar, mGTup, mGCons, mGNil, pGcd, pI, pI0, pIx, pTimes, pPlus, pEq, pNe, pLen, pSum, pMaxS, pAll, pAny, pTupOf, pLstOf, pIn, pIsB, pIsi, items_tup, items_lst, items_kl, items_mr, items_tab, items_lot, items_fr, decide_true, decide_false, eqP_int, eqP_bl, eqP_str, eqP_tup2, kit_tt, kit_ii, kit_ib, tyP, mEnd, wipeP, List.map_cons, List.map_nil, List.getElem?_cons_zero, List.getElem?_cons_succ, List.set_cons_zero, List.set_cons_succ, atI_zero, atI_one, if_true, if_false, ite_true, ite_false, Bool.false_eq_true, List.length_cons, List.length_nil, Bool.not_true, Bool.not_false]
      exact key
  · have e1 : ∀ μ', Dk m rest μ' → μ'[j + 2]? = some (.lst items) := fun μ' h => (h.get j).trans hj
    simp only [pComb, mCnt, mDNewT, mZipM, mDc, mLenSetL, mDGetT, mDGet2T, mDInT, mDPutT, mLockX, mLockEX, mKeysX, pLstX, pLenX, pMaxT, pSortT, str_to, str_ot, mPar3, mLockV, mLockE, mItemsC, mKeysC, mDGet2, pIsN, isNonP, pRepLM, mTruD, dkOfP, pPopAt, pIndex, mLstRgM, mTruth, pReprA, pLenD, pLstD, mDNew, pRepL, mLenSetN, mDIn, mSortSet, mSortSetL, mRevT, mForC, mSeqC, mLcC, pAbs, pMax2, pMin2, pInt1, mDGet, mDPut, mBM, mBM0, pPop, pAppend, pExtend, pSetL, mSub, mDisp, mPs, mPs0, mRevL, mRevLM, pLstOfM, mTupRg, mRg1, mRg2, pPlusM, lstItems, dictOfP, keyP, keysP, val_left, val_mixed, val_draws, put_draws, mLc, mLcM, mLc2, mFor, mSeqI, mRng1, mRng2, mZip, mEnum, mSl, mNoPart, mPart, mSeq, mAsg, mAsg2, mCB, mCons, mNil, mVar, mC, mOp, mUn, pU, mTup, mLst, mRet, mRetN, mLstM, getl, setl, mName, mCall, mCallK, mIf, mIfS, mTest, mAnd, mOr, mNot, mYes, mAndV, mOrV, mNotV, mNext, mNever, mBreak, mCont, mDrop, mChain, mPar, mGTup, mGCons, mGNil, pGcd, pI, pI0, pIx, pTimes, pPlus, pEq, pNe, pLen, pSum, pMaxS, pAll, pAny, pTupOf, pLstOf, pIn, pIsB, pIsi, items_tup, items_lst, items_kl, items_mr, items_tab, items_lot, items_fr, decide_true, decide_false, eqP_int, eqP_bl, eqP_str, eqP_tup2, kit_tt, kit_ii, kit_ib, tyP, mEnd, wipeP, List.map_cons, List.map_nil, List.getElem?_cons_zero, List.getElem?_cons_succ, List.set_cons_zero, List.set_cons_succ, atI_zero, atI_one, if_true, if_false, ite_true, ite_false, Bool.false_eq_true, List.length_cons, List.length_nil, Bool.not_true, Bool.not_false, e1 μ hD, S__law_draw]
    refine ⟨trivial, _, _, _, rfl, hD, by omega, by omega, fun n μ' h0 h1 hD' => ?_⟩
    obtain ⟨i, rfl⟩ : ∃ i : Nat, n = (i : Int) := ⟨n.toNat, by omega⟩
    have hi : i < items.length := by omega
    simp only [e1 μ' hD', atI_some (List.getElem?_eq_getElem hi)]
    exact fin_keep (hQ _ (List.getElem_mem hi) _ hD')
abbrev N__law_fraction : List Str := ["_law_top", "_law_bottom", "_law_g"]
theorem sc__law_fraction : FnScope N__law_fraction ["_law_top", "_law_bottom"] (defScope s__law_fraction) := ⟨rfl, rfl, rfl, by decide +kernel, rfl, by decide +kernel, by decide +kernel⟩
theorem ok__law_fraction (B : Blt mg) (h__law_fraction : Own K mg "_law_fraction" s__law_fraction) (k__law_common : Ok P w K mg base 1 "_law_common" s__law_common ["_law_one", "_law_other"] S__law_common) : Ok P w K mg base 2 "_law_fraction" s__law_fraction ["_law_top", "_law_bottom"] S__law_fraction := by
  obtain ⟨f_s, fd_s, F_s, g_s⟩ := h__law_fraction
  obtain ⟨f__law_common, fd__law_common, F__law_common, g__law_common, b__law_common, G__law_common⟩ := k__law_common
  refine ⟨f_s, fd_s, F_s, g_s, F_s.binds (fun _ _ _ _ _ _ us hl => match us, hl with | [_, _], _ => rfl), FnG.of F_s sc__law_fraction (fun xs μ Q h => by first | exact h.1 | exact h.2.1 | (obtain ⟨⟩ := h)) fun cdv A outer s H hr hgd => ⟨_, _, (pss_cons (ps_set (i := 2) sc__law_fraction.nd rfl (Or.inl rfl) (pe_ifExp (pt_cmpR op_gt (pv 1) pe_int (nomark _)) (pe_callG (G__law_common.mono (by decide)) hr hgd (by rfl) g__law_common F__law_common.kp b__law_common (pa_cons (pv 0) (pa_cons (pv 1) pa_nil))) (pe_op op_sub pe_int (pe_callG (G__law_common.mono (by decide)) hr hgd (by rfl) g__law_common F__law_common.kp b__law_common (pa_cons (pv 0) (pa_cons (pv 1) pa_nil))))))
 (pss_one (ps_ret (pe_tupF (pa_cons (pe_op op_divV (pv 0) (pv 2)) (pa_cons (pe_op op_divV (pv 1) (pv 2)) pa_nil)))))), (by (try dsimp only [cxOf]); exact inferInstance), ?_⟩⟩
  intro xs μ Q hS
  obtain ⟨_, a, b, rfl, hst, hb, h0, hQ⟩ := hS
  rw [show startP N__law_fraction [.int a, .int b] = [some (.int a), some (.int b), none] from rfl]
  have e1 : decide ((0 : Int) < b) = true := by simpa using h0
  simp only [pComb, mCnt, mDNewT, mZipM, mDc, mLenSetL, mDGetT, mDGet2T, mDInT, mDPutT, mLockX, mLockEX, mKeysX, pLstX, pLenX, pMaxT, pSortT, str_to, str_ot, mPar3, mLockV, mLockE, mItemsC, mKeysC, mDGet2, pIsN, isNonP, pRepLM, mTruD, dkOfP, pPopAt, pIndex, mLstRgM, mTruth, pReprA, pLenD, pLstD, mDNew, pRepL, mLenSetN, mDIn, mSortSet, mSortSetL, mRevT, mForC, mSeqC, mLcC, pAbs, pMax2, pMin2, pInt1, mDGet, mDPut, mBM, mBM0, pPop, pAppend, pExtend, pSetL, mSub, mDisp, mPs, mPs0, mRevL, mRevLM, pLstOfM, mTupRg, mRg1, mRg2, pPlusM, lstItems, dictOfP, keyP, keysP, val_left, val_mixed, val_draws, put_draws, mLc, mLcM, mLc2, mFor, mSeqI, mRng1, mRng2, mZip, mEnum, mSl, mNoPart, mPart, mSeq, mAsg, mAsg2, mCB, mCons, mNil, mVar, mC, mOp, mUn, pU, mTup, mLst, mRet, mRetN, mLstM, getl, setl, mName, mCall, mCallK, mIf, mIfS, mTest, mAnd, mOr, mNot, mYes, mAndV, mOrV, mNotV, mNext, mNever, mBreak, mCont, mDrop, mChain, mPar, mGTup, mGCons, mGNil, pGcd, pI, pI0, pIx, pTimes, pPlus, pEq, pNe, pLen, pSum, pMaxS, pAll, pAny, pTupOf, pLstOf, pIn, pIsB, pIsi, items_tup, items_lst, items_kl, items_mr, items_tab, items_lot, items_fr, decide_true, decide_false, eqP_int, eqP_bl, eqP_str, eqP_tup2, kit_tt, kit_ii, kit_ib, tyP, mEnd, wipeP, List.map_cons, List.map_nil, List.getElem?_cons_zero, List.getElem?_cons_succ, List.set_cons_zero, List.set_cons_succ, atI_zero, atI_one, if_true, if_false, ite_true, ite_false, Bool.false_eq_true, List.length_cons, List.length_nil, Bool.not_true, Bool.not_false, e1, S__law_common]
  obtain ⟨d1, d2⟩ := divV_gcd h0 hb
  refine ⟨trivial, _, _, rfl, hst, d1, d2, by decide, ?_⟩
  obtain ⟨e2, e3⟩ := lowest_eq a b h0
  rw [e2, e3]
  exact fin_keep hQ
abbrev N_is_fraction : List Str := ["thing", "top", "bottom"]
theorem sc_is_fraction : FnScope N_is_fraction ["thing"] (defScope s_is_fraction) := ⟨rfl, rfl, rfl, by decide +kernel, rfl, by decide +kernel, by decide +kernel⟩
theorem ok_is_fraction (B : Blt mg) (h_is_fraction : Own K mg "is_fraction" s_is_fraction) (k_is_integer : Ok P w K mg base 1 "is_integer" s_is_integer ["thing"] S_is_integer) (i_gcd : mg "gcd" = some (.builtin "math.gcd")) : Ok P w K mg base 2 "is_fraction" s_is_fraction ["thing"] S_is_fraction := by
  obtain ⟨f_s, fd_s, F_s, g_s⟩ := h_is_fraction
  obtain ⟨f_is_integer, fd_is_integer, F_is_integer, g_is_integer, b_is_integer, G_is_integer⟩ := k_is_integer
  refine ⟨f_s, fd_s, F_s, g_s, F_s.binds (fun _ _ _ _ _ _ us hl => match us, hl with | [_], _ => rfl), FnG.of F_s sc_is_fraction (fun xs μ Q h => by first | exact h.1 | exact h.2.1 | (obtain ⟨⟩ := h)) fun cdv A outer s H hr hgd => ⟨_, _, (pss_cons (ps_if (PW.pt (pw_or (pt_not (pt_val (pe_callB call_isi (by rfl) (B "isinstance" (by decide)) (by decide +kernel) (pa_cons (pv 0) (pa_cons (pe_bltn (v := .ty "tuple") (u := .type "tuple") (by rfl) (B "tuple" (by decide)) (by decide +kernel) rfl) pa_nil))))) (pw_or1 (pt_cmpR (op_neX hr.units) (pe_callB cb_len (by rfl) (B "len" (by decide)) (by decide +kernel) (pa_cons (pv 0) pa_nil)) pe_int (nomark _)))))
 (pss_one (ps_ret pe_bl))
 pss_nil)
 (pss_cons (ps_asg (pv 0) (pg_tup (n := 2) rfl (pgs_cons (pg_name (i := 1) sc_is_fraction.nd rfl (Or.inl rfl)) (pgs_cons (pg_name (i := 2) sc_is_fraction.nd rfl (Or.inl rfl)) pgs_nil))))
 (pss_one (ps_ret (pe_and (pe_callG (G_is_integer.mono (by decide)) hr hgd (by rfl) g_is_integer F_is_integer.kp b_is_integer (pa_cons (pv 1) pa_nil)) (pe_and (pe_callG (G_is_integer.mono (by decide)) hr hgd (by rfl) g_is_integer F_is_integer.kp b_is_integer (pa_cons (pv 2) pa_nil)) (pe_and (pe_cmpR op_gt (pv 2) pe_int (nomark _)) (pe_one (pe_cmpR (op_eqX hr.units) (pe_callBfun cr_gcd (by rfl) i_gcd (pa_cons (pv 1) (pa_cons (pv 2) pa_nil))) pe_int (nomark _)))))))))), (by (try dsimp only [cxOf]); exact inferInstance), ?_⟩⟩
  intro xs μ Q hS
  obtain ⟨_, q, rfl, hQ⟩ := hS
  rw [show startP N_is_fraction [frP q] = [some (frP q), none, none] from rfl]
  have hd := den_pos q
  simp only [pComb, mCnt, mDNewT, mZipM, mDc, mLenSetL, mDGetT, mDGet2T, mDInT, mDPutT, mLockX, mLockEX, mKeysX, pLstX, pLenX, pMaxT, pSortT, str_to, str_ot, mPar3, mLockV, mLockE, mItemsC, mKeysC, mDGet2, pIsN, isNonP, pRepLM, mTruD, dkOfP, pPopAt, pIndex, mLstRgM, mTruth, pReprA, pLenD, pLstD, mDNew, pRepL, mLenSetN, mDIn, mSortSet, mSortSetL, mRevT, mForC, mSeqC, mLcC, pAbs, pMax2, pMin2, pInt1, mDGet, mDPut, mBM, mBM0, pPop, pAppend, pExtend, pSetL, mSub, mDisp, mPs, mPs0, mRevL, mRevLM, pLstOfM, mTupRg, mRg1, mRg2, pPlusM, lstItems, dictOfP, keyP, keysP, val_left, val_mixed, val_draws, put_draws, mLc, mLcM, mLc2, mFor, mSeqI, mRng1, mRng2, mZip, mEnum, mSl, mNoPart, mPart, mSeq, mAsg, mAsg2, mCB, mCons, mNil, mVar, mC, mOp, mUn, pU, mTup, mLst, mRet, mRetN, mLstM, getl, setl, mName, mCall, mCallK, mIf, mIfS, mTest, mAnd, mOr, mNot, mYes, mAndV, mOrV, mNotV, mNext, mNever, mBreak, mCont, mDrop, mChain, mPar, mGTup, mGCons, mGNil, pGcd, pI, pI0, pIx, pTimes, pPlus, pEq, pNe, pLen, pSum, pMaxS, pAll, pAny, pTupOf, pLstOf, pIn, pIsB, pIsi, items_tup, items_lst, items_kl, items_mr, items_tab, items_lot, items_fr, decide_true, decide_false, eqP_int, eqP_bl, eqP_str, eqP_tup2, kit_tt, kit_ii, kit_ib, tyP, mEnd, wipeP, List.map_cons, List.map_nil, List.getElem?_cons_zero, List.getElem?_cons_succ, List.set_cons_zero, List.set_cons_succ, atI_zero, atI_one, if_true, if_false, ite_true, ite_false, Bool.false_eq_true, List.length_cons, List.length_nil, Bool.not_true, Bool.not_false, frP, S_is_integer, gcd_one]
  have e2 : decide (0 < (q.den : Int)) = true := by simpa using hd
  rw [e2]
  exact ⟨trivial, trivial, _, rfl, trivial, _, rfl, fin_keep hQ⟩
abbrev N_added : List Str := ["one", "other"]
theorem sc_added : FnScope N_added ["one", "other"] (defScope s_added) := ⟨rfl, rfl, rfl, by decide +kernel, rfl, by decide +kernel, by decide +kernel⟩
theorem ok_added (B : Blt mg) (h_added : Own K mg "added" s_added) (k_lowest : Ok P w K mg base 1 "lowest" s_lowest ["top", "bottom"] S_lowest) : Ok P w K mg base 2 "added" s_added ["one", "other"] S_added := by
  obtain ⟨f_s, fd_s, F_s, g_s⟩ := h_added
  obtain ⟨f_lowest, fd_lowest, F_lowest, g_lowest, b_lowest, G_lowest⟩ := k_lowest
  refine ⟨f_s, fd_s, F_s, g_s, F_s.binds (fun _ _ _ _ _ _ us hl => match us, hl with | [_, _], _ => rfl), FnG.of F_s sc_added (fun xs μ Q h => by first | exact h.1 | exact h.2.1 | (obtain ⟨⟩ := h)) fun cdv A outer s H hr hgd => ⟨_, _, (pss_one (ps_ret (pe_callG (G_lowest.mono (by decide)) hr hgd (by rfl) g_lowest F_lowest.kp b_lowest (pa_cons (pe_op op_plus (pe_op op_times (pe_ix ix_seq (pv 0) pe_int (fun _ _ => rfl)) (pe_ix ix_seq (pv 1) pe_int (fun _ _ => rfl))) (pe_op op_times (pe_ix ix_seq (pv 1) pe_int (fun _ _ => rfl)) (pe_ix ix_seq (pv 0) pe_int (fun _ _ => rfl)))) (pa_cons (pe_op op_times (pe_ix ix_seq (pv 0) pe_int (fun _ _ => rfl)) (pe_ix ix_seq (pv 1) pe_int (fun _ _ => rfl))) pa_nil))))), (by (try dsimp only [cxOf]); exact inferInstance), ?_⟩⟩
  intro xs μ Q hS
  obtain ⟨_, p, q, rfl, hp, hq, hQ⟩ := hS
  rw [show startP N_added [frP p, frP q] = [some (frP p), some (frP q)] from rfl]
  obtain ⟨m1, m2, m3, m4⟩ := fr_mul hp hq
  obtain ⟨n1, n2, n3, n4⟩ := fr_mul hq hp
  simp only [pComb, mCnt, mDNewT, mZipM, mDc, mLenSetL, mDGetT, mDGet2T, mDInT, mDPutT, mLockX, mLockEX, mKeysX, pLstX, pLenX, pMaxT, pSortT, str_to, str_ot, mPar3, mLockV, mLockE, mItemsC, mKeysC, mDGet2, pIsN, isNonP, pRepLM, mTruD, dkOfP, pPopAt, pIndex, mLstRgM, mTruth, pReprA, pLenD, pLstD, mDNew, pRepL, mLenSetN, mDIn, mSortSet, mSortSetL, mRevT, mForC, mSeqC, mLcC, pAbs, pMax2, pMin2, pInt1, mDGet, mDPut, mBM, mBM0, pPop, pAppend, pExtend, pSetL, mSub, mDisp, mPs, mPs0, mRevL, mRevLM, pLstOfM, mTupRg, mRg1, mRg2, pPlusM, lstItems, dictOfP, keyP, keysP, val_left, val_mixed, val_draws, put_draws, mLc, mLcM, mLc2, mFor, mSeqI, mRng1, mRng2, mZip, mEnum, mSl, mNoPart, mPart, mSeq, mAsg, mAsg2, mCB, mCons, mNil, mVar, mC, mOp, mUn, pU, mTup, mLst, mRet, mRetN, mLstM, getl, setl, mName, mCall, mCallK, mIf, mIfS, mTest, mAnd, mOr, mNot, mYes, mAndV, mOrV, mNotV, mNext, mNever, mBreak, mCont, mDrop, mChain, mPar, mGTup, mGCons, mGNil, pGcd, pI, pI0, pIx, pTimes, pPlus, pEq, pNe, pLen, pSum, pMaxS, pAll, pAny, pTupOf, pLstOf, pIn, pIsB, pIsi, items_tup, items_lst, items_kl, items_mr, items_tab, items_lot, items_fr, decide_true, decide_false, eqP_int, eqP_bl, eqP_str, eqP_tup2, kit_tt, kit_ii, kit_ib, tyP, mEnd, wipeP, List.map_cons, List.map_nil, List.getElem?_cons_zero, List.getElem?_cons_succ, List.set_cons_zero, List.set_cons_succ, atI_zero, atI_one, if_true, if_false, ite_true, ite_false, Bool.false_eq_true, List.length_cons, List.length_nil, Bool.not_true, Bool.not_false, frP, S_lowest]
  refine ⟨m2, n2, m4, trivial, _, _, rfl, Int.mul_pos (den_pos p) (den_pos q), ?_, ?_⟩
  · exact Nat.lt_of_lt_of_le (natAbs_mul_lt (x := (p.den : Int)) (y := (q.den : Int)) (by simpa using hp.2) (by simpa using hq.2)) (Nat.pow_le_pow_right (by decide) (by decide))
  · rw [← add_eq]
    exact fin_keep hQ
abbrev N_is_within : List Str := ["thing", "low", "high"]
theorem sc_is_within : FnScope N_is_within ["thing", "low", "high"] (defScope s_is_within) := ⟨rfl, rfl, rfl, by decide +kernel, rfl, by decide +kernel, by decide +kernel⟩
theorem ok_is_within (B : Blt mg) (h_is_within : Own K mg "is_within" s_is_within) (k_is_integer : Ok P w K mg base 1 "is_integer" s_is_integer ["thing"] S_is_integer) : Ok P w K mg base 2 "is_within" s_is_within ["thing", "low", "high"] S_is_within := by
  obtain ⟨f_s, fd_s, F_s, g_s⟩ := h_is_within
  obtain ⟨f_is_integer, fd_is_integer, F_is_integer, g_is_integer, b_is_integer, G_is_integer⟩ := k_is_integer
  refine ⟨f_s, fd_s, F_s, g_s, F_s.binds (fun _ _ _ _ _ _ us hl => match us, hl with | [_, _, _], _ => rfl), FnG.of F_s sc_is_within (fun xs μ Q h => by first | exact h.1 | exact h.2.1 | (obtain ⟨⟩ := h)) fun cdv A outer s H hr hgd => ⟨_, _, (pss_one (ps_ret (pe_and (pe_callG (G_is_integer.mono (by decide)) hr hgd (by rfl) g_is_integer F_is_integer.kp b_is_integer (pa_cons (pv 0) pa_nil)) (pe_one (pe_chain op_le op_le (pv 1) (pv 0) (pv 2)))))), (by (try dsimp only [cxOf]); exact inferInstance), ?_⟩⟩
  intro xs μ Q hS
  obtain ⟨_, i, lo, hi, rfl, hQ⟩ := hS
  rw [show startP N_is_within [.int i, .int lo, .int hi] = [some (.int i), some (.int lo), some (.int hi)] from rfl]
  simp only [pComb, mCnt, mDNewT, mZipM, mDc, mLenSetL, mDGetT, mDGet2T, mDInT, mDPutT, mLockX, mLockEX, mKeysX, pLstX, pLenX, pMaxT, pSortT, str_to, str_ot, mPar3, mLockV, mLockE, mItemsC, mKeysC, mDGet2, pIsN, isNonP, pRepLM, mTruD, dkOfP, pPopAt, pIndex, mLstRgM, mTruth, pReprA, pLenD, pLstD, mDNew, pRepL, mLenSetN, mDIn, mSortSet, mSortSetL, mRevT, mForC, mSeqC, mLcC, pAbs, pMax2, pMin2, pInt1, mDGet, mDPut, mBM, mBM0, pPop, pAppend, pExtend, pSetL, mSub, mDisp, mPs, mPs0, mRevL, mRevLM, pLstOfM, mTupRg, mRg1, mRg2, pPlusM, lstItems, dictOfP, keyP, keysP, val_left, val_mixed, val_draws, put_draws, mLc, mLcM, mLc2, mFor, mSeqI, mRng1, mRng2, mZip, mEnum, mSl, mNoPart, mPart, mSeq, mAsg, mAsg2, mCB, mCons, mNil, mVar, mC, mOp, mUn, pU, mTup, mLst, mRet, mRetN, mLstM, getl, setl, mName, mCall, mCallK, mIf, mIfS, mTest, mAnd, mOr, mNot, mYes, mAndV, mOrV, mNotV, mNext, mNever, mBreak, mCont, mDrop, mChain, mPar, mGTup, mGCons, mGNil, pGcd, pI, pI0, pIx, pTimes, pPlus, pEq, pNe, pLen, pSum, pMaxS, pAll, pAny, pTupOf, pLstOf, pIn, pIsB, pIsi, items_tup, items_lst, items_kl, items_mr, items_tab, items_lot, items_fr, decide_true, decide_false, eqP_int, eqP_bl, eqP_str, eqP_tup2, kit_tt, kit_ii, kit_ib, tyP, mEnd, wipeP, List.map_cons, List.map_nil, List.getElem?_cons_zero, List.getElem?_cons_succ, List.set_cons_zero, List.set_cons_succ, atI_zero, atI_one, if_true, if_false, ite_true, ite_false, Bool.false_eq_true, List.length_cons, List.length_nil, Bool.not_true, Bool.not_false, S_is_integer]
  refine ⟨trivial, i, rfl, ?_⟩
  by_cases h : lo ≤ i
  · simp only [h, decide_true, if_true, Bool.true_and] at hQ ⊢
    exact fin_keep hQ
  · simp only [h, decide_false, Bool.false_eq_true, if_false, Bool.false_and] at hQ ⊢
    exact fin_keep hQ
abbrev N_times : List Str := ["one", "other"]
theorem sc_times : FnScope N_times ["one", "other"] (defScope s_times) := ⟨rfl, rfl, rfl, by decide +kernel, rfl, by decide +kernel, by decide +kernel⟩
theorem ok_times (B : Blt mg) (h_times : Own K mg "times" s_times) (k_lowest : Ok P w K mg base 1 "lowest" s_lowest ["top", "bottom"] S_lowest) : Ok P w K mg base 2 "times" s_times ["one", "other"] S_times := by
  obtain ⟨f_s, fd_s, F_s, g_s⟩ := h_times
  obtain ⟨f_lowest, fd_lowest, F_lowest, g_lowest, b_lowest, G_lowest⟩ := k_lowest
  refine ⟨f_s, fd_s, F_s, g_s, F_s.binds (fun _ _ _ _ _ _ us hl => match us, hl with | [_, _], _ => rfl), FnG.of F_s sc_times (fun xs μ Q h => by first | exact h.1 | exact h.2.1 | (obtain ⟨⟩ := h)) fun cdv A outer s H hr hgd => ⟨_, _, (pss_one (ps_ret (pe_callG (G_lowest.mono (by decide)) hr hgd (by rfl) g_lowest F_lowest.kp b_lowest (pa_cons (pe_op op_times (pe_ix ix_seq (pv 0) pe_int (fun _ _ => rfl)) (pe_ix ix_seq (pv 1) pe_int (fun _ _ => rfl))) (pa_cons (pe_op op_times (pe_ix ix_seq (pv 0) pe_int (fun _ _ => rfl)) (pe_ix ix_seq (pv 1) pe_int (fun _ _ => rfl))) pa_nil))))), (by (try dsimp only [cxOf]); exact inferInstance), ?_⟩⟩
  intro xs μ Q hS
  obtain ⟨_, p, q, rfl, hp, hq, hQ⟩ := hS
  rw [show startP N_times [frP p, frP q] = [some (frP p), some (frP q)] from rfl]
  obtain ⟨m1, m2, m3, m4⟩ := fr_mul hp hq
  simp only [pComb, mCnt, mDNewT, mZipM, mDc, mLenSetL, mDGetT, mDGet2T, mDInT, mDPutT, mLockX, mLockEX, mKeysX, pLstX, pLenX, pMaxT, pSortT, str_to, str_ot, mPar3, mLockV, mLockE, mItemsC, mKeysC, mDGet2, pIsN, isNonP, pRepLM, mTruD, dkOfP, pPopAt, pIndex, mLstRgM, mTruth, pReprA, pLenD, pLstD, mDNew, pRepL, mLenSetN, mDIn, mSortSet, mSortSetL, mRevT, mForC, mSeqC, mLcC, pAbs, pMax2, pMin2, pInt1, mDGet, mDPut, mBM, mBM0, pPop, pAppend, pExtend, pSetL, mSub, mDisp, mPs, mPs0, mRevL, mRevLM, pLstOfM, mTupRg, mRg1, mRg2, pPlusM, lstItems, dictOfP, keyP, keysP, val_left, val_mixed, val_draws, put_draws, mLc, mLcM, mLc2, mFor, mSeqI, mRng1, mRng2, mZip, mEnum, mSl, mNoPart, mPart, mSeq, mAsg, mAsg2, mCB, mCons, mNil, mVar, mC, mOp, mUn, pU, mTup, mLst, mRet, mRetN, mLstM, getl, setl, mName, mCall, mCallK, mIf, mIfS, mTest, mAnd, mOr, mNot, mYes, mAndV, mOrV, mNotV, mNext, mNever, mBreak, mCont, mDrop, mChain, mPar, mGTup, mGCons, mGNil, pGcd, pI, pI0, pIx, pTimes, pPlus, pEq, pNe, pLen, pSum, pMaxS, pAll, pAny, pTupOf, pLstOf, pIn, pIsB, pIsi, items_tup, items_lst, items_kl, items_mr, items_tab, items_lot, items_fr, decide_true, decide_false, eqP_int, eqP_bl, eqP_str, eqP_tup2, kit_tt, kit_ii, kit_ib, tyP, mEnd, wipeP, List.map_cons, List.map_nil, List.getElem?_cons_zero, List.getElem?_cons_succ, List.set_cons_zero, List.set_cons_succ, atI_zero, atI_one, if_true, if_false, ite_true, ite_false, Bool.false_eq_true, List.length_cons, List.length_nil, Bool.not_true, Bool.not_false, frP, S_lowest]
  refine ⟨m1, m4, trivial, _, _, rfl, Int.mul_pos (den_pos p) (den_pos q), ?_, ?_⟩
  · exact Nat.lt_of_lt_of_le (natAbs_mul_lt (x := (p.den : Int)) (y := (q.den : Int)) (by simpa using hp.2) (by simpa using hq.2)) (Nat.pow_le_pow_right (by decide) (by decide))
  · rw [← mul_eq]
    exact fin_keep hQ
abbrev N__law_parts : List Str := ["_law_deck_here", "_law_n", "_law_way", "_law_some", "_law_found", "_law_turn"]
theorem sc__law_parts : FnScope N__law_parts ["_law_deck_here", "_law_n", "_law_way"] (defScope s__law_parts) := ⟨rfl, rfl, rfl, by decide +kernel, rfl, by decide +kernel, by decide +kernel⟩
theorem ok__law_parts (B : Blt mg) (h__law_parts : Own K mg "_law_parts" s__law_parts) (k__law_pick : Ok P w K mg base 2 "_law_pick" s__law_pick ["_law_deck_here", "_law_some"] S__law_pick) : Ok P w K mg base 3 "_law_parts" s__law_parts ["_law_deck_here", "_law_n", "_law_way"] S__law_parts := by
  obtain ⟨f_s, fd_s, F_s, g_s⟩ := h__law_parts
  obtain ⟨f__law_pick, fd__law_pick, F__law_pick, g__law_pick, b__law_pick, G__law_pick⟩ := k__law_pick
  refine ⟨f_s, fd_s, F_s, g_s, F_s.binds (fun _ _ _ _ _ _ us hl => match us, hl with | [_, _, _], _ => rfl), FnG.of F_s sc__law_parts (fun xs μ Q h => by first | exact h.1 | exact h.2.1 | (obtain ⟨⟩ := h)) fun cdv A outer s H hr hgd => ⟨_, _, (pss_cons (ps_set (i := 3) sc__law_parts.nd rfl (Or.inr rfl) (pe_ix ix_seq (pe_lst (pa_cons (pe_lst (pa_cons pe_int (pa_cons pe_int (pa_cons pe_int (pa_cons pe_int (pa_cons pe_int (pa_cons pe_int pa_nil))))))) (pa_cons (pe_lst (pa_cons pe_int (pa_cons pe_int (pa_cons pe_int (pa_cons pe_int pa_nil))))) (pa_cons (pe_lst (pa_cons pe_int (pa_cons pe_int (pa_cons pe_int (pa_cons pe_int (pa_cons pe_int pa_nil)))))) (pa_cons (pe_lst (pa_cons pe_int pa_nil)) (pa_cons (pe_lst (pa_cons pe_int (pa_cons (pe_op op_plus (pe_op op_pow pe_int pe_int) pe_int) (pa_cons pe_int (pa_cons (pe_op op_pow pe_int pe_int) pa_nil))))) pa_nil)))))) (pv 2) (fun _ _ => rfl)))
 (pss_cons (psM (ps_setLc (i := 4) (own := [("_law_turn", 5)]) rfl sc__law_parts.nd rfl rfl (sw_true rfl rfl rfl (by decide +kernel)) (pi_range1 (by rfl) (B "range" (by decide)) (pa_cons (pv 1) pa_nil)) (blkOk_by (own := [("_law_turn", 5)]) (N := N__law_parts) (sc := defScope s__law_parts) (by decide +kernel)) (fun _ _ _ _ _ => (pg_name (i := 5) sc__law_parts.nd rfl (Or.inl rfl))) (fun _ _ _ _ _ => pts_nil) (fun _ _ _ _ _ => (pek_call K rfl (G__law_pick.mono (by decide)) hr hgd (by rfl) g__law_pick F__law_pick.kp b__law_pick (pa_cons (pv 0) (pa_cons (pv 3) pa_nil))))))
 (pss_one (ps_ret (pe_ifExp (pt_cmpR op_gt (pe_callB (cb_maxS rfl hr.units) (by rfl) (B "max" (by decide)) (by decide +kernel) (pa_cons (pv 4) pa_nil)) pe_int (nomark _)) (pv 4) (pe_op op_plusM (pe_lst (pa_cons pe_int pa_nil)) (pe_slice sl_any (pv 4) (po_some pe_int) po_none))))))), (by (try dsimp only [cxOf]); exact inferInstance), ?_⟩⟩
  intro xs μ Q hS
  obtain ⟨_, n, way, m, rest, rfl, h1, hn, w0, w4, hD, hQ⟩ := hS
  rw [show startP N__law_parts [.mr 1, .int n, .int way] = [some (.mr 1), some (.int n), some (.int way), none, none, none] from rfl]
  have hw : ∃ items : List Int, atI [PV.lst [.int 1, .int 2, .int 3, .int 0, .int 1, .int 5], .lst [.int 1, .int 1, .int 2, .int 4], .lst [.int 0, .int 1, .int 0, .int 7, .int 30], .lst [.int 1], .lst [.int 1, .int (10 ^ (9 : Int).toNat + 7), .int 3, .int (10 ^ (12 : Int).toNat)]] way = some (.lst (items.map PV.int)) ∧ items ≠ [] ∧ items.length ≤ 10 ∧ ∀ i ∈ items, (0 ≤ i ∧ i ≤ 1000000000000) ∧ pwB way i = true := by
    obtain rfl | rfl | rfl | rfl | rfl : way = 0 ∨ way = 1 ∨ way = 2 ∨ way = 3 ∨ way = 4 := by omega
    · exact ⟨[1, 2, 3, 0, 1, 5], rfl, by decide, by decide, by decide⟩
    · exact ⟨[1, 1, 2, 4], rfl, by decide, by decide, by decide⟩
    · exact ⟨[0, 1, 0, 7, 30], rfl, by decide, by decide, by decide⟩
    · exact ⟨[1], rfl, by decide, by decide, by decide⟩
    · exact ⟨[1, 1000000007, 3, 1000000000000], rfl, by decide, by decide, by decide⟩
  obtain ⟨items, hit, hine, hil, hib⟩ := hw
  simp only [pComb, mCnt, mDNewT, mZipM, mDc, mLenSetL, mDGetT, mDGet2T, mDInT, mDPutT, mLockX, mLockEX, mKeysX, pLstX, pLenX, pMaxT, pSortT, str_to, str_ot, mPar3, mLockV, mLockE, mItemsC, mKeysC, mDGet2, pIsN, isNonP, pRepLM, mTruD, dkOfP, pPopAt, pIndex, mLstRgM, mTruth, pReprA, pLenD, pLstD, mDNew, pRepL, mLenSetN, mDIn, mSortSet, mSortSetL, mRevT, mForC, mSeqC, mLcC, pAbs, pMax2, pMin2, pInt1, mDGet, mDPut, mBM, mBM0, pPop, pAppend, pExtend, pSetL, mSub, mDisp, mPs, mPs0, mRevL, mRevLM, pLstOfM, mTupRg, mRg1, mRg2, pPlusM, lstItems, dictOfP, keyP, keysP, val_left, val_mixed, val_draws, put_draws, mLc, mLcM, mLc2, mFor, mSeqI, mRng1, mRng2, mZip, mEnum, mSl, mNoPart, mPart, mSeq, mAsg, mAsg2, mCB, mCons, mNil, mVar, mC, mOp, mUn, pU, mTup, mLst, mRet, mRetN, mLstM, getl, setl, mName, mCall, mCallK, mIf, mIfS, mTest, mAnd, mOr, mNot, mYes, mAndV, mOrV, mNotV, mNext, mNever, mBreak, mCont, mDrop, mChain, mPar, mGTup, mGCons, mGNil, pGcd, pI, pI0, pIx, pTimes, pPlus, pEq, pNe, pLen, pSum, pMaxS, pAll, pAny, pTupOf, pLstOf, pIn, pIsB, pIsi, items_tup, items_lst, items_kl, items_mr, items_tab, items_lot, items_fr, decide_true, decide_false, eqP_int, eqP_bl, eqP_str, eqP_tup2, kit_tt, kit_ii, kit_ib, tyP, mEnd, wipeP, List.map_cons, List.map_nil, List.getElem?_cons_zero, List.getElem?_cons_succ, List.set_cons_zero, List.set_cons_succ, atI_zero, atI_one, if_true, if_false, ite_true, ite_false, Bool.false_eq_true, List.length_cons, List.length_nil, Bool.not_true, Bool.not_false]
  rw [hit]
  simp only
  rw [Int.toNat_natCast, rangeP_eq]
  refine ⟨by decide, by decide, by decide, by decide, ⟨by decide, by decide, by decide⟩, ⟨by decide, by decide, by decide⟩, by decide, by decide, by decide, by omega, by rw [List.length_map, List.length_range]; unfold lim; omega, lc_any (fun pre acc μ' => Dk m rest μ' ∧ ∃ ps : List Int, acc = ps.map PV.int ∧ ps.length = pre.length ∧ ∀ i ∈ ps, (0 ≤ i ∧ i ≤ 1000000000000) ∧ pwB way i = true) (done := []) ⟨hD, [], rfl, rfl, by simp⟩ (fun pre a post acc μ' e hI N hN => ?_) fun acc μ' hI => ?_⟩
  · obtain ⟨hD', ps, rfl, hp, hlt⟩ := hI
    simp only [pComb, mCnt, mDNewT, mZipM, mDc, mLenSetL, mDGetT, mDGet2T, mDInT, mDPutT, mLockX, mLockEX, mKeysX, pLstX, pLenX, pMaxT, pSortT, str_to, str_ot, mPar3, mLockV, mLockE, mItemsC, mKeysC, mDGet2, pIsN, isNonP, pRepLM, mTruD, dkOfP, pPopAt, pIndex, mLstRgM, mTruth, pReprA, pLenD, pLstD, mDNew, pRepL, mLenSetN, mDIn, mSortSet, mSortSetL, mRevT, mForC, mSeqC, mLcC, pAbs, pMax2, pMin2, pInt1, mDGet, mDPut, mBM, mBM0, pPop, pAppend, pExtend, pSetL, mSub, mDisp, mPs, mPs0, mRevL, mRevLM, pLstOfM, mTupRg, mRg1, mRg2, pPlusM, lstItems, dictOfP, keyP, keysP, val_left, val_mixed, val_draws, put_draws, mLc, mLcM, mLc2, mFor, mSeqI, mRng1, mRng2, mZip, mEnum, mSl, mNoPart, mPart, mSeq, mAsg, mAsg2, mCB, mCons, mNil, mVar, mC, mOp, mUn, pU, mTup, mLst, mRet, mRetN, mLstM, getl, setl, mName, mCall, mCallK, mIf, mIfS, mTest, mAnd, mOr, mNot, mYes, mAndV, mOrV, mNotV, mNext, mNever, mBreak, mCont, mDrop, mChain, mPar, mGTup, mGCons, mGNil, pGcd, pI, pI0, pIx, pTimes, pPlus, pEq, pNe, pLen, pSum, pMaxS, pAll, pAny, pTupOf, pLstOf, pIn, pIsB, pIsi, items_tup, items_lst, items_kl, items_mr, items_tab, items_lot, items_fr, decide_true, decide_false, eqP_int, eqP_bl, eqP_str, eqP_tup2, kit_tt, kit_ii, kit_ib, tyP, mEnd, wipeP, List.map_cons, List.map_nil, List.getElem?_cons_zero, List.getElem?_cons_succ, List.set_cons_zero, List.set_cons_succ, atI_zero, atI_one, if_true, if_false, ite_true, ite_false, Bool.false_eq_true, List.length_cons, List.length_nil, Bool.not_true, Bool.not_false, S__law_pick]
    refine ⟨trivial, _, items.map PV.int, m, rest, rfl, .inl rfl, hD', ?_, ?_, fun v hv μ1 hD1 => ?_⟩
    · rw [List.length_map]; exact List.length_pos_iff.mpr hine
    · rw [List.length_map]; omega
    · obtain ⟨i, hi, rfl⟩ := List.mem_map.mp hv
      refine hN _ _ ⟨hD1, ps ++ [i], by rw [List.map_append]; rfl, by rw [List.length_append, List.length_append, hp]; rfl, fun j hj => ?_⟩
      rcases List.mem_append.mp hj with hj | hj
      · exact hlt j hj
      · rw [List.mem_singleton.mp hj]; exact hib i hi
  · obtain ⟨hD', ps, rfl, hp, hlt⟩ := hI
    have hpn : ps.length = n := by simpa using hp
    have hne : ps ≠ [] := by rintro rfl; simp at hpn; omega
    have hl := hD'.len
    simp only [intsP_map]
    refine ⟨hne, ?_⟩
    by_cases hm : 0 < maxP ps
    · rw [if_pos (by simpa using hm)]
      have := hQ ps [] _ ⟨hpn, fun p h => (hlt p h).1.1, fun p h => (hlt p h).1.2, max_parts hm⟩ (fun p h => (hlt p h).2) (by rw [List.append_nil]; exact hD'.app _)
      simp only [List.length_nil, Nat.add_zero] at this
      rw [hl]
      exact fin_keep this
    · rw [if_neg (by simpa using hm), cut1]
      have e2 : [PV.int 1] ++ (ps.map PV.int).drop 1 = ((1 : Int) :: ps.drop 1).map PV.int := by simp
      rw [e2]
      have := hQ ((1 : Int) :: ps.drop 1) [.lst (ps.map PV.int)] _ ⟨by rw [List.length_cons, List.length_drop]; omega, fun p h => ?_, fun p h => ?_, 1, by simp, by decide⟩ (fun p h => (List.mem_cons.mp h).elim (fun e => by rw [e]; exact pw_one way) fun h => (hlt p (List.mem_of_mem_drop h)).2) ((hD'.app _).app _)
      · rw [List.length_append, hl]
        refine ⟨by decide, by simp; unfold lim; omega, ?_⟩
        have e3 : rest.length + 2 + [MO.lst (ps.map PV.int)].length = rest.length + [MO.lst (ps.map PV.int)].length + 2 := by omega
        rw [e3]
        exact fin_keep this
      · rcases List.mem_cons.mp h with rfl | h
        · decide
        · exact (hlt p (List.mem_of_mem_drop h)).1.1
      · rcases List.mem_cons.mp h with rfl | h
        · decide
        · exact (hlt p (List.mem_of_mem_drop h)).1.2
abbrev N_is_amount : List Str := ["thing"]
theorem sc_is_amount : FnScope N_is_amount ["thing"] (defScope s_is_amount) := ⟨rfl, rfl, rfl, by decide +kernel, rfl, by decide +kernel, by decide +kernel⟩
theorem ok_is_amount (B : Blt mg) (h_is_amount : Own K mg "is_amount" s_is_amount) (k_is_fraction : Ok P w K mg base 2 "is_fraction" s_is_fraction ["thing"] S_is_fraction) : Ok P w K mg base 3 "is_amount" s_is_amount ["thing"] S_is_amount := by
  obtain ⟨f_s, fd_s, F_s, g_s⟩ := h_is_amount
  obtain ⟨f_is_fraction, fd_is_fraction, F_is_fraction, g_is_fraction, b_is_fraction, G_is_fraction⟩ := k_is_fraction
  refine ⟨f_s, fd_s, F_s, g_s, F_s.binds (fun _ _ _ _ _ _ us hl => match us, hl with | [_], _ => rfl), FnG.of F_s sc_is_amount (fun xs μ Q h => by first | exact h.1 | exact h.2.1 | (obtain ⟨⟩ := h)) fun cdv A outer s H hr hgd => ⟨_, _, (pss_one (ps_ret (pe_and (pe_callG (G_is_fraction.mono (by decide)) hr hgd (by rfl) g_is_fraction F_is_fraction.kp b_is_fraction (pa_cons (pv 0) pa_nil)) (pe_one (pe_cmpR op_ge (pe_ix ix_seq (pv 0) pe_int (fun _ _ => rfl)) pe_int (nomark _)))))), (by (try dsimp only [cxOf]); exact inferInstance), ?_⟩⟩
  intro xs μ Q hS
  obtain ⟨_, q, rfl, h0, hQ⟩ := hS
  rw [show startP N_is_amount [frP q] = [some (frP q)] from rfl]
  have hn : 0 ≤ q.num := Rat.num_nonneg.mpr h0
  simp only [pComb, mCnt, mDNewT, mZipM, mDc, mLenSetL, mDGetT, mDGet2T, mDInT, mDPutT, mLockX, mLockEX, mKeysX, pLstX, pLenX, pMaxT, pSortT, str_to, str_ot, mPar3, mLockV, mLockE, mItemsC, mKeysC, mDGet2, pIsN, isNonP, pRepLM, mTruD, dkOfP, pPopAt, pIndex, mLstRgM, mTruth, pReprA, pLenD, pLstD, mDNew, pRepL, mLenSetN, mDIn, mSortSet, mSortSetL, mRevT, mForC, mSeqC, mLcC, pAbs, pMax2, pMin2, pInt1, mDGet, mDPut, mBM, mBM0, pPop, pAppend, pExtend, pSetL, mSub, mDisp, mPs, mPs0, mRevL, mRevLM, pLstOfM, mTupRg, mRg1, mRg2, pPlusM, lstItems, dictOfP, keyP, keysP, val_left, val_mixed, val_draws, put_draws, mLc, mLcM, mLc2, mFor, mSeqI, mRng1, mRng2, mZip, mEnum, mSl, mNoPart, mPart, mSeq, mAsg, mAsg2, mCB, mCons, mNil, mVar, mC, mOp, mUn, pU, mTup, mLst, mRet, mRetN, mLstM, getl, setl, mName, mCall, mCallK, mIf, mIfS, mTest, mAnd, mOr, mNot, mYes, mAndV, mOrV, mNotV, mNext, mNever, mBreak, mCont, mDrop, mChain, mPar, mGTup, mGCons, mGNil, pGcd, pI, pI0, pIx, pTimes, pPlus, pEq, pNe, pLen, pSum, pMaxS, pAll, pAny, pTupOf, pLstOf, pIn, pIsB, pIsi, items_tup, items_lst, items_kl, items_mr, items_tab, items_lot, items_fr, decide_true, decide_false, eqP_int, eqP_bl, eqP_str, eqP_tup2, kit_tt, kit_ii, kit_ib, tyP, mEnd, wipeP, List.map_cons, List.map_nil, List.getElem?_cons_zero, List.getElem?_cons_succ, List.set_cons_zero, List.set_cons_succ, atI_zero, atI_one, if_true, if_false, ite_true, ite_false, Bool.false_eq_true, List.length_cons, List.length_nil, Bool.not_true, Bool.not_false, S_is_fraction]
  refine ⟨trivial, q, rfl, ?_⟩
  have e2 : decide (0 ≤ q.num) = true := by simpa using hn
  rw [e2]
  exact fin_keep hQ
abbrev N_total : List Str := ["fractions", "found", "fraction"]
theorem sc_total : FnScope N_total ["fractions"] (defScope s_total) := ⟨rfl, rfl, rfl, by decide +kernel, rfl, by decide +kernel, by decide +kernel⟩
theorem ok_total (B : Blt mg) (h_total : Own K mg "total" s_total) (k_added : Ok P w K mg base 2 "added" s_added ["one", "other"] S_added) : Ok P w K mg base 3 "total" s_total ["fractions"] S_total := by
  obtain ⟨f_s, fd_s, F_s, g_s⟩ := h_total
  obtain ⟨f_added, fd_added, F_added, g_added, b_added, G_added⟩ := k_added
  refine ⟨f_s, fd_s, F_s, g_s, F_s.binds (fun _ _ _ _ _ _ us hl => match us, hl with | [_], _ => rfl), FnG.of F_s sc_total (fun xs μ Q h => by first | exact h.1 | exact h.2.1 | (obtain ⟨⟩ := h)) fun cdv A outer s H hr hgd => ⟨_, _, (pss_cons (ps_set (i := 1) sc_total.nd rfl (Or.inl rfl) (pe_tupF (pa_cons pe_int (pa_cons pe_int pa_nil))))
 (pss_cons (ps_for PassesOwn.never rfl (pi_seq (pv 0)) (pg_name (i := 2) sc_total.nd rfl (Or.inl rfl))
 (pss_one (ps_set (i := 1) sc_total.nd rfl (Or.inl rfl) (pe_callG (G_added.mono (by decide)) hr hgd (by rfl) g_added F_added.kp b_added (pa_cons (pv 1) (pa_cons (pv 2) pa_nil))))))
 (pss_one (ps_ret (pv 1))))), (by (try dsimp only [cxOf]); exact inferInstance), ?_⟩⟩
  intro xs μ Q hS
  obtain ⟨_, x, qs, rfl, hx, hb, hQ⟩ := hS
  rw [show startP N_total [x] = [some x, none, none] from rfl]
  have key : mForL (mName 2) (mAsg (mCall S_added (mCons (mVar 1) (mCons (mVar 2) mNil))) (mName 1)) { nx := mRet (mVar 1) (mEnd μ Q), rt := fun x μ_1 => ∃ y μ', Gc μ x μ_1 y μ' ∧ Q y μ' } (qs.map frP) [some x, some (PV.tup [PV.int 0, PV.int 1]), none] μ := by
    refine for_inv (enc := frP) (fun pre ρ μ' => (∃ y, ρ = [some x, some (frP pre.sum), y]) ∧ μ' = μ) (done := []) ⟨⟨_, rfl⟩, rfl⟩ (fun pre a post ρ μ' e hI N hN => ?_) fun ρ μ' hI => ?_
    · obtain ⟨⟨y, rfl⟩, rfl⟩ := hI
      have e' : qs = pre ++ a :: post := e
      simp only [pComb, mCnt, mDNewT, mZipM, mDc, mLenSetL, mDGetT, mDGet2T, mDInT, mDPutT, mLockX, mLockEX, mKeysX, pLstX, pLenX, pMaxT, pSortT, str_to, str_ot, mPar3, mLockV, mLockE, mItemsC, mKeysC, mDGet2, pIsN, isNonP, pRepLM, mTruD, dkOfP, pPopAt, pIndex, mLstRgM, mTruth, pReprA, pLenD, pLstD, mDNew, pRepL, mLenSetN, mDIn, mSortSet, mSortSetL, mRevT, mForC, mSeqC, mLcC, pAbs, pMax2, pMin2, pInt1, mDGet, mDPut, mBM, mBM0, pPop, pAppend, pExtend, pSetL, mSub, mDisp, mPs, mPs0, mRevL, mRevLM, pLstOfM, mTupRg, mRg1, mRg2, pPlusM, lstItems, dictOfP, keyP, keysP, val_left, val_mixed, val_draws, put_draws, mLc, mLcM, mLc2, mFor, mSeqI, mRng1, mRng2, mZip, mEnum, mSl, mNoPart, mPart, mSeq, mAsg, mAsg2, mCB, mCons, mNil, mVar, mC, mOp, mUn, pU, mTup, mLst, mRet, mRetN, mLstM, getl, setl, mName, mCall, mCallK, mIf, mIfS, mTest, mAnd, mOr, mNot, mYes, mAndV, mOrV, mNotV, mNext, mNever, mBreak, mCont, mDrop, mChain, mPar, mGTup, mGCons, mGNil, pGcd, pI, pI0, pIx, pTimes, pPlus, pEq, pNe, pLen, pSum, pMaxS, pAll, pAny, pTupOf, pLstOf, pIn, pIsB, pIsi, items_tup, items_lst, items_kl, items_mr, items_tab, items_lot, items_fr, decide_true, decide_false, eqP_int, eqP_bl, eqP_str, eqP_tup2, kit_tt, kit_ii, kit_ib, tyP, mEnd, wipeP, List.map_cons, List.map_nil, List.getElem?_cons_zero, List.getElem?_cons_succ, List.set_cons_zero, List.set_cons_succ, atI_zero, atI_one, if_true, if_false, ite_true, ite_false, Bool.false_eq_true, List.length_cons, List.length_nil, Bool.not_true, Bool.not_false, S_added]
      refine ⟨trivial, _, _, rfl, (hb.sub (by rw [e']; exact List.sublist_append_left _ _)).sum_sm.mono (by decide), (hb.mem_sm (by rw [e']; simp)).mono (by decide), hN _ _ ⟨⟨some (frP a), ?_⟩, rfl⟩⟩
      rw [sum_append, List.sum_cons]
      show _ = [some x, some (frP (pre.sum + (a + 0))), some (frP a)]
      rw [Rat.add_zero]
    · obtain ⟨⟨y, rfl⟩, rfl⟩ := hI
      simp only [pComb, mCnt, mDNewT, mZipM, mDc, mLenSetL, mDGetT, mDGet2T, mDInT, mDPutT, mLockX, mLockEX, mKeysX, pLstX, pLenX, pMaxT, pSortT, str_to, str_ot, mPar3, mLockV, mLockE, mItemsC, mKeysC, mDGet2, pIsN, isNonP, pRepLM, mTruD, dkOfP, pPopAt, pIndex, mLstRgM, mTruth, pReprA, pLenD, pLstD, mDNew, pRepL, mLenSetN, mDIn, mSortSet, mSortSetL, mRevT, mForC, mSeqC, mLcC, pAbs, pMax2, pMin2, pInt1, mDGet, mDPut, mBM, mBM0, pPop, pAppend, pExtend, pSetL, mSub, mDisp, mPs, mPs0, mRevL, mRevLM, pLstOfM, mTupRg, mRg1, mRg2, pPlusM, lstItems, dictOfP, keyP, keysP, val_left, val_mixed, val_draws, put_draws, mLc, mLcM, mLc2, mFor, mSeqI, mRng1, mRng2, mZip, mEnum, mSl, mNoPart, mPart, mSeq, mAsg, mAsg2, mCB, mCons, mNil, mVar, mC, mOp, mUn, pU, mTup, mLst, mRet, mRetN, mLstM, getl, setl, mName, mCall, mCallK, mIf, mIfS, mTest, mAnd, mOr, mNot, mYes, mAndV, mOrV, mNotV, mNext, mNever, mBreak, mCont, mDrop, mChain, mPar, mGTup, mGCons, mGNil, pGcd, pI, pI0, pIx, pTimes, pPlus, pEq, pNe, pLen, pSum, pMaxS, pAll, pAny, pTupOf, pLstOf, pIn, pIsB, pIsi, items_tup, items_lst, items_kl, items_mr, items_tab, items_lot, items_fr, decide_true, decide_false, eqP_int, eqP_bl, eqP_str, eqP_tup2, kit_tt, kit_ii, kit_ib, tyP, mEnd, wipeP, List.map_cons, List.map_nil, List.getElem?_cons_zero, List.getElem?_cons_succ, List.set_cons_zero, List.set_cons_succ, atI_zero, atI_one, if_true, if_false, ite_true, ite_false, Bool.false_eq_true, List.length_cons, List.length_nil, Bool.not_true, Bool.not_false]
      exact fin_keep hQ
  cases x <;> simp only [seqP, reduceCtorEq, Option.some.injEq] at hx
  · subst hx
    simp only [pComb, mCnt, mDNewT, mZipM, mDc, mLenSetL, mDGetT, mDGet2T, mDInT, mDPutT, mLockX, mLockEX, mKeysX, pLstX, pLenX, pMaxT, pSortT, str_to, str_ot, mPar3, mLockV, mLockE, mItemsC, mKeysC, mDGet2, pIsN, isNonP, pRepLM, mTruD, dkOfP, pPopAt, pIndex, mLstRgM, mTruth, pReprA, pLenD, pLstD, mDNew, pRepL, mLenSetN, mDIn, mSortSet, mSortSetL, mRevT, mForC, mSeqC, mLcC, pAbs, pMax2, pMin2, pInt1, mDGet, mDPut, mBM, mBM0, pPop, pAppend, pExtend, pSetL, mSub, mDisp, mPs, mPs0, mRevL, mRevLM, pLstOfM, mTupRg, mRg1, mRg2, pPlusM, lstItems, dictOfP, keyP, keysP, val_left, val_mixed, val_draws, put_draws, mLc, mLcM, mLc2, mFor, mSeqI, mRng1, mRng2, mZip, mEnum, mSl, mNoPart, mPart, mSeq, mAsg, mAsg2, mCB, mCons, mNil, mVar, mC, mOp, mUn, pU, mTup, mLst, mRet, mRetN, mLstM, getl, setl, mName, mCall, mCallK, mIf, mIfS, mTest, mAnd, mOr, mNot, mYes, mAndV, mOrV, mNotV, mNext, mNever, mBreak, mCont, mDrop, mChain, mPar, mGTup, mGCons, mGNil, pGcd, pI, pI0, pIx, pTimes, pPlus, pEq, pNe, pLen, pSum, pMaxS, pAll, pAny, pTupOf, pLstOf, pIn, pIsB, pIsi, items_tup, items_lst, items_kl, items_mr, items_tab, items_lot, items_fr, decide_true, decide_false, eqP_int, eqP_bl, eqP_str, eqP_tup2, kit_tt, kit_ii, kit_ib, tyP, mEnd, wipeP, List.map_cons, List.map_nil, List.getElem?_cons_zero, List.getElem?_cons_succ, List.set_cons_zero, List.set_cons_succ, atI_zero, atI_one, if_true, if_false, ite_true, ite_false, Bool.false_eq_true, List.length_cons, List.length_nil, Bool.not_true, Bool.not_false]
    exact ⟨by decide, key⟩
  · subst hx
    simp only [pComb, mCnt, mDNewT, mZipM, mDc, mLenSetL, mDGetT, mDGet2T, mDInT, mDPutT, mLockX, mLockEX, mKeysX, pLstX, pLenX, pMaxT, pSortT, str_to, str_ot, mPar3, mLockV, mLockE, mItemsC, mKeysC, mDGet2, pIsN, isNonP, pRepLM, mTruD, dkOfP, pPopAt, pIndex, mLstRgM, mTruth, pReprA, pLenD, pLstD, mDNew, pRepL, mLenSetN, mDIn, mSortSet, mSortSetL, mRevT, mForC, mSeqC, mLcC, pAbs, pMax2, pMin2, pInt1, mDGet, mDPut, mBM, mBM0, pPop, pAppend, pExtend, pSetL, mSub, mDisp, mPs, mPs0, mRevL, mRevLM, pLstOfM, mTupRg, mRg1, mRg2, pPlusM, lstItems, dictOfP, keyP, keysP, val_left, val_mixed, val_draws, put_draws, mLc, mLcM, mLc2, mFor, mSeqI, mRng1, mRng2, mZip, mEnum, mSl, mNoPart, mPart, mSeq, mAsg, mAsg2, mCB, mCons, mNil, mVar, mC, mOp, mUn, pU, mTup, mLst, mRet, mRetN, mLstM, getl, setl, mName, mCall, mCallK, mIf, mIfS, mTest, mAnd, mOr, mNot, mYes, mAndV, mOrV, mNotV, mNext, mNever, mBreak, mCont, mDrop, mChain, mPar, mGTup, mGCons, mGNil, pGcd, pI, pI0, pIx, pTimes, pPlus, pEq, pNe, pLen, pSum, pMaxS, pAll, pAny, pTupOf, pLstOf, pIn, pIsB, pIsi, items_tup, items_lst, items_kl, items_mr, items_tab, items_lot, items_fr, decide_true, decide_false, eqP_int, eqP_bl, eqP_str, eqP_tup2, kit_tt, kit_ii, kit_ib, tyP, mEnd, wipeP, List.map_cons, List.map_nil, List.getElem?_cons_zero, List.getElem?_cons_succ, List.set_cons_zero, List.set_cons_succ, atI_zero, atI_one, if_true, if_false, ite_true, ite_false, Bool.false_eq_true, List.length_cons, List.length_nil, Bool.not_true, Bool.not_false]
    exact ⟨by decide, key⟩
abbrev N_are_integers : List Str := ["thing", "low", "high", "item"]
theorem sc_are_integers : FnScope N_are_integers ["thing", "low", "high"] (defScope s_are_integers) := ⟨rfl, rfl, rfl, by decide +kernel, rfl, by decide +kernel, by decide +kernel⟩
theorem ok_are_integers (B : Blt mg) (h_are_integers : Own K mg "are_integers" s_are_integers) (k_is_within : Ok P w K mg base 2 "is_within" s_is_within ["thing", "low", "high"] S_is_within) : Ok P w K mg base 3 "are_integers" s_are_integers ["thing", "low", "high"] S_are_integers := by
  obtain ⟨f_s, fd_s, F_s, g_s⟩ := h_are_integers
  obtain ⟨f_is_within, fd_is_within, F_is_within, g_is_within, b_is_within, G_is_within⟩ := k_is_within
  refine ⟨f_s, fd_s, F_s, g_s, F_s.binds (fun _ _ _ _ _ _ us hl => match us, hl with | [_, _, _], _ => rfl), FnG.of F_s sc_are_integers (fun xs μ Q h => by first | exact h.1 | exact h.2.1 | (obtain ⟨⟩ := h)) fun cdv A outer s H hr hgd => ⟨_, _, (pss_one (ps_ret (pe_and (pe_callB call_isi (by rfl) (B "isinstance" (by decide)) (by decide +kernel) (pa_cons (pv 0) (pa_cons (pe_bltn (v := .ty "tuple") (u := .type "tuple") (by rfl) (B "tuple" (by decide)) (by decide +kernel) rfl) pa_nil))) (pe_one (pe_callB (cr_all rfl) (by rfl) (B "all" (by decide)) (by decide +kernel) (pa_cons (pe_lc (own := [("item", 3)]) (by rfl) sc_are_integers.nd (pi_seq (pv 0)) (blkOk_by (own := [("item", 3)]) (N := N_are_integers) (sc := defScope s_are_integers) (by decide +kernel)) (fun _ _ _ _ _ => (pg_name (i := 3) sc_are_integers.nd rfl (Or.inl rfl))) (fun _ _ _ _ _ => pts_nil) (fun _ _ _ _ _ => (pek_call K rfl (G_is_within.mono (by decide)) hr hgd (by rfl) g_is_within F_is_within.kp b_is_within (pa_cons (pv 3) (pa_cons (pv 1) (pa_cons (pv 2) pa_nil)))))) pa_nil)))))), (by (try dsimp only [cxOf]); exact inferInstance), ?_⟩⟩
  intro xs μ Q hS
  obtain ⟨_, vs, lo, hi, rfl, hl, hQ⟩ := hS
  rw [show startP N_are_integers [.tup (vs.map PV.int), .int lo, .int hi] = [some (.tup (vs.map PV.int)), some (.int lo), some (.int hi), none] from rfl]
  simp only [pComb, mCnt, mDNewT, mZipM, mDc, mLenSetL, mDGetT, mDGet2T, mDInT, mDPutT, mLockX, mLockEX, mKeysX, pLstX, pLenX, pMaxT, pSortT, str_to, str_ot, mPar3, mLockV, mLockE, mItemsC, mKeysC, mDGet2, pIsN, isNonP, pRepLM, mTruD, dkOfP, pPopAt, pIndex, mLstRgM, mTruth, pReprA, pLenD, pLstD, mDNew, pRepL, mLenSetN, mDIn, mSortSet, mSortSetL, mRevT, mForC, mSeqC, mLcC, pAbs, pMax2, pMin2, pInt1, mDGet, mDPut, mBM, mBM0, pPop, pAppend, pExtend, pSetL, mSub, mDisp, mPs, mPs0, mRevL, mRevLM, pLstOfM, mTupRg, mRg1, mRg2, pPlusM, lstItems, dictOfP, keyP, keysP, val_left, val_mixed, val_draws, put_draws, mLc, mLcM, mLc2, mFor, mSeqI, mRng1, mRng2, mZip, mEnum, mSl, mNoPart, mPart, mSeq, mAsg, mAsg2, mCB, mCons, mNil, mVar, mC, mOp, mUn, pU, mTup, mLst, mRet, mRetN, mLstM, getl, setl, mName, mCall, mCallK, mIf, mIfS, mTest, mAnd, mOr, mNot, mYes, mAndV, mOrV, mNotV, mNext, mNever, mBreak, mCont, mDrop, mChain, mPar, mGTup, mGCons, mGNil, pGcd, pI, pI0, pIx, pTimes, pPlus, pEq, pNe, pLen, pSum, pMaxS, pAll, pAny, pTupOf, pLstOf, pIn, pIsB, pIsi, items_tup, items_lst, items_kl, items_mr, items_tab, items_lot, items_fr, decide_true, decide_false, eqP_int, eqP_bl, eqP_str, eqP_tup2, kit_tt, kit_ii, kit_ib, tyP, mEnd, wipeP, List.map_cons, List.map_nil, List.getElem?_cons_zero, List.getElem?_cons_succ, List.set_cons_zero, List.set_cons_succ, atI_zero, atI_one, if_true, if_false, ite_true, ite_false, Bool.false_eq_true, List.length_cons, List.length_nil, Bool.not_true, Bool.not_false]
  refine ⟨by decide, by rw [List.length_map]; exact hl, lc_map (out := fun (i : Int) => .bl (decide (lo ≤ i) && decide (i ≤ hi))) (fun i _ k hk => ?_) ?_⟩
  · simp only [pComb, mCnt, mDNewT, mZipM, mDc, mLenSetL, mDGetT, mDGet2T, mDInT, mDPutT, mLockX, mLockEX, mKeysX, pLstX, pLenX, pMaxT, pSortT, str_to, str_ot, mPar3, mLockV, mLockE, mItemsC, mKeysC, mDGet2, pIsN, isNonP, pRepLM, mTruD, dkOfP, pPopAt, pIndex, mLstRgM, mTruth, pReprA, pLenD, pLstD, mDNew, pRepL, mLenSetN, mDIn, mSortSet, mSortSetL, mRevT, mForC, mSeqC, mLcC, pAbs, pMax2, pMin2, pInt1, mDGet, mDPut, mBM, mBM0, pPop, pAppend, pExtend, pSetL, mSub, mDisp, mPs, mPs0, mRevL, mRevLM, pLstOfM, mTupRg, mRg1, mRg2, pPlusM, lstItems, dictOfP, keyP, keysP, val_left, val_mixed, val_draws, put_draws, mLc, mLcM, mLc2, mFor, mSeqI, mRng1, mRng2, mZip, mEnum, mSl, mNoPart, mPart, mSeq, mAsg, mAsg2, mCB, mCons, mNil, mVar, mC, mOp, mUn, pU, mTup, mLst, mRet, mRetN, mLstM, getl, setl, mName, mCall, mCallK, mIf, mIfS, mTest, mAnd, mOr, mNot, mYes, mAndV, mOrV, mNotV, mNext, mNever, mBreak, mCont, mDrop, mChain, mPar, mGTup, mGCons, mGNil, pGcd, pI, pI0, pIx, pTimes, pPlus, pEq, pNe, pLen, pSum, pMaxS, pAll, pAny, pTupOf, pLstOf, pIn, pIsB, pIsi, items_tup, items_lst, items_kl, items_mr, items_tab, items_lot, items_fr, decide_true, decide_false, eqP_int, eqP_bl, eqP_str, eqP_tup2, kit_tt, kit_ii, kit_ib, tyP, mEnd, wipeP, List.map_cons, List.map_nil, List.getElem?_cons_zero, List.getElem?_cons_succ, List.set_cons_zero, List.set_cons_succ, atI_zero, atI_one, if_true, if_false, ite_true, ite_false, Bool.false_eq_true, List.length_cons, List.length_nil, Bool.not_true, Bool.not_false, S_is_within]
    exact ⟨trivial, i, lo, hi, rfl, hk⟩
  · simp only [bools_out, all_out]
    exact fin_keep hQ
abbrev N__law_row_chance : List Str := ["_law_table_here", "_law_row", "_law_top", "_law_bottom", "_law_i"]
theorem sc__law_row_chance : FnScope N__law_row_chance ["_law_table_here", "_law_row"] (defScope s__law_row_chance) := ⟨rfl, rfl, rfl, by decide +kernel, rfl, by decide +kernel, by decide +kernel⟩
theorem ok__law_row_chance (B : Blt mg) (h__law_row_chance : Own K mg "_law_row_chance" s__law_row_chance) (k__law_fraction : Ok P w K mg base 2 "_law_fraction" s__law_fraction ["_law_top", "_law_bottom"] S__law_fraction) : Ok P w K mg base 3 "_law_row_chance" s__law_row_chance ["_law_table_here", "_law_row"] S__law_row_chance := by
  obtain ⟨f_s, fd_s, F_s, g_s⟩ := h__law_row_chance
  obtain ⟨f__law_fraction, fd__law_fraction, F__law_fraction, g__law_fraction, b__law_fraction, G__law_fraction⟩ := k__law_fraction
  refine ⟨f_s, fd_s, F_s, g_s, F_s.binds (fun _ _ _ _ _ _ us hl => match us, hl with | [_, _], _ => rfl), FnG.of F_s sc__law_row_chance (fun xs μ Q h => by first | exact h.1 | exact h.2.1 | (obtain ⟨⟩ := h)) fun cdv A outer s H hr hgd => ⟨_, _, (pss_cons (ps_asg (pe_tupF (pa_cons pe_int (pa_cons pe_int pa_nil))) (pg_tup (n := 2) rfl (pgs_cons (pg_name (i := 2) sc__law_row_chance.nd rfl (Or.inl rfl)) (pgs_cons (pg_name (i := 3) sc__law_row_chance.nd rfl (Or.inl rfl)) pgs_nil))))
 (pss_cons (ps_for PassesOwn.never rfl (pi_seq (pv 1)) (pg_name (i := 4) sc__law_row_chance.nd rfl (Or.inl rfl))
 (pss_one (ps_par (i := 2) (j := 3) (by rfl) sc__law_row_chance.nd rfl rfl (by decide) rfl rfl (pa_cons (pe_op op_times (pv 2) (pe_ix ix_seq (pe_ix ix_seq (pv 0) (pv 4) (fun _ _ => rfl)) pe_int (fun _ _ => rfl))) (pa_cons (pe_op op_times (pv 3) (pe_ix ix_seq (pe_ix ix_seq (pv 0) (pv 4) (fun _ _ => rfl)) pe_int (fun _ _ => rfl))) pa_nil)) (by rfl))))
 (pss_one (ps_ret (pe_callG (G__law_fraction.mono (by decide)) hr hgd (by rfl) g__law_fraction F__law_fraction.kp b__law_fraction (pa_cons (pv 2) (pa_cons (pv 3) pa_nil))))))), (by (try dsimp only [cxOf]); exact inferInstance), ?_⟩⟩
  intro xs μ Q hS
  obtain ⟨_, qs, x, r, z, rfl, hx, hq, hr, hz, hl, hQ⟩ := hS
  rw [show startP N__law_row_chance [tabP qs, x] = [some (tabP qs), some x, none, none, none] from rfl]
  refine stm_of fun R hR => ?_
  simp only [pComb, mCnt, mDNewT, mZipM, mDc, mLenSetL, mDGetT, mDGet2T, mDInT, mDPutT, mLockX, mLockEX, mKeysX, pLstX, pLenX, pMaxT, pSortT, str_to, str_ot, mPar3, mLockV, mLockE, mItemsC, mKeysC, mDGet2, pIsN, isNonP, pRepLM, mTruD, dkOfP, pPopAt, pIndex, mLstRgM, mTruth, pReprA, pLenD, pLstD, mDNew, pRepL, mLenSetN, mDIn, mSortSet, mSortSetL, mRevT, mForC, mSeqC, mLcC, pAbs, pMax2, pMin2, pInt1, mDGet, mDPut, mBM, mBM0, pPop, pAppend, pExtend, pSetL, mSub, mDisp, mPs, mPs0, mRevL, mRevLM, pLstOfM, mTupRg, mRg1, mRg2, pPlusM, lstItems, dictOfP, keyP, keysP, val_left, val_mixed, val_draws, put_draws, mLc, mLcM, mLc2, mFor, mSeqI, mRng1, mRng2, mZip, mEnum, mSl, mNoPart, mPart, mSeq, mAsg, mAsg2, mCB, mCons, mNil, mVar, mC, mOp, mUn, pU, mTup, mLst, mRet, mRetN, mLstM, getl, setl, mName, mCall, mCallK, mIf, mIfS, mTest, mAnd, mOr, mNot, mYes, mAndV, mOrV, mNotV, mNext, mNever, mBreak, mCont, mDrop, mChain, mPar, mGTup, mGCons, mGNil, pGcd, pI, pI0, pIx, pTimes, pPlus, pEq, pNe, pLen, pSum, pMaxS, pAll, pAny, pTupOf, pLstOf, pIn, pIsB, pIsi, items_tup, items_lst, items_kl, items_mr, items_tab, items_lot, items_fr, decide_true, decide_false, eqP_int, eqP_bl, eqP_str, eqP_tup2, kit_tt, kit_ii, kit_ib, tyP, mEnd, wipeP, List.map_cons, List.map_nil, List.getElem?_cons_zero, List.getElem?_cons_succ, List.set_cons_zero, List.set_cons_succ, atI_zero, atI_one, if_true, if_false, ite_true, ite_false, Bool.false_eq_true, List.length_cons, List.length_nil, Bool.not_true, Bool.not_false]
  refine ⟨by decide, trivial, ?_⟩
  subst hR
  refine stm_of fun R hR => ?_
  have key : mForL (mName 4) (mPar 2 3 (mCons (mOp pTimes (mVar 2) (mOp pIx (mOp pIx (mVar 0) (mVar 4)) (mC (.int 0)))) (mCons (mOp pTimes (mVar 3) (mOp pIx (mOp pIx (mVar 0) (mVar 4)) (mC (.int 1)))) mNil))) { nx := R, rt := fun x μ_1 => ∃ y μ', Gc μ x μ_1 y μ' ∧ Q y μ' } (r.map fun (n : Nat) => PV.int n) [some (tabP qs), some x, some (.int 1), some (.int 1), none] μ := by
    refine for_inv (enc := fun (n : Nat) => PV.int n) (fun pre ρ μ' => (∃ (t b : Nat) (y : Option PV), ρ = [some (tabP qs), some x, some (.int (t : Nat)), some (.int (b : Nat)), y] ∧ 0 < b ∧ t ≤ b ∧ b ≤ 2 ^ (z * pre.length) ∧ Rat.divInt (t : Int) (b : Int) = rowq qs pre) ∧ μ' = μ) (done := []) ⟨⟨1, 1, none, rfl, by decide, by decide, by simp, rfl⟩, rfl⟩ (fun pre i post ρ μ' e hI N hN => ?_) fun ρ μ' hI => ?_
    · obtain ⟨⟨t, b, y, rfl, hb0, htb, hbz, hv⟩, rfl⟩ := hI
      have e' : r = pre ++ i :: post := e
      have hi := hr i (by rw [e']; simp)
      obtain ⟨q0, q1, q2⟩ := hq _ (getD_memM hi)
      obtain ⟨a, ha, had⟩ := num_le q0 q1
      have hd0 := (qs.getD i 0).den_pos
      have hlen : pre.length + 1 ≤ r.length := by rw [e', List.length_append, List.length_cons]; omega
      have hz1 : z * (pre.length + 1) ≤ 2650 := Nat.le_trans (Nat.mul_le_mul_left _ hlen) hz
      rw [Nat.mul_add, Nat.mul_one] at hz1
      have hp1 : 2 ^ (z * pre.length) ≤ 2 ^ 2650 := Nat.pow_le_pow_right (by decide) (by omega)
      have hp2 : 2 ^ z ≤ 2 ^ 2650 := Nat.pow_le_pow_right (by decide) (by omega)
      have hp3 : (2 : Nat) ^ 2650 < 2 ^ 2651 := Nat.pow_lt_pow_right (by decide) (by decide)
      simp only [pComb, mCnt, mDNewT, mZipM, mDc, mLenSetL, mDGetT, mDGet2T, mDInT, mDPutT, mLockX, mLockEX, mKeysX, pLstX, pLenX, pMaxT, pSortT, str_to, str_ot, mPar3, mLockV, mLockE, mItemsC, mKeysC, mDGet2, pIsN, isNonP, pRepLM, mTruD, dkOfP, pPopAt, pIndex, mLstRgM, mTruth, pReprA, pLenD, pLstD, mDNew, pRepL, mLenSetN, mDIn, mSortSet, mSortSetL, mRevT, mForC, mSeqC, mLcC, pAbs, pMax2, pMin2, pInt1, mDGet, mDPut, mBM, mBM0, pPop, pAppend, pExtend, pSetL, mSub, mDisp, mPs, mPs0, mRevL, mRevLM, pLstOfM, mTupRg, mRg1, mRg2, pPlusM, lstItems, dictOfP, keyP, keysP, val_left, val_mixed, val_draws, put_draws, mLc, mLcM, mLc2, mFor, mSeqI, mRng1, mRng2, mZip, mEnum, mSl, mNoPart, mPart, mAsg, mAsg2, mCB, mCons, mNil, mVar, mC, mOp, mUn, pU, mTup, mLst, mRet, mRetN, mLstM, getl, setl, mName, mCall, mCallK, mIf, mIfS, mTest, mAnd, mOr, mNot, mYes, mAndV, mOrV, mNotV, mNext, mNever, mBreak, mCont, mDrop, mChain, mPar, mGTup, mGCons, mGNil, pGcd, pI, pI0, pIx, pTimes, pPlus, pEq, pNe, pLen, pSum, pMaxS, pAll, pAny, pTupOf, pLstOf, pIn, pIsB, pIsi, items_tup, items_lst, items_kl, items_mr, items_tab, items_lot, items_fr, decide_true, decide_false, eqP_int, eqP_bl, eqP_str, eqP_tup2, kit_tt, kit_ii, kit_ib, tyP, mEnd, wipeP, List.map_cons, List.map_nil, List.getElem?_cons_zero, List.getElem?_cons_succ, List.set_cons_zero, List.set_cons_succ, atI_zero, atI_one, if_true, if_false, ite_true, ite_false, Bool.false_eq_true, List.length_cons, List.length_nil, Bool.not_true, Bool.not_false, tabP]
      rw [frP_atM hi]
      simp only [pComb, mCnt, mDNewT, mZipM, mDc, mLenSetL, mDGetT, mDGet2T, mDInT, mDPutT, mLockX, mLockEX, mKeysX, pLstX, pLenX, pMaxT, pSortT, str_to, str_ot, mPar3, mLockV, mLockE, mItemsC, mKeysC, mDGet2, pIsN, isNonP, pRepLM, mTruD, dkOfP, pPopAt, pIndex, mLstRgM, mTruth, pReprA, pLenD, pLstD, mDNew, pRepL, mLenSetN, mDIn, mSortSet, mSortSetL, mRevT, mForC, mSeqC, mLcC, pAbs, pMax2, pMin2, pInt1, mDGet, mDPut, mBM, mBM0, pPop, pAppend, pExtend, pSetL, mSub, mDisp, mPs, mPs0, mRevL, mRevLM, pLstOfM, mTupRg, mRg1, mRg2, pPlusM, lstItems, dictOfP, keyP, keysP, val_left, val_mixed, val_draws, put_draws, mLc, mLcM, mLc2, mFor, mSeqI, mRng1, mRng2, mZip, mEnum, mSl, mNoPart, mPart, mAsg, mAsg2, mCB, mCons, mNil, mVar, mC, mOp, mUn, pU, mTup, mLst, mRet, mRetN, mLstM, getl, setl, mName, mCall, mCallK, mIf, mIfS, mTest, mAnd, mOr, mNot, mYes, mAndV, mOrV, mNotV, mNext, mNever, mBreak, mCont, mDrop, mChain, mPar, mGTup, mGCons, mGNil, pGcd, pI, pI0, pIx, pTimes, pPlus, pEq, pNe, pLen, pSum, pMaxS, pAll, pAny, pTupOf, pLstOf, pIn, pIsB, pIsi, items_tup, items_lst, items_kl, items_mr, items_tab, items_lot, items_fr, decide_true, decide_false, eqP_int, eqP_bl, eqP_str, eqP_tup2, kit_tt, kit_ii, kit_ib, tyP, mEnd, wipeP, List.map_cons, List.map_nil, List.getElem?_cons_zero, List.getElem?_cons_succ, List.set_cons_zero, List.set_cons_succ, atI_zero, atI_one, if_true, if_false, ite_true, ite_false, Bool.false_eq_true, List.length_cons, List.length_nil, Bool.not_true, Bool.not_false, frP]
      rw [ha]
      refine ⟨mulOk (m := 2651) (n := 2651) (by rw [Int.natAbs_natCast]; omega) (by rw [Int.natAbs_natCast]; omega) (by decide), mulOk (m := 2651) (n := 2651) (by rw [Int.natAbs_natCast]; omega) (by rw [Int.natAbs_natCast]; omega) (by decide), ?_⟩
      rw [← Int.natCast_mul, ← Int.natCast_mul]
      refine hN _ _ ⟨⟨t * a, b * (qs.getD i 0).den, _, rfl, Nat.mul_pos hb0 hd0, Nat.mul_le_mul htb had, ?_, ?_⟩, rfl⟩
      · rw [List.length_append, List.length_singleton, Nat.mul_add, Nat.mul_one, Nat.pow_add]
        exact Nat.mul_le_mul hbz q2
      · rw [rowq_snoc, ← hv, ← mul_step, ha, Int.natCast_mul, Int.natCast_mul]
    · obtain ⟨⟨t, b, y, rfl, hb0, htb, hbz, hv⟩, rfl⟩ := hI
      rw [List.nil_append] at hbz hv
      show R _ _
      subst hR
      have hp1 : 2 ^ (z * r.length) ≤ 2 ^ 2650 := Nat.pow_le_pow_right (by decide) hz
      have hp3 : (2 : Nat) ^ 2650 < 2 ^ 2660 := Nat.pow_lt_pow_right (by decide) (by decide)
      have hp4 : (2 : Nat) ^ 2660 < 2 ^ 8980 := Nat.pow_lt_pow_right (by decide) (by decide)
      simp only [pComb, mCnt, mDNewT, mZipM, mDc, mLenSetL, mDGetT, mDGet2T, mDInT, mDPutT, mLockX, mLockEX, mKeysX, pLstX, pLenX, pMaxT, pSortT, str_to, str_ot, mPar3, mLockV, mLockE, mItemsC, mKeysC, mDGet2, pIsN, isNonP, pRepLM, mTruD, dkOfP, pPopAt, pIndex, mLstRgM, mTruth, pReprA, pLenD, pLstD, mDNew, pRepL, mLenSetN, mDIn, mSortSet, mSortSetL, mRevT, mForC, mSeqC, mLcC, pAbs, pMax2, pMin2, pInt1, mDGet, mDPut, mBM, mBM0, pPop, pAppend, pExtend, pSetL, mSub, mDisp, mPs, mPs0, mRevL, mRevLM, pLstOfM, mTupRg, mRg1, mRg2, pPlusM, lstItems, dictOfP, keyP, keysP, val_left, val_mixed, val_draws, put_draws, mLc, mLcM, mLc2, mFor, mSeqI, mRng1, mRng2, mZip, mEnum, mSl, mNoPart, mPart, mSeq, mAsg, mAsg2, mCB, mCons, mNil, mVar, mC, mOp, mUn, pU, mTup, mLst, mRet, mRetN, mLstM, getl, setl, mName, mCall, mCallK, mIf, mIfS, mTest, mAnd, mOr, mNot, mYes, mAndV, mOrV, mNotV, mNext, mNever, mBreak, mCont, mDrop, mChain, mPar, mGTup, mGCons, mGNil, pGcd, pI, pI0, pIx, pTimes, pPlus, pEq, pNe, pLen, pSum, pMaxS, pAll, pAny, pTupOf, pLstOf, pIn, pIsB, pIsi, items_tup, items_lst, items_kl, items_mr, items_tab, items_lot, items_fr, decide_true, decide_false, eqP_int, eqP_bl, eqP_str, eqP_tup2, kit_tt, kit_ii, kit_ib, tyP, mEnd, wipeP, List.map_cons, List.map_nil, List.getElem?_cons_zero, List.getElem?_cons_succ, List.set_cons_zero, List.set_cons_succ, atI_zero, atI_one, if_true, if_false, ite_true, ite_false, Bool.false_eq_true, List.length_cons, List.length_nil, Bool.not_true, Bool.not_false, S__law_fraction]
      refine ⟨trivial, _, _, rfl, stp_few (by rw [Int.natAbs_natCast]; omega), .inl (by rw [Int.natAbs_natCast]; omega), by omega, ?_⟩
      rw [hv]
      exact fin_keep hQ
  cases x <;> simp only [seqP, reduceCtorEq, Option.some.injEq] at hx
  · subst hx
    simp only [pComb, mCnt, mDNewT, mZipM, mDc, mLenSetL, mDGetT, mDGet2T, mDInT, mDPutT, mLockX, mLockEX, mKeysX, pLstX, pLenX, pMaxT, pSortT, str_to, str_ot, mPar3, mLockV, mLockE, mItemsC, mKeysC, mDGet2, pIsN, isNonP, pRepLM, mTruD, dkOfP, pPopAt, pIndex, mLstRgM, mTruth, pReprA, pLenD, pLstD, mDNew, pRepL, mLenSetN, mDIn, mSortSet, mSortSetL, mRevT, mForC, mSeqC, mLcC, pAbs, pMax2, pMin2, pInt1, mDGet, mDPut, mBM, mBM0, pPop, pAppend, pExtend, pSetL, mSub, mDisp, mPs, mPs0, mRevL, mRevLM, pLstOfM, mTupRg, mRg1, mRg2, pPlusM, lstItems, dictOfP, keyP, keysP, val_left, val_mixed, val_draws, put_draws, mLc, mLcM, mLc2, mFor, mSeqI, mRng1, mRng2, mZip, mEnum, mSl, mNoPart, mPart, mAsg, mAsg2, mCB, mCons, mNil, mVar, mC, mOp, mUn, pU, mTup, mLst, mRet, mRetN, mLstM, getl, setl, mName, mCall, mCallK, mIf, mIfS, mTest, mAnd, mOr, mNot, mYes, mAndV, mOrV, mNotV, mNext, mNever, mBreak, mCont, mDrop, mChain, mPar, mGTup, mGCons, mGNil, pGcd, pI, pI0, pIx, pTimes, pPlus, pEq, pNe, pLen, pSum, pMaxS, pAll, pAny, pTupOf, pLstOf, pIn, pIsB, pIsi, items_tup, items_lst, items_kl, items_mr, items_tab, items_lot, items_fr, decide_true, decide_false, eqP_int, eqP_bl, eqP_str, eqP_tup2, kit_tt, kit_ii, kit_ib, tyP, mEnd, wipeP, List.map_cons, List.map_nil, List.getElem?_cons_zero, List.getElem?_cons_succ, List.set_cons_zero, List.set_cons_succ, atI_zero, atI_one, if_true, if_false, ite_true, ite_false, Bool.false_eq_true, List.length_cons, List.length_nil, Bool.not_true, Bool.not_false]
    exact key
  · subst hx
    simp only [pComb, mCnt, mDNewT, mZipM, mDc, mLenSetL, mDGetT, mDGet2T, mDInT, mDPutT, mLockX, mLockEX, mKeysX, pLstX, pLenX, pMaxT, pSortT, str_to, str_ot, mPar3, mLockV, mLockE, mItemsC, mKeysC, mDGet2, pIsN, isNonP, pRepLM, mTruD, dkOfP, pPopAt, pIndex, mLstRgM, mTruth, pReprA, pLenD, pLstD, mDNew, pRepL, mLenSetN, mDIn, mSortSet, mSortSetL, mRevT, mForC, mSeqC, mLcC, pAbs, pMax2, pMin2, pInt1, mDGet, mDPut, mBM, mBM0, pPop, pAppend, pExtend, pSetL, mSub, mDisp, mPs, mPs0, mRevL, mRevLM, pLstOfM, mTupRg, mRg1, mRg2, pPlusM, lstItems, dictOfP, keyP, keysP, val_left, val_mixed, val_draws, put_draws, mLc, mLcM, mLc2, mFor, mSeqI, mRng1, mRng2, mZip, mEnum, mSl, mNoPart, mPart, mAsg, mAsg2, mCB, mCons, mNil, mVar, mC, mOp, mUn, pU, mTup, mLst, mRet, mRetN, mLstM, getl, setl, mName, mCall, mCallK, mIf, mIfS, mTest, mAnd, mOr, mNot, mYes, mAndV, mOrV, mNotV, mNext, mNever, mBreak, mCont, mDrop, mChain, mPar, mGTup, mGCons, mGNil, pGcd, pI, pI0, pIx, pTimes, pPlus, pEq, pNe, pLen, pSum, pMaxS, pAll, pAny, pTupOf, pLstOf, pIn, pIsB, pIsi, items_tup, items_lst, items_kl, items_mr, items_tab, items_lot, items_fr, decide_true, decide_false, eqP_int, eqP_bl, eqP_str, eqP_tup2, kit_tt, kit_ii, kit_ib, tyP, mEnd, wipeP, List.map_cons, List.map_nil, List.getElem?_cons_zero, List.getElem?_cons_succ, List.set_cons_zero, List.set_cons_succ, atI_zero, atI_one, if_true, if_false, ite_true, ite_false, Bool.false_eq_true, List.length_cons, List.length_nil, Bool.not_true, Bool.not_false]
    exact key
abbrev N__law_sum : List Str := ["_law_some", "_law_top", "_law_bottom", "_law_it"]
theorem sc__law_sum : FnScope N__law_sum ["_law_some"] (defScope s__law_sum) := ⟨rfl, rfl, rfl, by decide +kernel, rfl, by decide +kernel, by decide +kernel⟩
theorem ok__law_sum (B : Blt mg) (h__law_sum : Own K mg "_law_sum" s__law_sum) (k__law_fraction : Ok P w K mg base 2 "_law_fraction" s__law_fraction ["_law_top", "_law_bottom"] S__law_fraction) : Ok P w K mg base 3 "_law_sum" s__law_sum ["_law_some"] S__law_sum := by
  obtain ⟨f_s, fd_s, F_s, g_s⟩ := h__law_sum
  obtain ⟨f__law_fraction, fd__law_fraction, F__law_fraction, g__law_fraction, b__law_fraction, G__law_fraction⟩ := k__law_fraction
  refine ⟨f_s, fd_s, F_s, g_s, F_s.binds (fun _ _ _ _ _ _ us hl => match us, hl with | [_], _ => rfl), FnG.of F_s sc__law_sum (fun xs μ Q h => by first | exact h.1 | exact h.2.1 | (obtain ⟨⟩ := h)) fun cdv A outer s H hr hgd => ⟨_, _, (pss_cons (ps_asg (pe_tupF (pa_cons pe_int (pa_cons pe_int pa_nil))) (pg_tup (n := 2) rfl (pgs_cons (pg_name (i := 1) sc__law_sum.nd rfl (Or.inl rfl)) (pgs_cons (pg_name (i := 2) sc__law_sum.nd rfl (Or.inl rfl)) pgs_nil))))
 (pss_cons (ps_for PassesOwn.never rfl (pi_seqM2 (pv 0)) (pg_name (i := 3) sc__law_sum.nd rfl (Or.inl rfl))
 (pss_one (ps_par (i := 1) (j := 2) (by rfl) sc__law_sum.nd rfl rfl (by decide) rfl rfl (pa_cons (pe_op op_plus (pe_op op_times (pv 1) (pe_ix ix_seq (pv 3) pe_int (fun _ _ => rfl))) (pe_op op_times (pe_ix ix_seq (pv 3) pe_int (fun _ _ => rfl)) (pv 2))) (pa_cons (pe_op op_times (pv 2) (pe_ix ix_seq (pv 3) pe_int (fun _ _ => rfl))) pa_nil)) (by rfl))))
 (pss_one (ps_ret (pe_callG (G__law_fraction.mono (by decide)) hr hgd (by rfl) g__law_fraction F__law_fraction.kp b__law_fraction (pa_cons (pv 1) (pa_cons (pv 2) pa_nil))))))), (by (try dsimp only [cxOf]); exact inferInstance), ?_⟩⟩
  intro xs μ Q hS
  obtain ⟨_, x, qs, D, m, rfl, hx, hb, hm, hl, d0, d1, dd, hz, hQ⟩ := hS
  rw [show startP N__law_sum [x] = [some x, none, none, none] from rfl]
  refine stm_of fun R hR => ?_
  simp only [pComb, mCnt, mDNewT, mZipM, mDc, mLenSetL, mDGetT, mDGet2T, mDInT, mDPutT, mLockX, mLockEX, mKeysX, pLstX, pLenX, pMaxT, pSortT, str_to, str_ot, mPar3, mLockV, mLockE, mItemsC, mKeysC, mDGet2, pIsN, isNonP, pRepLM, mTruD, dkOfP, pPopAt, pIndex, mLstRgM, mTruth, pReprA, pLenD, pLstD, mDNew, pRepL, mLenSetN, mDIn, mSortSet, mSortSetL, mRevT, mForC, mSeqC, mLcC, pAbs, pMax2, pMin2, pInt1, mDGet, mDPut, mBM, mBM0, pPop, pAppend, pExtend, pSetL, mSub, mDisp, mPs, mPs0, mRevL, mRevLM, pLstOfM, mTupRg, mRg1, mRg2, pPlusM, lstItems, dictOfP, keyP, keysP, val_left, val_mixed, val_draws, put_draws, mLc, mLcM, mLc2, mFor, mSeqI, mRng1, mRng2, mZip, mEnum, mSl, mNoPart, mPart, mSeq, mAsg, mAsg2, mCB, mCons, mNil, mVar, mC, mOp, mUn, pU, mTup, mLst, mRet, mRetN, mLstM, getl, setl, mName, mCall, mCallK, mIf, mIfS, mTest, mAnd, mOr, mNot, mYes, mAndV, mOrV, mNotV, mNext, mNever, mBreak, mCont, mDrop, mChain, mPar, mGTup, mGCons, mGNil, pGcd, pI, pI0, pIx, pTimes, pPlus, pEq, pNe, pLen, pSum, pMaxS, pAll, pAny, pTupOf, pLstOf, pIn, pIsB, pIsi, items_tup, items_lst, items_kl, items_mr, items_tab, items_lot, items_fr, decide_true, decide_false, eqP_int, eqP_bl, eqP_str, eqP_tup2, kit_tt, kit_ii, kit_ib, tyP, mEnd, wipeP, List.map_cons, List.map_nil, List.getElem?_cons_zero, List.getElem?_cons_succ, List.set_cons_zero, List.set_cons_succ, atI_zero, atI_one, if_true, if_false, ite_true, ite_false, Bool.false_eq_true, List.length_cons, List.length_nil, Bool.not_true, Bool.not_false]
  refine ⟨by decide, trivial, ?_⟩
  subst hR
  refine stm_of fun R hR => ?_
  have key : ∀ (C : Store → Prop) (z : PV), C μ → mForLC C (mName 3) (mPar 1 2 (mCons (mOp pPlus (mOp pTimes (mVar 1) (mOp pIx (mVar 3) (mC (PV.int 1)))) (mOp pTimes (mOp pIx (mVar 3) (mC (PV.int 0))) (mVar 2))) (mCons (mOp pTimes (mVar 2) (mOp pIx (mVar 3) (mC (PV.int 1)))) mNil)))
      { nx := R, rt := (mEnd μ Q).rt, bk := (mEnd μ Q).bk, ct := (mEnd μ Q).ct } (qs.map frP) [some z, some (PV.int 0), some (PV.int 1), none] μ := by
    intro C z hC
    refine forC_inv (enc := frP) (fun pre ρ μ' => (∃ (t b : Int) (y : Option PV), ρ = [some z, some (.int t), some (.int b), y] ∧ 0 < b ∧ t.natAbs < 2 ^ ((m + 1) * pre.length + 1) ∧ b.natAbs ≤ 2 ^ (m * pre.length) ∧ Rat.divInt t b = pre.sum) ∧ μ' = μ) (fun _ _ _ h => h.2 ▸ hC) (done := []) ⟨⟨0, 1, none, rfl, by decide, by simp, by simp, rfl⟩, rfl⟩ (fun pre a post ρ μ' e hI N hN => ?_) fun ρ μ' hI => ?_
    · obtain ⟨⟨t, b, y, rfl, hb0, ht, hb1, hs⟩, rfl⟩ := hI
      have e' : qs = pre ++ a :: post := e
      have ha := hb a (by rw [e']; simp)
      have had : ((a.den : Nat) : Int).natAbs < 2 ^ m := by rw [Int.natAbs_natCast]; exact ha.2
      have hlen : pre.length + 1 ≤ qs.length := by rw [e', List.length_append, List.length_cons]; omega
      have hlen' : m * (pre.length + 1) ≤ m * qs.length := Nat.mul_le_mul_left _ hlen
      have hexp : (m + 1) * (pre.length + 1) = (m + 1) * pre.length + m + 1 := by rw [Nat.mul_add]; omega
      have hexp2 : m * (pre.length + 1) = m * pre.length + m := by rw [Nat.mul_add]; omega
      have hexp3 : (m + 1) * pre.length = m * pre.length + pre.length := by rw [Nat.add_mul]; omega
      have hb2 : b.natAbs < 2 ^ (m * pre.length + 1) := by rw [Nat.pow_succ]; have := Nat.two_pow_pos (m * pre.length); omega
      simp only [pComb, mCnt, mDNewT, mZipM, mDc, mLenSetL, mDGetT, mDGet2T, mDInT, mDPutT, mLockX, mLockEX, mKeysX, pLstX, pLenX, pMaxT, pSortT, str_to, str_ot, mPar3, mLockV, mLockE, mItemsC, mKeysC, mDGet2, pIsN, isNonP, pRepLM, mTruD, dkOfP, pPopAt, pIndex, mLstRgM, mTruth, pReprA, pLenD, pLstD, mDNew, pRepL, mLenSetN, mDIn, mSortSet, mSortSetL, mRevT, mForC, mSeqC, mLcC, pAbs, pMax2, pMin2, pInt1, mDGet, mDPut, mBM, mBM0, pPop, pAppend, pExtend, pSetL, mSub, mDisp, mPs, mPs0, mRevL, mRevLM, pLstOfM, mTupRg, mRg1, mRg2, pPlusM, lstItems, dictOfP, keyP, keysP, val_left, val_mixed, val_draws, put_draws, mLc, mLcM, mLc2, mFor, mSeqI, mRng1, mRng2, mZip, mEnum, mSl, mNoPart, mPart, mSeq, mAsg, mAsg2, mCB, mCons, mNil, mVar, mC, mOp, mUn, pU, mTup, mLst, mRet, mRetN, mLstM, getl, setl, mName, mCall, mCallK, mIf, mIfS, mTest, mAnd, mOr, mNot, mYes, mAndV, mOrV, mNotV, mNext, mNever, mBreak, mCont, mDrop, mChain, mPar, mGTup, mGCons, mGNil, pGcd, pI, pI0, pIx, pTimes, pPlus, pEq, pNe, pLen, pSum, pMaxS, pAll, pAny, pTupOf, pLstOf, pIn, pIsB, pIsi, items_tup, items_lst, items_kl, items_mr, items_tab, items_lot, items_fr, decide_true, decide_false, eqP_int, eqP_bl, eqP_str, eqP_tup2, kit_tt, kit_ii, kit_ib, tyP, mEnd, wipeP, List.map_cons, List.map_nil, List.getElem?_cons_zero, List.getElem?_cons_succ, List.set_cons_zero, List.set_cons_succ, atI_zero, atI_one, if_true, if_false, ite_true, ite_false, Bool.false_eq_true, List.length_cons, List.length_nil, Bool.not_true, Bool.not_false, frP]
      refine ⟨mulOk ht had (by omega), mulOk ha.1 hb2 (by omega), mulOk hb2 had (by omega), hN _ _ ⟨⟨_, _, some (frP a), rfl, Int.mul_pos hb0 (den_pos a), ?_, ?_, ?_⟩, rfl⟩⟩
      · have h1 := natAbs_mul_lt ht had
        have h2 := natAbs_mul_lt ha.1 (Nat.lt_of_lt_of_le hb2 (Nat.pow_le_pow_right (by decide) (by omega : m * pre.length + 1 ≤ (m + 1) * pre.length + 1)))
        rw [Nat.add_comm m] at h2
        have := natAbs_add_lt h1 h2
        refine Nat.lt_of_lt_of_le this (Nat.pow_le_pow_right (by decide) ?_)
        rw [List.length_append, List.length_singleton, hexp]; omega
      · rw [Int.natAbs_mul, List.length_append, List.length_singleton, hexp2, Nat.pow_add]
        exact Nat.mul_le_mul hb1 (Nat.le_of_lt had)
      · rw [sum_step hb0, hs, sum_append, List.sum_cons]
        show _ = _ + (a + 0)
        rw [Rat.add_zero]
    · obtain ⟨⟨t, b, y, rfl, hb0, ht, hb1, hs⟩, rfl⟩ := hI
      rw [List.nil_append] at ht hb1 hs
      subst hR
      simp only [pComb, mCnt, mDNewT, mZipM, mDc, mLenSetL, mDGetT, mDGet2T, mDInT, mDPutT, mLockX, mLockEX, mKeysX, pLstX, pLenX, pMaxT, pSortT, str_to, str_ot, mPar3, mLockV, mLockE, mItemsC, mKeysC, mDGet2, pIsN, isNonP, pRepLM, mTruD, dkOfP, pPopAt, pIndex, mLstRgM, mTruth, pReprA, pLenD, pLstD, mDNew, pRepL, mLenSetN, mDIn, mSortSet, mSortSetL, mRevT, mForC, mSeqC, mLcC, pAbs, pMax2, pMin2, pInt1, mDGet, mDPut, mBM, mBM0, pPop, pAppend, pExtend, pSetL, mSub, mDisp, mPs, mPs0, mRevL, mRevLM, pLstOfM, mTupRg, mRg1, mRg2, pPlusM, lstItems, dictOfP, keyP, keysP, val_left, val_mixed, val_draws, put_draws, mLc, mLcM, mLc2, mFor, mSeqI, mRng1, mRng2, mZip, mEnum, mSl, mNoPart, mPart, mSeq, mAsg, mAsg2, mCB, mCons, mNil, mVar, mC, mOp, mUn, pU, mTup, mLst, mRet, mRetN, mLstM, getl, setl, mName, mCall, mCallK, mIf, mIfS, mTest, mAnd, mOr, mNot, mYes, mAndV, mOrV, mNotV, mNext, mNever, mBreak, mCont, mDrop, mChain, mPar, mGTup, mGCons, mGNil, pGcd, pI, pI0, pIx, pTimes, pPlus, pEq, pNe, pLen, pSum, pMaxS, pAll, pAny, pTupOf, pLstOf, pIn, pIsB, pIsi, items_tup, items_lst, items_kl, items_mr, items_tab, items_lot, items_fr, decide_true, decide_false, eqP_int, eqP_bl, eqP_str, eqP_tup2, kit_tt, kit_ii, kit_ib, tyP, mEnd, wipeP, List.map_cons, List.map_nil, List.getElem?_cons_zero, List.getElem?_cons_succ, List.set_cons_zero, List.set_cons_succ, atI_zero, atI_one, if_true, if_false, ite_true, ite_false, Bool.false_eq_true, List.length_cons, List.length_nil, Bool.not_true, Bool.not_false, S__law_fraction]
      have hden : (Rat.divInt t b).den < 2 ^ 2660 := by
        rw [hs]
        refine Nat.lt_of_le_of_lt (Nat.le_of_dvd d0 ?_) d1
        exact sum_den d0 dd
      refine ⟨trivial, _, _, rfl, stp_frac hb0 hden, ?_, hb0, ?_⟩
      · rcases hz with hz | hz
        · refine .inl (Nat.lt_of_le_of_lt hb1 (Nat.pow_lt_pow_right (by decide) ?_))
          rw [Nat.add_mul] at hz; omega
        · exact .inr (divInt_one hb0 (by rw [hs, hz]))
      · rw [hs]
        exact fin_keep hQ
  unfold mSeqC2
  rcases hx with rfl | ⟨j, rfl, hj⟩
  · simp only [pComb, mCnt, mDNewT, mZipM, mDc, mLenSetL, mDGetT, mDGet2T, mDInT, mDPutT, mLockX, mLockEX, mKeysX, pLstX, pLenX, pMaxT, pSortT, str_to, str_ot, mPar3, mLockV, mLockE, mItemsC, mKeysC, mDGet2, pIsN, isNonP, pRepLM, mTruD, dkOfP, pPopAt, pIndex, mLstRgM, mTruth, pReprA, pLenD, pLstD, mDNew, pRepL, mLenSetN, mDIn, mSortSet, mSortSetL, mRevT, mForC, mSeqC, mLcC, pAbs, pMax2, pMin2, pInt1, mDGet, mDPut, mBM, mBM0, pPop, pAppend, pExtend, pSetL, mSub, mDisp, mPs, mPs0, mRevL, mRevLM, pLstOfM, mTupRg, mRg1, mRg2, pPlusM, lstItems, dictOfP, keyP, keysP, val_left, val_mixed, val_draws, put_draws, mLc, mLcM, mLc2, mFor, mSeqI, mRng1, mRng2, mZip, mEnum, mSl, mNoPart, mPart, mSeq, mAsg, mAsg2, mCB, mCons, mNil, mVar, mC, mOp, mUn, pU, mTup, mLst, mRet, mRetN, mLstM, getl, setl, mName, mCall, mCallK, mIf, mIfS, mTest, mAnd, mOr, mNot, mYes, mAndV, mOrV, mNotV, mNext, mNever, mBreak, mCont, mDrop, mChain, mPar, mGTup, mGCons, mGNil, pGcd, pI, pI0, pIx, pTimes, pPlus, pEq, pNe, pLen, pSum, pMaxS, pAll, pAny, pTupOf, pLstOf, pIn, pIsB, pIsi, items_tup, items_lst, items_kl, items_mr, items_tab, items_lot, items_fr, decide_true, decide_false, eqP_int, eqP_bl, eqP_str, eqP_tup2, kit_tt, kit_ii, kit_ib, tyP, mEnd, wipeP, List.map_cons, List.map_nil, List.getElem?_cons_zero, List.getElem?_cons_succ, List.set_cons_zero, List.set_cons_succ, atI_zero, atI_one, if_true, if_false, ite_true, ite_false, Bool.false_eq_true, List.length_cons, List.length_nil, Bool.not_true, Bool.not_false]
    exact key _ _ trivial
  · simp only [pComb, mCnt, mDNewT, mZipM, mDc, mLenSetL, mDGetT, mDGet2T, mDInT, mDPutT, mLockX, mLockEX, mKeysX, pLstX, pLenX, pMaxT, pSortT, str_to, str_ot, mPar3, mLockV, mLockE, mItemsC, mKeysC, mDGet2, pIsN, isNonP, pRepLM, mTruD, dkOfP, pPopAt, pIndex, mLstRgM, mTruth, pReprA, pLenD, pLstD, mDNew, pRepL, mLenSetN, mDIn, mSortSet, mSortSetL, mRevT, mForC, mSeqC, mLcC, pAbs, pMax2, pMin2, pInt1, mDGet, mDPut, mBM, mBM0, pPop, pAppend, pExtend, pSetL, mSub, mDisp, mPs, mPs0, mRevL, mRevLM, pLstOfM, mTupRg, mRg1, mRg2, pPlusM, lstItems, dictOfP, keyP, keysP, val_left, val_mixed, val_draws, put_draws, mLc, mLcM, mLc2, mFor, mSeqI, mRng1, mRng2, mZip, mEnum, mSl, mNoPart, mPart, mSeq, mAsg, mAsg2, mCB, mCons, mNil, mVar, mC, mOp, mUn, pU, mTup, mLst, mRet, mRetN, mLstM, getl, setl, mName, mCall, mCallK, mIf, mIfS, mTest, mAnd, mOr, mNot, mYes, mAndV, mOrV, mNotV, mNext, mNever, mBreak, mCont, mDrop, mChain, mPar, mGTup, mGCons, mGNil, pGcd, pI, pI0, pIx, pTimes, pPlus, pEq, pNe, pLen, pSum, pMaxS, pAll, pAny, pTupOf, pLstOf, pIn, pIsB, pIsi, items_tup, items_lst, items_kl, items_mr, items_tab, items_lot, items_fr, decide_true, decide_false, eqP_int, eqP_bl, eqP_str, eqP_tup2, kit_tt, kit_ii, kit_ib, tyP, mEnd, wipeP, List.map_cons, List.map_nil, List.getElem?_cons_zero, List.getElem?_cons_succ, List.set_cons_zero, List.set_cons_succ, atI_zero, atI_one, if_true, if_false, ite_true, ite_false, Bool.false_eq_true, List.length_cons, List.length_nil, Bool.not_true, Bool.not_false, hj]
    exact key _ _ hj
abbrev N__law_times : List Str := ["_law_one", "_law_other"]
theorem sc__law_times : FnScope N__law_times ["_law_one", "_law_other"] (defScope s__law_times) := ⟨rfl, rfl, rfl, by decide +kernel, rfl, by decide +kernel, by decide +kernel⟩
theorem ok__law_times (B : Blt mg) (h__law_times : Own K mg "_law_times" s__law_times) (k__law_fraction : Ok P w K mg base 2 "_law_fraction" s__law_fraction ["_law_top", "_law_bottom"] S__law_fraction) : Ok P w K mg base 3 "_law_times" s__law_times ["_law_one", "_law_other"] S__law_times := by
  obtain ⟨f_s, fd_s, F_s, g_s⟩ := h__law_times
  obtain ⟨f__law_fraction, fd__law_fraction, F__law_fraction, g__law_fraction, b__law_fraction, G__law_fraction⟩ := k__law_fraction
  refine ⟨f_s, fd_s, F_s, g_s, F_s.binds (fun _ _ _ _ _ _ us hl => match us, hl with | [_, _], _ => rfl), FnG.of F_s sc__law_times (fun xs μ Q h => by first | exact h.1 | exact h.2.1 | (obtain ⟨⟩ := h)) fun cdv A outer s H hr hgd => ⟨_, _, (pss_one (ps_ret (pe_callG (G__law_fraction.mono (by decide)) hr hgd (by rfl) g__law_fraction F__law_fraction.kp b__law_fraction (pa_cons (pe_op op_times (pe_ix ix_seq (pv 0) pe_int (fun _ _ => rfl)) (pe_ix ix_seq (pv 1) pe_int (fun _ _ => rfl))) (pa_cons (pe_op op_times (pe_ix ix_seq (pv 0) pe_int (fun _ _ => rfl)) (pe_ix ix_seq (pv 1) pe_int (fun _ _ => rfl))) pa_nil))))), (by (try dsimp only [cxOf]); exact inferInstance), ?_⟩⟩
  intro xs μ Q hS
  obtain ⟨_, z, p, q, rfl, hp, hq, hz, hQ⟩ := hS
  rw [show startP N__law_times [frP p, frP q] = [some (frP p), some (frP q)] from rfl]
  obtain ⟨m1, m2, m3, m4⟩ := fr_mul hp hq (by omega)
  have hp4 : (2 : Nat) ^ 2660 < 2 ^ 8980 := Nat.pow_lt_pow_right (by decide) (by decide)
  simp only [pComb, mCnt, mDNewT, mZipM, mDc, mLenSetL, mDGetT, mDGet2T, mDInT, mDPutT, mLockX, mLockEX, mKeysX, pLstX, pLenX, pMaxT, pSortT, str_to, str_ot, mPar3, mLockV, mLockE, mItemsC, mKeysC, mDGet2, pIsN, isNonP, pRepLM, mTruD, dkOfP, pPopAt, pIndex, mLstRgM, mTruth, pReprA, pLenD, pLstD, mDNew, pRepL, mLenSetN, mDIn, mSortSet, mSortSetL, mRevT, mForC, mSeqC, mLcC, pAbs, pMax2, pMin2, pInt1, mDGet, mDPut, mBM, mBM0, pPop, pAppend, pExtend, pSetL, mSub, mDisp, mPs, mPs0, mRevL, mRevLM, pLstOfM, mTupRg, mRg1, mRg2, pPlusM, lstItems, dictOfP, keyP, keysP, val_left, val_mixed, val_draws, put_draws, mLc, mLcM, mLc2, mFor, mSeqI, mRng1, mRng2, mZip, mEnum, mSl, mNoPart, mPart, mSeq, mAsg, mAsg2, mCB, mCons, mNil, mVar, mC, mOp, mUn, pU, mTup, mLst, mRet, mRetN, mLstM, getl, setl, mName, mCall, mCallK, mIf, mIfS, mTest, mAnd, mOr, mNot, mYes, mAndV, mOrV, mNotV, mNext, mNever, mBreak, mCont, mDrop, mChain, mPar, mGTup, mGCons, mGNil, pGcd, pI, pI0, pIx, pTimes, pPlus, pEq, pNe, pLen, pSum, pMaxS, pAll, pAny, pTupOf, pLstOf, pIn, pIsB, pIsi, items_tup, items_lst, items_kl, items_mr, items_tab, items_lot, items_fr, decide_true, decide_false, eqP_int, eqP_bl, eqP_str, eqP_tup2, kit_tt, kit_ii, kit_ib, tyP, mEnd, wipeP, List.map_cons, List.map_nil, List.getElem?_cons_zero, List.getElem?_cons_succ, List.set_cons_zero, List.set_cons_succ, atI_zero, atI_one, if_true, if_false, ite_true, ite_false, Bool.false_eq_true, List.length_cons, List.length_nil, Bool.not_true, Bool.not_false, frP, S__law_fraction]
  refine ⟨m1, m4, trivial, _, _, rfl, stp_few (by rw [← Int.natCast_mul, Int.natAbs_natCast]; exact hz), .inl (by rw [← Int.natCast_mul, Int.natAbs_natCast]; omega), Int.mul_pos (den_pos p) (den_pos q), ?_⟩
  rw [← mul_eq]
  exact fin_keep hQ
abbrev N__law_table : List Str := ["_law_deck_here", "_law_n", "_law_way", "_law_parts_here", "_law_whole", "_law_turn", "_law_part"]
theorem sc__law_table : FnScope N__law_table ["_law_deck_here", "_law_n", "_law_way"] (defScope s__law_table) := ⟨rfl, rfl, rfl, by decide +kernel, rfl, by decide +kernel, by decide +kernel⟩
theorem ok__law_table (B : Blt mg) (h__law_table : Own K mg "_law_table" s__law_table) (k__law_parts : Ok P w K mg base 3 "_law_parts" s__law_parts ["_law_deck_here", "_law_n", "_law_way"] S__law_parts) (k__law_fraction : Ok P w K mg base 2 "_law_fraction" s__law_fraction ["_law_top", "_law_bottom"] S__law_fraction) : Ok P w K mg base 4 "_law_table" s__law_table ["_law_deck_here", "_law_n", "_law_way"] S__law_table := by
  obtain ⟨f_s, fd_s, F_s, g_s⟩ := h__law_table
  obtain ⟨f__law_parts, fd__law_parts, F__law_parts, g__law_parts, b__law_parts, G__law_parts⟩ := k__law_parts
  obtain ⟨f__law_fraction, fd__law_fraction, F__law_fraction, g__law_fraction, b__law_fraction, G__law_fraction⟩ := k__law_fraction
  refine ⟨f_s, fd_s, F_s, g_s, F_s.binds (fun _ _ _ _ _ _ us hl => match us, hl with | [_, _, _], _ => rfl), FnG.of F_s sc__law_table (fun xs μ Q h => by first | exact h.1 | exact h.2.1 | (obtain ⟨⟩ := h)) fun cdv A outer s H hr hgd => ⟨_, _, (pss_cons (ps_set (i := 3) sc__law_table.nd rfl (Or.inl rfl) (pe_callG (G__law_parts.mono (by decide)) hr hgd (by rfl) g__law_parts F__law_parts.kp b__law_parts (pa_cons (pv 0) (pa_cons (pv 1) (pa_cons (pv 2) pa_nil)))))
 (pss_cons (ps_set (i := 4) sc__law_table.nd rfl (Or.inr rfl) (pe_callB (cr_sum rfl) (by rfl) (B "sum" (by decide)) (by decide +kernel) (pa_cons (pv 3) pa_nil)))
 (pss_cons (ps_if (pt_cmpR (op_eqX hr.units) (pv 2) pe_int (nomark _))
 (pss_cons (ps_for PassesOwn.never rfl (pi_range1 (by rfl) (B "range" (by decide)) (pa_cons pe_int pa_nil)) (pg_name (i := 5) sc__law_table.nd rfl (Or.inl rfl))
 (pss_one (ps_if (pt_cmpR op_notIn_seq (pe_callB (cr_sum rfl) (by rfl) (B "sum" (by decide)) (by decide +kernel) (pa_cons (pv 3) pa_nil)) (pe_tupF (pa_cons pe_int (pa_cons pe_int (pa_cons pe_int (pa_cons pe_int (pa_cons pe_int (pa_cons pe_int (pa_cons pe_int pa_nil)))))))) (by with_unfolding_all rfl))
 (pss_one (ps_asg (pe_op op_plus (pe_ix ix_seq (pv 3) pe_int (fun _ _ => rfl)) pe_int) (pg_sub (pv 3) pe_int set_list)))
 pss_nil)))
 (pss_one (ps_set (i := 4) sc__law_table.nd rfl (Or.inr rfl) (pe_callB (cr_sum rfl) (by rfl) (B "sum" (by decide)) (by decide +kernel) (pa_cons (pv 3) pa_nil)))))
 pss_nil)
 (pss_one (ps_ret (pe_callTy cb_tup (by rfl) (B "tuple" (by decide)) (by decide +kernel) (pa_cons (pe_lc (own := [("_law_part", 6)]) (by rfl) sc__law_table.nd (pi_seqM (pv 3)) (blkOk_by (own := [("_law_part", 6)]) (N := N__law_table) (sc := defScope s__law_table) (by decide +kernel)) (fun _ _ _ _ _ => (pg_name (i := 6) sc__law_table.nd rfl (Or.inl rfl))) (fun _ _ _ _ _ => pts_nil) (fun _ _ _ _ _ => (pek_call K rfl (G__law_fraction.mono (by decide)) hr hgd (by rfl) g__law_fraction F__law_fraction.kp b__law_fraction (pa_cons (pv 6) (pa_cons (pv 4) pa_nil))))) pa_nil))))))), (by (try dsimp only [cxOf]); exact inferInstance), ?_⟩⟩
  intro xs μ Q hS
  obtain ⟨_, n, way, m, rest, rfl, h1, hn, w0, w4, hD, hQ⟩ := hS
  rw [show startP N__law_table [.mr 1, .int n, .int way] = [some (.mr 1), some (.int n), some (.int way), none, none, none, none] from rfl]
  simp only [pComb, mCnt, mDNewT, mZipM, mDc, mLenSetL, mDGetT, mDGet2T, mDInT, mDPutT, mLockX, mLockEX, mKeysX, pLstX, pLenX, pMaxT, pSortT, str_to, str_ot, mPar3, mLockV, mLockE, mItemsC, mKeysC, mDGet2, pIsN, isNonP, pRepLM, mTruD, dkOfP, pPopAt, pIndex, mLstRgM, mTruth, pReprA, pLenD, pLstD, mDNew, pRepL, mLenSetN, mDIn, mSortSet, mSortSetL, mRevT, mForC, mSeqC, mLcC, pAbs, pMax2, pMin2, pInt1, mDGet, mDPut, mBM, mBM0, pPop, pAppend, pExtend, pSetL, mSub, mDisp, mPs, mPs0, mRevL, mRevLM, pLstOfM, mTupRg, mRg1, mRg2, pPlusM, lstItems, dictOfP, keyP, keysP, val_left, val_mixed, val_draws, put_draws, mLc, mLcM, mLc2, mFor, mSeqI, mRng1, mRng2, mZip, mEnum, mSl, mNoPart, mPart, mSeq, mAsg, mAsg2, mCB, mCons, mNil, mVar, mC, mOp, mUn, pU, mTup, mLst, mRet, mRetN, mLstM, getl, setl, mName, mCall, mCallK, mIf, mIfS, mTest, mAnd, mOr, mNot, mYes, mAndV, mOrV, mNotV, mNext, mNever, mBreak, mCont, mDrop, mChain, mPar, mGTup, mGCons, mGNil, pGcd, pI, pI0, pIx, pTimes, pPlus, pEq, pNe, pLen, pSum, pMaxS, pAll, pAny, pTupOf, pLstOf, pIn, pIsB, pIsi, items_tup, items_lst, items_kl, items_mr, items_tab, items_lot, items_fr, decide_true, decide_false, eqP_int, eqP_bl, eqP_str, eqP_tup2, kit_tt, kit_ii, kit_ib, tyP, mEnd, wipeP, List.map_cons, List.map_nil, List.getElem?_cons_zero, List.getElem?_cons_succ, List.set_cons_zero, List.set_cons_succ, atI_zero, atI_one, if_true, if_false, ite_true, ite_false, Bool.false_eq_true, List.length_cons, List.length_nil, Bool.not_true, Bool.not_false, S__law_parts]
  refine ⟨trivial, n, way, m, rest, rfl, h1, hn, w0, w4, hD, fun ps g μ1 hP hW hD1 => ?_⟩
  have cell : ∀ {ps : List Int} {μ' : Store}, Dk m (rest ++ g ++ [.lst (ps.map PV.int)]) μ' → μ'[rest.length + g.length + 2]? = some (.lst (ps.map PV.int)) := fun {ps μ'} h => by
    rw [h.get, ← List.length_append, getl]
  have tail : ∀ (ps' : List Int) (μ' : Store) (y : Option PV) (b : Int), b ≤ 1000000000100 → NFq (ptab ps') → Parts n b ps' → Dk m (rest ++ g ++ [.lst (ps'.map PV.int)]) μ' →
      (ps'.map PV.int).length ≤ lim ∧ mLcLC (fun μ2 => μ2[rest.length + g.length + 2]? = some (.lst (ps'.map PV.int))) (mName 6) mYes (mCall S__law_fraction (mCons (mVar 6) (mCons (mVar 4) mNil)))
        [some (.mr 1), some (.int n), some (.int way), some (.mr (rest.length + g.length + 2)), some (.int ps'.sum), y, none] (fun acc μ2 => ∃ y μ', Gc μ (.tup acc) μ2 y μ' ∧ Q y μ') (ps'.map PV.int) [] μ' := fun ps' μ' y b hb hF hP' hD' => by
    have hs := hP'.sum
    have hl := hP'.len
    have hb0 : 0 ≤ b := by
      obtain ⟨q, hq, _⟩ := hP'.ex
      have := hP'.le q hq; have := hP'.pos q hq; omega
    have hsb : ps'.sum ≤ 8 * 1000000000100 := by
      have : (n : Int) * b ≤ 8 * 1000000000100 := Int.mul_le_mul (by omega) hb hb0 (by decide)
      omega
    refine ⟨by rw [List.length_map]; unfold lim; omega, lcC_map (cell hD') (out := fun p => frP (Rat.divInt p ps'.sum)) (fun p hp k hk => ?_) ?_⟩
    · simp only [pComb, mCnt, mDNewT, mZipM, mDc, mLenSetL, mDGetT, mDGet2T, mDInT, mDPutT, mLockX, mLockEX, mKeysX, pLstX, pLenX, pMaxT, pSortT, str_to, str_ot, mPar3, mLockV, mLockE, mItemsC, mKeysC, mDGet2, pIsN, isNonP, pRepLM, mTruD, dkOfP, pPopAt, pIndex, mLstRgM, mTruth, pReprA, pLenD, pLstD, mDNew, pRepL, mLenSetN, mDIn, mSortSet, mSortSetL, mRevT, mForC, mSeqC, mLcC, pAbs, pMax2, pMin2, pInt1, mDGet, mDPut, mBM, mBM0, pPop, pAppend, pExtend, pSetL, mSub, mDisp, mPs, mPs0, mRevL, mRevLM, pLstOfM, mTupRg, mRg1, mRg2, pPlusM, lstItems, dictOfP, keyP, keysP, val_left, val_mixed, val_draws, put_draws, mLc, mLcM, mLc2, mFor, mSeqI, mRng1, mRng2, mZip, mEnum, mSl, mNoPart, mPart, mSeq, mAsg, mAsg2, mCB, mCons, mNil, mVar, mC, mOp, mUn, pU, mTup, mLst, mRet, mRetN, mLstM, getl, setl, mName, mCall, mCallK, mIf, mIfS, mTest, mAnd, mOr, mNot, mYes, mAndV, mOrV, mNotV, mNext, mNever, mBreak, mCont, mDrop, mChain, mPar, mGTup, mGCons, mGNil, pGcd, pI, pI0, pIx, pTimes, pPlus, pEq, pNe, pLen, pSum, pMaxS, pAll, pAny, pTupOf, pLstOf, pIn, pIsB, pIsi, items_tup, items_lst, items_kl, items_mr, items_tab, items_lot, items_fr, decide_true, decide_false, eqP_int, eqP_bl, eqP_str, eqP_tup2, kit_tt, kit_ii, kit_ib, tyP, mEnd, wipeP, List.map_cons, List.map_nil, List.getElem?_cons_zero, List.getElem?_cons_succ, List.set_cons_zero, List.set_cons_succ, atI_zero, atI_one, if_true, if_false, ite_true, ite_false, Bool.false_eq_true, List.length_cons, List.length_nil, Bool.not_true, Bool.not_false, S__law_fraction]
      have h2 := hP'.pos p hp
      have h3 := hP'.le p hp
      exact ⟨trivial, _, _, rfl, stp_few (Nat.lt_of_lt_of_le (show ps'.sum.natAbs < 2 ^ 44 by omega) (Nat.pow_le_pow_right (by decide) (by decide))), .inl (Nat.lt_of_lt_of_le (show ps'.sum.natAbs < 2 ^ 44 by omega) (Nat.pow_le_pow_right (by decide) (by decide))), hs.1, hk⟩
    · have e : PV.tup ([] ++ ps'.map fun p => frP (Rat.divInt p ps'.sum)) = tabP (ptab ps') := by
        unfold tabP ptab
        rw [List.map_map]
        rfl
      rw [e]
      exact fin_keep (hQ (ptab ps') (g ++ [.lst (ps'.map PV.int)]) μ' (hP'.tab hn hb) (by unfold ptab; rw [List.length_map]; exact hl) hF (by rw [← List.append_assoc]; exact hD'))
  simp only [cell hD1, intsP_map]
  by_cases hw : way = 1
  · rw [if_pos (by simpa using hw)]
    rw [show (12 : Int).toNat = 12 from rfl, rangeP_eq]
    refine ⟨by decide, for_inv (fun pre ρ μ' => ∃ (ps' : List Int) (s : Int) (y : Option PV), ρ = [some (.mr 1), some (.int n), some (.int way), some (.mr (rest.length + g.length + 2)), some (.int s), y, none] ∧ Parts n (1000000000000 + pre.length) ps' ∧ (∀ p ∈ ps', p ≤ 5 + pre.length) ∧ Dk m (rest ++ g ++ [.lst (ps'.map PV.int)]) μ') (done := []) ⟨ps, _, none, rfl, hP, fun p hp => by have := hW p hp; rw [hw] at this; have := pw_le this; simpa using this, hD1⟩ (fun pre a post ρ μ' e hI N hN => ?_) fun ρ μ' hI => ?_⟩
    · obtain ⟨ps', s, y, rfl, hP', hU, hD'⟩ := hI
      have hc := cell hD'
      have up : ∀ ps2, Parts n (1000000000000 + pre.length) ps2 → Parts n (1000000000000 + (pre ++ [a]).length) ps2 := fun ps2 h => ⟨h.len, h.pos, fun p hp => by have := h.le p hp; rw [List.length_append]; simp; omega, h.ex⟩
      obtain ⟨p0, ps2, rfl⟩ : ∃ p0 ps2, ps' = p0 :: ps2 := by
        cases ps' with
        | nil => have := hP'.len; simp at this; omega
        | cons a b => exact ⟨a, b, rfl⟩
      have hp0 := hP'.pos p0 List.mem_cons_self
      have hp1 := hP'.le p0 List.mem_cons_self
      simp only [List.map_cons] at hc
      simp only [pComb, mCnt, mDNewT, mZipM, mDc, mLenSetL, mDGetT, mDGet2T, mDInT, mDPutT, mLockX, mLockEX, mKeysX, pLstX, pLenX, pMaxT, pSortT, str_to, str_ot, mPar3, mLockV, mLockE, mItemsC, mKeysC, mDGet2, pIsN, isNonP, pRepLM, mTruD, dkOfP, pPopAt, pIndex, mLstRgM, mTruth, pReprA, pLenD, pLstD, mDNew, pRepL, mLenSetN, mDIn, mSortSet, mSortSetL, mRevT, mForC, mSeqC, mLcC, pAbs, pMax2, pMin2, pInt1, mDGet, mDPut, mBM, mBM0, pPop, pAppend, pExtend, pSetL, mSub, mDisp, mPs, mPs0, mRevL, mRevLM, pLstOfM, mTupRg, mRg1, mRg2, pPlusM, lstItems, dictOfP, keyP, keysP, val_left, val_mixed, val_draws, put_draws, mLc, mLcM, mLc2, mFor, mSeqI, mRng1, mRng2, mZip, mEnum, mSl, mNoPart, mPart, mSeq, mAsg, mAsg2, mCB, mCons, mNil, mVar, mC, mOp, mUn, pU, mTup, mLst, mRet, mRetN, mLstM, getl, setl, mName, mCall, mCallK, mIf, mIfS, mTest, mAnd, mOr, mNot, mYes, mAndV, mOrV, mNotV, mNext, mNever, mBreak, mCont, mDrop, mChain, mPar, mGTup, mGCons, mGNil, pGcd, pI, pI0, pIx, pTimes, pPlus, pEq, pNe, pLen, pSum, pMaxS, pAll, pAny, pTupOf, pLstOf, pIn, pIsB, pIsi, items_tup, items_lst, items_kl, items_mr, items_tab, items_lot, items_fr, decide_true, decide_false, eqP_int, eqP_bl, eqP_str, eqP_tup2, kit_tt, kit_ii, kit_ib, tyP, mEnd, wipeP, List.map_cons, List.map_nil, List.getElem?_cons_zero, List.getElem?_cons_succ, List.set_cons_zero, List.set_cons_succ, atI_zero, atI_one, if_true, if_false, ite_true, ite_false, Bool.false_eq_true, List.length_cons, List.length_nil, Bool.not_true, Bool.not_false, hc, intsP_map]
      have e2 : intsP (PV.int p0 :: ps2.map PV.int) = some (p0 :: ps2) := intsP_map (p0 :: ps2)
      simp only [e2]
      refine ⟨by decide, ⟨rfl, rfl⟩, ?_⟩
      split
      · simp only [ixN_zero, List.set_cons_zero]
        have e3 : (rest ++ g ++ [MO.lst (PV.int p0 :: ps2.map PV.int)]).set (rest.length + g.length) (.lst (PV.int (p0 + 1) :: ps2.map PV.int)) = rest ++ g ++ [.lst (PV.int (p0 + 1) :: ps2.map PV.int)] := by
          rw [← List.length_append, setl]
        have hD2 := hD'.set (rest.length + g.length) (.lst (PV.int (p0 + 1) :: ps2.map PV.int))
        simp only [List.map_cons] at hD2
        rw [e3] at hD2
        refine hN _ _ ⟨(p0 + 1) :: ps2, _, _, rfl, ⟨by have := hP'.len; simpa using this, fun p hp => ?_, fun p hp => ?_, p0 + 1, List.mem_cons_self, by omega⟩, fun p hp => ?_, hD2⟩
        · rcases List.mem_cons.mp hp with rfl | hp
          · omega
          · exact hP'.pos p (List.mem_cons_of_mem _ hp)
        · rw [List.length_append, List.length_singleton]
          rcases List.mem_cons.mp hp with rfl | hp
          · omega
          · have := hP'.le p (List.mem_cons_of_mem _ hp); omega
        · rw [List.length_append, List.length_singleton]
          have := hU p0 List.mem_cons_self
          rcases List.mem_cons.mp hp with rfl | hp
          · omega
          · have := hU p (List.mem_cons_of_mem _ hp); omega
      · exact hN _ _ ⟨p0 :: ps2, _, _, rfl, up _ hP', fun p hp => by have := hU p hp; rw [List.length_append, List.length_singleton]; omega, hD'⟩
    · obtain ⟨ps', s, y, rfl, hP', hU, hD'⟩ := hI
      simp only [pComb, mCnt, mDNewT, mZipM, mDc, mLenSetL, mDGetT, mDGet2T, mDInT, mDPutT, mLockX, mLockEX, mKeysX, pLstX, pLenX, pMaxT, pSortT, str_to, str_ot, mPar3, mLockV, mLockE, mItemsC, mKeysC, mDGet2, pIsN, isNonP, pRepLM, mTruD, dkOfP, pPopAt, pIndex, mLstRgM, mTruth, pReprA, pLenD, pLstD, mDNew, pRepL, mLenSetN, mDIn, mSortSet, mSortSetL, mRevT, mForC, mSeqC, mLcC, pAbs, pMax2, pMin2, pInt1, mDGet, mDPut, mBM, mBM0, pPop, pAppend, pExtend, pSetL, mSub, mDisp, mPs, mPs0, mRevL, mRevLM, pLstOfM, mTupRg, mRg1, mRg2, pPlusM, lstItems, dictOfP, keyP, keysP, val_left, val_mixed, val_draws, put_draws, mLc, mLcM, mLc2, mFor, mSeqI, mRng1, mRng2, mZip, mEnum, mSl, mNoPart, mPart, mSeq, mAsg, mAsg2, mCB, mCons, mNil, mVar, mC, mOp, mUn, pU, mTup, mLst, mRet, mRetN, mLstM, getl, setl, mName, mCall, mCallK, mIf, mIfS, mTest, mAnd, mOr, mNot, mYes, mAndV, mOrV, mNotV, mNext, mNever, mBreak, mCont, mDrop, mChain, mPar, mGTup, mGCons, mGNil, pGcd, pI, pI0, pIx, pTimes, pPlus, pEq, pNe, pLen, pSum, pMaxS, pAll, pAny, pTupOf, pLstOf, pIn, pIsB, pIsi, items_tup, items_lst, items_kl, items_mr, items_tab, items_lot, items_fr, decide_true, decide_false, eqP_int, eqP_bl, eqP_str, eqP_tup2, kit_tt, kit_ii, kit_ib, tyP, mEnd, wipeP, List.map_cons, List.map_nil, List.getElem?_cons_zero, List.getElem?_cons_succ, List.set_cons_zero, List.set_cons_succ, atI_zero, atI_one, if_true, if_false, ite_true, ite_false, Bool.false_eq_true, List.length_cons, List.length_nil, Bool.not_true, Bool.not_false, cell hD', intsP_map]
      exact ⟨by decide, tail ps' μ' y _ (by simp) (nf_small hP'.sum.1 (by have := isum_le ps' hU; rw [hP'.len] at this; simp at this; omega)) hP' hD'⟩
  · rw [if_neg (by simpa using hw)]
    exact ⟨by decide, tail ps μ1 none _ (by decide) (nf_way hP hn w0 w4 hW) hP hD1⟩
abbrev N_are_amounts : List Str := ["thing", "many", "item"]
theorem sc_are_amounts : FnScope N_are_amounts ["thing", "many"] (defScope s_are_amounts) := ⟨rfl, rfl, rfl, by decide +kernel, rfl, by decide +kernel, by decide +kernel⟩
theorem ok_are_amounts (B : Blt mg) (h_are_amounts : Own K mg "are_amounts" s_are_amounts) (k_is_amount : Ok P w K mg base 3 "is_amount" s_is_amount ["thing"] S_is_amount) : Ok P w K mg base 4 "are_amounts" s_are_amounts ["thing", "many"] S_are_amounts := by
  obtain ⟨f_s, fd_s, F_s, g_s⟩ := h_are_amounts
  obtain ⟨f_is_amount, fd_is_amount, F_is_amount, g_is_amount, b_is_amount, G_is_amount⟩ := k_is_amount
  refine ⟨f_s, fd_s, F_s, g_s, F_s.binds (fun _ _ _ _ _ _ us hl => match us, hl with | [_, _], _ => rfl), FnG.of F_s sc_are_amounts (fun xs μ Q h => by first | exact h.1 | exact h.2.1 | (obtain ⟨⟩ := h)) fun cdv A outer s H hr hgd => ⟨_, _, (pss_one (ps_ret (pe_and (pe_callB call_isi (by rfl) (B "isinstance" (by decide)) (by decide +kernel) (pa_cons (pv 0) (pa_cons (pe_bltn (v := .ty "tuple") (u := .type "tuple") (by rfl) (B "tuple" (by decide)) (by decide +kernel) rfl) pa_nil))) (pe_and (pe_cmpR (op_eqX hr.units) (pe_callB cb_len (by rfl) (B "len" (by decide)) (by decide +kernel) (pa_cons (pv 0) pa_nil)) (pv 1) (nomark _)) (pe_one (pe_callB (cr_all rfl) (by rfl) (B "all" (by decide)) (by decide +kernel) (pa_cons (pe_lc (own := [("item", 2)]) (by rfl) sc_are_amounts.nd (pi_seq (pv 0)) (blkOk_by (own := [("item", 2)]) (N := N_are_amounts) (sc := defScope s_are_amounts) (by decide +kernel)) (fun _ _ _ _ _ => (pg_name (i := 2) sc_are_amounts.nd rfl (Or.inl rfl))) (fun _ _ _ _ _ => pts_nil) (fun _ _ _ _ _ => (pek_call K rfl (G_is_amount.mono (by decide)) hr hgd (by rfl) g_is_amount F_is_amount.kp b_is_amount (pa_cons (pv 2) pa_nil)))) pa_nil))))))), (by (try dsimp only [cxOf]); exact inferInstance), ?_⟩⟩
  intro xs μ Q hS
  obtain ⟨_, qs, n, rfl, hn, hl, h0, hQ⟩ := hS
  rw [show startP N_are_amounts [tabP qs, .int n] = [some (tabP qs), some (.int n), none] from rfl]
  simp only [pComb, mCnt, mDNewT, mZipM, mDc, mLenSetL, mDGetT, mDGet2T, mDInT, mDPutT, mLockX, mLockEX, mKeysX, pLstX, pLenX, pMaxT, pSortT, str_to, str_ot, mPar3, mLockV, mLockE, mItemsC, mKeysC, mDGet2, pIsN, isNonP, pRepLM, mTruD, dkOfP, pPopAt, pIndex, mLstRgM, mTruth, pReprA, pLenD, pLstD, mDNew, pRepL, mLenSetN, mDIn, mSortSet, mSortSetL, mRevT, mForC, mSeqC, mLcC, pAbs, pMax2, pMin2, pInt1, mDGet, mDPut, mBM, mBM0, pPop, pAppend, pExtend, pSetL, mSub, mDisp, mPs, mPs0, mRevL, mRevLM, pLstOfM, mTupRg, mRg1, mRg2, pPlusM, lstItems, dictOfP, keyP, keysP, val_left, val_mixed, val_draws, put_draws, mLc, mLcM, mLc2, mFor, mSeqI, mRng1, mRng2, mZip, mEnum, mSl, mNoPart, mPart, mSeq, mAsg, mAsg2, mCB, mCons, mNil, mVar, mC, mOp, mUn, pU, mTup, mLst, mRet, mRetN, mLstM, getl, setl, mName, mCall, mCallK, mIf, mIfS, mTest, mAnd, mOr, mNot, mYes, mAndV, mOrV, mNotV, mNext, mNever, mBreak, mCont, mDrop, mChain, mPar, mGTup, mGCons, mGNil, pGcd, pI, pI0, pIx, pTimes, pPlus, pEq, pNe, pLen, pSum, pMaxS, pAll, pAny, pTupOf, pLstOf, pIn, pIsB, pIsi, items_tup, items_lst, items_kl, items_mr, items_tab, items_lot, items_fr, decide_true, decide_false, eqP_int, eqP_bl, eqP_str, eqP_tup2, kit_tt, kit_ii, kit_ib, tyP, mEnd, wipeP, List.map_cons, List.map_nil, List.getElem?_cons_zero, List.getElem?_cons_succ, List.set_cons_zero, List.set_cons_succ, atI_zero, atI_one, if_true, if_false, ite_true, ite_false, Bool.false_eq_true, List.length_cons, List.length_nil, Bool.not_true, Bool.not_false, tabP]
  have e1 : decide ((((qs.map frP).length : Nat) : Int) = (n : Int)) = true := by simp [hn]
  rw [e1]
  refine ⟨by decide, by rw [List.length_map]; exact hl, lc_map (out := fun _ => .bl true) (fun q hq k hk => ?_) ?_⟩
  · simp only [pComb, mCnt, mDNewT, mZipM, mDc, mLenSetL, mDGetT, mDGet2T, mDInT, mDPutT, mLockX, mLockEX, mKeysX, pLstX, pLenX, pMaxT, pSortT, str_to, str_ot, mPar3, mLockV, mLockE, mItemsC, mKeysC, mDGet2, pIsN, isNonP, pRepLM, mTruD, dkOfP, pPopAt, pIndex, mLstRgM, mTruth, pReprA, pLenD, pLstD, mDNew, pRepL, mLenSetN, mDIn, mSortSet, mSortSetL, mRevT, mForC, mSeqC, mLcC, pAbs, pMax2, pMin2, pInt1, mDGet, mDPut, mBM, mBM0, pPop, pAppend, pExtend, pSetL, mSub, mDisp, mPs, mPs0, mRevL, mRevLM, pLstOfM, mTupRg, mRg1, mRg2, pPlusM, lstItems, dictOfP, keyP, keysP, val_left, val_mixed, val_draws, put_draws, mLc, mLcM, mLc2, mFor, mSeqI, mRng1, mRng2, mZip, mEnum, mSl, mNoPart, mPart, mSeq, mAsg, mAsg2, mCB, mCons, mNil, mVar, mC, mOp, mUn, pU, mTup, mLst, mRet, mRetN, mLstM, getl, setl, mName, mCall, mCallK, mIf, mIfS, mTest, mAnd, mOr, mNot, mYes, mAndV, mOrV, mNotV, mNext, mNever, mBreak, mCont, mDrop, mChain, mPar, mGTup, mGCons, mGNil, pGcd, pI, pI0, pIx, pTimes, pPlus, pEq, pNe, pLen, pSum, pMaxS, pAll, pAny, pTupOf, pLstOf, pIn, pIsB, pIsi, items_tup, items_lst, items_kl, items_mr, items_tab, items_lot, items_fr, decide_true, decide_false, eqP_int, eqP_bl, eqP_str, eqP_tup2, kit_tt, kit_ii, kit_ib, tyP, mEnd, wipeP, List.map_cons, List.map_nil, List.getElem?_cons_zero, List.getElem?_cons_succ, List.set_cons_zero, List.set_cons_succ, atI_zero, atI_one, if_true, if_false, ite_true, ite_false, Bool.false_eq_true, List.length_cons, List.length_nil, Bool.not_true, Bool.not_false, S_is_amount]
    exact ⟨trivial, q, rfl, h0 q hq, hk⟩
  · simp only [all_true, all_id]
    exact fin_keep hQ
abbrev N_named_chance : List Str := ["table", "names", "name", "chance", "told"]
theorem sc_named_chance : FnScope N_named_chance ["table", "names", "name"] (defScope s_named_chance) := ⟨rfl, rfl, rfl, by decide +kernel, rfl, by decide +kernel, by decide +kernel⟩
theorem ok_named_chance (B : Blt mg) (h_named_chance : Own K mg "named_chance" s_named_chance) (k_total : Ok P w K mg base 3 "total" s_total ["fractions"] S_total) : Ok P w K mg base 4 "named_chance" s_named_chance ["table", "names", "name"] S_named_chance := by
  obtain ⟨f_s, fd_s, F_s, g_s⟩ := h_named_chance
  obtain ⟨f_total, fd_total, F_total, g_total, b_total, G_total⟩ := k_total
  refine ⟨f_s, fd_s, F_s, g_s, F_s.binds (fun _ _ _ _ _ _ us hl => match us, hl with | [_, _, _], _ => rfl), FnG.of F_s sc_named_chance (fun xs μ Q h => by first | exact h.1 | exact h.2.1 | (obtain ⟨⟩ := h)) fun cdv A outer s H hr hgd => ⟨_, _, (pss_one (ps_ret (pe_callG (G_total.mono (by decide)) hr hgd (by rfl) g_total F_total.kp b_total (pa_cons (pe_lc (own := [("chance", 3), ("told", 4)]) (by rfl) sc_named_chance.nd (pi_zipB (by rfl) (B "zip" (by decide)) (pa_cons (pv 0) (pa_cons (pv 1) pa_nil))) (blkOk_by (own := [("chance", 3), ("told", 4)]) (N := N_named_chance) (sc := defScope s_named_chance) (by decide +kernel)) (fun _ _ _ _ _ => (pgk_tup K 2 rfl rfl (pgs_cons (pg_name (i := 3) sc_named_chance.nd rfl (Or.inl rfl)) (pgs_cons (pg_name (i := 4) sc_named_chance.nd rfl (Or.inl rfl)) pgs_nil)) rfl rfl)) (fun _ _ _ _ _ => pts_one (pt_cmpR (opk_eqX K rfl hr.units) (pv 4) (pv 2) (nomark _))) (fun _ _ _ _ _ => (pv 3))) pa_nil)))), (by (try dsimp only [cxOf]); exact inferInstance), ?_⟩⟩
  intro xs μ Q hS
  obtain ⟨_, qs, ns, x, rfl, hT, hQ⟩ := hS
  rw [show startP N_named_chance [tabP qs, lotP ns, .int x] = [some (tabP qs), some (lotP ns), some (.int x), none, none] from rfl]
  have l8 := hT.len
  simp only [pComb, mCnt, mDNewT, mZipM, mDc, mLenSetL, mDGetT, mDGet2T, mDInT, mDPutT, mLockX, mLockEX, mKeysX, pLstX, pLenX, pMaxT, pSortT, str_to, str_ot, mPar3, mLockV, mLockE, mItemsC, mKeysC, mDGet2, pIsN, isNonP, pRepLM, mTruD, dkOfP, pPopAt, pIndex, mLstRgM, mTruth, pReprA, pLenD, pLstD, mDNew, pRepL, mLenSetN, mDIn, mSortSet, mSortSetL, mRevT, mForC, mSeqC, mLcC, pAbs, pMax2, pMin2, pInt1, mDGet, mDPut, mBM, mBM0, pPop, pAppend, pExtend, pSetL, mSub, mDisp, mPs, mPs0, mRevL, mRevLM, pLstOfM, mTupRg, mRg1, mRg2, pPlusM, lstItems, dictOfP, keyP, keysP, val_left, val_mixed, val_draws, put_draws, mLc, mLcM, mLc2, mFor, mSeqI, mRng1, mRng2, mZip, mEnum, mSl, mNoPart, mPart, mSeq, mAsg, mAsg2, mCB, mCons, mNil, mVar, mC, mOp, mUn, pU, mTup, mLst, mRet, mRetN, mLstM, getl, setl, mName, mCall, mCallK, mIf, mIfS, mTest, mAnd, mOr, mNot, mYes, mAndV, mOrV, mNotV, mNext, mNever, mBreak, mCont, mDrop, mChain, mPar, mGTup, mGCons, mGNil, pGcd, pI, pI0, pIx, pTimes, pPlus, pEq, pNe, pLen, pSum, pMaxS, pAll, pAny, pTupOf, pLstOf, pIn, pIsB, pIsi, items_tup, items_lst, items_kl, items_mr, items_tab, items_lot, items_fr, decide_true, decide_false, eqP_int, eqP_bl, eqP_str, eqP_tup2, kit_tt, kit_ii, kit_ib, tyP, mEnd, wipeP, List.map_cons, List.map_nil, List.getElem?_cons_zero, List.getElem?_cons_succ, List.set_cons_zero, List.set_cons_succ, atI_zero, atI_one, if_true, if_false, ite_true, ite_false, Bool.false_eq_true, List.length_cons, List.length_nil, Bool.not_true, Bool.not_false, tabP, lotP]
  rw [zipP_map]
  refine ⟨by decide, ?_, lc_filter (out := fun p : Rat × Nat => frP p.1) (p := fun p => decide (p.2 = x)) (fun p hp k n hk hn => ?_) ?_⟩
  · rw [List.length_map, List.length_zip]; unfold lim; omega
  · simp only [pComb, mCnt, mDNewT, mZipM, mDc, mLenSetL, mDGetT, mDGet2T, mDInT, mDPutT, mLockX, mLockEX, mKeysX, pLstX, pLenX, pMaxT, pSortT, str_to, str_ot, mPar3, mLockV, mLockE, mItemsC, mKeysC, mDGet2, pIsN, isNonP, pRepLM, mTruD, dkOfP, pPopAt, pIndex, mLstRgM, mTruth, pReprA, pLenD, pLstD, mDNew, pRepL, mLenSetN, mDIn, mSortSet, mSortSetL, mRevT, mForC, mSeqC, mLcC, pAbs, pMax2, pMin2, pInt1, mDGet, mDPut, mBM, mBM0, pPop, pAppend, pExtend, pSetL, mSub, mDisp, mPs, mPs0, mRevL, mRevLM, pLstOfM, mTupRg, mRg1, mRg2, pPlusM, lstItems, dictOfP, keyP, keysP, val_left, val_mixed, val_draws, put_draws, mLc, mLcM, mLc2, mFor, mSeqI, mRng1, mRng2, mZip, mEnum, mSl, mNoPart, mPart, mSeq, mAsg, mAsg2, mCB, mCons, mNil, mVar, mC, mOp, mUn, pU, mTup, mLst, mRet, mRetN, mLstM, getl, setl, mName, mCall, mCallK, mIf, mIfS, mTest, mAnd, mOr, mNot, mYes, mAndV, mOrV, mNotV, mNext, mNever, mBreak, mCont, mDrop, mChain, mPar, mGTup, mGCons, mGNil, pGcd, pI, pI0, pIx, pTimes, pPlus, pEq, pNe, pLen, pSum, pMaxS, pAll, pAny, pTupOf, pLstOf, pIn, pIsB, pIsi, items_tup, items_lst, items_kl, items_mr, items_tab, items_lot, items_fr, decide_true, decide_false, eqP_int, eqP_bl, eqP_str, eqP_tup2, kit_tt, kit_ii, kit_ib, tyP, mEnd, wipeP, List.map_cons, List.map_nil, List.getElem?_cons_zero, List.getElem?_cons_succ, List.set_cons_zero, List.set_cons_succ, atI_zero, atI_one, if_true, if_false, ite_true, ite_false, Bool.false_eq_true, List.length_cons, List.length_nil, Bool.not_true, Bool.not_false]
    refine ⟨trivial, ?_⟩
    by_cases e : p.2 = x
    · simpa [e] using hk (by simpa using e)
    · have e' : ¬ ((p.2 : Int) = (x : Int)) := by omega
      simpa [e, e'] using hn (by simpa using e)
  · simp only [pComb, mCnt, mDNewT, mZipM, mDc, mLenSetL, mDGetT, mDGet2T, mDInT, mDPutT, mLockX, mLockEX, mKeysX, pLstX, pLenX, pMaxT, pSortT, str_to, str_ot, mPar3, mLockV, mLockE, mItemsC, mKeysC, mDGet2, pIsN, isNonP, pRepLM, mTruD, dkOfP, pPopAt, pIndex, mLstRgM, mTruth, pReprA, pLenD, pLstD, mDNew, pRepL, mLenSetN, mDIn, mSortSet, mSortSetL, mRevT, mForC, mSeqC, mLcC, pAbs, pMax2, pMin2, pInt1, mDGet, mDPut, mBM, mBM0, pPop, pAppend, pExtend, pSetL, mSub, mDisp, mPs, mPs0, mRevL, mRevLM, pLstOfM, mTupRg, mRg1, mRg2, pPlusM, lstItems, dictOfP, keyP, keysP, val_left, val_mixed, val_draws, put_draws, mLc, mLcM, mLc2, mFor, mSeqI, mRng1, mRng2, mZip, mEnum, mSl, mNoPart, mPart, mSeq, mAsg, mAsg2, mCB, mCons, mNil, mVar, mC, mOp, mUn, pU, mTup, mLst, mRet, mRetN, mLstM, getl, setl, mName, mCall, mCallK, mIf, mIfS, mTest, mAnd, mOr, mNot, mYes, mAndV, mOrV, mNotV, mNext, mNever, mBreak, mCont, mDrop, mChain, mPar, mGTup, mGCons, mGNil, pGcd, pI, pI0, pIx, pTimes, pPlus, pEq, pNe, pLen, pSum, pMaxS, pAll, pAny, pTupOf, pLstOf, pIn, pIsB, pIsi, items_tup, items_lst, items_kl, items_mr, items_tab, items_lot, items_fr, decide_true, decide_false, eqP_int, eqP_bl, eqP_str, eqP_tup2, kit_tt, kit_ii, kit_ib, tyP, mEnd, wipeP, List.map_cons, List.map_nil, List.getElem?_cons_zero, List.getElem?_cons_succ, List.set_cons_zero, List.set_cons_succ, atI_zero, atI_one, if_true, if_false, ite_true, ite_false, Bool.false_eq_true, List.length_cons, List.length_nil, Bool.not_true, Bool.not_false, S_total]
    refine ⟨trivial, _, named qs ns x, rfl, ?_, (hT.sb.sub (named_sub qs ns x)).mono (by decide), fin_keep hQ⟩
    unfold named seqP
    rw [List.map_map]
    rfl
abbrev N__law_counts_chance : List Str := ["_law_table_here", "_law_counts", "_law_row", "_law_i", "_law_count", "_law_it"]
theorem sc__law_counts_chance : FnScope N__law_counts_chance ["_law_table_here", "_law_counts"] (defScope s__law_counts_chance) := ⟨rfl, rfl, rfl, by decide +kernel, rfl, by decide +kernel, by decide +kernel⟩
theorem ok__law_counts_chance (B : Blt mg) (h__law_counts_chance : Own K mg "_law_counts_chance" s__law_counts_chance) (k__law_row_chance : Ok P w K mg base 3 "_law_row_chance" s__law_row_chance ["_law_table_here", "_law_row"] S__law_row_chance) (k__law_fraction : Ok P w K mg base 2 "_law_fraction" s__law_fraction ["_law_top", "_law_bottom"] S__law_fraction) (k__law_ways : Ok P w K mg base 1 "_law_ways" s__law_ways ["_law_counts"] S__law_ways) : Ok P w K mg base 4 "_law_counts_chance" s__law_counts_chance ["_law_table_here", "_law_counts"] S__law_counts_chance := by
  obtain ⟨f_s, fd_s, F_s, g_s⟩ := h__law_counts_chance
  obtain ⟨f__law_row_chance, fd__law_row_chance, F__law_row_chance, g__law_row_chance, b__law_row_chance, G__law_row_chance⟩ := k__law_row_chance
  obtain ⟨f__law_fraction, fd__law_fraction, F__law_fraction, g__law_fraction, b__law_fraction, G__law_fraction⟩ := k__law_fraction
  obtain ⟨f__law_ways, fd__law_ways, F__law_ways, g__law_ways, b__law_ways, G__law_ways⟩ := k__law_ways
  refine ⟨f_s, fd_s, F_s, g_s, F_s.binds (fun _ _ _ _ _ _ us hl => match us, hl with | [_, _], _ => rfl), FnG.of F_s sc__law_counts_chance (fun xs μ Q h => by first | exact h.1 | exact h.2.1 | (obtain ⟨⟩ := h)) fun cdv A outer s H hr hgd => ⟨_, _, (pss_cons (ps_set (i := 2) sc__law_counts_chance.nd rfl (Or.inl rfl) (pe_lst pa_nil))
 (pss_cons (ps_for PassesOwn.never rfl (pi_enumS (by rfl) (B "enumerate" (by decide)) (pa_cons (pv 1) pa_nil)) (pg_tup (n := 2) rfl (pgs_cons (pg_name (i := 3) sc__law_counts_chance.nd rfl (Or.inl rfl)) (pgs_cons (pg_name (i := 4) sc__law_counts_chance.nd rfl (Or.inl rfl)) pgs_nil)))
 (pss_one (ps_set (i := 2) sc__law_counts_chance.nd rfl (Or.inl rfl) (pe_op op_plus (pv 2) (pe_op op_repL (pe_lst (pa_cons (pv 3) pa_nil)) (pv 4))))))
 (pss_cons (ps_set (i := 5) sc__law_counts_chance.nd rfl (Or.inl rfl) (pe_callG (G__law_row_chance.mono (by decide)) hr hgd (by rfl) g__law_row_chance F__law_row_chance.kp b__law_row_chance (pa_cons (pv 0) (pa_cons (pv 2) pa_nil))))
 (pss_one (ps_ret (pe_callG (G__law_fraction.mono (by decide)) hr hgd (by rfl) g__law_fraction F__law_fraction.kp b__law_fraction (pa_cons (pe_op op_times (pe_ix ix_seq (pv 5) pe_int (fun _ _ => rfl)) (pe_callG (G__law_ways.mono (by decide)) hr hgd (by rfl) g__law_ways F__law_ways.kp b__law_ways (pa_cons (pv 1) pa_nil))) (pa_cons (pe_ix ix_seq (pv 5) pe_int (fun _ _ => rfl)) pa_nil)))))))), (by (try dsimp only [cxOf]); exact inferInstance), ?_⟩⟩
  intro xs μ Q hS
  obtain ⟨_, qs, cs, z, rfl, hq, hl, h8, hs, hz, hQ⟩ := hS
  rw [show startP N__law_counts_chance [tabP qs, lotP cs] = [some (tabP qs), some (lotP cs), none, none, none, none] from rfl]
  refine stm_of fun R hR => ?_
  simp only [pComb, mCnt, mDNewT, mZipM, mDc, mLenSetL, mDGetT, mDGet2T, mDInT, mDPutT, mLockX, mLockEX, mKeysX, pLstX, pLenX, pMaxT, pSortT, str_to, str_ot, mPar3, mLockV, mLockE, mItemsC, mKeysC, mDGet2, pIsN, isNonP, pRepLM, mTruD, dkOfP, pPopAt, pIndex, mLstRgM, mTruth, pReprA, pLenD, pLstD, mDNew, pRepL, mLenSetN, mDIn, mSortSet, mSortSetL, mRevT, mForC, mSeqC, mLcC, pAbs, pMax2, pMin2, pInt1, mDGet, mDPut, mBM, mBM0, pPop, pAppend, pExtend, pSetL, mSub, mDisp, mPs, mPs0, mRevL, mRevLM, pLstOfM, mTupRg, mRg1, mRg2, pPlusM, lstItems, dictOfP, keyP, keysP, val_left, val_mixed, val_draws, put_draws, mLc, mLcM, mLc2, mFor, mSeqI, mRng1, mRng2, mZip, mEnum, mSl, mNoPart, mPart, mSeq, mAsg, mAsg2, mCB, mCons, mNil, mVar, mC, mOp, mUn, pU, mTup, mLst, mRet, mRetN, mLstM, getl, setl, mName, mCall, mCallK, mIf, mIfS, mTest, mAnd, mOr, mNot, mYes, mAndV, mOrV, mNotV, mNext, mNever, mBreak, mCont, mDrop, mChain, mPar, mGTup, mGCons, mGNil, pGcd, pI, pI0, pIx, pTimes, pPlus, pEq, pNe, pLen, pSum, pMaxS, pAll, pAny, pTupOf, pLstOf, pIn, pIsB, pIsi, items_tup, items_lst, items_kl, items_mr, items_tab, items_lot, items_fr, decide_true, decide_false, eqP_int, eqP_bl, eqP_str, eqP_tup2, kit_tt, kit_ii, kit_ib, tyP, mEnd, wipeP, List.map_cons, List.map_nil, List.getElem?_cons_zero, List.getElem?_cons_succ, List.set_cons_zero, List.set_cons_succ, atI_zero, atI_one, if_true, if_false, ite_true, ite_false, Bool.false_eq_true, List.length_cons, List.length_nil, Bool.not_true, Bool.not_false]
  refine ⟨by decide, ?_⟩
  subst hR
  refine stm_of fun R hR => ?_
  simp only [pComb, mCnt, mDNewT, mZipM, mDc, mLenSetL, mDGetT, mDGet2T, mDInT, mDPutT, mLockX, mLockEX, mKeysX, pLstX, pLenX, pMaxT, pSortT, str_to, str_ot, mPar3, mLockV, mLockE, mItemsC, mKeysC, mDGet2, pIsN, isNonP, pRepLM, mTruD, dkOfP, pPopAt, pIndex, mLstRgM, mTruth, pReprA, pLenD, pLstD, mDNew, pRepL, mLenSetN, mDIn, mSortSet, mSortSetL, mRevT, mForC, mSeqC, mLcC, pAbs, pMax2, pMin2, pInt1, mDGet, mDPut, mBM, mBM0, pPop, pAppend, pExtend, pSetL, mSub, mDisp, mPs, mPs0, mRevL, mRevLM, pLstOfM, mTupRg, mRg1, mRg2, pPlusM, lstItems, dictOfP, keyP, keysP, val_left, val_mixed, val_draws, put_draws, mLc, mLcM, mLc2, mFor, mSeqI, mRng1, mRng2, mZip, mEnum, mSl, mNoPart, mPart, mAsg, mAsg2, mCB, mCons, mNil, mVar, mC, mOp, mUn, pU, mTup, mLst, mRet, mRetN, mLstM, getl, setl, mName, mCall, mCallK, mIf, mIfS, mTest, mAnd, mOr, mNot, mYes, mAndV, mOrV, mNotV, mNext, mNever, mBreak, mCont, mDrop, mChain, mPar, mGTup, mGCons, mGNil, pGcd, pI, pI0, pIx, pTimes, pPlus, pEq, pNe, pLen, pSum, pMaxS, pAll, pAny, pTupOf, pLstOf, pIn, pIsB, pIsi, items_tup, items_lst, items_kl, items_mr, items_tab, items_lot, items_fr, decide_true, decide_false, eqP_int, eqP_bl, eqP_str, eqP_tup2, kit_tt, kit_ii, kit_ib, tyP, mEnd, wipeP, List.map_cons, List.map_nil, List.getElem?_cons_zero, List.getElem?_cons_succ, List.set_cons_zero, List.set_cons_succ, atI_zero, atI_one, if_true, if_false, ite_true, ite_false, Bool.false_eq_true, List.length_cons, List.length_nil, Bool.not_true, Bool.not_false, lotP]
  rw [enumP_map]
  have rwcs : ∀ (pre : List (Nat × Nat)) (x : Nat × Nat), ((pre ++ [x]).flatMap fun p => List.replicate p.2 p.1) = (pre.flatMap fun p => List.replicate p.2 p.1) ++ List.replicate x.2 x.1 := fun pre x => by rw [List.flatMap_append]; simp
  refine for_inv (enc := fun p : Nat × Nat => PV.tup [.int (p.1 : Nat), .int (p.2 : Nat)]) (fun pre ρ μ' => (∃ y3 y4 : Option PV, ρ = [some (tabP qs), some (.tup (cs.map fun (n : Nat) => PV.int n)), some (.lst ((pre.flatMap fun p => List.replicate p.2 p.1).map fun (n : Nat) => PV.int n)), y3, y4, none]) ∧ μ' = μ) (done := []) ⟨⟨none, none, rfl⟩, rfl⟩ (fun pre x post ρ μ' e hI N hN => ?_) fun ρ μ' hI => ?_
  · obtain ⟨⟨y3, y4, rfl⟩, rfl⟩ := hI
    have hx : x ∈ numd 0 cs := by rw [show numd 0 cs = pre ++ x :: post from e]; simp
    have hlen : (pre.flatMap fun p => List.replicate p.2 p.1).length + x.2 ≤ 320 := by
      have h1 := rwc_len cs 0
      unfold rwc at h1
      rw [show numd 0 cs = pre ++ x :: post from e, List.flatMap_append, List.flatMap_cons, List.length_append, List.length_append, List.length_replicate] at h1
      omega
    simp only [pComb, mCnt, mDNewT, mZipM, mDc, mLenSetL, mDGetT, mDGet2T, mDInT, mDPutT, mLockX, mLockEX, mKeysX, pLstX, pLenX, pMaxT, pSortT, str_to, str_ot, mPar3, mLockV, mLockE, mItemsC, mKeysC, mDGet2, pIsN, isNonP, pRepLM, mTruD, dkOfP, pPopAt, pIndex, mLstRgM, mTruth, pReprA, pLenD, pLstD, mDNew, pRepL, mLenSetN, mDIn, mSortSet, mSortSetL, mRevT, mForC, mSeqC, mLcC, pAbs, pMax2, pMin2, pInt1, mDGet, mDPut, mBM, mBM0, pPop, pAppend, pExtend, pSetL, mSub, mDisp, mPs, mPs0, mRevL, mRevLM, pLstOfM, mTupRg, mRg1, mRg2, pPlusM, lstItems, dictOfP, keyP, keysP, val_left, val_mixed, val_draws, put_draws, mLc, mLcM, mLc2, mFor, mSeqI, mRng1, mRng2, mZip, mEnum, mSl, mNoPart, mPart, mAsg, mAsg2, mCB, mCons, mNil, mVar, mC, mOp, mUn, pU, mTup, mLst, mRet, mRetN, mLstM, getl, setl, mName, mCall, mCallK, mIf, mIfS, mTest, mAnd, mOr, mNot, mYes, mAndV, mOrV, mNotV, mNext, mNever, mBreak, mCont, mDrop, mChain, mPar, mGTup, mGCons, mGNil, pGcd, pI, pI0, pIx, pTimes, pPlus, pEq, pNe, pLen, pSum, pMaxS, pAll, pAny, pTupOf, pLstOf, pIn, pIsB, pIsi, items_tup, items_lst, items_kl, items_mr, items_tab, items_lot, items_fr, decide_true, decide_false, eqP_int, eqP_bl, eqP_str, eqP_tup2, kit_tt, kit_ii, kit_ib, tyP, mEnd, wipeP, List.map_cons, List.map_nil, List.getElem?_cons_zero, List.getElem?_cons_succ, List.set_cons_zero, List.set_cons_succ, atI_zero, atI_one, if_true, if_false, ite_true, ite_false, Bool.false_eq_true, List.length_cons, List.length_nil, Bool.not_true, Bool.not_false]
    rw [Int.toNat_natCast, List.flatten_replicate_singleton, show List.replicate x.2 (PV.int (x.1 : Nat)) = (List.replicate x.2 x.1).map fun (n : Nat) => PV.int n by rw [List.map_replicate], ← List.map_append, ← rwcs]
    refine ⟨trivial, by decide, by omega, by rw [List.length_map, List.length_map, List.length_replicate]; unfold lim; omega, hN _ _ ⟨⟨_, _, rfl⟩, rfl⟩⟩
  · obtain ⟨⟨y3, y4, rfl⟩, rfl⟩ := hI
    rw [List.nil_append, show ((numd 0 cs).flatMap fun p => List.replicate p.2 p.1) = rwc 0 cs from rfl]
    show R _ _
    subst hR
    refine stm_of fun R hR => ?_
    simp only [pComb, mCnt, mDNewT, mZipM, mDc, mLenSetL, mDGetT, mDGet2T, mDInT, mDPutT, mLockX, mLockEX, mKeysX, pLstX, pLenX, pMaxT, pSortT, str_to, str_ot, mPar3, mLockV, mLockE, mItemsC, mKeysC, mDGet2, pIsN, isNonP, pRepLM, mTruD, dkOfP, pPopAt, pIndex, mLstRgM, mTruth, pReprA, pLenD, pLstD, mDNew, pRepL, mLenSetN, mDIn, mSortSet, mSortSetL, mRevT, mForC, mSeqC, mLcC, pAbs, pMax2, pMin2, pInt1, mDGet, mDPut, mBM, mBM0, pPop, pAppend, pExtend, pSetL, mSub, mDisp, mPs, mPs0, mRevL, mRevLM, pLstOfM, mTupRg, mRg1, mRg2, pPlusM, lstItems, dictOfP, keyP, keysP, val_left, val_mixed, val_draws, put_draws, mLc, mLcM, mLc2, mFor, mSeqI, mRng1, mRng2, mZip, mEnum, mSl, mNoPart, mPart, mSeq, mAsg, mAsg2, mCB, mCons, mNil, mVar, mC, mOp, mUn, pU, mTup, mLst, mRet, mRetN, mLstM, getl, setl, mName, mCall, mCallK, mIf, mIfS, mTest, mAnd, mOr, mNot, mYes, mAndV, mOrV, mNotV, mNext, mNever, mBreak, mCont, mDrop, mChain, mPar, mGTup, mGCons, mGNil, pGcd, pI, pI0, pIx, pTimes, pPlus, pEq, pNe, pLen, pSum, pMaxS, pAll, pAny, pTupOf, pLstOf, pIn, pIsB, pIsi, items_tup, items_lst, items_kl, items_mr, items_tab, items_lot, items_fr, decide_true, decide_false, eqP_int, eqP_bl, eqP_str, eqP_tup2, kit_tt, kit_ii, kit_ib, tyP, mEnd, wipeP, List.map_cons, List.map_nil, List.getElem?_cons_zero, List.getElem?_cons_succ, List.set_cons_zero, List.set_cons_succ, atI_zero, atI_one, if_true, if_false, ite_true, ite_false, Bool.false_eq_true, List.length_cons, List.length_nil, Bool.not_true, Bool.not_false, S__law_row_chance]
    have hlen := rwc_len cs 0
    have hlt := rwc_lt (cs := cs) (j := 0)
    refine ⟨trivial, qs, _, rwc 0 cs, z, rfl, rfl, hq, fun i hi => by have := hlt i hi; omega, by rw [hlen]; exact hz, by omega, ?_⟩
    subst hR
    have hv := rowq_rwc hl
    have hden := rowq_den (qs := qs) (z := z) (fun q hq' => (hq q hq').2.2) (r := rwc 0 cs) (p := 1) (n := 0) (fun i hi => by have := hlt i hi; omega) (by decide)
    rw [hlen, Nat.zero_add] at hden
    have hd0 := (rowq qs (rwc 0 cs)).den_pos
    have hp1 : 2 ^ (z * cs.sum) ≤ 2 ^ 2650 := Nat.pow_le_pow_right (by decide) hz
    have hp3 : (2 : Nat) ^ 2650 < 2 ^ 2660 := Nat.pow_lt_pow_right (by decide) (by decide)
    have hp4 : (2 : Nat) ^ 2660 < 2 ^ 8980 := Nat.pow_lt_pow_right (by decide) (by decide)
    have hden2 : (rowq qs (rwc 0 cs)).den ≤ 2 ^ (z * cs.sum) := hden
    simp only [pComb, mCnt, mDNewT, mZipM, mDc, mLenSetL, mDGetT, mDGet2T, mDInT, mDPutT, mLockX, mLockEX, mKeysX, pLstX, pLenX, pMaxT, pSortT, str_to, str_ot, mPar3, mLockV, mLockE, mItemsC, mKeysC, mDGet2, pIsN, isNonP, pRepLM, mTruD, dkOfP, pPopAt, pIndex, mLstRgM, mTruth, pReprA, pLenD, pLstD, mDNew, pRepL, mLenSetN, mDIn, mSortSet, mSortSetL, mRevT, mForC, mSeqC, mLcC, pAbs, pMax2, pMin2, pInt1, mDGet, mDPut, mBM, mBM0, pPop, pAppend, pExtend, pSetL, mSub, mDisp, mPs, mPs0, mRevL, mRevLM, pLstOfM, mTupRg, mRg1, mRg2, pPlusM, lstItems, dictOfP, keyP, keysP, val_left, val_mixed, val_draws, put_draws, mLc, mLcM, mLc2, mFor, mSeqI, mRng1, mRng2, mZip, mEnum, mSl, mNoPart, mPart, mSeq, mAsg, mAsg2, mCB, mCons, mNil, mVar, mC, mOp, mUn, pU, mTup, mLst, mRet, mRetN, mLstM, getl, setl, mName, mCall, mCallK, mIf, mIfS, mTest, mAnd, mOr, mNot, mYes, mAndV, mOrV, mNotV, mNext, mNever, mBreak, mCont, mDrop, mChain, mPar, mGTup, mGCons, mGNil, pGcd, pI, pI0, pIx, pTimes, pPlus, pEq, pNe, pLen, pSum, pMaxS, pAll, pAny, pTupOf, pLstOf, pIn, pIsB, pIsi, items_tup, items_lst, items_kl, items_mr, items_tab, items_lot, items_fr, decide_true, decide_false, eqP_int, eqP_bl, eqP_str, eqP_tup2, kit_tt, kit_ii, kit_ib, tyP, mEnd, wipeP, List.map_cons, List.map_nil, List.getElem?_cons_zero, List.getElem?_cons_succ, List.set_cons_zero, List.set_cons_succ, atI_zero, atI_one, if_true, if_false, ite_true, ite_false, Bool.false_eq_true, List.length_cons, List.length_nil, Bool.not_true, Bool.not_false, frP, S__law_ways, S__law_fraction]
    have hu := rowq_unit (qs := qs) (fun q hq' => ⟨(hq q hq').1, (hq q hq').2.1⟩) (r := rwc 0 cs) (p := 1) (fun i hi => by have := hlt i hi; omega) (by decide) Rat.le_refl
    obtain ⟨a, ha, had⟩ := num_le (q := rowq qs (rwc 0 cs)) hu.1 hu.2
    have hcw := cw_lt (cs := cs) (by omega)
    refine ⟨trivial, cs, rfl, by omega, by omega, ?_, trivial, _, _, rfl, stp_few (by rw [Int.natAbs_natCast]; omega), .inl (by rw [Int.natAbs_natCast]; omega), by omega, ?_⟩
    · rw [ha]
      exact mulOk (m := 2660) (n := 3601) (by rw [Int.natAbs_natCast]; omega) (by rw [Int.natAbs_natCast]; exact hcw) (by decide)
    · rw [ccq_int, hv, ← ccq_cw hl.symm]
      exact fin_keep hQ
abbrev N__law_some_table : List Str := ["_law_deck_here"]
theorem sc__law_some_table : FnScope N__law_some_table ["_law_deck_here"] (defScope s__law_some_table) := ⟨rfl, rfl, rfl, by decide +kernel, rfl, by decide +kernel, by decide +kernel⟩
theorem ok__law_some_table (B : Blt mg) (h__law_some_table : Own K mg "_law_some_table" s__law_some_table) (k__law_table : Ok P w K mg base 4 "_law_table" s__law_table ["_law_deck_here", "_law_n", "_law_way"] S__law_table) (k__law_pick : Ok P w K mg base 2 "_law_pick" s__law_pick ["_law_deck_here", "_law_some"] S__law_pick) : Ok P w K mg base 5 "_law_some_table" s__law_some_table ["_law_deck_here"] S__law_some_table := by
  obtain ⟨f_s, fd_s, F_s, g_s⟩ := h__law_some_table
  obtain ⟨f__law_table, fd__law_table, F__law_table, g__law_table, b__law_table, G__law_table⟩ := k__law_table
  obtain ⟨f__law_pick, fd__law_pick, F__law_pick, g__law_pick, b__law_pick, G__law_pick⟩ := k__law_pick
  refine ⟨f_s, fd_s, F_s, g_s, F_s.binds (fun _ _ _ _ _ _ us hl => match us, hl with | [_], _ => rfl), FnG.of F_s sc__law_some_table (fun xs μ Q h => by first | exact h.1 | exact h.2.1 | (obtain ⟨⟩ := h)) fun cdv A outer s H hr hgd => ⟨_, _, (pss_one (ps_ret (pe_callG (G__law_table.mono (by decide)) hr hgd (by rfl) g__law_table F__law_table.kp b__law_table (pa_cons (pv 0) (pa_cons (pe_callG (G__law_pick.mono (by decide)) hr hgd (by rfl) g__law_pick F__law_pick.kp b__law_pick (pa_cons (pv 0) (pa_cons (pe_lst (pa_cons pe_int (pa_cons pe_int (pa_cons pe_int (pa_cons pe_int (pa_cons pe_int (pa_cons pe_int (pa_cons pe_int (pa_cons pe_int pa_nil))))))))) pa_nil))) (pa_cons (pe_callG (G__law_pick.mono (by decide)) hr hgd (by rfl) g__law_pick F__law_pick.kp b__law_pick (pa_cons (pv 0) (pa_cons (pe_lst (pa_cons pe_int (pa_cons pe_int (pa_cons pe_int (pa_cons pe_int (pa_cons pe_int (pa_cons pe_int pa_nil))))))) pa_nil))) pa_nil)))))), (by (try dsimp only [cxOf]); exact inferInstance), ?_⟩⟩
  intro xs μ Q hS
  obtain ⟨_, m, rest, rfl, hD, hQ⟩ := hS
  rw [show startP N__law_some_table [.mr 1] = [some (.mr 1)] from rfl]
  simp only [pComb, mCnt, mDNewT, mZipM, mDc, mLenSetL, mDGetT, mDGet2T, mDInT, mDPutT, mLockX, mLockEX, mKeysX, pLstX, pLenX, pMaxT, pSortT, str_to, str_ot, mPar3, mLockV, mLockE, mItemsC, mKeysC, mDGet2, pIsN, isNonP, pRepLM, mTruD, dkOfP, pPopAt, pIndex, mLstRgM, mTruth, pReprA, pLenD, pLstD, mDNew, pRepL, mLenSetN, mDIn, mSortSet, mSortSetL, mRevT, mForC, mSeqC, mLcC, pAbs, pMax2, pMin2, pInt1, mDGet, mDPut, mBM, mBM0, pPop, pAppend, pExtend, pSetL, mSub, mDisp, mPs, mPs0, mRevL, mRevLM, pLstOfM, mTupRg, mRg1, mRg2, pPlusM, lstItems, dictOfP, keyP, keysP, val_left, val_mixed, val_draws, put_draws, mLc, mLcM, mLc2, mFor, mSeqI, mRng1, mRng2, mZip, mEnum, mSl, mNoPart, mPart, mSeq, mAsg, mAsg2, mCB, mCons, mNil, mVar, mC, mOp, mUn, pU, mTup, mLst, mRet, mRetN, mLstM, getl, setl, mName, mCall, mCallK, mIf, mIfS, mTest, mAnd, mOr, mNot, mYes, mAndV, mOrV, mNotV, mNext, mNever, mBreak, mCont, mDrop, mChain, mPar, mGTup, mGCons, mGNil, pGcd, pI, pI0, pIx, pTimes, pPlus, pEq, pNe, pLen, pSum, pMaxS, pAll, pAny, pTupOf, pLstOf, pIn, pIsB, pIsi, items_tup, items_lst, items_kl, items_mr, items_tab, items_lot, items_fr, decide_true, decide_false, eqP_int, eqP_bl, eqP_str, eqP_tup2, kit_tt, kit_ii, kit_ib, tyP, mEnd, wipeP, List.map_cons, List.map_nil, List.getElem?_cons_zero, List.getElem?_cons_succ, List.set_cons_zero, List.set_cons_succ, atI_zero, atI_one, if_true, if_false, ite_true, ite_false, Bool.false_eq_true, List.length_cons, List.length_nil, Bool.not_true, Bool.not_false, S__law_pick]
  refine ⟨by decide, trivial, _, _, m, rest, rfl, .inl rfl, hD, by simp, by simp, fun v hv μ1 hD1 => ?_⟩
  obtain ⟨n, rfl, hn1, hn8⟩ : ∃ n : Nat, v = .int (n : Nat) ∧ 1 ≤ n ∧ n ≤ 8 := by
    simp only [List.mem_cons, List.not_mem_nil, or_false] at hv
    rcases hv with rfl | rfl | rfl | rfl | rfl | rfl | rfl | rfl
    · exact ⟨2, rfl, by decide, by decide⟩
    · exact ⟨3, rfl, by decide, by decide⟩
    · exact ⟨4, rfl, by decide, by decide⟩
    · exact ⟨2, rfl, by decide, by decide⟩
    · exact ⟨5, rfl, by decide, by decide⟩
    · exact ⟨1, rfl, by decide, by decide⟩
    · exact ⟨8, rfl, by decide, by decide⟩
    · exact ⟨3, rfl, by decide, by decide⟩
  refine ⟨by decide, trivial, _, _, m, rest, rfl, .inl rfl, hD1, by simp, by simp, fun v hv μ2 hD2 => ?_⟩
  obtain ⟨w, rfl, hw1, hw8⟩ : ∃ w : Int, v = .int w ∧ 0 ≤ w ∧ w ≤ 4 := by
    simp only [List.mem_cons, List.not_mem_nil, or_false] at hv
    rcases hv with rfl | rfl | rfl | rfl | rfl | rfl <;> exact ⟨_, rfl, by decide, by decide⟩
  simp only [pComb, mCnt, mDNewT, mZipM, mDc, mLenSetL, mDGetT, mDGet2T, mDInT, mDPutT, mLockX, mLockEX, mKeysX, pLstX, pLenX, pMaxT, pSortT, str_to, str_ot, mPar3, mLockV, mLockE, mItemsC, mKeysC, mDGet2, pIsN, isNonP, pRepLM, mTruD, dkOfP, pPopAt, pIndex, mLstRgM, mTruth, pReprA, pLenD, pLstD, mDNew, pRepL, mLenSetN, mDIn, mSortSet, mSortSetL, mRevT, mForC, mSeqC, mLcC, pAbs, pMax2, pMin2, pInt1, mDGet, mDPut, mBM, mBM0, pPop, pAppend, pExtend, pSetL, mSub, mDisp, mPs, mPs0, mRevL, mRevLM, pLstOfM, mTupRg, mRg1, mRg2, pPlusM, lstItems, dictOfP, keyP, keysP, val_left, val_mixed, val_draws, put_draws, mLc, mLcM, mLc2, mFor, mSeqI, mRng1, mRng2, mZip, mEnum, mSl, mNoPart, mPart, mSeq, mAsg, mAsg2, mCB, mCons, mNil, mVar, mC, mOp, mUn, pU, mTup, mLst, mRet, mRetN, mLstM, getl, setl, mName, mCall, mCallK, mIf, mIfS, mTest, mAnd, mOr, mNot, mYes, mAndV, mOrV, mNotV, mNext, mNever, mBreak, mCont, mDrop, mChain, mPar, mGTup, mGCons, mGNil, pGcd, pI, pI0, pIx, pTimes, pPlus, pEq, pNe, pLen, pSum, pMaxS, pAll, pAny, pTupOf, pLstOf, pIn, pIsB, pIsi, items_tup, items_lst, items_kl, items_mr, items_tab, items_lot, items_fr, decide_true, decide_false, eqP_int, eqP_bl, eqP_str, eqP_tup2, kit_tt, kit_ii, kit_ib, tyP, mEnd, wipeP, List.map_cons, List.map_nil, List.getElem?_cons_zero, List.getElem?_cons_succ, List.set_cons_zero, List.set_cons_succ, atI_zero, atI_one, if_true, if_false, ite_true, ite_false, Bool.false_eq_true, List.length_cons, List.length_nil, Bool.not_true, Bool.not_false, S__law_table]
  exact ⟨trivial, n, w, m, rest, rfl, hn1, hn8, hw1, hw8, hD2, fun qs g μ3 hT hl hF hD3 => fin_keep (hQ qs g μ3 hT hF hD3)⟩
abbrev N_is_table : List Str := ["thing"]
theorem sc_is_table : FnScope N_is_table ["thing"] (defScope s_is_table) := ⟨rfl, rfl, rfl, by decide +kernel, rfl, by decide +kernel, by decide +kernel⟩
theorem ok_is_table (B : Blt mg) (h_is_table : Own K mg "is_table" s_is_table) (k_total : Ok P w K mg base 3 "total" s_total ["fractions"] S_total) (k_are_amounts : Ok P w K mg base 4 "are_amounts" s_are_amounts ["thing", "many"] S_are_amounts) {t_MOST_OUTCOMES : Tok} (c_MOST_OUTCOMES : mg "MOST_OUTCOMES" = some (.int 8 t_MOST_OUTCOMES)) : Ok P w K mg base 5 "is_table" s_is_table ["thing"] S_is_table := by
  obtain ⟨f_s, fd_s, F_s, g_s⟩ := h_is_table
  obtain ⟨f_total, fd_total, F_total, g_total, b_total, G_total⟩ := k_total
  obtain ⟨f_are_amounts, fd_are_amounts, F_are_amounts, g_are_amounts, b_are_amounts, G_are_amounts⟩ := k_are_amounts
  refine ⟨f_s, fd_s, F_s, g_s, F_s.binds (fun _ _ _ _ _ _ us hl => match us, hl with | [_], _ => rfl), FnG.of F_s sc_is_table (fun xs μ Q h => by first | exact h.1 | exact h.2.1 | (obtain ⟨⟩ := h)) fun cdv A outer s H hr hgd => ⟨_, _, (pss_cons (ps_if (PW.pt (pw_or (pt_not (pt_val (pe_callB call_isi (by rfl) (B "isinstance" (by decide)) (by decide +kernel) (pa_cons (pv 0) (pa_cons (pe_bltn (v := .ty "tuple") (u := .type "tuple") (by rfl) (B "tuple" (by decide)) (by decide +kernel) rfl) pa_nil))))) (pw_or1 (pt_not (pt_chain op_le op_le pe_int (pe_callB cb_len (by rfl) (B "len" (by decide)) (by decide +kernel) (pa_cons (pv 0) pa_nil)) (pe_glob (v := .int 8) rfl c_MOST_OUTCOMES ⟨_, rfl⟩))))))
 (pss_one (ps_ret pe_bl))
 pss_nil)
 (pss_one (ps_ret (pe_and (pe_callG (G_are_amounts.mono (by decide)) hr hgd (by rfl) g_are_amounts F_are_amounts.kp b_are_amounts (pa_cons (pv 0) (pa_cons (pe_callB cb_len (by rfl) (B "len" (by decide)) (by decide +kernel) (pa_cons (pv 0) pa_nil)) pa_nil))) (pe_one (pe_cmpR (op_eqX hr.units) (pe_callG (G_total.mono (by decide)) hr hgd (by rfl) g_total F_total.kp b_total (pa_cons (pv 0) pa_nil)) (pe_tupF (pa_cons pe_int (pa_cons pe_int pa_nil))) (nomark _))))))), (by (try dsimp only [cxOf]); exact inferInstance), ?_⟩⟩
  intro xs μ Q hS
  obtain ⟨_, qs, rfl, hT, hQ⟩ := hS
  rw [show startP N_is_table [tabP qs] = [some (tabP qs)] from rfl]
  have l8 := hT.len
  have l1 := List.length_pos_iff.mpr hT.ne
  have e0 : ∀ μ, itemsOf (tabP qs) μ = some (qs.map frP) := fun _ => rfl
  have e1 : decide ((1 : Int) ≤ ((qs.map frP).length : Nat)) = true := by simp; omega
  have e2 : decide (((qs.map frP).length : Nat) ≤ (8 : Int)) = true := by simp; omega
  simp only [pComb, mCnt, mDNewT, mZipM, mDc, mLenSetL, mDGetT, mDGet2T, mDInT, mDPutT, mLockX, mLockEX, mKeysX, pLstX, pLenX, pMaxT, pSortT, str_to, str_ot, mPar3, mLockV, mLockE, mItemsC, mKeysC, mDGet2, pIsN, isNonP, pRepLM, mTruD, dkOfP, pPopAt, pIndex, mLstRgM, mTruth, pReprA, pLenD, pLstD, mDNew, pRepL, mLenSetN, mDIn, mSortSet, mSortSetL, mRevT, mForC, mSeqC, mLcC, pAbs, pMax2, pMin2, pInt1, mDGet, mDPut, mBM, mBM0, pPop, pAppend, pExtend, pSetL, mSub, mDisp, mPs, mPs0, mRevL, mRevLM, pLstOfM, mTupRg, mRg1, mRg2, pPlusM, lstItems, dictOfP, keyP, keysP, val_left, val_mixed, val_draws, put_draws, mLc, mLcM, mLc2, mFor, mSeqI, mRng1, mRng2, mZip, mEnum, mSl, mNoPart, mPart, mSeq, mAsg, mAsg2, mCB, mCons, mNil, mVar, mC, mOp, mUn, pU, mTup, mLst, mRet, mRetN, mLstM, getl, setl, mName, mCall, mCallK, mIf, mIfS, mTest, mAnd, mOr, mNot, mYes, mAndV, mOrV, mNotV, mNext, mNever, mBreak, mCont, mDrop, mChain, mPar, mGTup, mGCons, mGNil, pGcd, pI, pI0, pIx, pTimes, pPlus, pEq, pNe, pLen, pSum, pMaxS, pAll, pAny, pTupOf, pLstOf, pIn, pIsB, pIsi, items_tup, items_lst, items_kl, items_mr, items_tab, items_lot, items_fr, decide_true, decide_false, eqP_int, eqP_bl, eqP_str, eqP_tup2, kit_tt, kit_ii, kit_ib, tyP, mEnd, wipeP, List.map_cons, List.map_nil, List.getElem?_cons_zero, List.getElem?_cons_succ, List.set_cons_zero, List.set_cons_succ, atI_zero, atI_one, if_true, if_false, ite_true, ite_false, Bool.false_eq_true, List.length_cons, List.length_nil, Bool.not_true, Bool.not_false, tabP]
  rw [e1, e2]
  simp only [pComb, mCnt, mDNewT, mZipM, mDc, mLenSetL, mDGetT, mDGet2T, mDInT, mDPutT, mLockX, mLockEX, mKeysX, pLstX, pLenX, pMaxT, pSortT, str_to, str_ot, mPar3, mLockV, mLockE, mItemsC, mKeysC, mDGet2, pIsN, isNonP, pRepLM, mTruD, dkOfP, pPopAt, pIndex, mLstRgM, mTruth, pReprA, pLenD, pLstD, mDNew, pRepL, mLenSetN, mDIn, mSortSet, mSortSetL, mRevT, mForC, mSeqC, mLcC, pAbs, pMax2, pMin2, pInt1, mDGet, mDPut, mBM, mBM0, pPop, pAppend, pExtend, pSetL, mSub, mDisp, mPs, mPs0, mRevL, mRevLM, pLstOfM, mTupRg, mRg1, mRg2, pPlusM, lstItems, dictOfP, keyP, keysP, val_left, val_mixed, val_draws, put_draws, mLc, mLcM, mLc2, mFor, mSeqI, mRng1, mRng2, mZip, mEnum, mSl, mNoPart, mPart, mSeq, mAsg, mAsg2, mCB, mCons, mNil, mVar, mC, mOp, mUn, pU, mTup, mLst, mRet, mRetN, mLstM, getl, setl, mName, mCall, mCallK, mIf, mIfS, mTest, mAnd, mOr, mNot, mYes, mAndV, mOrV, mNotV, mNext, mNever, mBreak, mCont, mDrop, mChain, mPar, mGTup, mGCons, mGNil, pGcd, pI, pI0, pIx, pTimes, pPlus, pEq, pNe, pLen, pSum, pMaxS, pAll, pAny, pTupOf, pLstOf, pIn, pIsB, pIsi, items_tup, items_lst, items_kl, items_mr, items_tab, items_lot, items_fr, decide_true, decide_false, eqP_int, eqP_bl, eqP_str, eqP_tup2, kit_tt, kit_ii, kit_ib, tyP, mEnd, wipeP, List.map_cons, List.map_nil, List.getElem?_cons_zero, List.getElem?_cons_succ, List.set_cons_zero, List.set_cons_succ, atI_zero, atI_one, if_true, if_false, ite_true, ite_false, Bool.false_eq_true, List.length_cons, List.length_nil, Bool.not_true, Bool.not_false, S_are_amounts]
  refine ⟨trivial, qs, qs.length, by rw [List.length_map]; rfl, rfl, by unfold lim; omega, hT.pos, ?_⟩
  simp only [pComb, mCnt, mDNewT, mZipM, mDc, mLenSetL, mDGetT, mDGet2T, mDInT, mDPutT, mLockX, mLockEX, mKeysX, pLstX, pLenX, pMaxT, pSortT, str_to, str_ot, mPar3, mLockV, mLockE, mItemsC, mKeysC, mDGet2, pIsN, isNonP, pRepLM, mTruD, dkOfP, pPopAt, pIndex, mLstRgM, mTruth, pReprA, pLenD, pLstD, mDNew, pRepL, mLenSetN, mDIn, mSortSet, mSortSetL, mRevT, mForC, mSeqC, mLcC, pAbs, pMax2, pMin2, pInt1, mDGet, mDPut, mBM, mBM0, pPop, pAppend, pExtend, pSetL, mSub, mDisp, mPs, mPs0, mRevL, mRevLM, pLstOfM, mTupRg, mRg1, mRg2, pPlusM, lstItems, dictOfP, keyP, keysP, val_left, val_mixed, val_draws, put_draws, mLc, mLcM, mLc2, mFor, mSeqI, mRng1, mRng2, mZip, mEnum, mSl, mNoPart, mPart, mSeq, mAsg, mAsg2, mCB, mCons, mNil, mVar, mC, mOp, mUn, pU, mTup, mLst, mRet, mRetN, mLstM, getl, setl, mName, mCall, mCallK, mIf, mIfS, mTest, mAnd, mOr, mNot, mYes, mAndV, mOrV, mNotV, mNext, mNever, mBreak, mCont, mDrop, mChain, mPar, mGTup, mGCons, mGNil, pGcd, pI, pI0, pIx, pTimes, pPlus, pEq, pNe, pLen, pSum, pMaxS, pAll, pAny, pTupOf, pLstOf, pIn, pIsB, pIsi, items_tup, items_lst, items_kl, items_mr, items_tab, items_lot, items_fr, decide_true, decide_false, eqP_int, eqP_bl, eqP_str, eqP_tup2, kit_tt, kit_ii, kit_ib, tyP, mEnd, wipeP, List.map_cons, List.map_nil, List.getElem?_cons_zero, List.getElem?_cons_succ, List.set_cons_zero, List.set_cons_succ, atI_zero, atI_one, if_true, if_false, ite_true, ite_false, Bool.false_eq_true, List.length_cons, List.length_nil, Bool.not_true, Bool.not_false, S_total]
  refine ⟨trivial, _, qs, rfl, rfl, hT.sb.mono (by decide), by decide, ?_⟩
  rw [hT.one, one_fr, eqP_fr]
  exact fin_keep hQ
abbrev N_check_table : List Str := ["table"]
theorem sc_check_table : FnScope N_check_table ["table"] (defScope s_check_table) := ⟨rfl, rfl, rfl, by decide +kernel, rfl, by decide +kernel, by decide +kernel⟩
theorem ok_check_table (B : Blt mg) (h_check_table : Own K mg "check_table" s_check_table) (k_is_table : Ok P w K mg base 5 "is_table" s_is_table ["thing"] S_is_table) : Ok P w K mg base 6 "check_table" s_check_table ["table"] S_check_table := by
  obtain ⟨f_s, fd_s, F_s, g_s⟩ := h_check_table
  obtain ⟨f_is_table, fd_is_table, F_is_table, g_is_table, b_is_table, G_is_table⟩ := k_is_table
  refine ⟨f_s, fd_s, F_s, g_s, F_s.binds (fun _ _ _ _ _ _ us hl => match us, hl with | [_], _ => rfl), FnG.of F_s sc_check_table (fun xs μ Q h => by first | exact h.1 | exact h.2.1 | (obtain ⟨⟩ := h)) fun cdv A outer s H hr hgd => ⟨_, _, (pss_one (ps_if (pt_not (pt_val (pe_callG (G_is_table.mono (by decide)) hr hgd (by rfl) g_is_table F_is_table.kp b_is_table (pa_cons (pv 0) pa_nil))))
 (pss_one ps_never)
 pss_nil)), (by (try dsimp only [cxOf]); exact inferInstance), ?_⟩⟩
  intro xs μ Q hS
  obtain ⟨_, qs, rfl, hT, hQ⟩ := hS
  rw [show startP N_check_table [tabP qs] = [some (tabP qs)] from rfl]
  simp only [pComb, mCnt, mDNewT, mZipM, mDc, mLenSetL, mDGetT, mDGet2T, mDInT, mDPutT, mLockX, mLockEX, mKeysX, pLstX, pLenX, pMaxT, pSortT, str_to, str_ot, mPar3, mLockV, mLockE, mItemsC, mKeysC, mDGet2, pIsN, isNonP, pRepLM, mTruD, dkOfP, pPopAt, pIndex, mLstRgM, mTruth, pReprA, pLenD, pLstD, mDNew, pRepL, mLenSetN, mDIn, mSortSet, mSortSetL, mRevT, mForC, mSeqC, mLcC, pAbs, pMax2, pMin2, pInt1, mDGet, mDPut, mBM, mBM0, pPop, pAppend, pExtend, pSetL, mSub, mDisp, mPs, mPs0, mRevL, mRevLM, pLstOfM, mTupRg, mRg1, mRg2, pPlusM, lstItems, dictOfP, keyP, keysP, val_left, val_mixed, val_draws, put_draws, mLc, mLcM, mLc2, mFor, mSeqI, mRng1, mRng2, mZip, mEnum, mSl, mNoPart, mPart, mSeq, mAsg, mAsg2, mCB, mCons, mNil, mVar, mC, mOp, mUn, pU, mTup, mLst, mRet, mRetN, mLstM, getl, setl, mName, mCall, mCallK, mIf, mIfS, mTest, mAnd, mOr, mNot, mYes, mAndV, mOrV, mNotV, mNext, mNever, mBreak, mCont, mDrop, mChain, mPar, mGTup, mGCons, mGNil, pGcd, pI, pI0, pIx, pTimes, pPlus, pEq, pNe, pLen, pSum, pMaxS, pAll, pAny, pTupOf, pLstOf, pIn, pIsB, pIsi, items_tup, items_lst, items_kl, items_mr, items_tab, items_lot, items_fr, decide_true, decide_false, eqP_int, eqP_bl, eqP_str, eqP_tup2, kit_tt, kit_ii, kit_ib, tyP, mEnd, wipeP, List.map_cons, List.map_nil, List.getElem?_cons_zero, List.getElem?_cons_succ, List.set_cons_zero, List.set_cons_succ, atI_zero, atI_one, if_true, if_false, ite_true, ite_false, Bool.false_eq_true, List.length_cons, List.length_nil, Bool.not_true, Bool.not_false, S_is_table]
  exact ⟨trivial, qs, rfl, hT, fin_keep hQ⟩
abbrev N_row_chance : List Str := ["table", "row", "found", "i"]
theorem sc_row_chance : FnScope N_row_chance ["table", "row"] (defScope s_row_chance) := ⟨rfl, rfl, rfl, by decide +kernel, rfl, by decide +kernel, by decide +kernel⟩
theorem ok_row_chance (B : Blt mg) (h_row_chance : Own K mg "row_chance" s_row_chance) (k_check_table : Ok P w K mg base 6 "check_table" s_check_table ["table"] S_check_table) (k_are_integers : Ok P w K mg base 3 "are_integers" s_are_integers ["thing", "low", "high"] S_are_integers) (k_times : Ok P w K mg base 2 "times" s_times ["one", "other"] S_times) : Ok P w K mg base 7 "row_chance" s_row_chance ["table", "row"] S_row_chance := by
  obtain ⟨f_s, fd_s, F_s, g_s⟩ := h_row_chance
  obtain ⟨f_check_table, fd_check_table, F_check_table, g_check_table, b_check_table, G_check_table⟩ := k_check_table
  obtain ⟨f_are_integers, fd_are_integers, F_are_integers, g_are_integers, b_are_integers, G_are_integers⟩ := k_are_integers
  obtain ⟨f_times, fd_times, F_times, g_times, b_times, G_times⟩ := k_times
  refine ⟨f_s, fd_s, F_s, g_s, F_s.binds (fun _ _ _ _ _ _ us hl => match us, hl with | [_, _], _ => rfl), FnG.of F_s sc_row_chance (fun xs μ Q h => by first | exact h.1 | exact h.2.1 | (obtain ⟨⟩ := h)) fun cdv A outer s H hr hgd => ⟨_, _, (pss_cons (ps_expr (pe_callG (G_check_table.mono (by decide)) hr hgd (by rfl) g_check_table F_check_table.kp b_check_table (pa_cons (pv 0) pa_nil)))
 (pss_cons (ps_if (pt_not (pt_val (pe_callG (G_are_integers.mono (by decide)) hr hgd (by rfl) g_are_integers F_are_integers.kp b_are_integers (pa_cons (pv 1) (pa_cons pe_int (pa_cons (pe_op op_sub (pe_callB cb_len (by rfl) (B "len" (by decide)) (by decide +kernel) (pa_cons (pv 0) pa_nil)) pe_int) pa_nil))))))
 (pss_one ps_never)
 pss_nil)
 (pss_cons (ps_set (i := 2) sc_row_chance.nd rfl (Or.inl rfl) (pe_tupF (pa_cons pe_int (pa_cons pe_int pa_nil))))
 (pss_cons (ps_for PassesOwn.never rfl (pi_seq (pv 1)) (pg_name (i := 3) sc_row_chance.nd rfl (Or.inl rfl))
 (pss_one (ps_set (i := 2) sc_row_chance.nd rfl (Or.inl rfl) (pe_callG (G_times.mono (by decide)) hr hgd (by rfl) g_times F_times.kp b_times (pa_cons (pv 2) (pa_cons (pe_ix ix_seq (pv 0) (pv 3) (fun _ _ => rfl)) pa_nil))))))
 (pss_one (ps_ret (pv 2))))))), (by (try dsimp only [cxOf]); exact inferInstance), ?_⟩⟩
  intro xs μ Q hS
  obtain ⟨_, qs, r, rfl, hT, hr, hl, hQ⟩ := hS
  rw [show startP N_row_chance [tabP qs, lotP r] = [some (tabP qs), some (lotP r), none, none] from rfl]
  refine stm_of fun R hR => ?_
  simp only [pComb, mCnt, mDNewT, mZipM, mDc, mLenSetL, mDGetT, mDGet2T, mDInT, mDPutT, mLockX, mLockEX, mKeysX, pLstX, pLenX, pMaxT, pSortT, str_to, str_ot, mPar3, mLockV, mLockE, mItemsC, mKeysC, mDGet2, pIsN, isNonP, pRepLM, mTruD, dkOfP, pPopAt, pIndex, mLstRgM, mTruth, pReprA, pLenD, pLstD, mDNew, pRepL, mLenSetN, mDIn, mSortSet, mSortSetL, mRevT, mForC, mSeqC, mLcC, pAbs, pMax2, pMin2, pInt1, mDGet, mDPut, mBM, mBM0, pPop, pAppend, pExtend, pSetL, mSub, mDisp, mPs, mPs0, mRevL, mRevLM, pLstOfM, mTupRg, mRg1, mRg2, pPlusM, lstItems, dictOfP, keyP, keysP, val_left, val_mixed, val_draws, put_draws, mLc, mLcM, mLc2, mFor, mSeqI, mRng1, mRng2, mZip, mEnum, mSl, mNoPart, mPart, mSeq, mAsg, mAsg2, mCB, mCons, mNil, mVar, mC, mOp, mUn, pU, mTup, mLst, mRet, mRetN, mLstM, getl, setl, mName, mCall, mCallK, mIf, mIfS, mTest, mAnd, mOr, mNot, mYes, mAndV, mOrV, mNotV, mNext, mNever, mBreak, mCont, mDrop, mChain, mPar, mGTup, mGCons, mGNil, pGcd, pI, pI0, pIx, pTimes, pPlus, pEq, pNe, pLen, pSum, pMaxS, pAll, pAny, pTupOf, pLstOf, pIn, pIsB, pIsi, items_tup, items_lst, items_kl, items_mr, items_tab, items_lot, items_fr, decide_true, decide_false, eqP_int, eqP_bl, eqP_str, eqP_tup2, kit_tt, kit_ii, kit_ib, tyP, mEnd, wipeP, List.map_cons, List.map_nil, List.getElem?_cons_zero, List.getElem?_cons_succ, List.set_cons_zero, List.set_cons_succ, atI_zero, atI_one, if_true, if_false, ite_true, ite_false, Bool.false_eq_true, List.length_cons, List.length_nil, Bool.not_true, Bool.not_false, S_check_table]
  refine ⟨trivial, qs, rfl, hT.mono (by decide), ?_⟩
  subst hR
  refine stm_of fun R hR => ?_
  simp only [pComb, mCnt, mDNewT, mZipM, mDc, mLenSetL, mDGetT, mDGet2T, mDInT, mDPutT, mLockX, mLockEX, mKeysX, pLstX, pLenX, pMaxT, pSortT, str_to, str_ot, mPar3, mLockV, mLockE, mItemsC, mKeysC, mDGet2, pIsN, isNonP, pRepLM, mTruD, dkOfP, pPopAt, pIndex, mLstRgM, mTruth, pReprA, pLenD, pLstD, mDNew, pRepL, mLenSetN, mDIn, mSortSet, mSortSetL, mRevT, mForC, mSeqC, mLcC, pAbs, pMax2, pMin2, pInt1, mDGet, mDPut, mBM, mBM0, pPop, pAppend, pExtend, pSetL, mSub, mDisp, mPs, mPs0, mRevL, mRevLM, pLstOfM, mTupRg, mRg1, mRg2, pPlusM, lstItems, dictOfP, keyP, keysP, val_left, val_mixed, val_draws, put_draws, mLc, mLcM, mLc2, mFor, mSeqI, mRng1, mRng2, mZip, mEnum, mSl, mNoPart, mPart, mSeq, mAsg, mAsg2, mCB, mCons, mNil, mVar, mC, mOp, mUn, pU, mTup, mLst, mRet, mRetN, mLstM, getl, setl, mName, mCall, mCallK, mIf, mIfS, mTest, mAnd, mOr, mNot, mYes, mAndV, mOrV, mNotV, mNext, mNever, mBreak, mCont, mDrop, mChain, mPar, mGTup, mGCons, mGNil, pGcd, pI, pI0, pIx, pTimes, pPlus, pEq, pNe, pLen, pSum, pMaxS, pAll, pAny, pTupOf, pLstOf, pIn, pIsB, pIsi, items_tup, items_lst, items_kl, items_mr, items_tab, items_lot, items_fr, decide_true, decide_false, eqP_int, eqP_bl, eqP_str, eqP_tup2, kit_tt, kit_ii, kit_ib, tyP, mEnd, wipeP, List.map_cons, List.map_nil, List.getElem?_cons_zero, List.getElem?_cons_succ, List.set_cons_zero, List.set_cons_succ, atI_zero, atI_one, if_true, if_false, ite_true, ite_false, Bool.false_eq_true, List.length_cons, List.length_nil, Bool.not_true, Bool.not_false, S_are_integers]
  refine ⟨trivial, r.map fun (n : Nat) => (n : Int), 0, _, by unfold lotP; rw [List.map_map]; rfl, by rw [List.length_map]; unfold lim; omega, ?_⟩
  rw [ints_all fun i hi => by have := hr i hi; rw [List.length_map]; omega, if_neg (by decide)]
  subst hR
  refine stm_of fun R hR => ?_
  simp only [pComb, mCnt, mDNewT, mZipM, mDc, mLenSetL, mDGetT, mDGet2T, mDInT, mDPutT, mLockX, mLockEX, mKeysX, pLstX, pLenX, pMaxT, pSortT, str_to, str_ot, mPar3, mLockV, mLockE, mItemsC, mKeysC, mDGet2, pIsN, isNonP, pRepLM, mTruD, dkOfP, pPopAt, pIndex, mLstRgM, mTruth, pReprA, pLenD, pLstD, mDNew, pRepL, mLenSetN, mDIn, mSortSet, mSortSetL, mRevT, mForC, mSeqC, mLcC, pAbs, pMax2, pMin2, pInt1, mDGet, mDPut, mBM, mBM0, pPop, pAppend, pExtend, pSetL, mSub, mDisp, mPs, mPs0, mRevL, mRevLM, pLstOfM, mTupRg, mRg1, mRg2, pPlusM, lstItems, dictOfP, keyP, keysP, val_left, val_mixed, val_draws, put_draws, mLc, mLcM, mLc2, mFor, mSeqI, mRng1, mRng2, mZip, mEnum, mSl, mNoPart, mPart, mSeq, mAsg, mAsg2, mCB, mCons, mNil, mVar, mC, mOp, mUn, pU, mTup, mLst, mRet, mRetN, mLstM, getl, setl, mName, mCall, mCallK, mIf, mIfS, mTest, mAnd, mOr, mNot, mYes, mAndV, mOrV, mNotV, mNext, mNever, mBreak, mCont, mDrop, mChain, mPar, mGTup, mGCons, mGNil, pGcd, pI, pI0, pIx, pTimes, pPlus, pEq, pNe, pLen, pSum, pMaxS, pAll, pAny, pTupOf, pLstOf, pIn, pIsB, pIsi, items_tup, items_lst, items_kl, items_mr, items_tab, items_lot, items_fr, decide_true, decide_false, eqP_int, eqP_bl, eqP_str, eqP_tup2, kit_tt, kit_ii, kit_ib, tyP, mEnd, wipeP, List.map_cons, List.map_nil, List.getElem?_cons_zero, List.getElem?_cons_succ, List.set_cons_zero, List.set_cons_succ, atI_zero, atI_one, if_true, if_false, ite_true, ite_false, Bool.false_eq_true, List.length_cons, List.length_nil, Bool.not_true, Bool.not_false]
  refine ⟨by decide, ?_⟩
  subst hR
  refine stm_of fun R hR => ?_
  simp only [pComb, mCnt, mDNewT, mZipM, mDc, mLenSetL, mDGetT, mDGet2T, mDInT, mDPutT, mLockX, mLockEX, mKeysX, pLstX, pLenX, pMaxT, pSortT, str_to, str_ot, mPar3, mLockV, mLockE, mItemsC, mKeysC, mDGet2, pIsN, isNonP, pRepLM, mTruD, dkOfP, pPopAt, pIndex, mLstRgM, mTruth, pReprA, pLenD, pLstD, mDNew, pRepL, mLenSetN, mDIn, mSortSet, mSortSetL, mRevT, mForC, mSeqC, mLcC, pAbs, pMax2, pMin2, pInt1, mDGet, mDPut, mBM, mBM0, pPop, pAppend, pExtend, pSetL, mSub, mDisp, mPs, mPs0, mRevL, mRevLM, pLstOfM, mTupRg, mRg1, mRg2, pPlusM, lstItems, dictOfP, keyP, keysP, val_left, val_mixed, val_draws, put_draws, mLc, mLcM, mLc2, mFor, mSeqI, mRng1, mRng2, mZip, mEnum, mSl, mNoPart, mPart, mAsg, mAsg2, mCB, mCons, mNil, mVar, mC, mOp, mUn, pU, mTup, mLst, mRet, mRetN, mLstM, getl, setl, mName, mCall, mCallK, mIf, mIfS, mTest, mAnd, mOr, mNot, mYes, mAndV, mOrV, mNotV, mNext, mNever, mBreak, mCont, mDrop, mChain, mPar, mGTup, mGCons, mGNil, pGcd, pI, pI0, pIx, pTimes, pPlus, pEq, pNe, pLen, pSum, pMaxS, pAll, pAny, pTupOf, pLstOf, pIn, pIsB, pIsi, items_tup, items_lst, items_kl, items_mr, items_tab, items_lot, items_fr, decide_true, decide_false, eqP_int, eqP_bl, eqP_str, eqP_tup2, kit_tt, kit_ii, kit_ib, tyP, mEnd, wipeP, List.map_cons, List.map_nil, List.getElem?_cons_zero, List.getElem?_cons_succ, List.set_cons_zero, List.set_cons_succ, atI_zero, atI_one, if_true, if_false, ite_true, ite_false, Bool.false_eq_true, List.length_cons, List.length_nil, Bool.not_true, Bool.not_false, lotP, tabP]
  have hq : ∀ q ∈ qs, Sm 45 q := fun q hq => hT.sm hq
  refine for_inv (enc := fun (n : Nat) => PV.int n) (fun pre ρ μ' => (∃ y : Option PV, ρ = [some (.tup (qs.map frP)), some (.tup (r.map fun (n : Nat) => PV.int n)), some (frP (rowq qs pre)), y]) ∧ μ' = μ) (done := []) ⟨⟨_, rfl⟩, rfl⟩ (fun pre i post ρ μ' e hI N hN => ?_) fun ρ μ' hI => ?_
  · obtain ⟨⟨y, rfl⟩, rfl⟩ := hI
    have e' : r = pre ++ i :: post := e
    have hi := hr i (by rw [e']; simp)
    have hpl : pre.length ≤ 59 := by rw [e', List.length_append, List.length_cons] at hl; omega
    simp only [pComb, mCnt, mDNewT, mZipM, mDc, mLenSetL, mDGetT, mDGet2T, mDInT, mDPutT, mLockX, mLockEX, mKeysX, pLstX, pLenX, pMaxT, pSortT, str_to, str_ot, mPar3, mLockV, mLockE, mItemsC, mKeysC, mDGet2, pIsN, isNonP, pRepLM, mTruD, dkOfP, pPopAt, pIndex, mLstRgM, mTruth, pReprA, pLenD, pLstD, mDNew, pRepL, mLenSetN, mDIn, mSortSet, mSortSetL, mRevT, mForC, mSeqC, mLcC, pAbs, pMax2, pMin2, pInt1, mDGet, mDPut, mBM, mBM0, pPop, pAppend, pExtend, pSetL, mSub, mDisp, mPs, mPs0, mRevL, mRevLM, pLstOfM, mTupRg, mRg1, mRg2, pPlusM, lstItems, dictOfP, keyP, keysP, val_left, val_mixed, val_draws, put_draws, mLc, mLcM, mLc2, mFor, mSeqI, mRng1, mRng2, mZip, mEnum, mSl, mNoPart, mPart, mAsg, mAsg2, mCB, mCons, mNil, mVar, mC, mOp, mUn, pU, mTup, mLst, mRet, mRetN, mLstM, getl, setl, mName, mCall, mCallK, mIf, mIfS, mTest, mAnd, mOr, mNot, mYes, mAndV, mOrV, mNotV, mNext, mNever, mBreak, mCont, mDrop, mChain, mPar, mGTup, mGCons, mGNil, pGcd, pI, pI0, pIx, pTimes, pPlus, pEq, pNe, pLen, pSum, pMaxS, pAll, pAny, pTupOf, pLstOf, pIn, pIsB, pIsi, items_tup, items_lst, items_kl, items_mr, items_tab, items_lot, items_fr, decide_true, decide_false, eqP_int, eqP_bl, eqP_str, eqP_tup2, kit_tt, kit_ii, kit_ib, tyP, mEnd, wipeP, List.map_cons, List.map_nil, List.getElem?_cons_zero, List.getElem?_cons_succ, List.set_cons_zero, List.set_cons_succ, atI_zero, atI_one, if_true, if_false, ite_true, ite_false, Bool.false_eq_true, List.length_cons, List.length_nil, Bool.not_true, Bool.not_false, S_times]
    rw [frP_atM hi]
    refine ⟨trivial, _, _, rfl, (rowq_sm1 hq fun j hj => hr j (by rw [e']; exact List.mem_append_left _ hj)).mono (by omega), (hq _ (getD_memM hi)).mono (by decide), ?_⟩
    rw [← rowq_snoc]
    exact hN _ _ ⟨⟨_, rfl⟩, rfl⟩
  · obtain ⟨⟨y, rfl⟩, rfl⟩ := hI
    rw [List.nil_append]
    show R _ _
    subst hR
    simp only [pComb, mCnt, mDNewT, mZipM, mDc, mLenSetL, mDGetT, mDGet2T, mDInT, mDPutT, mLockX, mLockEX, mKeysX, pLstX, pLenX, pMaxT, pSortT, str_to, str_ot, mPar3, mLockV, mLockE, mItemsC, mKeysC, mDGet2, pIsN, isNonP, pRepLM, mTruD, dkOfP, pPopAt, pIndex, mLstRgM, mTruth, pReprA, pLenD, pLstD, mDNew, pRepL, mLenSetN, mDIn, mSortSet, mSortSetL, mRevT, mForC, mSeqC, mLcC, pAbs, pMax2, pMin2, pInt1, mDGet, mDPut, mBM, mBM0, pPop, pAppend, pExtend, pSetL, mSub, mDisp, mPs, mPs0, mRevL, mRevLM, pLstOfM, mTupRg, mRg1, mRg2, pPlusM, lstItems, dictOfP, keyP, keysP, val_left, val_mixed, val_draws, put_draws, mLc, mLcM, mLc2, mFor, mSeqI, mRng1, mRng2, mZip, mEnum, mSl, mNoPart, mPart, mSeq, mAsg, mAsg2, mCB, mCons, mNil, mVar, mC, mOp, mUn, pU, mTup, mLst, mRet, mRetN, mLstM, getl, setl, mName, mCall, mCallK, mIf, mIfS, mTest, mAnd, mOr, mNot, mYes, mAndV, mOrV, mNotV, mNext, mNever, mBreak, mCont, mDrop, mChain, mPar, mGTup, mGCons, mGNil, pGcd, pI, pI0, pIx, pTimes, pPlus, pEq, pNe, pLen, pSum, pMaxS, pAll, pAny, pTupOf, pLstOf, pIn, pIsB, pIsi, items_tup, items_lst, items_kl, items_mr, items_tab, items_lot, items_fr, decide_true, decide_false, eqP_int, eqP_bl, eqP_str, eqP_tup2, kit_tt, kit_ii, kit_ib, tyP, mEnd, wipeP, List.map_cons, List.map_nil, List.getElem?_cons_zero, List.getElem?_cons_succ, List.set_cons_zero, List.set_cons_succ, atI_zero, atI_one, if_true, if_false, ite_true, ite_false, Bool.false_eq_true, List.length_cons, List.length_nil, Bool.not_true, Bool.not_false]
    exact fin_keep hQ
abbrev N_counts_chance : List Str := ["table", "counts", "drawn", "top", "bottom", "count", "chance"]
theorem sc_counts_chance : FnScope N_counts_chance ["table", "counts"] (defScope s_counts_chance) := ⟨rfl, rfl, rfl, by decide +kernel, rfl, by decide +kernel, by decide +kernel⟩
theorem ok_counts_chance (B : Blt mg) (h_counts_chance : Own K mg "counts_chance" s_counts_chance) (k_check_table : Ok P w K mg base 6 "check_table" s_check_table ["table"] S_check_table) (k_are_integers : Ok P w K mg base 3 "are_integers" s_are_integers ["thing", "low", "high"] S_are_integers) (k_power : Ok P w K mg base 1 "power" s_power ["base", "many"] S_power) (k_lowest : Ok P w K mg base 1 "lowest" s_lowest ["top", "bottom"] S_lowest) (i_comb : mg "comb" = some (.builtin "math.comb")) {t_MOST_COUNT : Tok} (c_MOST_COUNT : mg "MOST_COUNT" = some (.int 40 t_MOST_COUNT)) : Ok P w K mg base 7 "counts_chance" s_counts_chance ["table", "counts"] S_counts_chance := by
  obtain ⟨f_s, fd_s, F_s, g_s⟩ := h_counts_chance
  obtain ⟨f_check_table, fd_check_table, F_check_table, g_check_table, b_check_table, G_check_table⟩ := k_check_table
  obtain ⟨f_are_integers, fd_are_integers, F_are_integers, g_are_integers, b_are_integers, G_are_integers⟩ := k_are_integers
  obtain ⟨f_power, fd_power, F_power, g_power, b_power, G_power⟩ := k_power
  obtain ⟨f_lowest, fd_lowest, F_lowest, g_lowest, b_lowest, G_lowest⟩ := k_lowest
  refine ⟨f_s, fd_s, F_s, g_s, F_s.binds (fun _ _ _ _ _ _ us hl => match us, hl with | [_, _], _ => rfl), FnG.of F_s sc_counts_chance (fun xs μ Q h => by first | exact h.1 | exact h.2.1 | (obtain ⟨⟩ := h)) fun cdv A outer s H hr hgd => ⟨_, _, (pss_cons (ps_expr (pe_callG (G_check_table.mono (by decide)) hr hgd (by rfl) g_check_table F_check_table.kp b_check_table (pa_cons (pv 0) pa_nil)))
 (pss_cons (ps_if (PW.pt (pw_or (pt_not (pt_val (pe_callG (G_are_integers.mono (by decide)) hr hgd (by rfl) g_are_integers F_are_integers.kp b_are_integers (pa_cons (pv 1) (pa_cons pe_int (pa_cons (pe_glob (v := .int 40) rfl c_MOST_COUNT ⟨_, rfl⟩) pa_nil)))))) (pw_or1 (pt_cmpR (op_neX hr.units) (pe_callB cb_len (by rfl) (B "len" (by decide)) (by decide +kernel) (pa_cons (pv 1) pa_nil)) (pe_callB cb_len (by rfl) (B "len" (by decide)) (by decide +kernel) (pa_cons (pv 0) pa_nil)) (nomark _)))))
 (pss_one ps_never)
 pss_nil)
 (pss_cons (ps_set (i := 2) sc_counts_chance.nd rfl (Or.inl rfl) pe_int)
 (pss_cons (ps_asg2 pe_int (pg_name (i := 3) sc_counts_chance.nd rfl (Or.inl rfl)) (pg_name (i := 4) sc_counts_chance.nd rfl (Or.inl rfl)))
 (pss_cons (ps_for PassesOwn.never rfl (pi_zipB (by rfl) (B "zip" (by decide)) (pa_cons (pv 1) (pa_cons (pv 0) pa_nil))) (pg_tup (n := 2) rfl (pgs_cons (pg_name (i := 5) sc_counts_chance.nd rfl (Or.inl rfl)) (pgs_cons (pg_name (i := 6) sc_counts_chance.nd rfl (Or.inl rfl)) pgs_nil)))
 (pss_cons (ps_set (i := 2) sc_counts_chance.nd rfl (Or.inl rfl) (pe_op op_plus (pv 2) (pv 5)))
 (pss_cons (ps_set (i := 3) sc_counts_chance.nd rfl (Or.inl rfl) (pe_op op_times (pe_op op_times (pv 3) (pe_callBfun cb_comb (by rfl) i_comb (pa_cons (pv 2) (pa_cons (pv 5) pa_nil)))) (pe_callG (G_power.mono (by decide)) hr hgd (by rfl) g_power F_power.kp b_power (pa_cons (pe_ix ix_seq (pv 6) pe_int (fun _ _ => rfl)) (pa_cons (pv 5) pa_nil)))))
 (pss_one (ps_set (i := 4) sc_counts_chance.nd rfl (Or.inl rfl) (pe_op op_times (pv 4) (pe_callG (G_power.mono (by decide)) hr hgd (by rfl) g_power F_power.kp b_power (pa_cons (pe_ix ix_seq (pv 6) pe_int (fun _ _ => rfl)) (pa_cons (pv 5) pa_nil)))))))))
 (pss_one (ps_ret (pe_callG (G_lowest.mono (by decide)) hr hgd (by rfl) g_lowest F_lowest.kp b_lowest (pa_cons (pv 3) (pa_cons (pv 4) pa_nil)))))))))), (by (try dsimp only [cxOf]); exact inferInstance), ?_⟩⟩
  intro xs μ Q hS
  obtain ⟨_, qs, cs, z, rfl, hT, hz, hl, hc, hs, hQ⟩ := hS
  rw [show startP N_counts_chance [tabP qs, lotP cs] = [some (tabP qs), some (lotP cs), none, none, none, none, none] from rfl]
  refine stm_of fun R hR => ?_
  simp only [pComb, mCnt, mDNewT, mZipM, mDc, mLenSetL, mDGetT, mDGet2T, mDInT, mDPutT, mLockX, mLockEX, mKeysX, pLstX, pLenX, pMaxT, pSortT, str_to, str_ot, mPar3, mLockV, mLockE, mItemsC, mKeysC, mDGet2, pIsN, isNonP, pRepLM, mTruD, dkOfP, pPopAt, pIndex, mLstRgM, mTruth, pReprA, pLenD, pLstD, mDNew, pRepL, mLenSetN, mDIn, mSortSet, mSortSetL, mRevT, mForC, mSeqC, mLcC, pAbs, pMax2, pMin2, pInt1, mDGet, mDPut, mBM, mBM0, pPop, pAppend, pExtend, pSetL, mSub, mDisp, mPs, mPs0, mRevL, mRevLM, pLstOfM, mTupRg, mRg1, mRg2, pPlusM, lstItems, dictOfP, keyP, keysP, val_left, val_mixed, val_draws, put_draws, mLc, mLcM, mLc2, mFor, mSeqI, mRng1, mRng2, mZip, mEnum, mSl, mNoPart, mPart, mSeq, mAsg, mAsg2, mCB, mCons, mNil, mVar, mC, mOp, mUn, pU, mTup, mLst, mRet, mRetN, mLstM, getl, setl, mName, mCall, mCallK, mIf, mIfS, mTest, mAnd, mOr, mNot, mYes, mAndV, mOrV, mNotV, mNext, mNever, mBreak, mCont, mDrop, mChain, mPar, mGTup, mGCons, mGNil, pGcd, pI, pI0, pIx, pTimes, pPlus, pEq, pNe, pLen, pSum, pMaxS, pAll, pAny, pTupOf, pLstOf, pIn, pIsB, pIsi, items_tup, items_lst, items_kl, items_mr, items_tab, items_lot, items_fr, decide_true, decide_false, eqP_int, eqP_bl, eqP_str, eqP_tup2, kit_tt, kit_ii, kit_ib, tyP, mEnd, wipeP, List.map_cons, List.map_nil, List.getElem?_cons_zero, List.getElem?_cons_succ, List.set_cons_zero, List.set_cons_succ, atI_zero, atI_one, if_true, if_false, ite_true, ite_false, Bool.false_eq_true, List.length_cons, List.length_nil, Bool.not_true, Bool.not_false, S_check_table]
  refine ⟨trivial, qs, rfl, hT.mono (by decide), ?_⟩
  subst hR
  refine stm_of fun R hR => ?_
  simp only [pComb, mCnt, mDNewT, mZipM, mDc, mLenSetL, mDGetT, mDGet2T, mDInT, mDPutT, mLockX, mLockEX, mKeysX, pLstX, pLenX, pMaxT, pSortT, str_to, str_ot, mPar3, mLockV, mLockE, mItemsC, mKeysC, mDGet2, pIsN, isNonP, pRepLM, mTruD, dkOfP, pPopAt, pIndex, mLstRgM, mTruth, pReprA, pLenD, pLstD, mDNew, pRepL, mLenSetN, mDIn, mSortSet, mSortSetL, mRevT, mForC, mSeqC, mLcC, pAbs, pMax2, pMin2, pInt1, mDGet, mDPut, mBM, mBM0, pPop, pAppend, pExtend, pSetL, mSub, mDisp, mPs, mPs0, mRevL, mRevLM, pLstOfM, mTupRg, mRg1, mRg2, pPlusM, lstItems, dictOfP, keyP, keysP, val_left, val_mixed, val_draws, put_draws, mLc, mLcM, mLc2, mFor, mSeqI, mRng1, mRng2, mZip, mEnum, mSl, mNoPart, mPart, mSeq, mAsg, mAsg2, mCB, mCons, mNil, mVar, mC, mOp, mUn, pU, mTup, mLst, mRet, mRetN, mLstM, getl, setl, mName, mCall, mCallK, mIf, mIfS, mTest, mAnd, mOr, mNot, mYes, mAndV, mOrV, mNotV, mNext, mNever, mBreak, mCont, mDrop, mChain, mPar, mGTup, mGCons, mGNil, pGcd, pI, pI0, pIx, pTimes, pPlus, pEq, pNe, pLen, pSum, pMaxS, pAll, pAny, pTupOf, pLstOf, pIn, pIsB, pIsi, items_tup, items_lst, items_kl, items_mr, items_tab, items_lot, items_fr, decide_true, decide_false, eqP_int, eqP_bl, eqP_str, eqP_tup2, kit_tt, kit_ii, kit_ib, tyP, mEnd, wipeP, List.map_cons, List.map_nil, List.getElem?_cons_zero, List.getElem?_cons_succ, List.set_cons_zero, List.set_cons_succ, atI_zero, atI_one, if_true, if_false, ite_true, ite_false, Bool.false_eq_true, List.length_cons, List.length_nil, Bool.not_true, Bool.not_false, S_are_integers]
  refine ⟨trivial, cs.map fun (n : Nat) => (n : Int), 0, 40, by unfold lotP; rw [List.map_map]; rfl, by rw [List.length_map, hl]; have := hT.len; unfold lim; omega, ?_⟩
  rw [ints_all fun i hi => by have := hc i hi; omega, if_neg (by decide), if_neg (by rw [List.length_map, List.length_map, hl]; simp)]
  subst hR
  refine stm_of fun R hR => ?_
  simp only [pComb, mCnt, mDNewT, mZipM, mDc, mLenSetL, mDGetT, mDGet2T, mDInT, mDPutT, mLockX, mLockEX, mKeysX, pLstX, pLenX, pMaxT, pSortT, str_to, str_ot, mPar3, mLockV, mLockE, mItemsC, mKeysC, mDGet2, pIsN, isNonP, pRepLM, mTruD, dkOfP, pPopAt, pIndex, mLstRgM, mTruth, pReprA, pLenD, pLstD, mDNew, pRepL, mLenSetN, mDIn, mSortSet, mSortSetL, mRevT, mForC, mSeqC, mLcC, pAbs, pMax2, pMin2, pInt1, mDGet, mDPut, mBM, mBM0, pPop, pAppend, pExtend, pSetL, mSub, mDisp, mPs, mPs0, mRevL, mRevLM, pLstOfM, mTupRg, mRg1, mRg2, pPlusM, lstItems, dictOfP, keyP, keysP, val_left, val_mixed, val_draws, put_draws, mLc, mLcM, mLc2, mFor, mSeqI, mRng1, mRng2, mZip, mEnum, mSl, mNoPart, mPart, mSeq, mAsg, mAsg2, mCB, mCons, mNil, mVar, mC, mOp, mUn, pU, mTup, mLst, mRet, mRetN, mLstM, getl, setl, mName, mCall, mCallK, mIf, mIfS, mTest, mAnd, mOr, mNot, mYes, mAndV, mOrV, mNotV, mNext, mNever, mBreak, mCont, mDrop, mChain, mPar, mGTup, mGCons, mGNil, pGcd, pI, pI0, pIx, pTimes, pPlus, pEq, pNe, pLen, pSum, pMaxS, pAll, pAny, pTupOf, pLstOf, pIn, pIsB, pIsi, items_tup, items_lst, items_kl, items_mr, items_tab, items_lot, items_fr, decide_true, decide_false, eqP_int, eqP_bl, eqP_str, eqP_tup2, kit_tt, kit_ii, kit_ib, tyP, mEnd, wipeP, List.map_cons, List.map_nil, List.getElem?_cons_zero, List.getElem?_cons_succ, List.set_cons_zero, List.set_cons_succ, atI_zero, atI_one, if_true, if_false, ite_true, ite_false, Bool.false_eq_true, List.length_cons, List.length_nil, Bool.not_true, Bool.not_false]
  subst hR
  refine stm_of fun R hR => ?_
  simp only [pComb, mCnt, mDNewT, mZipM, mDc, mLenSetL, mDGetT, mDGet2T, mDInT, mDPutT, mLockX, mLockEX, mKeysX, pLstX, pLenX, pMaxT, pSortT, str_to, str_ot, mPar3, mLockV, mLockE, mItemsC, mKeysC, mDGet2, pIsN, isNonP, pRepLM, mTruD, dkOfP, pPopAt, pIndex, mLstRgM, mTruth, pReprA, pLenD, pLstD, mDNew, pRepL, mLenSetN, mDIn, mSortSet, mSortSetL, mRevT, mForC, mSeqC, mLcC, pAbs, pMax2, pMin2, pInt1, mDGet, mDPut, mBM, mBM0, pPop, pAppend, pExtend, pSetL, mSub, mDisp, mPs, mPs0, mRevL, mRevLM, pLstOfM, mTupRg, mRg1, mRg2, pPlusM, lstItems, dictOfP, keyP, keysP, val_left, val_mixed, val_draws, put_draws, mLc, mLcM, mLc2, mFor, mSeqI, mRng1, mRng2, mZip, mEnum, mSl, mNoPart, mPart, mSeq, mAsg, mAsg2, mCB, mCons, mNil, mVar, mC, mOp, mUn, pU, mTup, mLst, mRet, mRetN, mLstM, getl, setl, mName, mCall, mCallK, mIf, mIfS, mTest, mAnd, mOr, mNot, mYes, mAndV, mOrV, mNotV, mNext, mNever, mBreak, mCont, mDrop, mChain, mPar, mGTup, mGCons, mGNil, pGcd, pI, pI0, pIx, pTimes, pPlus, pEq, pNe, pLen, pSum, pMaxS, pAll, pAny, pTupOf, pLstOf, pIn, pIsB, pIsi, items_tup, items_lst, items_kl, items_mr, items_tab, items_lot, items_fr, decide_true, decide_false, eqP_int, eqP_bl, eqP_str, eqP_tup2, kit_tt, kit_ii, kit_ib, tyP, mEnd, wipeP, List.map_cons, List.map_nil, List.getElem?_cons_zero, List.getElem?_cons_succ, List.set_cons_zero, List.set_cons_succ, atI_zero, atI_one, if_true, if_false, ite_true, ite_false, Bool.false_eq_true, List.length_cons, List.length_nil, Bool.not_true, Bool.not_false]
  subst hR
  refine stm_of fun R hR => ?_
  simp only [pComb, mCnt, mDNewT, mZipM, mDc, mLenSetL, mDGetT, mDGet2T, mDInT, mDPutT, mLockX, mLockEX, mKeysX, pLstX, pLenX, pMaxT, pSortT, str_to, str_ot, mPar3, mLockV, mLockE, mItemsC, mKeysC, mDGet2, pIsN, isNonP, pRepLM, mTruD, dkOfP, pPopAt, pIndex, mLstRgM, mTruth, pReprA, pLenD, pLstD, mDNew, pRepL, mLenSetN, mDIn, mSortSet, mSortSetL, mRevT, mForC, mSeqC, mLcC, pAbs, pMax2, pMin2, pInt1, mDGet, mDPut, mBM, mBM0, pPop, pAppend, pExtend, pSetL, mSub, mDisp, mPs, mPs0, mRevL, mRevLM, pLstOfM, mTupRg, mRg1, mRg2, pPlusM, lstItems, dictOfP, keyP, keysP, val_left, val_mixed, val_draws, put_draws, mLc, mLcM, mLc2, mFor, mSeqI, mRng1, mRng2, mZip, mEnum, mSl, mNoPart, mPart, mAsg, mAsg2, mCB, mCons, mNil, mVar, mC, mOp, mUn, pU, mTup, mLst, mRet, mRetN, mLstM, getl, setl, mName, mCall, mCallK, mIf, mIfS, mTest, mAnd, mOr, mNot, mYes, mAndV, mOrV, mNotV, mNext, mNever, mBreak, mCont, mDrop, mChain, mPar, mGTup, mGCons, mGNil, pGcd, pI, pI0, pIx, pTimes, pPlus, pEq, pNe, pLen, pSum, pMaxS, pAll, pAny, pTupOf, pLstOf, pIn, pIsB, pIsi, items_tup, items_lst, items_kl, items_mr, items_tab, items_lot, items_fr, decide_true, decide_false, eqP_int, eqP_bl, eqP_str, eqP_tup2, kit_tt, kit_ii, kit_ib, tyP, mEnd, wipeP, List.map_cons, List.map_nil, List.getElem?_cons_zero, List.getElem?_cons_succ, List.set_cons_zero, List.set_cons_succ, atI_zero, atI_one, if_true, if_false, ite_true, ite_false, Bool.false_eq_true, List.length_cons, List.length_nil, Bool.not_true, Bool.not_false, lotP, tabP]
  rw [zipP_map]
  have hS8 : cs.length ≤ 8 := by rw [hl]; exact hT.len
  have hS : cs.sum ≤ 320 := Nat.le_trans (lsum_le hc) (by omega)
  refine for_inv (fun pre ρ μ' => (∃ (t b : Nat) (y5 y6 : Option PV), ρ = [some (.tup (qs.map frP)), some (.tup (cs.map fun (n : Nat) => PV.int n)), some (.int ((pre.map (·.1)).sum : Nat)), some (.int (t : Nat)), some (.int (b : Nat)), y5, y6] ∧ 0 < b ∧ b ≤ 2 ^ (z * (pre.map (·.1)).sum) ∧ t ≤ 2 ^ (320 * pre.length + z * (pre.map (·.1)).sum) ∧ Rat.divInt (t : Int) (b : Int) = ccq (pre.map (·.2)) (pre.map (·.1))) ∧ μ' = μ) (done := []) ⟨⟨1, 1, none, none, rfl, by decide, by simp, by simp, by show _ = ((1 : Nat) : Rat) * 1; decide +kernel⟩, rfl⟩ (fun pre x post ρ μ' e hI N hN => ?_) fun ρ μ' hI => ?_
  · obtain ⟨⟨t, b, y5, y6, rfl, hb0, hbz, htz, hv⟩, rfl⟩ := hI
    obtain ⟨c, q⟩ := x
    rw [List.nil_append] at e
    have hx : (c, q) ∈ cs.zip qs := by rw [e]; simp
    have hx2 := List.of_mem_zip hx
    have hpl : pre.length ≤ 7 := by
      have := congrArg List.length e
      rw [List.length_zip, List.length_append, List.length_cons] at this
      omega
    have hsum : (pre.map (·.1)).sum + c ≤ cs.sum := by
      have h1 : (cs.zip qs).map (·.1) = cs := by rw [List.map_fst_zip]; omega
      have h2 : cs.sum = ((cs.zip qs).map (·.1)).sum := by rw [h1]
      rw [h2, e, List.map_append, List.sum_append, List.map_cons, List.sum_cons]
      omega
    obtain ⟨a, ha, had⟩ := num_le (hT.pos q hx2.2) (hT.le1 hx2.2)
    have hd0 := q.den_pos
    have hqz := hz q hx2.2
    have hzc : z * (pre.map (·.1)).sum + z * c ≤ 2650 := by
      rw [← Nat.mul_add]
      exact Nat.le_trans (Nat.mul_le_mul_left _ hsum) hs
    generalize hDD : (pre.map (·.1)).sum = D at *
    have pa : a ^ c ≤ 2 ^ (z * c) := by rw [Nat.pow_mul]; exact Nat.pow_le_pow_left (by omega) c
    have pd : q.den ^ c ≤ 2 ^ (z * c) := by rw [Nat.pow_mul]; exact Nat.pow_le_pow_left hqz c
    have pc : chz (D + c) c ≤ 2 ^ 320 := Nat.le_trans (chz_le _ _) (Nat.pow_le_pow_right (by decide) (by omega))
    have m1 : 2 ^ (z * c) ≤ 2 ^ 2650 := Nat.pow_le_pow_right (by decide) (by omega)
    have m2 : 2 ^ (z * D) ≤ 2 ^ 2650 := Nat.pow_le_pow_right (by decide) (by omega)
    have m3 : 2 ^ (320 * pre.length + z * D) ≤ 2 ^ 4890 := Nat.pow_le_pow_right (by decide) (by omega)
    have m4 : (2 : Nat) ^ 2650 < 2 ^ 2651 := Nat.pow_lt_pow_right (by decide) (by decide)
    have m5 : (2 : Nat) ^ 4890 < 2 ^ 4891 := Nat.pow_lt_pow_right (by decide) (by decide)
    have m6 : (2 : Nat) ^ 320 < 2 ^ 321 := Nat.pow_lt_pow_right (by decide) (by decide)
    have m7 : t * chz (D + c) c < 2 ^ 4891 * 2 ^ 321 := Nat.mul_lt_mul'' (by omega) (by omega)
    rw [← Nat.pow_add] at m7
    have pz : ∀ {v : Nat}, v ≤ 2 ^ z → v < 2 ^ (z + 1) := fun {v} h => by rw [Nat.pow_succ]; have := Nat.two_pow_pos z; omega
    have hc40 := hc c hx2.1
    have hz1 : (z + 1) * c ≤ 300000 := by rw [Nat.add_mul, Nat.one_mul]; omega
    simp only [pComb, mCnt, mDNewT, mZipM, mDc, mLenSetL, mDGetT, mDGet2T, mDInT, mDPutT, mLockX, mLockEX, mKeysX, pLstX, pLenX, pMaxT, pSortT, str_to, str_ot, mPar3, mLockV, mLockE, mItemsC, mKeysC, mDGet2, pIsN, isNonP, pRepLM, mTruD, dkOfP, pPopAt, pIndex, mLstRgM, mTruth, pReprA, pLenD, pLstD, mDNew, pRepL, mLenSetN, mDIn, mSortSet, mSortSetL, mRevT, mForC, mSeqC, mLcC, pAbs, pMax2, pMin2, pInt1, mDGet, mDPut, mBM, mBM0, pPop, pAppend, pExtend, pSetL, mSub, mDisp, mPs, mPs0, mRevL, mRevLM, pLstOfM, mTupRg, mRg1, mRg2, pPlusM, lstItems, dictOfP, keyP, keysP, val_left, val_mixed, val_draws, put_draws, mLc, mLcM, mLc2, mFor, mSeqI, mRng1, mRng2, mZip, mEnum, mSl, mNoPart, mPart, mAsg, mAsg2, mCB, mCons, mNil, mVar, mC, mOp, mUn, pU, mTup, mLst, mRet, mRetN, mLstM, getl, setl, mName, mCall, mCallK, mIf, mIfS, mTest, mAnd, mOr, mNot, mYes, mAndV, mOrV, mNotV, mNext, mNever, mBreak, mCont, mDrop, mChain, mPar, mGTup, mGCons, mGNil, pGcd, pI, pI0, pIx, pTimes, pPlus, pEq, pNe, pLen, pSum, pMaxS, pAll, pAny, pTupOf, pLstOf, pIn, pIsB, pIsi, items_tup, items_lst, items_kl, items_mr, items_tab, items_lot, items_fr, decide_true, decide_false, eqP_int, eqP_bl, eqP_str, eqP_tup2, kit_tt, kit_ii, kit_ib, tyP, mEnd, wipeP, List.map_cons, List.map_nil, List.getElem?_cons_zero, List.getElem?_cons_succ, List.set_cons_zero, List.set_cons_succ, atI_zero, atI_one, if_true, if_false, ite_true, ite_false, Bool.false_eq_true, List.length_cons, List.length_nil, Bool.not_true, Bool.not_false, frP, S_power]
    refine ⟨trivial, ?_⟩
    refine stm_of fun R2 hR2 => ?_
    simp only [pComb, mCnt, mDNewT, mZipM, mDc, mLenSetL, mDGetT, mDGet2T, mDInT, mDPutT, mLockX, mLockEX, mKeysX, pLstX, pLenX, pMaxT, pSortT, str_to, str_ot, mPar3, mLockV, mLockE, mItemsC, mKeysC, mDGet2, pIsN, isNonP, pRepLM, mTruD, dkOfP, pPopAt, pIndex, mLstRgM, mTruth, pReprA, pLenD, pLstD, mDNew, pRepL, mLenSetN, mDIn, mSortSet, mSortSetL, mRevT, mForC, mSeqC, mLcC, pAbs, pMax2, pMin2, pInt1, mDGet, mDPut, mBM, mBM0, pPop, pAppend, pExtend, pSetL, mSub, mDisp, mPs, mPs0, mRevL, mRevLM, pLstOfM, mTupRg, mRg1, mRg2, pPlusM, lstItems, dictOfP, keyP, keysP, val_left, val_mixed, val_draws, put_draws, mLc, mLcM, mLc2, mFor, mSeqI, mRng1, mRng2, mZip, mEnum, mSl, mNoPart, mPart, mAsg, mAsg2, mCB, mCons, mNil, mVar, mC, mOp, mUn, pU, mTup, mLst, mRet, mRetN, mLstM, getl, setl, mName, mCall, mCallK, mIf, mIfS, mTest, mAnd, mOr, mNot, mYes, mAndV, mOrV, mNotV, mNext, mNever, mBreak, mCont, mDrop, mChain, mPar, mGTup, mGCons, mGNil, pGcd, pI, pI0, pIx, pTimes, pPlus, pEq, pNe, pLen, pSum, pMaxS, pAll, pAny, pTupOf, pLstOf, pIn, pIsB, pIsi, items_tup, items_lst, items_kl, items_mr, items_tab, items_lot, items_fr, decide_true, decide_false, eqP_int, eqP_bl, eqP_str, eqP_tup2, kit_tt, kit_ii, kit_ib, tyP, mEnd, wipeP, List.map_cons, List.map_nil, List.getElem?_cons_zero, List.getElem?_cons_succ, List.set_cons_zero, List.set_cons_succ, atI_zero, atI_one, if_true, if_false, ite_true, ite_false, Bool.false_eq_true, List.length_cons, List.length_nil, Bool.not_true, Bool.not_false]
    subst hR2
    refine stm_of fun R2 hR2 => ?_
    simp only [pComb, mCnt, mDNewT, mZipM, mDc, mLenSetL, mDGetT, mDGet2T, mDInT, mDPutT, mLockX, mLockEX, mKeysX, pLstX, pLenX, pMaxT, pSortT, str_to, str_ot, mPar3, mLockV, mLockE, mItemsC, mKeysC, mDGet2, pIsN, isNonP, pRepLM, mTruD, dkOfP, pPopAt, pIndex, mLstRgM, mTruth, pReprA, pLenD, pLstD, mDNew, pRepL, mLenSetN, mDIn, mSortSet, mSortSetL, mRevT, mForC, mSeqC, mLcC, pAbs, pMax2, pMin2, pInt1, mDGet, mDPut, mBM, mBM0, pPop, pAppend, pExtend, pSetL, mSub, mDisp, mPs, mPs0, mRevL, mRevLM, pLstOfM, mTupRg, mRg1, mRg2, pPlusM, lstItems, dictOfP, keyP, keysP, val_left, val_mixed, val_draws, put_draws, mLc, mLcM, mLc2, mFor, mSeqI, mRng1, mRng2, mZip, mEnum, mSl, mNoPart, mPart, mAsg, mAsg2, mCB, mCons, mNil, mVar, mC, mOp, mUn, pU, mTup, mLst, mRet, mRetN, mLstM, getl, setl, mName, mCall, mCallK, mIf, mIfS, mTest, mAnd, mOr, mNot, mYes, mAndV, mOrV, mNotV, mNext, mNever, mBreak, mCont, mDrop, mChain, mPar, mGTup, mGCons, mGNil, pGcd, pI, pI0, pIx, pTimes, pPlus, pEq, pNe, pLen, pSum, pMaxS, pAll, pAny, pTupOf, pLstOf, pIn, pIsB, pIsi, items_tup, items_lst, items_kl, items_mr, items_tab, items_lot, items_fr, decide_true, decide_false, eqP_int, eqP_bl, eqP_str, eqP_tup2, kit_tt, kit_ii, kit_ib, tyP, mEnd, wipeP, List.map_cons, List.map_nil, List.getElem?_cons_zero, List.getElem?_cons_succ, List.set_cons_zero, List.set_cons_succ, atI_zero, atI_one, if_true, if_false, ite_true, ite_false, Bool.false_eq_true, List.length_cons, List.length_nil, Bool.not_true, Bool.not_false, S_power]
    rw [ha, show ((D : Nat) : Int) + ((c : Nat) : Int) = ((D + c : Nat) : Int) by omega, comb_chz (by omega : c ≤ D + c)]
    refine ⟨⟨by omega, by omega, by omega, by omega⟩, mulOk (m := 4891) (n := 321) (by rw [Int.natAbs_natCast]; omega) (by rw [Int.natAbs_natCast]; omega) (by decide), trivial, a, c, z + 1, rfl, pz (Nat.le_trans had hqz), by rw [Nat.mul_comm]; rw [Nat.mul_comm] at hz1; exact hz1, by omega, mulOk (m := 4891 + 321) (n := 2651) (by rw [← Int.natCast_mul, Int.natAbs_natCast]; exact m7) (by rw [Int.natAbs_natCast]; omega) (by decide), ?_⟩
    subst hR2
    simp only [pComb, mCnt, mDNewT, mZipM, mDc, mLenSetL, mDGetT, mDGet2T, mDInT, mDPutT, mLockX, mLockEX, mKeysX, pLstX, pLenX, pMaxT, pSortT, str_to, str_ot, mPar3, mLockV, mLockE, mItemsC, mKeysC, mDGet2, pIsN, isNonP, pRepLM, mTruD, dkOfP, pPopAt, pIndex, mLstRgM, mTruth, pReprA, pLenD, pLstD, mDNew, pRepL, mLenSetN, mDIn, mSortSet, mSortSetL, mRevT, mForC, mSeqC, mLcC, pAbs, pMax2, pMin2, pInt1, mDGet, mDPut, mBM, mBM0, pPop, pAppend, pExtend, pSetL, mSub, mDisp, mPs, mPs0, mRevL, mRevLM, pLstOfM, mTupRg, mRg1, mRg2, pPlusM, lstItems, dictOfP, keyP, keysP, val_left, val_mixed, val_draws, put_draws, mLc, mLcM, mLc2, mFor, mSeqI, mRng1, mRng2, mZip, mEnum, mSl, mNoPart, mPart, mAsg, mAsg2, mCB, mCons, mNil, mVar, mC, mOp, mUn, pU, mTup, mLst, mRet, mRetN, mLstM, getl, setl, mName, mCall, mCallK, mIf, mIfS, mTest, mAnd, mOr, mNot, mYes, mAndV, mOrV, mNotV, mNext, mNever, mBreak, mCont, mDrop, mChain, mPar, mGTup, mGCons, mGNil, pGcd, pI, pI0, pIx, pTimes, pPlus, pEq, pNe, pLen, pSum, pMaxS, pAll, pAny, pTupOf, pLstOf, pIn, pIsB, pIsi, items_tup, items_lst, items_kl, items_mr, items_tab, items_lot, items_fr, decide_true, decide_false, eqP_int, eqP_bl, eqP_str, eqP_tup2, kit_tt, kit_ii, kit_ib, tyP, mEnd, wipeP, List.map_cons, List.map_nil, List.getElem?_cons_zero, List.getElem?_cons_succ, List.set_cons_zero, List.set_cons_succ, atI_zero, atI_one, if_true, if_false, ite_true, ite_false, Bool.false_eq_true, List.length_cons, List.length_nil, Bool.not_true, Bool.not_false, S_power]
    rw [← Int.natCast_mul, ← Int.natCast_mul]
    refine ⟨trivial, q.den, c, z + 1, rfl, pz hqz, by rw [Nat.mul_comm]; rw [Nat.mul_comm] at hz1; exact hz1, by omega, mulOk (m := 2651) (n := 2651) (by rw [Int.natAbs_natCast]; omega) (by rw [Int.natAbs_natCast]; omega) (by decide), ?_⟩
    rw [← Int.natCast_mul]
    have es : ((pre ++ [(c, q)]).map (·.1)).sum = D + c := by rw [List.map_append, List.sum_append, hDD]; simp
    refine hN _ _ ⟨⟨t * chz (D + c) c * a ^ c, b * q.den ^ c, some (.int (c : Nat)), some (.tup [.int (a : Nat), .int (q.den : Nat)]), by rw [es], Nat.mul_pos hb0 (Nat.pow_pos hd0), ?_, ?_, ?_⟩, rfl⟩
    · rw [es, Nat.mul_add, Nat.pow_add]
      exact Nat.mul_le_mul hbz pd
    · rw [es, List.length_append, List.length_singleton, show 320 * (pre.length + 1) + z * (D + c) = (320 * pre.length + z * D) + 320 + z * c by rw [Nat.mul_add, Nat.mul_add]; omega, Nat.pow_add, Nat.pow_add]
      exact Nat.mul_le_mul (Nat.mul_le_mul htz pc) pa
    · rw [cc_step ha, hv, List.map_append, List.map_append]
      show _ = ccq (pre.map (·.2) ++ [q]) (pre.map (·.1) ++ [c])
      rw [ccq_snoc q c (by rw [List.length_map, List.length_map]), hDD]
  · obtain ⟨⟨t, b, y5, y6, rfl, hb0, hbz, htz, hv⟩, rfl⟩ := hI
    rw [List.nil_append] at hbz hv
    rw [show (cs.zip qs).map (·.1) = cs by rw [List.map_fst_zip]; omega, show (cs.zip qs).map (·.2) = qs by rw [List.map_snd_zip]; omega] at hv
    rw [show (cs.zip qs).map (·.1) = cs by rw [List.map_fst_zip]; omega] at hbz
    show R _ _
    subst hR
    have hp1 : 2 ^ (z * cs.sum) ≤ 2 ^ 2650 := Nat.pow_le_pow_right (by decide) hs
    have hp3 : (2 : Nat) ^ 2650 < 2 ^ 8900 := Nat.pow_lt_pow_right (by decide) (by decide)
    simp only [pComb, mCnt, mDNewT, mZipM, mDc, mLenSetL, mDGetT, mDGet2T, mDInT, mDPutT, mLockX, mLockEX, mKeysX, pLstX, pLenX, pMaxT, pSortT, str_to, str_ot, mPar3, mLockV, mLockE, mItemsC, mKeysC, mDGet2, pIsN, isNonP, pRepLM, mTruD, dkOfP, pPopAt, pIndex, mLstRgM, mTruth, pReprA, pLenD, pLstD, mDNew, pRepL, mLenSetN, mDIn, mSortSet, mSortSetL, mRevT, mForC, mSeqC, mLcC, pAbs, pMax2, pMin2, pInt1, mDGet, mDPut, mBM, mBM0, pPop, pAppend, pExtend, pSetL, mSub, mDisp, mPs, mPs0, mRevL, mRevLM, pLstOfM, mTupRg, mRg1, mRg2, pPlusM, lstItems, dictOfP, keyP, keysP, val_left, val_mixed, val_draws, put_draws, mLc, mLcM, mLc2, mFor, mSeqI, mRng1, mRng2, mZip, mEnum, mSl, mNoPart, mPart, mSeq, mAsg, mAsg2, mCB, mCons, mNil, mVar, mC, mOp, mUn, pU, mTup, mLst, mRet, mRetN, mLstM, getl, setl, mName, mCall, mCallK, mIf, mIfS, mTest, mAnd, mOr, mNot, mYes, mAndV, mOrV, mNotV, mNext, mNever, mBreak, mCont, mDrop, mChain, mPar, mGTup, mGCons, mGNil, pGcd, pI, pI0, pIx, pTimes, pPlus, pEq, pNe, pLen, pSum, pMaxS, pAll, pAny, pTupOf, pLstOf, pIn, pIsB, pIsi, items_tup, items_lst, items_kl, items_mr, items_tab, items_lot, items_fr, decide_true, decide_false, eqP_int, eqP_bl, eqP_str, eqP_tup2, kit_tt, kit_ii, kit_ib, tyP, mEnd, wipeP, List.map_cons, List.map_nil, List.getElem?_cons_zero, List.getElem?_cons_succ, List.set_cons_zero, List.set_cons_succ, atI_zero, atI_one, if_true, if_false, ite_true, ite_false, Bool.false_eq_true, List.length_cons, List.length_nil, Bool.not_true, Bool.not_false, S_lowest]
    refine ⟨trivial, _, _, rfl, by omega, by rw [Int.natAbs_natCast]; omega, ?_⟩
    rw [hv]
    exact fin_keep hQ
abbrev N_renamed : List Str := ["table", "names", "name"]
theorem sc_renamed : FnScope N_renamed ["table", "names"] (defScope s_renamed) := ⟨rfl, rfl, rfl, by decide +kernel, rfl, by decide +kernel, by decide +kernel⟩
theorem ok_renamed (B : Blt mg) (h_renamed : Own K mg "renamed" s_renamed) (k_check_table : Ok P w K mg base 6 "check_table" s_check_table ["table"] S_check_table) (k_are_integers : Ok P w K mg base 3 "are_integers" s_are_integers ["thing", "low", "high"] S_are_integers) (k_named_chance : Ok P w K mg base 4 "named_chance" s_named_chance ["table", "names", "name"] S_named_chance) {t_MOST_OUTCOMES : Tok} (c_MOST_OUTCOMES : mg "MOST_OUTCOMES" = some (.int 8 t_MOST_OUTCOMES)) : Ok P w K mg base 7 "renamed" s_renamed ["table", "names"] S_renamed := by
  obtain ⟨f_s, fd_s, F_s, g_s⟩ := h_renamed
  obtain ⟨f_check_table, fd_check_table, F_check_table, g_check_table, b_check_table, G_check_table⟩ := k_check_table
  obtain ⟨f_are_integers, fd_are_integers, F_are_integers, g_are_integers, b_are_integers, G_are_integers⟩ := k_are_integers
  obtain ⟨f_named_chance, fd_named_chance, F_named_chance, g_named_chance, b_named_chance, G_named_chance⟩ := k_named_chance
  refine ⟨f_s, fd_s, F_s, g_s, F_s.binds (fun _ _ _ _ _ _ us hl => match us, hl with | [_, _], _ => rfl), FnG.of F_s sc_renamed (fun xs μ Q h => by first | exact h.1 | exact h.2.1 | (obtain ⟨⟩ := h)) fun cdv A outer s H hr hgd => ⟨_, _, (pss_cons (ps_expr (pe_callG (G_check_table.mono (by decide)) hr hgd (by rfl) g_check_table F_check_table.kp b_check_table (pa_cons (pv 0) pa_nil)))
 (pss_cons (ps_if (PW.pt (pw_or (pt_not (pt_val (pe_callG (G_are_integers.mono (by decide)) hr hgd (by rfl) g_are_integers F_are_integers.kp b_are_integers (pa_cons (pv 1) (pa_cons pe_int (pa_cons (pe_op op_sub (pe_glob (v := .int 8) rfl c_MOST_OUTCOMES ⟨_, rfl⟩) pe_int) pa_nil)))))) (pw_or1 (pt_cmpR (op_neX hr.units) (pe_callB cb_len (by rfl) (B "len" (by decide)) (by decide +kernel) (pa_cons (pv 1) pa_nil)) (pe_callB cb_len (by rfl) (B "len" (by decide)) (by decide +kernel) (pa_cons (pv 0) pa_nil)) (nomark _)))))
 (pss_one ps_never)
 pss_nil)
 (pss_one (ps_ret (pe_callTy cb_tup (by rfl) (B "tuple" (by decide)) (by decide +kernel) (pa_cons (pe_lc (own := [("name", 2)]) (by rfl) sc_renamed.nd (pi_range1 (by rfl) (B "range" (by decide)) (pa_cons (pe_op op_plus (pe_callB (cb_maxS rfl hr.units) (by rfl) (B "max" (by decide)) (by decide +kernel) (pa_cons (pv 1) pa_nil)) pe_int) pa_nil)) (blkOk_by (own := [("name", 2)]) (N := N_renamed) (sc := defScope s_renamed) (by decide +kernel)) (fun _ _ _ _ _ => (pg_name (i := 2) sc_renamed.nd rfl (Or.inl rfl))) (fun _ _ _ _ _ => pts_nil) (fun _ _ _ _ _ => (pek_call K rfl (G_named_chance.mono (by decide)) hr hgd (by rfl) g_named_chance F_named_chance.kp b_named_chance (pa_cons (pv 0) (pa_cons (pv 1) (pa_cons (pv 2) pa_nil)))))) pa_nil)))))), (by (try dsimp only [cxOf]); exact inferInstance), ?_⟩⟩
  intro xs μ Q hS
  obtain ⟨_, qs, ns, rfl, hT, hl, h7, hQ⟩ := hS
  rw [show startP N_renamed [tabP qs, lotP ns] = [some (tabP qs), some (lotP ns), none] from rfl]
  have l8 := hT.len
  have hne : ns ≠ [] := by
    intro e
    subst e
    exact hT.ne (List.length_eq_zero_iff.mp hl.symm)
  have m7 := maxN_le h7
  simp only [pComb, mCnt, mDNewT, mZipM, mDc, mLenSetL, mDGetT, mDGet2T, mDInT, mDPutT, mLockX, mLockEX, mKeysX, pLstX, pLenX, pMaxT, pSortT, str_to, str_ot, mPar3, mLockV, mLockE, mItemsC, mKeysC, mDGet2, pIsN, isNonP, pRepLM, mTruD, dkOfP, pPopAt, pIndex, mLstRgM, mTruth, pReprA, pLenD, pLstD, mDNew, pRepL, mLenSetN, mDIn, mSortSet, mSortSetL, mRevT, mForC, mSeqC, mLcC, pAbs, pMax2, pMin2, pInt1, mDGet, mDPut, mBM, mBM0, pPop, pAppend, pExtend, pSetL, mSub, mDisp, mPs, mPs0, mRevL, mRevLM, pLstOfM, mTupRg, mRg1, mRg2, pPlusM, lstItems, dictOfP, keyP, keysP, val_left, val_mixed, val_draws, put_draws, mLc, mLcM, mLc2, mFor, mSeqI, mRng1, mRng2, mZip, mEnum, mSl, mNoPart, mPart, mSeq, mAsg, mAsg2, mCB, mCons, mNil, mVar, mC, mOp, mUn, pU, mTup, mLst, mRet, mRetN, mLstM, getl, setl, mName, mCall, mCallK, mIf, mIfS, mTest, mAnd, mOr, mNot, mYes, mAndV, mOrV, mNotV, mNext, mNever, mBreak, mCont, mDrop, mChain, mPar, mGTup, mGCons, mGNil, pGcd, pI, pI0, pIx, pTimes, pPlus, pEq, pNe, pLen, pSum, pMaxS, pAll, pAny, pTupOf, pLstOf, pIn, pIsB, pIsi, items_tup, items_lst, items_kl, items_mr, items_tab, items_lot, items_fr, decide_true, decide_false, eqP_int, eqP_bl, eqP_str, eqP_tup2, kit_tt, kit_ii, kit_ib, tyP, mEnd, wipeP, List.map_cons, List.map_nil, List.getElem?_cons_zero, List.getElem?_cons_succ, List.set_cons_zero, List.set_cons_succ, atI_zero, atI_one, if_true, if_false, ite_true, ite_false, Bool.false_eq_true, List.length_cons, List.length_nil, Bool.not_true, Bool.not_false, S_check_table]
  refine ⟨trivial, qs, rfl, hT, ?_⟩
  simp only [pComb, mCnt, mDNewT, mZipM, mDc, mLenSetL, mDGetT, mDGet2T, mDInT, mDPutT, mLockX, mLockEX, mKeysX, pLstX, pLenX, pMaxT, pSortT, str_to, str_ot, mPar3, mLockV, mLockE, mItemsC, mKeysC, mDGet2, pIsN, isNonP, pRepLM, mTruD, dkOfP, pPopAt, pIndex, mLstRgM, mTruth, pReprA, pLenD, pLstD, mDNew, pRepL, mLenSetN, mDIn, mSortSet, mSortSetL, mRevT, mForC, mSeqC, mLcC, pAbs, pMax2, pMin2, pInt1, mDGet, mDPut, mBM, mBM0, pPop, pAppend, pExtend, pSetL, mSub, mDisp, mPs, mPs0, mRevL, mRevLM, pLstOfM, mTupRg, mRg1, mRg2, pPlusM, lstItems, dictOfP, keyP, keysP, val_left, val_mixed, val_draws, put_draws, mLc, mLcM, mLc2, mFor, mSeqI, mRng1, mRng2, mZip, mEnum, mSl, mNoPart, mPart, mSeq, mAsg, mAsg2, mCB, mCons, mNil, mVar, mC, mOp, mUn, pU, mTup, mLst, mRet, mRetN, mLstM, getl, setl, mName, mCall, mCallK, mIf, mIfS, mTest, mAnd, mOr, mNot, mYes, mAndV, mOrV, mNotV, mNext, mNever, mBreak, mCont, mDrop, mChain, mPar, mGTup, mGCons, mGNil, pGcd, pI, pI0, pIx, pTimes, pPlus, pEq, pNe, pLen, pSum, pMaxS, pAll, pAny, pTupOf, pLstOf, pIn, pIsB, pIsi, items_tup, items_lst, items_kl, items_mr, items_tab, items_lot, items_fr, decide_true, decide_false, eqP_int, eqP_bl, eqP_str, eqP_tup2, kit_tt, kit_ii, kit_ib, tyP, mEnd, wipeP, List.map_cons, List.map_nil, List.getElem?_cons_zero, List.getElem?_cons_succ, List.set_cons_zero, List.set_cons_succ, atI_zero, atI_one, if_true, if_false, ite_true, ite_false, Bool.false_eq_true, List.length_cons, List.length_nil, Bool.not_true, Bool.not_false, lotP, S_are_integers]
  refine ⟨trivial, zs ns, _, _, by rw [← lot_ints]; rfl, by rw [zs_length]; unfold lim; omega, ?_⟩
  have e1 : ((zs ns).all fun i => decide ((0 : Int) ≤ i) && decide (i ≤ (8 : Int) - 1)) = true := by
    rw [List.all_eq_true]
    intro i hi
    obtain ⟨n, hn, rfl⟩ := List.mem_map.mp hi
    have := h7 n hn
    simp; omega
  rw [e1]
  have el : (decide (((ns.map fun (n : Nat) => PV.int n).length : Int) = ((qs.map frP).length : Int))) = true := by simp [hl]
  simp only [tabP, el, Bool.not_true, Bool.false_eq_true, if_false, ints_lot, maxP_lot hne]
  refine ⟨by decide, by simp [hne], by omega, ?_⟩
  rw [show ((maxN ns : Int) + 1).toNat = maxN ns + 1 by omega, rangeP_eq]
  refine ⟨by rw [List.length_map, List.length_range]; unfold lim; omega, lc_map (out := fun (x : Nat) => frP (named qs ns x).sum) (fun x hx k hk => ?_) ?_⟩
  · simp only [pComb, mCnt, mDNewT, mZipM, mDc, mLenSetL, mDGetT, mDGet2T, mDInT, mDPutT, mLockX, mLockEX, mKeysX, pLstX, pLenX, pMaxT, pSortT, str_to, str_ot, mPar3, mLockV, mLockE, mItemsC, mKeysC, mDGet2, pIsN, isNonP, pRepLM, mTruD, dkOfP, pPopAt, pIndex, mLstRgM, mTruth, pReprA, pLenD, pLstD, mDNew, pRepL, mLenSetN, mDIn, mSortSet, mSortSetL, mRevT, mForC, mSeqC, mLcC, pAbs, pMax2, pMin2, pInt1, mDGet, mDPut, mBM, mBM0, pPop, pAppend, pExtend, pSetL, mSub, mDisp, mPs, mPs0, mRevL, mRevLM, pLstOfM, mTupRg, mRg1, mRg2, pPlusM, lstItems, dictOfP, keyP, keysP, val_left, val_mixed, val_draws, put_draws, mLc, mLcM, mLc2, mFor, mSeqI, mRng1, mRng2, mZip, mEnum, mSl, mNoPart, mPart, mSeq, mAsg, mAsg2, mCB, mCons, mNil, mVar, mC, mOp, mUn, pU, mTup, mLst, mRet, mRetN, mLstM, getl, setl, mName, mCall, mCallK, mIf, mIfS, mTest, mAnd, mOr, mNot, mYes, mAndV, mOrV, mNotV, mNext, mNever, mBreak, mCont, mDrop, mChain, mPar, mGTup, mGCons, mGNil, pGcd, pI, pI0, pIx, pTimes, pPlus, pEq, pNe, pLen, pSum, pMaxS, pAll, pAny, pTupOf, pLstOf, pIn, pIsB, pIsi, items_tup, items_lst, items_kl, items_mr, items_tab, items_lot, items_fr, decide_true, decide_false, eqP_int, eqP_bl, eqP_str, eqP_tup2, kit_tt, kit_ii, kit_ib, tyP, mEnd, wipeP, List.map_cons, List.map_nil, List.getElem?_cons_zero, List.getElem?_cons_succ, List.set_cons_zero, List.set_cons_succ, atI_zero, atI_one, if_true, if_false, ite_true, ite_false, Bool.false_eq_true, List.length_cons, List.length_nil, Bool.not_true, Bool.not_false, S_named_chance]
    exact ⟨trivial, qs, ns, x, rfl, hT, hk⟩
  · refine fin_keep ?_
    have : PV.tup ([] ++ (List.range (maxN ns + 1)).map fun (x : Nat) => frP (named qs ns x).sum) = tabP (ren qs ns) := by
      unfold tabP ren
      rw [List.map_map]
      rfl
    rw [this]
    exact hQ
abbrev N__law_are_sums_right : List Str := ["_law_table_here", "_law_length", "_law_n", "_law_by_counts", "_law_rows", "_law_row", "_law_counts", "_law_chance", "_law_i"]
theorem sc__law_are_sums_right : FnScope N__law_are_sums_right ["_law_table_here", "_law_length"] (defScope s__law_are_sums_right) := ⟨rfl, rfl, rfl, by decide +kernel, rfl, by decide +kernel, by decide +kernel⟩
theorem ok__law_are_sums_right (B : Blt mg) (h__law_are_sums_right : Own K mg "_law_are_sums_right" s__law_are_sums_right) (k__law_all_rows : Ok P w K mg base 1 "_law_all_rows" s__law_all_rows ["_law_n", "_law_length"] S__law_all_rows) (k_row_chance : Ok P w K mg base 7 "row_chance" s_row_chance ["table", "row"] S_row_chance) (k__law_sum : Ok P w K mg base 3 "_law_sum" s__law_sum ["_law_some"] S__law_sum) (k_counts_chance : Ok P w K mg base 7 "counts_chance" s_counts_chance ["table", "counts"] S_counts_chance) : Ok P w K mg base 8 "_law_are_sums_right" s__law_are_sums_right ["_law_table_here", "_law_length"] S__law_are_sums_right := by
  obtain ⟨f_s, fd_s, F_s, g_s⟩ := h__law_are_sums_right
  obtain ⟨f__law_all_rows, fd__law_all_rows, F__law_all_rows, g__law_all_rows, b__law_all_rows, G__law_all_rows⟩ := k__law_all_rows
  obtain ⟨f_row_chance, fd_row_chance, F_row_chance, g_row_chance, b_row_chance, G_row_chance⟩ := k_row_chance
  obtain ⟨f__law_sum, fd__law_sum, F__law_sum, g__law_sum, b__law_sum, G__law_sum⟩ := k__law_sum
  obtain ⟨f_counts_chance, fd_counts_chance, F_counts_chance, g_counts_chance, b_counts_chance, G_counts_chance⟩ := k_counts_chance
  refine ⟨f_s, fd_s, F_s, g_s, F_s.binds (fun _ _ _ _ _ _ us hl => match us, hl with | [_, _], _ => rfl), FnG.of F_s sc__law_are_sums_right (fun xs μ Q h => by first | exact h.1 | exact h.2.1 | (obtain ⟨⟩ := h)) fun cdv A outer s H hr hgd => ⟨_, _, (pss_cons (ps_par3 (i := 2) (j := 3) (l := 4) (by rfl) sc__law_are_sums_right.nd rfl rfl rfl (by decide) (by decide) (by decide) rfl rfl rfl (pa_cons (pe_callB cb_len (by rfl) (B "len" (by decide)) (by decide +kernel) (pa_cons (pv 0) pa_nil)) (pa_cons pe_dnewX (pa_cons (peLM (pe_lst pa_nil)) pa_nil))) (by rfl))
 (pss_cons (ps_for PassesOwn.never rfl (pi_seq (pe_callG (G__law_all_rows.mono (by decide)) hr hgd (by rfl) g__law_all_rows F__law_all_rows.kp b__law_all_rows (pa_cons (pv 2) (pa_cons (pv 1) pa_nil)))) (pg_name (i := 5) sc__law_are_sums_right.nd rfl (Or.inr rfl))
 (pss_cons (ps_par (i := 6) (j := 7) (by rfl) sc__law_are_sums_right.nd rfl rfl (by decide) rfl rfl (pa_cons (pe_callTy cb_tup (by rfl) (B "tuple" (by decide)) (by decide +kernel) (pa_cons (pe_lc (own := [("_law_i", 8)]) (by rfl) sc__law_are_sums_right.nd (pi_range1 (by rfl) (B "range" (by decide)) (pa_cons (pv 2) pa_nil)) (blkOk_by (own := [("_law_i", 8)]) (N := N__law_are_sums_right) (sc := defScope s__law_are_sums_right) (by decide +kernel)) (fun _ _ _ _ _ => (pg_name (i := 8) sc__law_are_sums_right.nd rfl (Or.inl rfl))) (fun _ _ _ _ _ => pts_nil) (fun _ _ _ _ _ => (pek_cnt K rfl hr.units (pv 5) (pa_cons (pv 8) pa_nil)))) pa_nil)) (pa_cons (pe_callG (G_row_chance.mono (by decide)) hr hgd (by rfl) g_row_chance F_row_chance.kp b_row_chance (pa_cons (pv 0) (pa_cons (pv 5) pa_nil))) pa_nil)) (by rfl))
 (pss_cons (ps_dputX (hu_of hr) (pv 3) (pv 6) (pe_callG (G__law_sum.mono (by decide)) hr hgd (by rfl) g__law_sum F__law_sum.kp b__law_sum (pa_cons (pe_lst (pa_cons (pe_dget2X (hu_of hr) (pv 3) (pv 6) (pe_tupF (pa_cons pe_int (pa_cons pe_int pa_nil))) ⟨rfl, rfl, rfl, rfl⟩) (pa_cons (pv 7) pa_nil))) pa_nil)) (by rfl))
 (pss_one (ps_expr (pe_bm PySem.F.plainAttrs_list PySem.F.slot_list_append PySem.F.type_list_append mt_append (pv 4) (pa_cons (pv 7) pa_nil)))))))
 (pss_cons (ps_if (pt_cmpR (op_neX hr.units) (pe_callG (G__law_sum.mono (by decide)) hr hgd (by rfl) g__law_sum F__law_sum.kp b__law_sum (pa_cons (pv 4) pa_nil)) (pe_tupF (pa_cons pe_int (pa_cons pe_int pa_nil))) (nomark _))
 (pss_one (ps_ret pe_bl))
 pss_nil)
 (pss_cons (ps_lockX 3 (ps_for PassesOwn.never rfl (pi_keysX (pv 3)) (pg_name (i := 6) sc__law_are_sums_right.nd rfl (Or.inl rfl))
 (pss_one (ps_if (pt_cmpR (op_neX hr.units) (pe_callB (cb_repr hgd hr.units) (by rfl) (B "repr" (by decide)) (by decide +kernel) (pa_cons (pe_callG (G_counts_chance.mono (by decide)) hr hgd (by rfl) g_counts_chance F_counts_chance.kp b_counts_chance (pa_cons (pv 0) (pa_cons (pv 6) pa_nil))) pa_nil)) (pe_callB (cb_repr hgd hr.units) (by rfl) (B "repr" (by decide)) (by decide +kernel) (pa_cons (pe_dgetX (hu_of hr) (pv 3) (pv 6) (fun _ _ => rfl)) pa_nil)) (nomark _))
 (pss_one (ps_ret pe_bl))
 pss_nil))))
 (pss_one (ps_ret pe_bl)))))), (by (try dsimp only [cxOf]); exact inferInstance), ?_⟩⟩
  intro xs μ Q hS
  obtain ⟨_, qs, L, rfl, hT, h3, h4, hQ⟩ := hS
  rw [show startP N__law_are_sums_right [tabP qs, .int L] = [some (tabP qs), some (.int L), none, none, none, none, none, none, none] from rfl]
  refine stm_of fun R hR => ?_
  simp only [pComb, mCnt, mDNewT, mZipM, mDc, mLenSetL, mDGetT, mDGet2T, mDInT, mDPutT, mLockX, mLockEX, mKeysX, pLstX, pLenX, pMaxT, pSortT, str_to, str_ot, mPar3, mLockV, mLockE, mItemsC, mKeysC, mDGet2, pIsN, isNonP, pRepLM, mTruD, dkOfP, pPopAt, pIndex, mLstRgM, mTruth, pReprA, pLenD, pLstD, mDNew, pRepL, mLenSetN, mDIn, mSortSet, mSortSetL, mRevT, mForC, mSeqC, mLcC, pAbs, pMax2, pMin2, pInt1, mDGet, mDPut, mBM, mBM0, pPop, pAppend, pExtend, pSetL, mSub, mDisp, mPs, mPs0, mRevL, mRevLM, pLstOfM, mTupRg, mRg1, mRg2, pPlusM, lstItems, dictOfP, keyP, keysP, val_left, val_mixed, val_draws, put_draws, mLc, mLcM, mLc2, mFor, mSeqI, mRng1, mRng2, mZip, mEnum, mSl, mNoPart, mPart, mSeq, mAsg, mAsg2, mCB, mCons, mNil, mVar, mC, mOp, mUn, pU, mTup, mLst, mRet, mRetN, mLstM, getl, setl, mName, mCall, mCallK, mIf, mIfS, mTest, mAnd, mOr, mNot, mYes, mAndV, mOrV, mNotV, mNext, mNever, mBreak, mCont, mDrop, mChain, mPar, mGTup, mGCons, mGNil, pGcd, pI, pI0, pIx, pTimes, pPlus, pEq, pNe, pLen, pSum, pMaxS, pAll, pAny, pTupOf, pLstOf, pIn, pIsB, pIsi, items_tup, items_lst, items_kl, items_mr, items_tab, items_lot, items_fr, decide_true, decide_false, eqP_int, eqP_bl, eqP_str, eqP_tup2, kit_tt, kit_ii, kit_ib, tyP, mEnd, wipeP, List.map_cons, List.map_nil, List.getElem?_cons_zero, List.getElem?_cons_succ, List.set_cons_zero, List.set_cons_succ, atI_zero, atI_one, if_true, if_false, ite_true, ite_false, Bool.false_eq_true, List.length_cons, List.length_nil, Bool.not_true, Bool.not_false]
  refine ⟨by decide, ?_⟩
  rw [List.length_map]
  subst hR
  refine stm_of fun R hR => ?_
  simp only [pComb, mCnt, mDNewT, mZipM, mDc, mLenSetL, mDGetT, mDGet2T, mDInT, mDPutT, mLockX, mLockEX, mKeysX, pLstX, pLenX, pMaxT, pSortT, str_to, str_ot, mPar3, mLockV, mLockE, mItemsC, mKeysC, mDGet2, pIsN, isNonP, pRepLM, mTruD, dkOfP, pPopAt, pIndex, mLstRgM, mTruth, pReprA, pLenD, pLstD, mDNew, pRepL, mLenSetN, mDIn, mSortSet, mSortSetL, mRevT, mForC, mSeqC, mLcC, pAbs, pMax2, pMin2, pInt1, mDGet, mDPut, mBM, mBM0, pPop, pAppend, pExtend, pSetL, mSub, mDisp, mPs, mPs0, mRevL, mRevLM, pLstOfM, mTupRg, mRg1, mRg2, pPlusM, lstItems, dictOfP, keyP, keysP, val_left, val_mixed, val_draws, put_draws, mLc, mLcM, mLc2, mFor, mSeqI, mRng1, mRng2, mZip, mEnum, mSl, mNoPart, mPart, mAsg, mAsg2, mCB, mCons, mNil, mVar, mC, mOp, mUn, pU, mTup, mLst, mRet, mRetN, mLstM, getl, setl, mName, mCall, mCallK, mIf, mIfS, mTest, mAnd, mOr, mNot, mYes, mAndV, mOrV, mNotV, mNext, mNever, mBreak, mCont, mDrop, mChain, mPar, mGTup, mGCons, mGNil, pGcd, pI, pI0, pIx, pTimes, pPlus, pEq, pNe, pLen, pSum, pMaxS, pAll, pAny, pTupOf, pLstOf, pIn, pIsB, pIsi, items_tup, items_lst, items_kl, items_mr, items_tab, items_lot, items_fr, decide_true, decide_false, eqP_int, eqP_bl, eqP_str, eqP_tup2, kit_tt, kit_ii, kit_ib, tyP, mEnd, wipeP, List.map_cons, List.map_nil, List.getElem?_cons_zero, List.getElem?_cons_succ, List.set_cons_zero, List.set_cons_succ, atI_zero, atI_one, if_true, if_false, ite_true, ite_false, Bool.false_eq_true, List.length_cons, List.length_nil, Bool.not_true, Bool.not_false, S__law_all_rows]
  have h1 : 1 ≤ qs.length := by have := hT.ne; cases qs with | nil => exact absurd rfl this | cons _ _ => simp
  have hp : qs.length ^ L ≤ 81 := Nat.le_trans (Nat.pow_le_pow_left h3 L) (Nat.pow_le_pow_right (by decide) h4)
  refine ⟨trivial, qs.length, L, rfl, h1, by omega, by omega, by omega, ?_⟩
  obtain ⟨D, hD0, hD1, hDq⟩ := hT.com
  have hE0 : 0 < D ^ L := Nat.pow_pos hD0
  have hE1 : D ^ L < 2 ^ 177 := Nat.lt_of_le_of_lt (Nat.pow_le_pow_left (Nat.le_of_lt hD1) L) (by rw [← Nat.pow_mul]; exact Nat.pow_lt_pow_right (by decide) (by omega))
  have hEb : D ^ L < 2 ^ 2660 := Nat.lt_trans hE1 (Nat.pow_lt_pow_right (by decide) (by decide))
  have hal : (allr qs.length L).length ≤ 81 := by rw [allr_len]; exact hp
  refine for_inv (enc := lotP) (fun pre ρ μ' => (∃ (kvs : List (List Int × PV)) (y5 y6 y7 : Option PV), ρ = [some (tabP qs), some (.int L), some (.int (qs.length : Nat)), some (.mr μ.length), some (.mr (μ.length + 1)), y5, y6, y7, none] ∧ KC qs pre kvs ∧ μ' = μ ++ [.tk kvs, .lst (pre.map fun r => frP (rowq qs r))])) (done := []) ⟨[], none, none, none, by simp, .start qs, by simp⟩ (fun pre r post ρ μ' e hI N hN => ?_) fun ρ μ' hI => ?_
  · obtain ⟨kvs, y5, y6, y7, rfl, hK, rfl⟩ := hI
    have e' : allr qs.length L = pre ++ r :: post := e
    have hr : r ∈ allr qs.length L := by rw [e']; simp
    have hpre : ∀ x ∈ pre, x ∈ allr qs.length L := fun x hx => by rw [e']; exact List.mem_append_left _ hx
    have hpl : pre.length ≤ 81 := by have := congrArg List.length e'; rw [List.length_append] at this; omega
    have hrl := allr_mem hr
    refine stm_of fun R hR => ?_
    simp only [pComb, mCnt, mDNewT, mZipM, mDc, mLenSetL, mDGetT, mDGet2T, mDInT, mDPutT, mLockX, mLockEX, mKeysX, pLstX, pLenX, pMaxT, pSortT, str_to, str_ot, mPar3, mLockV, mLockE, mItemsC, mKeysC, mDGet2, pIsN, isNonP, pRepLM, mTruD, dkOfP, pPopAt, pIndex, mLstRgM, mTruth, pReprA, pLenD, pLstD, mDNew, pRepL, mLenSetN, mDIn, mSortSet, mSortSetL, mRevT, mForC, mSeqC, mLcC, pAbs, pMax2, pMin2, pInt1, mDGet, mDPut, mBM, mBM0, pPop, pAppend, pExtend, pSetL, mSub, mDisp, mPs, mPs0, mRevL, mRevLM, pLstOfM, mTupRg, mRg1, mRg2, pPlusM, lstItems, dictOfP, keyP, keysP, val_left, val_mixed, val_draws, put_draws, mLc, mLcM, mLc2, mFor, mSeqI, mRng1, mRng2, mZip, mEnum, mSl, mNoPart, mPart, mAsg, mAsg2, mCB, mCons, mNil, mVar, mC, mOp, mUn, pU, mTup, mLst, mRet, mRetN, mLstM, getl, setl, mName, mCall, mCallK, mIf, mIfS, mTest, mAnd, mOr, mNot, mYes, mAndV, mOrV, mNotV, mNext, mNever, mBreak, mCont, mDrop, mChain, mPar, mGTup, mGCons, mGNil, pGcd, pI, pI0, pIx, pTimes, pPlus, pEq, pNe, pLen, pSum, pMaxS, pAll, pAny, pTupOf, pLstOf, pIn, pIsB, pIsi, items_tup, items_lst, items_kl, items_mr, items_tab, items_lot, items_fr, decide_true, decide_false, eqP_int, eqP_bl, eqP_str, eqP_tup2, kit_tt, kit_ii, kit_ib, tyP, mEnd, wipeP, List.map_cons, List.map_nil, List.getElem?_cons_zero, List.getElem?_cons_succ, List.set_cons_zero, List.set_cons_succ, atI_zero, atI_one, if_true, if_false, ite_true, ite_false, Bool.false_eq_true, List.length_cons, List.length_nil, Bool.not_true, Bool.not_false]
    rw [Int.toNat_natCast, rangeP_eq, List.length_map, List.length_range]
    refine ⟨fun i hi => hi, by omega, by unfold lim; omega, lc_map (enc := fun (i : Nat) => PV.int i) (out := fun i => PV.int (r.count i : Nat)) (fun i hi k hk => ?_) ?_⟩
    · simp only [pComb, mCnt, mDNewT, mZipM, mDc, mLenSetL, mDGetT, mDGet2T, mDInT, mDPutT, mLockX, mLockEX, mKeysX, pLstX, pLenX, pMaxT, pSortT, str_to, str_ot, mPar3, mLockV, mLockE, mItemsC, mKeysC, mDGet2, pIsN, isNonP, pRepLM, mTruD, dkOfP, pPopAt, pIndex, mLstRgM, mTruth, pReprA, pLenD, pLstD, mDNew, pRepL, mLenSetN, mDIn, mSortSet, mSortSetL, mRevT, mForC, mSeqC, mLcC, pAbs, pMax2, pMin2, pInt1, mDGet, mDPut, mBM, mBM0, pPop, pAppend, pExtend, pSetL, mSub, mDisp, mPs, mPs0, mRevL, mRevLM, pLstOfM, mTupRg, mRg1, mRg2, pPlusM, lstItems, dictOfP, keyP, keysP, val_left, val_mixed, val_draws, put_draws, mLc, mLcM, mLc2, mFor, mSeqI, mRng1, mRng2, mZip, mEnum, mSl, mNoPart, mPart, mSeq, mAsg, mAsg2, mCB, mCons, mNil, mVar, mC, mOp, mUn, pU, mTup, mLst, mRet, mRetN, mLstM, getl, setl, mName, mCall, mCallK, mIf, mIfS, mTest, mAnd, mOr, mNot, mYes, mAndV, mOrV, mNotV, mNext, mNever, mBreak, mCont, mDrop, mChain, mPar, mGTup, mGCons, mGNil, pGcd, pI, pI0, pIx, pTimes, pPlus, pEq, pNe, pLen, pSum, pMaxS, pAll, pAny, pTupOf, pLstOf, pIn, pIsB, pIsi, items_tup, items_lst, items_kl, items_mr, items_tab, items_lot, items_fr, decide_true, decide_false, eqP_int, eqP_bl, eqP_str, eqP_tup2, kit_tt, kit_ii, kit_ib, tyP, mEnd, wipeP, List.map_cons, List.map_nil, List.getElem?_cons_zero, List.getElem?_cons_succ, List.set_cons_zero, List.set_cons_succ, atI_zero, atI_one, if_true, if_false, ite_true, ite_false, Bool.false_eq_true, List.length_cons, List.length_nil, Bool.not_true, Bool.not_false, lotP]
      rw [intsP_lot]
      simp only [cntI_zs]
      exact hk
    · rw [List.nil_append, show ((List.range qs.length).map fun i => PV.int (r.count i : Nat)) = (cts qs.length r).map fun (n : Nat) => PV.int n by unfold cts; rw [List.map_map]; rfl]
      simp only [pComb, mCnt, mDNewT, mZipM, mDc, mLenSetL, mDGetT, mDGet2T, mDInT, mDPutT, mLockX, mLockEX, mKeysX, pLstX, pLenX, pMaxT, pSortT, str_to, str_ot, mPar3, mLockV, mLockE, mItemsC, mKeysC, mDGet2, pIsN, isNonP, pRepLM, mTruD, dkOfP, pPopAt, pIndex, mLstRgM, mTruth, pReprA, pLenD, pLstD, mDNew, pRepL, mLenSetN, mDIn, mSortSet, mSortSetL, mRevT, mForC, mSeqC, mLcC, pAbs, pMax2, pMin2, pInt1, mDGet, mDPut, mBM, mBM0, pPop, pAppend, pExtend, pSetL, mSub, mDisp, mPs, mPs0, mRevL, mRevLM, pLstOfM, mTupRg, mRg1, mRg2, pPlusM, lstItems, dictOfP, keyP, keysP, val_left, val_mixed, val_draws, put_draws, mLc, mLcM, mLc2, mFor, mSeqI, mRng1, mRng2, mZip, mEnum, mSl, mNoPart, mPart, mAsg, mAsg2, mCB, mCons, mNil, mVar, mC, mOp, mUn, pU, mTup, mLst, mRet, mRetN, mLstM, getl, setl, mName, mCall, mCallK, mIf, mIfS, mTest, mAnd, mOr, mNot, mYes, mAndV, mOrV, mNotV, mNext, mNever, mBreak, mCont, mDrop, mChain, mPar, mGTup, mGCons, mGNil, pGcd, pI, pI0, pIx, pTimes, pPlus, pEq, pNe, pLen, pSum, pMaxS, pAll, pAny, pTupOf, pLstOf, pIn, pIsB, pIsi, items_tup, items_lst, items_kl, items_mr, items_tab, items_lot, items_fr, decide_true, decide_false, eqP_int, eqP_bl, eqP_str, eqP_tup2, kit_tt, kit_ii, kit_ib, tyP, mEnd, wipeP, List.map_cons, List.map_nil, List.getElem?_cons_zero, List.getElem?_cons_succ, List.set_cons_zero, List.set_cons_succ, atI_zero, atI_one, if_true, if_false, ite_true, ite_false, Bool.false_eq_true, List.length_cons, List.length_nil, Bool.not_true, Bool.not_false, S_row_chance]
      refine ⟨trivial, qs, r, rfl, hT, allr_lt hr, by omega, ?_⟩
      subst hR
      refine stm_of fun R hR => ?_
      simp only [pComb, mCnt, mDNewT, mZipM, mDc, mLenSetL, mDGetT, mDGet2T, mDInT, mDPutT, mLockX, mLockEX, mKeysX, pLstX, pLenX, pMaxT, pSortT, str_to, str_ot, mPar3, mLockV, mLockE, mItemsC, mKeysC, mDGet2, pIsN, isNonP, pRepLM, mTruD, dkOfP, pPopAt, pIndex, mLstRgM, mTruth, pReprA, pLenD, pLstD, mDNew, pRepL, mLenSetN, mDIn, mSortSet, mSortSetL, mRevT, mForC, mSeqC, mLcC, pAbs, pMax2, pMin2, pInt1, mDGet, mDPut, mBM, mBM0, pPop, pAppend, pExtend, pSetL, mSub, mDisp, mPs, mPs0, mRevL, mRevLM, pLstOfM, mTupRg, mRg1, mRg2, pPlusM, lstItems, dictOfP, keyP, keysP, val_left, val_mixed, val_draws, put_draws, mLc, mLcM, mLc2, mFor, mSeqI, mRng1, mRng2, mZip, mEnum, mSl, mNoPart, mPart, mAsg, mAsg2, mCB, mCons, mNil, mVar, mC, mOp, mUn, pU, mTup, mLst, mRet, mRetN, mLstM, getl, setl, mName, mCall, mCallK, mIf, mIfS, mTest, mAnd, mOr, mNot, mYes, mAndV, mOrV, mNotV, mNext, mNever, mBreak, mCont, mDrop, mChain, mPar, mGTup, mGCons, mGNil, pGcd, pI, pI0, pIx, pTimes, pPlus, pEq, pNe, pLen, pSum, pMaxS, pAll, pAny, pTupOf, pLstOf, pIn, pIsB, pIsi, items_tup, items_lst, items_kl, items_mr, items_tab, items_lot, items_fr, decide_true, decide_false, eqP_int, eqP_bl, eqP_str, eqP_tup2, kit_tt, kit_ii, kit_ib, tyP, mEnd, wipeP, List.map_cons, List.map_nil, List.getElem?_cons_zero, List.getElem?_cons_succ, List.set_cons_zero, List.set_cons_succ, atI_zero, atI_one, if_true, if_false, ite_true, ite_false, Bool.false_eq_true, List.length_cons, List.length_nil, Bool.not_true, Bool.not_false]
      rw [tdP_tk2, show (PV.tup ((cts qs.length r).map fun (n : Nat) => PV.int n)) = lotP (cts qs.length r) from rfl, tkP_lotA]
      simp only []
      rw [show PV.tup [PV.int 0, PV.int 1] = frP 0 from rfl, hK.val]
      have c1 := csum_cm (c := cts qs.length r) fun x hx => row_cm hDq (hpre x hx)
      have c2 := csum_bd (c := cts qs.length r) fun x hx => row_unit hT (hpre x hx)
      have c3 := row_cm hDq hr
      have c4 := row_unit hT hr
      have s1 := frac_sm c1 hE0 hE1 c2.1 c2.2 (by omega)
      have s2 := frac_sm c3 hE0 hE1 c4.1 (k := 1) c4.2 (by decide)
      refine ⟨rfl, by decide, by decide, rfl, .lst [frP (csum qs pre (cts qs.length r)), frP (rowq qs r)], [csum qs pre (cts qs.length r), rowq qs r], D ^ L, 184, rfl, .inl rfl, ?_, by show 184 * 2 ≤ 1000000; decide, by show 2 ≤ 10000; decide, hE0, hEb, ?_, .inl (by show 185 * 2 ≤ 8900; decide), ?_⟩
      · intro q hq
        rcases List.mem_cons.mp hq with rfl | hq
        · exact s1
        · rw [List.mem_singleton.mp hq]; exact s2
      · intro q hq
        rcases List.mem_cons.mp hq with rfl | hq
        · exact cm_den c1
        · rw [List.mem_singleton.mp hq]; exact cm_den c3
      rw [show [csum qs pre (cts qs.length r), rowq qs r].sum = csum qs pre (cts qs.length r) + rowq qs r by rw [List.sum_cons, List.sum_singleton]]
      have hge : ∀ k x : MO, (μ ++ [k, x])[μ.length]? = some k := fun k x => by simp
      have hse : ∀ k k' x : MO, (μ ++ [k, x]).set μ.length k' = μ ++ [k', x] := fun k k' x => by simp
      simp only [hge, hse]
      refine ⟨Nat.le_trans hK.len (by unfold lim; omega), ?_⟩
      subst hR
      have hg2 : ∀ k x : MO, (μ ++ [k, x])[μ.length + 1]? = some x := fun k x => by simp
      have hs2 : ∀ k x x' : MO, (μ ++ [k, x]).set (μ.length + 1) x' = μ ++ [k, x'] := fun k x x' => by simp
      simp only [pComb, mCnt, mDNewT, mZipM, mDc, mLenSetL, mDGetT, mDGet2T, mDInT, mDPutT, mLockX, mLockEX, mKeysX, pLstX, pLenX, pMaxT, pSortT, str_to, str_ot, mPar3, mLockV, mLockE, mItemsC, mKeysC, mDGet2, pIsN, isNonP, pRepLM, mTruD, dkOfP, pPopAt, pIndex, mLstRgM, mTruth, pReprA, pLenD, pLstD, mDNew, pRepL, mLenSetN, mDIn, mSortSet, mSortSetL, mRevT, mForC, mSeqC, mLcC, pAbs, pMax2, pMin2, pInt1, mDGet, mDPut, mBM, mBM0, pPop, pAppend, pExtend, pSetL, mSub, mDisp, mPs, mPs0, mRevL, mRevLM, pLstOfM, mTupRg, mRg1, mRg2, pPlusM, lstItems, dictOfP, keyP, keysP, val_left, val_mixed, val_draws, put_draws, mLc, mLcM, mLc2, mFor, mSeqI, mRng1, mRng2, mZip, mEnum, mSl, mNoPart, mPart, mAsg, mAsg2, mCB, mCons, mNil, mVar, mC, mOp, mUn, pU, mTup, mLst, mRet, mRetN, mLstM, getl, setl, mName, mCall, mCallK, mIf, mIfS, mTest, mAnd, mOr, mNot, mYes, mAndV, mOrV, mNotV, mNext, mNever, mBreak, mCont, mDrop, mChain, mPar, mGTup, mGCons, mGNil, pGcd, pI, pI0, pIx, pTimes, pPlus, pEq, pNe, pLen, pSum, pMaxS, pAll, pAny, pTupOf, pLstOf, pIn, pIsB, pIsi, items_tup, items_lst, items_kl, items_mr, items_tab, items_lot, items_fr, decide_true, decide_false, eqP_int, eqP_bl, eqP_str, eqP_tup2, kit_tt, kit_ii, kit_ib, tyP, mEnd, wipeP, List.map_cons, List.map_nil, List.getElem?_cons_zero, List.getElem?_cons_succ, List.set_cons_zero, List.set_cons_succ, atI_zero, atI_one, if_true, if_false, ite_true, ite_false, Bool.false_eq_true, List.length_cons, List.length_nil, Bool.not_true, Bool.not_false, hg2, hs2]
      refine ⟨by rw [List.length_map]; unfold lim; omega, hN _ _ ⟨_, _, _, _, rfl, hK.step r, ?_⟩⟩
      rw [List.map_append]
      rfl
  · obtain ⟨kvs, y5, y6, y7, rfl, hK, rfl⟩ := hI
    rw [List.nil_append] at hK ⊢
    show R _ _
    subst hR
    refine stm_of fun R hR => ?_
    have hg2 : ∀ k x : MO, (μ ++ [k, x])[μ.length + 1]? = some x := fun k x => by simp
    have hone := rows_sum hT.one L
    simp only [pComb, mCnt, mDNewT, mZipM, mDc, mLenSetL, mDGetT, mDGet2T, mDInT, mDPutT, mLockX, mLockEX, mKeysX, pLstX, pLenX, pMaxT, pSortT, str_to, str_ot, mPar3, mLockV, mLockE, mItemsC, mKeysC, mDGet2, pIsN, isNonP, pRepLM, mTruD, dkOfP, pPopAt, pIndex, mLstRgM, mTruth, pReprA, pLenD, pLstD, mDNew, pRepL, mLenSetN, mDIn, mSortSet, mSortSetL, mRevT, mForC, mSeqC, mLcC, pAbs, pMax2, pMin2, pInt1, mDGet, mDPut, mBM, mBM0, pPop, pAppend, pExtend, pSetL, mSub, mDisp, mPs, mPs0, mRevL, mRevLM, pLstOfM, mTupRg, mRg1, mRg2, pPlusM, lstItems, dictOfP, keyP, keysP, val_left, val_mixed, val_draws, put_draws, mLc, mLcM, mLc2, mFor, mSeqI, mRng1, mRng2, mZip, mEnum, mSl, mNoPart, mPart, mSeq, mAsg, mAsg2, mCB, mCons, mNil, mVar, mC, mOp, mUn, pU, mTup, mLst, mRet, mRetN, mLstM, getl, setl, mName, mCall, mCallK, mIf, mIfS, mTest, mAnd, mOr, mNot, mYes, mAndV, mOrV, mNotV, mNext, mNever, mBreak, mCont, mDrop, mChain, mPar, mGTup, mGCons, mGNil, pGcd, pI, pI0, pIx, pTimes, pPlus, pEq, pNe, pLen, pSum, pMaxS, pAll, pAny, pTupOf, pLstOf, pIn, pIsB, pIsi, items_tup, items_lst, items_kl, items_mr, items_tab, items_lot, items_fr, decide_true, decide_false, eqP_int, eqP_bl, eqP_str, eqP_tup2, kit_tt, kit_ii, kit_ib, tyP, mEnd, wipeP, List.map_cons, List.map_nil, List.getElem?_cons_zero, List.getElem?_cons_succ, List.set_cons_zero, List.set_cons_succ, atI_zero, atI_one, if_true, if_false, ite_true, ite_false, Bool.false_eq_true, List.length_cons, List.length_nil, Bool.not_true, Bool.not_false, S__law_sum]
    refine ⟨trivial, .mr (μ.length + 1), (allr qs.length L).map (rowq qs), D ^ L, 184, rfl, .inr ⟨_, rfl, ?_⟩, ?_, ?_, ?_, hE0, hEb, ?_, .inr hone, by decide, ?_⟩
    · rw [hg2, List.map_map]; rfl
    · intro q hq
      obtain ⟨r, hr, rfl⟩ := List.mem_map.mp hq
      exact frac_sm (row_cm hDq hr) hE0 hE1 (row_unit hT hr).1 (k := 1) (row_unit hT hr).2 (by decide)
    · rw [List.length_map]; omega
    · rw [List.length_map]; omega
    · intro q hq
      obtain ⟨r, hr, rfl⟩ := List.mem_map.mp hq
      exact cm_den (row_cm hDq hr)
    rw [hone, show PV.tup [PV.int 1, PV.int 1] = frP 1 from rfl, eqP_fr]
    simp only [pComb, mCnt, mDNewT, mZipM, mDc, mLenSetL, mDGetT, mDGet2T, mDInT, mDPutT, mLockX, mLockEX, mKeysX, pLstX, pLenX, pMaxT, pSortT, str_to, str_ot, mPar3, mLockV, mLockE, mItemsC, mKeysC, mDGet2, pIsN, isNonP, pRepLM, mTruD, dkOfP, pPopAt, pIndex, mLstRgM, mTruth, pReprA, pLenD, pLstD, mDNew, pRepL, mLenSetN, mDIn, mSortSet, mSortSetL, mRevT, mForC, mSeqC, mLcC, pAbs, pMax2, pMin2, pInt1, mDGet, mDPut, mBM, mBM0, pPop, pAppend, pExtend, pSetL, mSub, mDisp, mPs, mPs0, mRevL, mRevLM, pLstOfM, mTupRg, mRg1, mRg2, pPlusM, lstItems, dictOfP, keyP, keysP, val_left, val_mixed, val_draws, put_draws, mLc, mLcM, mLc2, mFor, mSeqI, mRng1, mRng2, mZip, mEnum, mSl, mNoPart, mPart, mSeq, mAsg, mAsg2, mCB, mCons, mNil, mVar, mC, mOp, mUn, pU, mTup, mLst, mRet, mRetN, mLstM, getl, setl, mName, mCall, mCallK, mIf, mIfS, mTest, mAnd, mOr, mNot, mYes, mAndV, mOrV, mNotV, mNext, mNever, mBreak, mCont, mDrop, mChain, mPar, mGTup, mGCons, mGNil, pGcd, pI, pI0, pIx, pTimes, pPlus, pEq, pNe, pLen, pSum, pMaxS, pAll, pAny, pTupOf, pLstOf, pIn, pIsB, pIsi, items_tup, items_lst, items_kl, items_mr, items_tab, items_lot, items_fr, decide_true, decide_false, eqP_int, eqP_bl, eqP_str, eqP_tup2, kit_tt, kit_ii, kit_ib, tyP, mEnd, wipeP, List.map_cons, List.map_nil, List.getElem?_cons_zero, List.getElem?_cons_succ, List.set_cons_zero, List.set_cons_succ, atI_zero, atI_one, if_true, if_false, ite_true, ite_false, Bool.false_eq_true, List.length_cons, List.length_nil, Bool.not_true, Bool.not_false]
    subst hR
    refine stm_of fun R hR => ?_
    have hge : ∀ k x : MO, (μ ++ [k, x])[μ.length]? = some k := fun k x => by simp
    have hse : ∀ k k' x : MO, (μ ++ [k, x]).set μ.length k' = μ ++ [k', x] := fun k k' x => by simp
    simp only [pComb, mCnt, mDNewT, mZipM, mDc, mLenSetL, mDGetT, mDGet2T, mDInT, mDPutT, mLockX, mLockEX, mKeysX, pLstX, pLenX, pMaxT, pSortT, str_to, str_ot, mPar3, mLockV, mLockE, mItemsC, mKeysC, mDGet2, pIsN, isNonP, pRepLM, mTruD, dkOfP, pPopAt, pIndex, mLstRgM, mTruth, pReprA, pLenD, pLstD, mDNew, pRepL, mLenSetN, mDIn, mSortSet, mSortSetL, mRevT, mForC, mSeqC, mLcC, pAbs, pMax2, pMin2, pInt1, mDGet, mDPut, mBM, mBM0, pPop, pAppend, pExtend, pSetL, mSub, mDisp, mPs, mPs0, mRevL, mRevLM, pLstOfM, mTupRg, mRg1, mRg2, pPlusM, lstItems, dictOfP, keyP, keysP, val_left, val_mixed, val_draws, put_draws, mLc, mLcM, mLc2, mFor, mSeqI, mRng1, mRng2, mZip, mEnum, mSl, mNoPart, mPart, mAsg, mAsg2, mCB, mCons, mNil, mVar, mC, mOp, mUn, pU, mTup, mLst, mRet, mRetN, mLstM, getl, setl, mName, mCall, mCallK, mIf, mIfS, mTest, mAnd, mOr, mNot, mYes, mAndV, mOrV, mNotV, mNext, mNever, mBreak, mCont, mDrop, mChain, mPar, mGTup, mGCons, mGNil, pGcd, pI, pI0, pIx, pTimes, pPlus, pEq, pNe, pLen, pSum, pMaxS, pAll, pAny, pTupOf, pLstOf, pIn, pIsB, pIsi, items_tup, items_lst, items_kl, items_mr, items_tab, items_lot, items_fr, decide_true, decide_false, eqP_int, eqP_bl, eqP_str, eqP_tup2, kit_tt, kit_ii, kit_ib, tyP, mEnd, wipeP, List.map_cons, List.map_nil, List.getElem?_cons_zero, List.getElem?_cons_succ, List.set_cons_zero, List.set_cons_succ, atI_zero, atI_one, if_true, if_false, ite_true, ite_false, Bool.false_eq_true, List.length_cons, List.length_nil, Bool.not_true, Bool.not_false]
    simp only [hge, hse]
    intro o ks
    refine forC_inv (enc := fun kv : List Int × PV => tkK kv.1) (fun pre ρ μ' => (∃ y6 : Option PV, ρ = [some (tabP qs), some (.int L), some (.int (qs.length : Nat)), some (.mr μ.length), some (.mr (μ.length + 1)), y5, y6, y7, none]) ∧ μ' = μ ++ [.ft o ks kvs, .lst ((allr qs.length L).map fun r => frP (rowq qs r))]) (fun _ _ _ h => by rw [h.2]; exact hge _ _) (done := []) ⟨⟨_, rfl⟩, rfl⟩ (fun pre kv post ρ μ' e hI N hN => ?_) fun ρ μ' hI => ?_
    · obtain ⟨⟨y6, rfl⟩, rfl⟩ := hI
      have e' : kvs = pre ++ kv :: post := e
      obtain ⟨r, hr, hkv⟩ := hK.mem kv (by rw [e']; simp)
      have hval := hK.has r hr
      rw [csum_all hT hr] at hval
      have hsm : Sm 1900 (ccq qs (cts qs.length r)) := by
        rw [← csum_all hT hr]
        exact (frac_sm (csum_cm fun x hx => row_cm hDq hx) hE0 hE1 (csum_bd fun x hx => row_unit hT hx).1 (csum_bd fun x hx => row_unit hT hx).2 (by omega)).mono (by decide)
      have hsum := cts_sum (allr_lt hr)
      rw [allr_mem hr] at hsum
      rw [hkv, tk_lotA]
      simp only [pComb, mCnt, mDNewT, mZipM, mDc, mLenSetL, mDGetT, mDGet2T, mDInT, mDPutT, mLockX, mLockEX, mKeysX, pLstX, pLenX, pMaxT, pSortT, str_to, str_ot, mPar3, mLockV, mLockE, mItemsC, mKeysC, mDGet2, pIsN, isNonP, pRepLM, mTruD, dkOfP, pPopAt, pIndex, mLstRgM, mTruth, pReprA, pLenD, pLstD, mDNew, pRepL, mLenSetN, mDIn, mSortSet, mSortSetL, mRevT, mForC, mSeqC, mLcC, pAbs, pMax2, pMin2, pInt1, mDGet, mDPut, mBM, mBM0, pPop, pAppend, pExtend, pSetL, mSub, mDisp, mPs, mPs0, mRevL, mRevLM, pLstOfM, mTupRg, mRg1, mRg2, pPlusM, lstItems, dictOfP, keyP, keysP, val_left, val_mixed, val_draws, put_draws, mLc, mLcM, mLc2, mFor, mSeqI, mRng1, mRng2, mZip, mEnum, mSl, mNoPart, mPart, mAsg, mAsg2, mCB, mCons, mNil, mVar, mC, mOp, mUn, pU, mTup, mLst, mRet, mRetN, mLstM, getl, setl, mName, mCall, mCallK, mIf, mIfS, mTest, mAnd, mOr, mNot, mYes, mAndV, mOrV, mNotV, mNext, mNever, mBreak, mCont, mDrop, mChain, mPar, mGTup, mGCons, mGNil, pGcd, pI, pI0, pIx, pTimes, pPlus, pEq, pNe, pLen, pSum, pMaxS, pAll, pAny, pTupOf, pLstOf, pIn, pIsB, pIsi, items_tup, items_lst, items_kl, items_mr, items_tab, items_lot, items_fr, decide_true, decide_false, eqP_int, eqP_bl, eqP_str, eqP_tup2, kit_tt, kit_ii, kit_ib, tyP, mEnd, wipeP, List.map_cons, List.map_nil, List.getElem?_cons_zero, List.getElem?_cons_succ, List.set_cons_zero, List.set_cons_succ, atI_zero, atI_one, if_true, if_false, ite_true, ite_false, Bool.false_eq_true, List.length_cons, List.length_nil, Bool.not_true, Bool.not_false, S_counts_chance]
      refine ⟨trivial, qs, cts qs.length r, 44, rfl, hT, fun q hq => ?_, cts_len _ _, fun c hc => ?_, by rw [hsum]; omega, ?_⟩
      · exact Nat.le_trans (Nat.le_of_dvd hD0 (cm_den (hDq q hq))) (Nat.le_of_lt hD1)
      · have := cts_le c hc
        rw [allr_mem hr] at this; omega
      refine pRepr_fr hsm ?_
      rw [tdP_ft2, tkP_lotA]
      simp only [hval]
      refine pRepr_fr hsm ?_
      simp only [pComb, mCnt, mDNewT, mZipM, mDc, mLenSetL, mDGetT, mDGet2T, mDInT, mDPutT, mLockX, mLockEX, mKeysX, pLstX, pLenX, pMaxT, pSortT, str_to, str_ot, mPar3, mLockV, mLockE, mItemsC, mKeysC, mDGet2, pIsN, isNonP, pRepLM, mTruD, dkOfP, pPopAt, pIndex, mLstRgM, mTruth, pReprA, pLenD, pLstD, mDNew, pRepL, mLenSetN, mDIn, mSortSet, mSortSetL, mRevT, mForC, mSeqC, mLcC, pAbs, pMax2, pMin2, pInt1, mDGet, mDPut, mBM, mBM0, pPop, pAppend, pExtend, pSetL, mSub, mDisp, mPs, mPs0, mRevL, mRevLM, pLstOfM, mTupRg, mRg1, mRg2, pPlusM, lstItems, dictOfP, keyP, keysP, val_left, val_mixed, val_draws, put_draws, mLc, mLcM, mLc2, mFor, mSeqI, mRng1, mRng2, mZip, mEnum, mSl, mNoPart, mPart, mAsg, mAsg2, mCB, mCons, mNil, mVar, mC, mOp, mUn, pU, mTup, mLst, mRet, mRetN, mLstM, getl, setl, mName, mCall, mCallK, mIf, mIfS, mTest, mAnd, mOr, mNot, mYes, mAndV, mOrV, mNotV, mNext, mNever, mBreak, mCont, mDrop, mChain, mPar, mGTup, mGCons, mGNil, pGcd, pI, pI0, pIx, pTimes, pPlus, pEq, pNe, pLen, pSum, pMaxS, pAll, pAny, pTupOf, pLstOf, pIn, pIsB, pIsi, items_tup, items_lst, items_kl, items_mr, items_tab, items_lot, items_fr, decide_true, decide_false, eqP_int, eqP_bl, eqP_str, eqP_tup2, kit_tt, kit_ii, kit_ib, tyP, mEnd, wipeP, List.map_cons, List.map_nil, List.getElem?_cons_zero, List.getElem?_cons_succ, List.set_cons_zero, List.set_cons_succ, atI_zero, atI_one, if_true, if_false, ite_true, ite_false, Bool.false_eq_true, List.length_cons, List.length_nil, Bool.not_true, Bool.not_false, eqP_str]
      exact hN _ _ ⟨⟨_, rfl⟩, rfl⟩
    · obtain ⟨⟨y6, rfl⟩, rfl⟩ := hI
      refine ⟨hge _ _, ?_⟩
      rw [hse]
      subst hR
      simp only [pComb, mCnt, mDNewT, mZipM, mDc, mLenSetL, mDGetT, mDGet2T, mDInT, mDPutT, mLockX, mLockEX, mKeysX, pLstX, pLenX, pMaxT, pSortT, str_to, str_ot, mPar3, mLockV, mLockE, mItemsC, mKeysC, mDGet2, pIsN, isNonP, pRepLM, mTruD, dkOfP, pPopAt, pIndex, mLstRgM, mTruth, pReprA, pLenD, pLstD, mDNew, pRepL, mLenSetN, mDIn, mSortSet, mSortSetL, mRevT, mForC, mSeqC, mLcC, pAbs, pMax2, pMin2, pInt1, mDGet, mDPut, mBM, mBM0, pPop, pAppend, pExtend, pSetL, mSub, mDisp, mPs, mPs0, mRevL, mRevLM, pLstOfM, mTupRg, mRg1, mRg2, pPlusM, lstItems, dictOfP, keyP, keysP, val_left, val_mixed, val_draws, put_draws, mLc, mLcM, mLc2, mFor, mSeqI, mRng1, mRng2, mZip, mEnum, mSl, mNoPart, mPart, mSeq, mAsg, mAsg2, mCB, mCons, mNil, mVar, mC, mOp, mUn, pU, mTup, mLst, mRet, mRetN, mLstM, getl, setl, mName, mCall, mCallK, mIf, mIfS, mTest, mAnd, mOr, mNot, mYes, mAndV, mOrV, mNotV, mNext, mNever, mBreak, mCont, mDrop, mChain, mPar, mGTup, mGCons, mGNil, pGcd, pI, pI0, pIx, pTimes, pPlus, pEq, pNe, pLen, pSum, pMaxS, pAll, pAny, pTupOf, pLstOf, pIn, pIsB, pIsi, items_tup, items_lst, items_kl, items_mr, items_tab, items_lot, items_fr, decide_true, decide_false, eqP_int, eqP_bl, eqP_str, eqP_tup2, kit_tt, kit_ii, kit_ib, tyP, mEnd, wipeP, List.map_cons, List.map_nil, List.getElem?_cons_zero, List.getElem?_cons_succ, List.set_cons_zero, List.set_cons_succ, atI_zero, atI_one, if_true, if_false, ite_true, ite_false, Bool.false_eq_true, List.length_cons, List.length_nil, Bool.not_true, Bool.not_false]
      exact fin_drop rfl hQ
abbrev N__law_all_counts : List Str := ["_law_n", "_law_whole", "_law_found", "_law_first", "_law_rest"]
theorem sc__law_all_counts : FnScope N__law_all_counts ["_law_n", "_law_whole"] (defScope s__law_all_counts) := ⟨rfl, rfl, rfl, by decide +kernel, rfl, by decide +kernel, by decide +kernel⟩
theorem ok__law_all_counts_step (dd : Nat) (B : Blt mg) (h__law_all_counts : Own K mg "_law_all_counts" s__law_all_counts) (k__law_all_counts : Ok P w K mg base (1 + dd) "_law_all_counts" s__law_all_counts ["_law_n", "_law_whole"] (S__law_all_counts_n dd)) : Ok P w K mg base (1 + dd + 1) "_law_all_counts" s__law_all_counts ["_law_n", "_law_whole"] (S__law_all_counts_n (dd + 1)) := by
  obtain ⟨f_s, fd_s, F_s, g_s⟩ := h__law_all_counts
  obtain ⟨f__law_all_counts, fd__law_all_counts, F__law_all_counts, g__law_all_counts, b__law_all_counts, G__law_all_counts⟩ := k__law_all_counts
  refine ⟨f_s, fd_s, F_s, g_s, F_s.binds (fun _ _ _ _ _ _ us hl => match us, hl with | [_, _], _ => rfl), FnG.of F_s sc__law_all_counts (fun xs μ Q h => by first | exact h.1 | exact h.2.1 | (obtain ⟨⟩ := h)) fun cdv A outer s H hr hgd => ⟨_, _, (pss_cons (ps_if (pt_cmpR (op_eqX hr.units) (pv 0) pe_int (nomark _))
 (pss_one (ps_ret (pe_lst (pa_cons (pe_tupF (pa_cons (pv 1) pa_nil)) pa_nil))))
 pss_nil)
 (pss_cons (ps_set (i := 2) sc__law_all_counts.nd rfl (Or.inl rfl) (peLM (pe_lst pa_nil)))
 (pss_cons (ps_for PassesOwn.never rfl (pi_range1 (by rfl) (B "range" (by decide)) (pa_cons (pe_op op_plus (pv 1) pe_int) pa_nil)) (pg_name (i := 3) sc__law_all_counts.nd rfl (Or.inr rfl))
 (pss_one (ps_expr (pe_bm PySem.F.plainAttrs_list PySem.F.slot_list_extend PySem.F.type_list_extend mt_extend (pv 2) (pa_cons (pe_lc (own := [("_law_rest", 4)]) (by rfl) sc__law_all_counts.nd (pi_seq (pe_callG (G__law_all_counts.mono (by omega)) hr hgd (by rfl) g__law_all_counts F__law_all_counts.kp b__law_all_counts (pa_cons (pe_op op_sub (pv 0) pe_int) (pa_cons (pe_op op_sub (pv 1) (pv 3)) pa_nil)))) (blkOk_by (own := [("_law_rest", 4)]) (N := N__law_all_counts) (sc := defScope s__law_all_counts) (by decide +kernel)) (fun _ _ _ _ _ => (pg_name (i := 4) sc__law_all_counts.nd rfl (Or.inl rfl))) (fun _ _ _ _ _ => pts_nil) (fun _ _ _ _ _ => (pe_op (opk_plus K rfl) (pe_tupF (pa_cons (pv 3) pa_nil)) (pv 4)))) pa_nil)))))
 (pss_one (ps_ret (pv 2)))))), (by (try dsimp only [cxOf]); exact inferInstance), ?_⟩⟩
  intro xs μ Q hS
  obtain ⟨_, _, n, w, rfl, h1, hd, h10, hp, hw, hQ⟩ := hS
  rw [show startP N__law_all_counts [.int n, .int w] = [some (.int n), some (.int w), none, none, none] from rfl]
  refine stm_of fun R hR => ?_
  simp only [pComb, mCnt, mDNewT, mZipM, mDc, mLenSetL, mDGetT, mDGet2T, mDInT, mDPutT, mLockX, mLockEX, mKeysX, pLstX, pLenX, pMaxT, pSortT, str_to, str_ot, mPar3, mLockV, mLockE, mItemsC, mKeysC, mDGet2, pIsN, isNonP, pRepLM, mTruD, dkOfP, pPopAt, pIndex, mLstRgM, mTruth, pReprA, pLenD, pLstD, mDNew, pRepL, mLenSetN, mDIn, mSortSet, mSortSetL, mRevT, mForC, mSeqC, mLcC, pAbs, pMax2, pMin2, pInt1, mDGet, mDPut, mBM, mBM0, pPop, pAppend, pExtend, pSetL, mSub, mDisp, mPs, mPs0, mRevL, mRevLM, pLstOfM, mTupRg, mRg1, mRg2, pPlusM, lstItems, dictOfP, keyP, keysP, val_left, val_mixed, val_draws, put_draws, mLc, mLcM, mLc2, mFor, mSeqI, mRng1, mRng2, mZip, mEnum, mSl, mNoPart, mPart, mSeq, mAsg, mAsg2, mCB, mCons, mNil, mVar, mC, mOp, mUn, pU, mTup, mLst, mRet, mRetN, mLstM, getl, setl, mName, mCall, mCallK, mIf, mIfS, mTest, mAnd, mOr, mNot, mYes, mAndV, mOrV, mNotV, mNext, mNever, mBreak, mCont, mDrop, mChain, mPar, mGTup, mGCons, mGNil, pGcd, pI, pI0, pIx, pTimes, pPlus, pEq, pNe, pLen, pSum, pMaxS, pAll, pAny, pTupOf, pLstOf, pIn, pIsB, pIsi, items_tup, items_lst, items_kl, items_mr, items_tab, items_lot, items_fr, decide_true, decide_false, eqP_int, eqP_bl, eqP_str, eqP_tup2, kit_tt, kit_ii, kit_ib, tyP, mEnd, wipeP, List.map_cons, List.map_nil, List.getElem?_cons_zero, List.getElem?_cons_succ, List.set_cons_zero, List.set_cons_succ, atI_zero, atI_one, if_true, if_false, ite_true, ite_false, Bool.false_eq_true, List.length_cons, List.length_nil, Bool.not_true, Bool.not_false]
  by_cases c1 : n = 1
  · subst c1
    rw [if_pos (by decide)]
    exact ⟨by decide, by decide, fin_keep hQ⟩
  rw [if_neg (by simpa using (by omega : ¬ ((n : Nat) : Int) = 1))]
  obtain ⟨k, rfl⟩ : ∃ k, n = k + 2 := ⟨n - 2, by omega⟩
  subst hR
  refine stm_of fun R hR => ?_
  simp only [pComb, mCnt, mDNewT, mZipM, mDc, mLenSetL, mDGetT, mDGet2T, mDInT, mDPutT, mLockX, mLockEX, mKeysX, pLstX, pLenX, pMaxT, pSortT, str_to, str_ot, mPar3, mLockV, mLockE, mItemsC, mKeysC, mDGet2, pIsN, isNonP, pRepLM, mTruD, dkOfP, pPopAt, pIndex, mLstRgM, mTruth, pReprA, pLenD, pLstD, mDNew, pRepL, mLenSetN, mDIn, mSortSet, mSortSetL, mRevT, mForC, mSeqC, mLcC, pAbs, pMax2, pMin2, pInt1, mDGet, mDPut, mBM, mBM0, pPop, pAppend, pExtend, pSetL, mSub, mDisp, mPs, mPs0, mRevL, mRevLM, pLstOfM, mTupRg, mRg1, mRg2, pPlusM, lstItems, dictOfP, keyP, keysP, val_left, val_mixed, val_draws, put_draws, mLc, mLcM, mLc2, mFor, mSeqI, mRng1, mRng2, mZip, mEnum, mSl, mNoPart, mPart, mSeq, mAsg, mAsg2, mCB, mCons, mNil, mVar, mC, mOp, mUn, pU, mTup, mLst, mRet, mRetN, mLstM, getl, setl, mName, mCall, mCallK, mIf, mIfS, mTest, mAnd, mOr, mNot, mYes, mAndV, mOrV, mNotV, mNext, mNever, mBreak, mCont, mDrop, mChain, mPar, mGTup, mGCons, mGNil, pGcd, pI, pI0, pIx, pTimes, pPlus, pEq, pNe, pLen, pSum, pMaxS, pAll, pAny, pTupOf, pLstOf, pIn, pIsB, pIsi, items_tup, items_lst, items_kl, items_mr, items_tab, items_lot, items_fr, decide_true, decide_false, eqP_int, eqP_bl, eqP_str, eqP_tup2, kit_tt, kit_ii, kit_ib, tyP, mEnd, wipeP, List.map_cons, List.map_nil, List.getElem?_cons_zero, List.getElem?_cons_succ, List.set_cons_zero, List.set_cons_succ, atI_zero, atI_one, if_true, if_false, ite_true, ite_false, Bool.false_eq_true, List.length_cons, List.length_nil, Bool.not_true, Bool.not_false]
  refine ⟨by decide, ?_⟩
  subst hR
  refine stm_of fun R hR => ?_
  simp only [pComb, mCnt, mDNewT, mZipM, mDc, mLenSetL, mDGetT, mDGet2T, mDInT, mDPutT, mLockX, mLockEX, mKeysX, pLstX, pLenX, pMaxT, pSortT, str_to, str_ot, mPar3, mLockV, mLockE, mItemsC, mKeysC, mDGet2, pIsN, isNonP, pRepLM, mTruD, dkOfP, pPopAt, pIndex, mLstRgM, mTruth, pReprA, pLenD, pLstD, mDNew, pRepL, mLenSetN, mDIn, mSortSet, mSortSetL, mRevT, mForC, mSeqC, mLcC, pAbs, pMax2, pMin2, pInt1, mDGet, mDPut, mBM, mBM0, pPop, pAppend, pExtend, pSetL, mSub, mDisp, mPs, mPs0, mRevL, mRevLM, pLstOfM, mTupRg, mRg1, mRg2, pPlusM, lstItems, dictOfP, keyP, keysP, val_left, val_mixed, val_draws, put_draws, mLc, mLcM, mLc2, mFor, mSeqI, mRng1, mRng2, mZip, mEnum, mSl, mNoPart, mPart, mAsg, mAsg2, mCB, mCons, mNil, mVar, mC, mOp, mUn, pU, mTup, mLst, mRet, mRetN, mLstM, getl, setl, mName, mCall, mCallK, mIf, mIfS, mTest, mAnd, mOr, mNot, mYes, mAndV, mOrV, mNotV, mNext, mNever, mBreak, mCont, mDrop, mChain, mPar, mGTup, mGCons, mGNil, pGcd, pI, pI0, pIx, pTimes, pPlus, pEq, pNe, pLen, pSum, pMaxS, pAll, pAny, pTupOf, pLstOf, pIn, pIsB, pIsi, items_tup, items_lst, items_kl, items_mr, items_tab, items_lot, items_fr, decide_true, decide_false, eqP_int, eqP_bl, eqP_str, eqP_tup2, kit_tt, kit_ii, kit_ib, tyP, mEnd, wipeP, List.map_cons, List.map_nil, List.getElem?_cons_zero, List.getElem?_cons_succ, List.set_cons_zero, List.set_cons_succ, atI_zero, atI_one, if_true, if_false, ite_true, ite_false, Bool.false_eq_true, List.length_cons, List.length_nil, Bool.not_true, Bool.not_false]
  rw [show ((w : Nat) : Int) + 1 = ((w + 1 : Nat) : Int) by omega, Int.toNat_natCast, rangeP_eq]
  have hgt : ∀ l : List PV, (μ ++ [MO.lst l])[μ.length]? = some (MO.lst l) := fun l => by simp
  have hst : ∀ (l l' : List PV), (μ ++ [MO.lst l]).set μ.length (MO.lst l') = μ ++ [MO.lst l'] := fun l l' => by simp
  refine ⟨by omega, for_inv (enc := fun (i : Nat) => PV.int i) (fun pre ρ μ' => (∃ y3 y4 : Option PV, ρ = [some (.int (k + 2 : Nat)), some (.int (w : Nat)), some (.mr μ.length), y3, y4]) ∧ μ' = μ ++ [.lst ((pre.flatMap fun f => (allc (k + 1) (w - f)).map (f :: ·)).map lotP)] ∧ (pre.flatMap fun f => (allc (k + 1) (w - f)).map (f :: ·)).length ≤ pre.length * (w + 1) ^ (k + 1)) (done := []) ⟨⟨none, none, rfl⟩, rfl, by simp⟩ (fun pre f post ρ μ' e hI N hN => ?_) fun ρ μ' hI => ?_⟩
  · obtain ⟨⟨y3, y4, rfl⟩, rfl, hln⟩ := hI
    obtain ⟨ef, hf⟩ := range_split (show List.range (w + 1) = pre ++ f :: post from e)
    subst ef
    have hle : (w - pre.length + 1) ^ (k + 1) ≤ (w + 1) ^ (k + 1) := Nat.pow_le_pow_left (by omega) _
    have hle2 : (w + 1) ^ (k + 1) ≤ (w + 1) ^ (k + 2) := Nat.pow_le_pow_right (by omega) (by omega)
    simp only [pComb, mCnt, mDNewT, mZipM, mDc, mLenSetL, mDGetT, mDGet2T, mDInT, mDPutT, mLockX, mLockEX, mKeysX, pLstX, pLenX, pMaxT, pSortT, str_to, str_ot, mPar3, mLockV, mLockE, mItemsC, mKeysC, mDGet2, pIsN, isNonP, pRepLM, mTruD, dkOfP, pPopAt, pIndex, mLstRgM, mTruth, pReprA, pLenD, pLstD, mDNew, pRepL, mLenSetN, mDIn, mSortSet, mSortSetL, mRevT, mForC, mSeqC, mLcC, pAbs, pMax2, pMin2, pInt1, mDGet, mDPut, mBM, mBM0, pPop, pAppend, pExtend, pSetL, mSub, mDisp, mPs, mPs0, mRevL, mRevLM, pLstOfM, mTupRg, mRg1, mRg2, pPlusM, lstItems, dictOfP, keyP, keysP, val_left, val_mixed, val_draws, put_draws, mLc, mLcM, mLc2, mFor, mSeqI, mRng1, mRng2, mZip, mEnum, mSl, mNoPart, mPart, mAsg, mAsg2, mCB, mCons, mNil, mVar, mC, mOp, mUn, pU, mTup, mLst, mRet, mRetN, mLstM, getl, setl, mName, mCall, mCallK, mIf, mIfS, mTest, mAnd, mOr, mNot, mYes, mAndV, mOrV, mNotV, mNext, mNever, mBreak, mCont, mDrop, mChain, mPar, mGTup, mGCons, mGNil, pGcd, pI, pI0, pIx, pTimes, pPlus, pEq, pNe, pLen, pSum, pMaxS, pAll, pAny, pTupOf, pLstOf, pIn, pIsB, pIsi, items_tup, items_lst, items_kl, items_mr, items_tab, items_lot, items_fr, decide_true, decide_false, eqP_int, eqP_bl, eqP_str, eqP_tup2, kit_tt, kit_ii, kit_ib, tyP, mEnd, wipeP, List.map_cons, List.map_nil, List.getElem?_cons_zero, List.getElem?_cons_succ, List.set_cons_zero, List.set_cons_succ, atI_zero, atI_one, if_true, if_false, ite_true, ite_false, Bool.false_eq_true, List.length_cons, List.length_nil, Bool.not_true, Bool.not_false]
    rw [show ((k + 2 : Nat) : Int) - 1 = ((k + 1 : Nat) : Int) by omega, show ((w : Nat) : Int) - ((pre.length : Nat) : Int) = ((w - pre.length : Nat) : Int) by omega]
    have hal := allc_len k (w - pre.length)
    have hm : (pre.length + 1) * (w + 1) ^ (k + 1) ≤ (w + 1) * (w + 1) ^ (k + 1) := Nat.mul_le_mul_right _ (by omega)
    rw [show (w + 1) * (w + 1) ^ (k + 1) = (w + 1) ^ (k + 2) by rw [Nat.pow_succ (w + 1) (k + 1), Nat.mul_comm], Nat.succ_mul] at hm
    refine ⟨by decide, by omega, rfl, k + 1, w - pre.length, rfl, by omega, by omega, by omega, by omega, by omega, ?_⟩
    simp only [pComb, mCnt, mDNewT, mZipM, mDc, mLenSetL, mDGetT, mDGet2T, mDInT, mDPutT, mLockX, mLockEX, mKeysX, pLstX, pLenX, pMaxT, pSortT, str_to, str_ot, mPar3, mLockV, mLockE, mItemsC, mKeysC, mDGet2, pIsN, isNonP, pRepLM, mTruD, dkOfP, pPopAt, pIndex, mLstRgM, mTruth, pReprA, pLenD, pLstD, mDNew, pRepL, mLenSetN, mDIn, mSortSet, mSortSetL, mRevT, mForC, mSeqC, mLcC, pAbs, pMax2, pMin2, pInt1, mDGet, mDPut, mBM, mBM0, pPop, pAppend, pExtend, pSetL, mSub, mDisp, mPs, mPs0, mRevL, mRevLM, pLstOfM, mTupRg, mRg1, mRg2, pPlusM, lstItems, dictOfP, keyP, keysP, val_left, val_mixed, val_draws, put_draws, mLc, mLcM, mLc2, mFor, mSeqI, mRng1, mRng2, mZip, mEnum, mSl, mNoPart, mPart, mAsg, mAsg2, mCB, mCons, mNil, mVar, mC, mOp, mUn, pU, mTup, mLst, mRet, mRetN, mLstM, getl, setl, mName, mCall, mCallK, mIf, mIfS, mTest, mAnd, mOr, mNot, mYes, mAndV, mOrV, mNotV, mNext, mNever, mBreak, mCont, mDrop, mChain, mPar, mGTup, mGCons, mGNil, pGcd, pI, pI0, pIx, pTimes, pPlus, pEq, pNe, pLen, pSum, pMaxS, pAll, pAny, pTupOf, pLstOf, pIn, pIsB, pIsi, items_tup, items_lst, items_kl, items_mr, items_tab, items_lot, items_fr, decide_true, decide_false, eqP_int, eqP_bl, eqP_str, eqP_tup2, kit_tt, kit_ii, kit_ib, tyP, mEnd, wipeP, List.map_cons, List.map_nil, List.getElem?_cons_zero, List.getElem?_cons_succ, List.set_cons_zero, List.set_cons_succ, atI_zero, atI_one, if_true, if_false, ite_true, ite_false, Bool.false_eq_true, List.length_cons, List.length_nil, Bool.not_true, Bool.not_false]
    refine ⟨by rw [List.length_map]; unfold lim; omega, lc_map (enc := lotP) (out := fun c => lotP (pre.length :: c)) (fun c hc kk hk => ?_) ?_⟩
    · have := (allc_sum hc).2
      simp only [pComb, mCnt, mDNewT, mZipM, mDc, mLenSetL, mDGetT, mDGet2T, mDInT, mDPutT, mLockX, mLockEX, mKeysX, pLstX, pLenX, pMaxT, pSortT, str_to, str_ot, mPar3, mLockV, mLockE, mItemsC, mKeysC, mDGet2, pIsN, isNonP, pRepLM, mTruD, dkOfP, pPopAt, pIndex, mLstRgM, mTruth, pReprA, pLenD, pLstD, mDNew, pRepL, mLenSetN, mDIn, mSortSet, mSortSetL, mRevT, mForC, mSeqC, mLcC, pAbs, pMax2, pMin2, pInt1, mDGet, mDPut, mBM, mBM0, pPop, pAppend, pExtend, pSetL, mSub, mDisp, mPs, mPs0, mRevL, mRevLM, pLstOfM, mTupRg, mRg1, mRg2, pPlusM, lstItems, dictOfP, keyP, keysP, val_left, val_mixed, val_draws, put_draws, mLc, mLcM, mLc2, mFor, mSeqI, mRng1, mRng2, mZip, mEnum, mSl, mNoPart, mPart, mSeq, mAsg, mAsg2, mCB, mCons, mNil, mVar, mC, mOp, mUn, pU, mTup, mLst, mRet, mRetN, mLstM, getl, setl, mName, mCall, mCallK, mIf, mIfS, mTest, mAnd, mOr, mNot, mYes, mAndV, mOrV, mNotV, mNext, mNever, mBreak, mCont, mDrop, mChain, mPar, mGTup, mGCons, mGNil, pGcd, pI, pI0, pIx, pTimes, pPlus, pEq, pNe, pLen, pSum, pMaxS, pAll, pAny, pTupOf, pLstOf, pIn, pIsB, pIsi, items_tup, items_lst, items_kl, items_mr, items_tab, items_lot, items_fr, decide_true, decide_false, eqP_int, eqP_bl, eqP_str, eqP_tup2, kit_tt, kit_ii, kit_ib, tyP, mEnd, wipeP, List.map_cons, List.map_nil, List.getElem?_cons_zero, List.getElem?_cons_succ, List.set_cons_zero, List.set_cons_succ, atI_zero, atI_one, if_true, if_false, ite_true, ite_false, Bool.false_eq_true, List.length_cons, List.length_nil, Bool.not_true, Bool.not_false, lotP]
      refine ⟨by decide, by rw [List.length_map, this]; unfold lim; omega, hk⟩
    · rw [List.nil_append]
      simp only [pComb, mCnt, mDNewT, mZipM, mDc, mLenSetL, mDGetT, mDGet2T, mDInT, mDPutT, mLockX, mLockEX, mKeysX, pLstX, pLenX, pMaxT, pSortT, str_to, str_ot, mPar3, mLockV, mLockE, mItemsC, mKeysC, mDGet2, pIsN, isNonP, pRepLM, mTruD, dkOfP, pPopAt, pIndex, mLstRgM, mTruth, pReprA, pLenD, pLstD, mDNew, pRepL, mLenSetN, mDIn, mSortSet, mSortSetL, mRevT, mForC, mSeqC, mLcC, pAbs, pMax2, pMin2, pInt1, mDGet, mDPut, mBM, mBM0, pPop, pAppend, pExtend, pSetL, mSub, mDisp, mPs, mPs0, mRevL, mRevLM, pLstOfM, mTupRg, mRg1, mRg2, pPlusM, lstItems, dictOfP, keyP, keysP, val_left, val_mixed, val_draws, put_draws, mLc, mLcM, mLc2, mFor, mSeqI, mRng1, mRng2, mZip, mEnum, mSl, mNoPart, mPart, mAsg, mAsg2, mCB, mCons, mNil, mVar, mC, mOp, mUn, pU, mTup, mLst, mRet, mRetN, mLstM, getl, setl, mName, mCall, mCallK, mIf, mIfS, mTest, mAnd, mOr, mNot, mYes, mAndV, mOrV, mNotV, mNext, mNever, mBreak, mCont, mDrop, mChain, mPar, mGTup, mGCons, mGNil, pGcd, pI, pI0, pIx, pTimes, pPlus, pEq, pNe, pLen, pSum, pMaxS, pAll, pAny, pTupOf, pLstOf, pIn, pIsB, pIsi, items_tup, items_lst, items_kl, items_mr, items_tab, items_lot, items_fr, decide_true, decide_false, eqP_int, eqP_bl, eqP_str, eqP_tup2, kit_tt, kit_ii, kit_ib, tyP, mEnd, wipeP, List.map_cons, List.map_nil, List.getElem?_cons_zero, List.getElem?_cons_succ, List.set_cons_zero, List.set_cons_succ, atI_zero, atI_one, if_true, if_false, ite_true, ite_false, Bool.false_eq_true, List.length_cons, List.length_nil, Bool.not_true, Bool.not_false, hgt, hst]
      refine ⟨by rw [List.length_map, List.length_map]; unfold lim; omega, hN _ _ ⟨⟨_, _, rfl⟩, ?_, ?_⟩⟩
      · rw [List.flatMap_append, List.map_append, List.flatMap_cons, List.flatMap_nil, List.append_nil, List.map_map]
        rfl
      · rw [List.flatMap_append, List.length_append, List.flatMap_cons, List.flatMap_nil, List.append_nil, List.length_map, List.length_append, List.length_singleton, Nat.succ_mul]
        omega
  · obtain ⟨⟨y3, y4, rfl⟩, rfl, hln⟩ := hI
    rw [List.nil_append]
    show R _ _
    subst hR
    simp only [pComb, mCnt, mDNewT, mZipM, mDc, mLenSetL, mDGetT, mDGet2T, mDInT, mDPutT, mLockX, mLockEX, mKeysX, pLstX, pLenX, pMaxT, pSortT, str_to, str_ot, mPar3, mLockV, mLockE, mItemsC, mKeysC, mDGet2, pIsN, isNonP, pRepLM, mTruD, dkOfP, pPopAt, pIndex, mLstRgM, mTruth, pReprA, pLenD, pLstD, mDNew, pRepL, mLenSetN, mDIn, mSortSet, mSortSetL, mRevT, mForC, mSeqC, mLcC, pAbs, pMax2, pMin2, pInt1, mDGet, mDPut, mBM, mBM0, pPop, pAppend, pExtend, pSetL, mSub, mDisp, mPs, mPs0, mRevL, mRevLM, pLstOfM, mTupRg, mRg1, mRg2, pPlusM, lstItems, dictOfP, keyP, keysP, val_left, val_mixed, val_draws, put_draws, mLc, mLcM, mLc2, mFor, mSeqI, mRng1, mRng2, mZip, mEnum, mSl, mNoPart, mPart, mSeq, mAsg, mAsg2, mCB, mCons, mNil, mVar, mC, mOp, mUn, pU, mTup, mLst, mRet, mRetN, mLstM, getl, setl, mName, mCall, mCallK, mIf, mIfS, mTest, mAnd, mOr, mNot, mYes, mAndV, mOrV, mNotV, mNext, mNever, mBreak, mCont, mDrop, mChain, mPar, mGTup, mGCons, mGNil, pGcd, pI, pI0, pIx, pTimes, pPlus, pEq, pNe, pLen, pSum, pMaxS, pAll, pAny, pTupOf, pLstOf, pIn, pIsB, pIsi, items_tup, items_lst, items_kl, items_mr, items_tab, items_lot, items_fr, decide_true, decide_false, eqP_int, eqP_bl, eqP_str, eqP_tup2, kit_tt, kit_ii, kit_ib, tyP, mEnd, wipeP, List.map_cons, List.map_nil, List.getElem?_cons_zero, List.getElem?_cons_succ, List.set_cons_zero, List.set_cons_succ, atI_zero, atI_one, if_true, if_false, ite_true, ite_false, Bool.false_eq_true, List.length_cons, List.length_nil, Bool.not_true, Bool.not_false]
    have := fin_frozg (μ0 := μ) (g := []) (noRefs_lots (allc (k + 2) w)) hQ
    simp only [List.append_nil, List.length_nil, Nat.add_zero] at this
    exact this
theorem ok__law_all_counts (B : Blt mg) (h__law_all_counts : Own K mg "_law_all_counts" s__law_all_counts) : Ok P w K mg base 11 "_law_all_counts" s__law_all_counts ["_law_n", "_law_whole"] S__law_all_counts := by
  have key : ∀ dd, Ok P w K mg base (1 + dd) "_law_all_counts" s__law_all_counts ["_law_n", "_law_whole"] (S__law_all_counts_n dd) := by
    intro dd
    induction dd with
    | zero =>
      obtain ⟨f_s, fd_s, F_s, g_s⟩ := h__law_all_counts
      exact ⟨f_s, fd_s, F_s, g_s, F_s.binds (fun _ _ _ _ _ _ us hl => match us, hl with | [_, _], _ => rfl), ⟨fun xs μ Q h => absurd h.1 (Nat.lt_irrefl 0), fun _ _ _ _ _ _ _ _ _ _ _ _ _ _ _ _ _ _ q => absurd q.1 (Nat.lt_irrefl 0)⟩⟩
    | succ dd ih => exact ok__law_all_counts_step dd B h__law_all_counts ih
  exact key 10
abbrev N_law : List Str := ["_law_script", "_law_deck_here", "_law_table_here", "_law_n", "_law_one", "_law_other", "_law_told", "_law_due", "_law_some", "_law_counts", "_law_whole", "_law_names", "_law_many", "_law_rest", "_law_parted", "_law_first", "_law_turn", "_law_i", "_law_it"]
theorem sc_law : FnScope N_law ["_law_script"] (defScope s_law) := ⟨rfl, rfl, rfl, by decide +kernel, rfl, by decide +kernel, by decide +kernel⟩
theorem ok_law (B : Blt mg) (h_law : Own K mg "law" s_law) (k__law_deck : Ok P w K mg base 1 "_law_deck" s__law_deck ["_law_script", "_law_number"] S__law_deck) (k__law_some_table : Ok P w K mg base 5 "_law_some_table" s__law_some_table ["_law_deck_here"] S__law_some_table) (k__law_pick : Ok P w K mg base 2 "_law_pick" s__law_pick ["_law_deck_here", "_law_some"] S__law_pick) (k__law_draw : Ok P w K mg base 1 "_law_draw" s__law_draw ["_law_deck_here", "_law_many"] S__law_draw) (k_row_chance : Ok P w K mg base 7 "row_chance" s_row_chance ["table", "row"] S_row_chance) (k__law_row_chance : Ok P w K mg base 3 "_law_row_chance" s__law_row_chance ["_law_table_here", "_law_row"] S__law_row_chance) (k__law_times : Ok P w K mg base 3 "_law_times" s__law_times ["_law_one", "_law_other"] S__law_times) (k__law_is_far : Ok P w K mg base 1 "_law_is_far" s__law_is_far ["_law_table_here", "_law_most"] S__law_is_far) (k_counts_chance : Ok P w K mg base 7 "counts_chance" s_counts_chance ["table", "counts"] S_counts_chance) (k__law_counts_chance : Ok P w K mg base 4 "_law_counts_chance" s__law_counts_chance ["_law_table_here", "_law_counts"] S__law_counts_chance) (k__law_sum : Ok P w K mg base 3 "_law_sum" s__law_sum ["_law_some"] S__law_sum) (k__law_all_counts : Ok P w K mg base 11 "_law_all_counts" s__law_all_counts ["_law_n", "_law_whole"] S__law_all_counts) (k__law_are_sums_right : Ok P w K mg base 8 "_law_are_sums_right" s__law_are_sums_right ["_law_table_here", "_law_length"] S__law_are_sums_right) (k_renamed : Ok P w K mg base 7 "renamed" s_renamed ["table", "names"] S_renamed) (nd : PySem.W.nsIn K cStatics "sys.int_max_str_digits" = some none) : Ok P w K mg base 12 "law" s_law ["_law_script"] S_law := by
  obtain ⟨f_s, fd_s, F_s, g_s⟩ := h_law
  obtain ⟨f__law_deck, fd__law_deck, F__law_deck, g__law_deck, b__law_deck, G__law_deck⟩ := k__law_deck
  obtain ⟨f__law_some_table, fd__law_some_table, F__law_some_table, g__law_some_table, b__law_some_table, G__law_some_table⟩ := k__law_some_table
  obtain ⟨f__law_pick, fd__law_pick, F__law_pick, g__law_pick, b__law_pick, G__law_pick⟩ := k__law_pick
  obtain ⟨f__law_draw, fd__law_draw, F__law_draw, g__law_draw, b__law_draw, G__law_draw⟩ := k__law_draw
  obtain ⟨f_row_chance, fd_row_chance, F_row_chance, g_row_chance, b_row_chance, G_row_chance⟩ := k_row_chance
  obtain ⟨f__law_row_chance, fd__law_row_chance, F__law_row_chance, g__law_row_chance, b__law_row_chance, G__law_row_chance⟩ := k__law_row_chance
  obtain ⟨f__law_times, fd__law_times, F__law_times, g__law_times, b__law_times, G__law_times⟩ := k__law_times
  obtain ⟨f__law_is_far, fd__law_is_far, F__law_is_far, g__law_is_far, b__law_is_far, G__law_is_far⟩ := k__law_is_far
  obtain ⟨f_counts_chance, fd_counts_chance, F_counts_chance, g_counts_chance, b_counts_chance, G_counts_chance⟩ := k_counts_chance
  obtain ⟨f__law_counts_chance, fd__law_counts_chance, F__law_counts_chance, g__law_counts_chance, b__law_counts_chance, G__law_counts_chance⟩ := k__law_counts_chance
  obtain ⟨f__law_sum, fd__law_sum, F__law_sum, g__law_sum, b__law_sum, G__law_sum⟩ := k__law_sum
  obtain ⟨f__law_all_counts, fd__law_all_counts, F__law_all_counts, g__law_all_counts, b__law_all_counts, G__law_all_counts⟩ := k__law_all_counts
  obtain ⟨f__law_are_sums_right, fd__law_are_sums_right, F__law_are_sums_right, g__law_are_sums_right, b__law_are_sums_right, G__law_are_sums_right⟩ := k__law_are_sums_right
  obtain ⟨f_renamed, fd_renamed, F_renamed, g_renamed, b_renamed, G_renamed⟩ := k_renamed
  have kb_row_chance_row_table : KBs fd_row_chance ["table", "row"] ["row", "table"] 0 [1, 0] := kbs_mk F_row_chance fun _ _ _ _ _ _ us ws hu hw => match us, ws, hu, hw with | [], [_, _], _, _ => rfl
  have kb_counts_chance_counts_table : KBs fd_counts_chance ["table", "counts"] ["counts", "table"] 0 [1, 0] := kbs_mk F_counts_chance fun _ _ _ _ _ _ us ws hu hw => match us, ws, hu, hw with | [], [_, _], _, _ => rfl
  refine ⟨f_s, fd_s, F_s, g_s, F_s.binds (fun _ _ _ _ _ _ us hl => match us, hl with | [_], _ => rfl), FnG.of F_s sc_law (fun xs μ Q h => by first | exact h.1 | exact h.2.1 | (obtain ⟨⟩ := h)) fun cdv A outer s H hr hgd => ⟨_, _, (pss_cons (ps_set (i := 1) sc_law.nd rfl (Or.inr rfl) (pe_callG (G__law_deck.mono (by decide)) hr hgd (by rfl) g__law_deck F__law_deck.kp b__law_deck (pa_cons (pv 0) (pa_cons pe_int pa_nil))))
 (pss_cons (ps_set (i := 2) sc_law.nd rfl (Or.inr rfl) (pe_callG (G__law_some_table.mono (by decide)) hr hgd (by rfl) g__law_some_table F__law_some_table.kp b__law_some_table (pa_cons (pv 1) pa_nil)))
 (pss_cons (ps_set (i := 3) sc_law.nd rfl (Or.inr rfl) (pe_callB cb_len (by rfl) (B "len" (by decide)) (by decide +kernel) (pa_cons (pv 2) pa_nil)))
 (pss_cons (ps_set (i := 4) sc_law.nd rfl (Or.inr rfl) (pe_callTy cb_tup (by rfl) (B "tuple" (by decide)) (by decide +kernel) (pa_cons (pe_lc (own := [("_law_turn", 16)]) (by rfl) sc_law.nd (pi_range1 (by rfl) (B "range" (by decide)) (pa_cons (pe_callG (G__law_pick.mono (by decide)) hr hgd (by rfl) g__law_pick F__law_pick.kp b__law_pick (pa_cons (pv 1) (pa_cons (pe_lst (pa_cons pe_int (pa_cons pe_int (pa_cons pe_int (pa_cons pe_int (pa_cons pe_int pa_nil)))))) pa_nil))) pa_nil)) (blkOk_by (own := [("_law_turn", 16)]) (N := N_law) (sc := defScope s_law) (by decide +kernel)) (fun _ _ _ _ _ => (pg_name (i := 16) sc_law.nd rfl (Or.inl rfl))) (fun _ _ _ _ _ => pts_nil) (fun _ _ _ _ _ => (pek_call K rfl (G__law_draw.mono (by decide)) hr hgd (by rfl) g__law_draw F__law_draw.kp b__law_draw (pa_cons (pv 1) (pa_cons (pv 3) pa_nil))))) pa_nil)))
 (pss_cons (ps_set (i := 5) sc_law.nd rfl (Or.inl rfl) (pe_callTy cb_tup (by rfl) (B "tuple" (by decide)) (by decide +kernel) (pa_cons (pe_lc (own := [("_law_turn", 16)]) (by rfl) sc_law.nd (pi_range1 (by rfl) (B "range" (by decide)) (pa_cons (pe_callG (G__law_pick.mono (by decide)) hr hgd (by rfl) g__law_pick F__law_pick.kp b__law_pick (pa_cons (pv 1) (pa_cons (pe_lst (pa_cons pe_int (pa_cons pe_int (pa_cons pe_int (pa_cons pe_int pa_nil))))) pa_nil))) pa_nil)) (blkOk_by (own := [("_law_turn", 16)]) (N := N_law) (sc := defScope s_law) (by decide +kernel)) (fun _ _ _ _ _ => (pg_name (i := 16) sc_law.nd rfl (Or.inl rfl))) (fun _ _ _ _ _ => pts_nil) (fun _ _ _ _ _ => (pek_call K rfl (G__law_draw.mono (by decide)) hr hgd (by rfl) g__law_draw F__law_draw.kp b__law_draw (pa_cons (pv 1) (pa_cons (pv 3) pa_nil))))) pa_nil)))
 (pss_cons (ps_set (i := 6) sc_law.nd rfl (Or.inl rfl) (pe_lst (pa_cons (pe_callG (G_row_chance.mono (by decide)) hr hgd (by rfl) g_row_chance F_row_chance.kp b_row_chance (pa_cons (pv 2) (pa_cons (pv 4) pa_nil))) (pa_cons (pe_callK0G (G_row_chance.mono (by decide)) hr hgd (by rfl) g_row_chance F_row_chance.kp kb_row_chance_row_table (pk_cons (pv 5) (pk_cons (pv 2) pk_nil))) pa_nil))))
 (pss_cons (ps_set (i := 6) sc_law.nd rfl (Or.inl rfl) (pe_op op_plus (pv 6) (pe_lst (pa_cons (pe_callG (G_row_chance.mono (by decide)) hr hgd (by rfl) g_row_chance F_row_chance.kp b_row_chance (pa_cons (pv 2) (pa_cons (pe_op op_plus (pv 4) (pv 5)) pa_nil))) (pa_cons (pe_callG (G_row_chance.mono (by decide)) hr hgd (by rfl) g_row_chance F_row_chance.kp b_row_chance (pa_cons (pv 2) (pa_cons (pe_op op_plus (pv 5) (pv 4)) pa_nil))) pa_nil)))))
 (pss_cons (ps_set (i := 7) sc_law.nd rfl (Or.inl rfl) (pe_lst (pa_cons (pe_callG (G__law_row_chance.mono (by decide)) hr hgd (by rfl) g__law_row_chance F__law_row_chance.kp b__law_row_chance (pa_cons (pv 2) (pa_cons (pv 4) pa_nil))) (pa_cons (pe_callG (G__law_row_chance.mono (by decide)) hr hgd (by rfl) g__law_row_chance F__law_row_chance.kp b__law_row_chance (pa_cons (pv 2) (pa_cons (pv 5) pa_nil))) pa_nil))))
 (pss_cons (ps_if (pt_cmpR (op_neX hr.units) (pe_callB (cb_reprB nd hgd hr.units) (by rfl) (B "repr" (by decide)) (by decide +kernel) (pa_cons (pv 6) pa_nil)) (pe_callB (cb_reprB nd hgd hr.units) (by rfl) (B "repr" (by decide)) (by decide +kernel) (pa_cons (pe_op op_plus (pv 7) (pe_op op_repL (pe_lst (pa_cons (pe_callG (G__law_times.mono (by decide)) hr hgd (by rfl) g__law_times F__law_times.kp b__law_times (pa_cons (pe_ix ix_seq (pv 7) pe_int (fun _ _ => rfl)) (pa_cons (pe_ix ix_seq (pv 7) pe_int (fun _ _ => rfl)) pa_nil))) pa_nil)) pe_int)) pa_nil)) (nomark _))
 (pss_one (ps_ret pe_bl))
 pss_nil)
 (pss_cons (ps_set (i := 8) sc_law.nd rfl (Or.inl rfl) (pe_lst (pa_cons (pe_callTy cb_tup (by rfl) (B "tuple" (by decide)) (by decide +kernel) (pa_cons (pe_lc (own := [("_law_i", 17)]) (by rfl) sc_law.nd (pi_range1 (by rfl) (B "range" (by decide)) (pa_cons (pv 3) pa_nil)) (blkOk_by (own := [("_law_i", 17)]) (N := N_law) (sc := defScope s_law) (by decide +kernel)) (fun _ _ _ _ _ => (pg_name (i := 17) sc_law.nd rfl (Or.inl rfl))) (fun _ _ _ _ _ => pts_nil) (fun _ _ _ _ _ => (pek_cnt K rfl hr.units (pv 4) (pa_cons (pv 17) pa_nil)))) pa_nil)) (pa_cons (pe_callTy cb_tup (by rfl) (B "tuple" (by decide)) (by decide +kernel) (pa_cons (pe_lc (own := [("_law_i", 17)]) (by rfl) sc_law.nd (pi_range1 (by rfl) (B "range" (by decide)) (pa_cons (pv 3) pa_nil)) (blkOk_by (own := [("_law_i", 17)]) (N := N_law) (sc := defScope s_law) (by decide +kernel)) (fun _ _ _ _ _ => (pg_name (i := 17) sc_law.nd rfl (Or.inl rfl))) (fun _ _ _ _ _ => pts_nil) (fun _ _ _ _ _ => (pek_call K rfl (G__law_draw.mono (by decide)) hr hgd (by rfl) g__law_draw F__law_draw.kp b__law_draw (pa_cons (pv 1) (pa_cons pe_int pa_nil))))) pa_nil)) (pa_cons (pe_op op_times (pe_tupF (pa_cons pe_int pa_nil)) (pv 3)) (pa_cons (pe_op op_times (pe_tupF (pa_cons pe_int pa_nil)) (pv 3)) pa_nil))))))
 (pss_cons (ps_set (i := 9) sc_law.nd rfl (Or.inl rfl) (pe_callG (G__law_pick.mono (by decide)) hr hgd (by rfl) g__law_pick F__law_pick.kp b__law_pick (pa_cons (pv 1) (pa_cons (pe_ifExp (pt_not (pt_val (pe_callG (G__law_is_far.mono (by decide)) hr hgd (by rfl) g__law_is_far F__law_is_far.kp b__law_is_far (pa_cons (pv 2) (pa_cons (pe_op op_pow pe_int pe_int) pa_nil))))) (pv 8) (pe_slice sl_any (pv 8) po_none (po_some pe_int))) pa_nil))))
 (pss_cons (ps_set (i := 6) sc_law.nd rfl (Or.inl rfl) (pe_lst (pa_cons (pe_callG (G_counts_chance.mono (by decide)) hr hgd (by rfl) g_counts_chance F_counts_chance.kp b_counts_chance (pa_cons (pv 2) (pa_cons (pv 9) pa_nil))) (pa_cons (pe_callK0G (G_counts_chance.mono (by decide)) hr hgd (by rfl) g_counts_chance F_counts_chance.kp kb_counts_chance_counts_table (pk_cons (pv 9) (pk_cons (pv 2) pk_nil))) pa_nil))))
 (pss_cons (ps_if (pt_cmpR (op_neX hr.units) (pe_callB (cb_reprB nd hgd hr.units) (by rfl) (B "repr" (by decide)) (by decide +kernel) (pa_cons (pv 6) pa_nil)) (pe_callB (cb_reprB nd hgd hr.units) (by rfl) (B "repr" (by decide)) (by decide +kernel) (pa_cons (pe_op op_repL (pe_lst (pa_cons (pe_callG (G__law_counts_chance.mono (by decide)) hr hgd (by rfl) g__law_counts_chance F__law_counts_chance.kp b__law_counts_chance (pa_cons (pv 2) (pa_cons (pv 9) pa_nil))) pa_nil)) pe_int) pa_nil)) (nomark _))
 (pss_one (ps_ret pe_bl))
 pss_nil)
 (pss_cons (ps_set (i := 10) sc_law.nd rfl (Or.inl rfl) (pe_callG (G__law_pick.mono (by decide)) hr hgd (by rfl) g__law_pick F__law_pick.kp b__law_pick (pa_cons (pv 1) (pa_cons (pe_lst (pa_cons pe_int (pa_cons pe_int (pa_cons pe_int (pa_cons (pe_ifExp (pt_cmpR op_lt (pv 3) pe_int (nomark _)) pe_int pe_int) pa_nil))))) pa_nil))))
 (pss_cons (ps_if (pt_cmpR (op_neX hr.units) (pe_callG (G__law_sum.mono (by decide)) hr hgd (by rfl) g__law_sum F__law_sum.kp b__law_sum (pa_cons (pe_lc (own := [("_law_it", 18)]) (by rfl) sc_law.nd (pi_seq (pe_callG (G__law_all_counts.mono (by decide)) hr hgd (by rfl) g__law_all_counts F__law_all_counts.kp b__law_all_counts (pa_cons (pv 3) (pa_cons (pv 10) pa_nil)))) (blkOk_by (own := [("_law_it", 18)]) (N := N_law) (sc := defScope s_law) (by decide +kernel)) (fun _ _ _ _ _ => (pg_name (i := 18) sc_law.nd rfl (Or.inl rfl))) (fun _ _ _ _ _ => pts_nil) (fun _ _ _ _ _ => (pek_call K rfl (G_counts_chance.mono (by decide)) hr hgd (by rfl) g_counts_chance F_counts_chance.kp b_counts_chance (pa_cons (pv 2) (pa_cons (pv 18) pa_nil))))) pa_nil)) (pe_tupF (pa_cons pe_int (pa_cons pe_int pa_nil))) (nomark _))
 (pss_one (ps_ret pe_bl))
 pss_nil)
 (pss_cons (ps_if (PW.pt (pw_and (pt_cmpR op_lt (pv 3) pe_int (nomark _)) (pw_and1 (pt_not (pt_val (pe_callG (G__law_are_sums_right.mono (by decide)) hr hgd (by rfl) g__law_are_sums_right F__law_are_sums_right.kp b__law_are_sums_right (pa_cons (pv 2) (pa_cons (pe_callG (G__law_pick.mono (by decide)) hr hgd (by rfl) g__law_pick F__law_pick.kp b__law_pick (pa_cons (pv 1) (pa_cons (pe_lst (pa_cons pe_int (pa_cons pe_int (pa_cons (pe_ifExp (pt_cmpR op_lt (pv 3) pe_int (nomark _)) pe_int pe_int) pa_nil)))) pa_nil))) pa_nil))))))))
 (pss_one (ps_ret pe_bl))
 pss_nil)
 (pss_cons (ps_if (pt_cmpR (op_eqX hr.units) (pv 3) pe_int (nomark _))
 (pss_one (ps_ret pe_bl))
 pss_nil)
 (pss_cons (ps_asg (pe_tupF (pa_cons (pe_op op_plus (pe_tupF (pa_cons pe_int (pa_cons pe_int pa_nil))) (pe_tupRgB rfl (by rfl) (B "tuple" (by decide)) (prg_2 (by rfl) (B "range" (by decide)) pe_int (pe_op op_sub (pv 3) pe_int)))) (pa_cons (pe_callG (G__law_draw.mono (by decide)) hr hgd (by rfl) g__law_draw F__law_draw.kp b__law_draw (pa_cons (pv 1) (pa_cons pe_int pa_nil))) pa_nil))) (pg_tup (n := 2) rfl (pgs_cons (pg_name (i := 11) sc_law.nd rfl (Or.inl rfl)) (pgs_cons (pg_name (i := 12) sc_law.nd rfl (Or.inr rfl)) pgs_nil))))
 (pss_cons (ps_set (i := 13) sc_law.nd rfl (Or.inr rfl) (pe_callTy cb_tup (by rfl) (B "tuple" (by decide)) (by decide +kernel) (pa_cons (pe_lc (own := [("_law_i", 17)]) (by rfl) sc_law.nd (pi_range1 (by rfl) (B "range" (by decide)) (pa_cons (pe_op op_sub (pv 3) pe_int) pa_nil)) (blkOk_by (own := [("_law_i", 17)]) (N := N_law) (sc := defScope s_law) (by decide +kernel)) (fun _ _ _ _ _ => (pg_name (i := 17) sc_law.nd rfl (Or.inl rfl))) (fun _ _ _ _ _ => pts_nil) (fun _ _ _ _ _ => (pek_call K rfl (G__law_draw.mono (by decide)) hr hgd (by rfl) g__law_draw F__law_draw.kp b__law_draw (pa_cons (pv 1) (pa_cons pe_int pa_nil))))) pa_nil)))
 (pss_cons (ps_setLc (i := 14) (own := [("_law_first", 15)]) rfl sc_law.nd rfl rfl (sw_true rfl rfl rfl (by decide +kernel)) (pi_range1 (by rfl) (B "range" (by decide)) (pa_cons (pe_op op_plus (pv 12) pe_int) pa_nil)) (blkOk_by (own := [("_law_first", 15)]) (N := N_law) (sc := defScope s_law) (by decide +kernel)) (fun _ _ _ _ _ => (pg_name (i := 15) sc_law.nd rfl (Or.inl rfl))) (fun _ _ _ _ _ => pts_nil) (fun _ _ _ _ _ => (pek_call K rfl (G_counts_chance.mono (by decide)) hr hgd (by rfl) g_counts_chance F_counts_chance.kp b_counts_chance (pa_cons (pv 2) (pa_cons (pe_op (opk_plus K rfl) (pe_tupF (pa_cons (pv 15) (pa_cons (pe_op op_sub (pv 12) (pv 15)) pa_nil))) (pv 13)) pa_nil)))))
 (pss_one (ps_ret (pe_cmpR (op_eqX hr.units) (pe_callB (cb_reprB nd hgd hr.units) (by rfl) (B "repr" (by decide)) (by decide +kernel) (pa_cons (pe_callG (G_counts_chance.mono (by decide)) hr hgd (by rfl) g_counts_chance F_counts_chance.kp b_counts_chance (pa_cons (pe_callG (G_renamed.mono (by decide)) hr hgd (by rfl) g_renamed F_renamed.kp b_renamed (pa_cons (pv 2) (pa_cons (pv 11) pa_nil))) (pa_cons (pe_op op_plus (pe_tupF (pa_cons (pv 12) pa_nil)) (pv 13)) pa_nil))) pa_nil)) (pe_callB (cb_reprB nd hgd hr.units) (by rfl) (B "repr" (by decide)) (by decide +kernel) (pa_cons (pe_callG (G__law_sum.mono (by decide)) hr hgd (by rfl) g__law_sum F__law_sum.kp b__law_sum (pa_cons (pv 14) pa_nil)) pa_nil)) (nomark _)))))))))))))))))))))))), (by (try dsimp only [cxOf]); exact inferInstance), ?_⟩⟩
  intro xs μ Q hS
  obtain ⟨_, ns, rfl, rfl, hQ⟩ := hS
  rw [show startP N_law [.kl (ns.map PV.int)] = some (.kl (ns.map PV.int)) :: List.replicate 18 none from rfl]
  simp only [List.replicate]
  refine stm_of fun R hR => ?_
  simp only [pComb, mCnt, mDNewT, mZipM, mDc, mLenSetL, mDGetT, mDGet2T, mDInT, mDPutT, mLockX, mLockEX, mKeysX, pLstX, pLenX, pMaxT, pSortT, str_to, str_ot, mPar3, mLockV, mLockE, mItemsC, mKeysC, mDGet2, pIsN, isNonP, pRepLM, mTruD, dkOfP, pPopAt, pIndex, mLstRgM, mTruth, pReprA, pLenD, pLstD, mDNew, pRepL, mLenSetN, mDIn, mSortSet, mSortSetL, mRevT, mForC, mSeqC, mLcC, pAbs, pMax2, pMin2, pInt1, mDGet, mDPut, mBM, mBM0, pPop, pAppend, pExtend, pSetL, mSub, mDisp, mPs, mPs0, mRevL, mRevLM, pLstOfM, mTupRg, mRg1, mRg2, pPlusM, lstItems, dictOfP, keyP, keysP, val_left, val_mixed, val_draws, put_draws, mLc, mLcM, mLc2, mFor, mSeqI, mRng1, mRng2, mZip, mEnum, mSl, mNoPart, mPart, mSeq, mAsg, mAsg2, mCB, mCons, mNil, mVar, mC, mOp, mUn, pU, mTup, mLst, mRet, mRetN, mLstM, getl, setl, mName, mCall, mCallK, mIf, mIfS, mTest, mAnd, mOr, mNot, mYes, mAndV, mOrV, mNotV, mNext, mNever, mBreak, mCont, mDrop, mChain, mPar, mGTup, mGCons, mGNil, pGcd, pI, pI0, pIx, pTimes, pPlus, pEq, pNe, pLen, pSum, pMaxS, pAll, pAny, pTupOf, pLstOf, pIn, pIsB, pIsi, items_tup, items_lst, items_kl, items_mr, items_tab, items_lot, items_fr, decide_true, decide_false, eqP_int, eqP_bl, eqP_str, eqP_tup2, kit_tt, kit_ii, kit_ib, tyP, mEnd, wipeP, List.map_cons, List.map_nil, List.getElem?_cons_zero, List.getElem?_cons_succ, List.set_cons_zero, List.set_cons_succ, atI_zero, atI_one, if_true, if_false, ite_true, ite_false, Bool.false_eq_true, List.length_cons, List.length_nil, Bool.not_true, Bool.not_false, S__law_deck]
  refine ⟨trivial, ns, 5, rfl, trivial, fun m μ1 D1 => ?_⟩
  subst hR
  refine stm_of fun R1 hR1 => ?_
  simp only [pComb, mCnt, mDNewT, mZipM, mDc, mLenSetL, mDGetT, mDGet2T, mDInT, mDPutT, mLockX, mLockEX, mKeysX, pLstX, pLenX, pMaxT, pSortT, str_to, str_ot, mPar3, mLockV, mLockE, mItemsC, mKeysC, mDGet2, pIsN, isNonP, pRepLM, mTruD, dkOfP, pPopAt, pIndex, mLstRgM, mTruth, pReprA, pLenD, pLstD, mDNew, pRepL, mLenSetN, mDIn, mSortSet, mSortSetL, mRevT, mForC, mSeqC, mLcC, pAbs, pMax2, pMin2, pInt1, mDGet, mDPut, mBM, mBM0, pPop, pAppend, pExtend, pSetL, mSub, mDisp, mPs, mPs0, mRevL, mRevLM, pLstOfM, mTupRg, mRg1, mRg2, pPlusM, lstItems, dictOfP, keyP, keysP, val_left, val_mixed, val_draws, put_draws, mLc, mLcM, mLc2, mFor, mSeqI, mRng1, mRng2, mZip, mEnum, mSl, mNoPart, mPart, mSeq, mAsg, mAsg2, mCB, mCons, mNil, mVar, mC, mOp, mUn, pU, mTup, mLst, mRet, mRetN, mLstM, getl, setl, mName, mCall, mCallK, mIf, mIfS, mTest, mAnd, mOr, mNot, mYes, mAndV, mOrV, mNotV, mNext, mNever, mBreak, mCont, mDrop, mChain, mPar, mGTup, mGCons, mGNil, pGcd, pI, pI0, pIx, pTimes, pPlus, pEq, pNe, pLen, pSum, pMaxS, pAll, pAny, pTupOf, pLstOf, pIn, pIsB, pIsi, items_tup, items_lst, items_kl, items_mr, items_tab, items_lot, items_fr, decide_true, decide_false, eqP_int, eqP_bl, eqP_str, eqP_tup2, kit_tt, kit_ii, kit_ib, tyP, mEnd, wipeP, List.map_cons, List.map_nil, List.getElem?_cons_zero, List.getElem?_cons_succ, List.set_cons_zero, List.set_cons_succ, atI_zero, atI_one, if_true, if_false, ite_true, ite_false, Bool.false_eq_true, List.length_cons, List.length_nil, Bool.not_true, Bool.not_false, S__law_some_table]
  refine ⟨trivial, m, [], trivial, D1, fun qs g μ2 hT hF D2 => ?_⟩
  clear D1
  subst hR1
  refine stm_of fun R2 hR2 => ?_
  simp only [pComb, mCnt, mDNewT, mZipM, mDc, mLenSetL, mDGetT, mDGet2T, mDInT, mDPutT, mLockX, mLockEX, mKeysX, pLstX, pLenX, pMaxT, pSortT, str_to, str_ot, mPar3, mLockV, mLockE, mItemsC, mKeysC, mDGet2, pIsN, isNonP, pRepLM, mTruD, dkOfP, pPopAt, pIndex, mLstRgM, mTruth, pReprA, pLenD, pLstD, mDNew, pRepL, mLenSetN, mDIn, mSortSet, mSortSetL, mRevT, mForC, mSeqC, mLcC, pAbs, pMax2, pMin2, pInt1, mDGet, mDPut, mBM, mBM0, pPop, pAppend, pExtend, pSetL, mSub, mDisp, mPs, mPs0, mRevL, mRevLM, pLstOfM, mTupRg, mRg1, mRg2, pPlusM, lstItems, dictOfP, keyP, keysP, val_left, val_mixed, val_draws, put_draws, mLc, mLcM, mLc2, mFor, mSeqI, mRng1, mRng2, mZip, mEnum, mSl, mNoPart, mPart, mSeq, mAsg, mAsg2, mCB, mCons, mNil, mVar, mC, mOp, mUn, pU, mTup, mLst, mRet, mRetN, mLstM, getl, setl, mName, mCall, mCallK, mIf, mIfS, mTest, mAnd, mOr, mNot, mYes, mAndV, mOrV, mNotV, mNext, mNever, mBreak, mCont, mDrop, mChain, mPar, mGTup, mGCons, mGNil, pGcd, pI, pI0, pIx, pTimes, pPlus, pEq, pNe, pLen, pSum, pMaxS, pAll, pAny, pTupOf, pLstOf, pIn, pIsB, pIsi, items_tup, items_lst, items_kl, items_mr, items_tab, items_lot, items_fr, decide_true, decide_false, eqP_int, eqP_bl, eqP_str, eqP_tup2, kit_tt, kit_ii, kit_ib, tyP, mEnd, wipeP, List.map_cons, List.map_nil, List.getElem?_cons_zero, List.getElem?_cons_succ, List.set_cons_zero, List.set_cons_succ, atI_zero, atI_one, if_true, if_false, ite_true, ite_false, Bool.false_eq_true, List.length_cons, List.length_nil, Bool.not_true, Bool.not_false]
  have h1 : 1 ≤ qs.length := by have := hT.ne; cases qs with | nil => exact absurd rfl this | cons _ _ => simp
  have h8 := hT.len
  rw [List.length_map]
  subst hR2
  refine stm_of fun R3 hR3 => ?_
  simp only [pComb, mCnt, mDNewT, mZipM, mDc, mLenSetL, mDGetT, mDGet2T, mDInT, mDPutT, mLockX, mLockEX, mKeysX, pLstX, pLenX, pMaxT, pSortT, str_to, str_ot, mPar3, mLockV, mLockE, mItemsC, mKeysC, mDGet2, pIsN, isNonP, pRepLM, mTruD, dkOfP, pPopAt, pIndex, mLstRgM, mTruth, pReprA, pLenD, pLstD, mDNew, pRepL, mLenSetN, mDIn, mSortSet, mSortSetL, mRevT, mForC, mSeqC, mLcC, pAbs, pMax2, pMin2, pInt1, mDGet, mDPut, mBM, mBM0, pPop, pAppend, pExtend, pSetL, mSub, mDisp, mPs, mPs0, mRevL, mRevLM, pLstOfM, mTupRg, mRg1, mRg2, pPlusM, lstItems, dictOfP, keyP, keysP, val_left, val_mixed, val_draws, put_draws, mLc, mLcM, mLc2, mFor, mSeqI, mRng1, mRng2, mZip, mEnum, mSl, mNoPart, mPart, mAsg, mAsg2, mCB, mCons, mNil, mVar, mC, mOp, mUn, pU, mTup, mLst, mRet, mRetN, mLstM, getl, setl, mName, mCall, mCallK, mIf, mIfS, mTest, mAnd, mOr, mNot, mYes, mAndV, mOrV, mNotV, mNext, mNever, mBreak, mCont, mDrop, mChain, mPar, mGTup, mGCons, mGNil, pGcd, pI, pI0, pIx, pTimes, pPlus, pEq, pNe, pLen, pSum, pMaxS, pAll, pAny, pTupOf, pLstOf, pIn, pIsB, pIsi, items_tup, items_lst, items_kl, items_mr, items_tab, items_lot, items_fr, decide_true, decide_false, eqP_int, eqP_bl, eqP_str, eqP_tup2, kit_tt, kit_ii, kit_ib, tyP, mEnd, wipeP, List.map_cons, List.map_nil, List.getElem?_cons_zero, List.getElem?_cons_succ, List.set_cons_zero, List.set_cons_succ, atI_zero, atI_one, if_true, if_false, ite_true, ite_false, Bool.false_eq_true, List.length_cons, List.length_nil, Bool.not_true, Bool.not_false, S__law_pick]
  refine ⟨fun i hi => hi, by decide, trivial, _, _, m, _, rfl, .inl rfl, D2, by decide, by decide, fun v hv μ3 D3 => ?_⟩
  obtain ⟨k1, rfl, hk1⟩ : ∃ k : Nat, v = .int (k : Nat) ∧ k ≤ 30 := by
    simp only [List.mem_cons, List.not_mem_nil, or_false] at hv
    rcases hv with rfl | rfl | rfl | rfl | rfl
    · exact ⟨5, rfl, by decide⟩
    · exact ⟨0, rfl, by decide⟩
    · exact ⟨12, rfl, by decide⟩
    · exact ⟨1, rfl, by decide⟩
    · exact ⟨30, rfl, by decide⟩
  clear hv D2
  simp only []
  rw [Int.toNat_natCast, rangeP_eq, List.length_map, List.length_range]
  refine ⟨by omega, by unfold lim; omega, lc_draws qs.length D3 (fun a ha ν k D hk => ?_) fun one μ4 hl1 ho1 D4 => ?_⟩
  · simp only [pComb, mCnt, mDNewT, mZipM, mDc, mLenSetL, mDGetT, mDGet2T, mDInT, mDPutT, mLockX, mLockEX, mKeysX, pLstX, pLenX, pMaxT, pSortT, str_to, str_ot, mPar3, mLockV, mLockE, mItemsC, mKeysC, mDGet2, pIsN, isNonP, pRepLM, mTruD, dkOfP, pPopAt, pIndex, mLstRgM, mTruth, pReprA, pLenD, pLstD, mDNew, pRepL, mLenSetN, mDIn, mSortSet, mSortSetL, mRevT, mForC, mSeqC, mLcC, pAbs, pMax2, pMin2, pInt1, mDGet, mDPut, mBM, mBM0, pPop, pAppend, pExtend, pSetL, mSub, mDisp, mPs, mPs0, mRevL, mRevLM, pLstOfM, mTupRg, mRg1, mRg2, pPlusM, lstItems, dictOfP, keyP, keysP, val_left, val_mixed, val_draws, put_draws, mLc, mLcM, mLc2, mFor, mSeqI, mRng1, mRng2, mZip, mEnum, mSl, mNoPart, mPart, mSeq, mAsg, mAsg2, mCB, mCons, mNil, mVar, mC, mOp, mUn, pU, mTup, mLst, mRet, mRetN, mLstM, getl, setl, mName, mCall, mCallK, mIf, mIfS, mTest, mAnd, mOr, mNot, mYes, mAndV, mOrV, mNotV, mNext, mNever, mBreak, mCont, mDrop, mChain, mPar, mGTup, mGCons, mGNil, pGcd, pI, pI0, pIx, pTimes, pPlus, pEq, pNe, pLen, pSum, pMaxS, pAll, pAny, pTupOf, pLstOf, pIn, pIsB, pIsi, items_tup, items_lst, items_kl, items_mr, items_tab, items_lot, items_fr, decide_true, decide_false, eqP_int, eqP_bl, eqP_str, eqP_tup2, kit_tt, kit_ii, kit_ib, tyP, mEnd, wipeP, List.map_cons, List.map_nil, List.getElem?_cons_zero, List.getElem?_cons_succ, List.set_cons_zero, List.set_cons_succ, atI_zero, atI_one, if_true, if_false, ite_true, ite_false, Bool.false_eq_true, List.length_cons, List.length_nil, Bool.not_true, Bool.not_false, S__law_draw]
    exact ⟨trivial, _, m, _, rfl, D, by omega, by omega, fun n ν' h0 hn D' => hk n ν' h0 hn D'⟩
  rw [List.length_range] at hl1
  clear D3
  subst hR3
  refine stm_of fun R4 hR4 => ?_
  simp only [pComb, mCnt, mDNewT, mZipM, mDc, mLenSetL, mDGetT, mDGet2T, mDInT, mDPutT, mLockX, mLockEX, mKeysX, pLstX, pLenX, pMaxT, pSortT, str_to, str_ot, mPar3, mLockV, mLockE, mItemsC, mKeysC, mDGet2, pIsN, isNonP, pRepLM, mTruD, dkOfP, pPopAt, pIndex, mLstRgM, mTruth, pReprA, pLenD, pLstD, mDNew, pRepL, mLenSetN, mDIn, mSortSet, mSortSetL, mRevT, mForC, mSeqC, mLcC, pAbs, pMax2, pMin2, pInt1, mDGet, mDPut, mBM, mBM0, pPop, pAppend, pExtend, pSetL, mSub, mDisp, mPs, mPs0, mRevL, mRevLM, pLstOfM, mTupRg, mRg1, mRg2, pPlusM, lstItems, dictOfP, keyP, keysP, val_left, val_mixed, val_draws, put_draws, mLc, mLcM, mLc2, mFor, mSeqI, mRng1, mRng2, mZip, mEnum, mSl, mNoPart, mPart, mAsg, mAsg2, mCB, mCons, mNil, mVar, mC, mOp, mUn, pU, mTup, mLst, mRet, mRetN, mLstM, getl, setl, mName, mCall, mCallK, mIf, mIfS, mTest, mAnd, mOr, mNot, mYes, mAndV, mOrV, mNotV, mNext, mNever, mBreak, mCont, mDrop, mChain, mPar, mGTup, mGCons, mGNil, pGcd, pI, pI0, pIx, pTimes, pPlus, pEq, pNe, pLen, pSum, pMaxS, pAll, pAny, pTupOf, pLstOf, pIn, pIsB, pIsi, items_tup, items_lst, items_kl, items_mr, items_tab, items_lot, items_fr, decide_true, decide_false, eqP_int, eqP_bl, eqP_str, eqP_tup2, kit_tt, kit_ii, kit_ib, tyP, mEnd, wipeP, List.map_cons, List.map_nil, List.getElem?_cons_zero, List.getElem?_cons_succ, List.set_cons_zero, List.set_cons_succ, atI_zero, atI_one, if_true, if_false, ite_true, ite_false, Bool.false_eq_true, List.length_cons, List.length_nil, Bool.not_true, Bool.not_false, S__law_pick]
  refine ⟨fun i hi => hi, by decide, trivial, _, _, m, _, rfl, .inl rfl, D4, by decide, by decide, fun v hv μ5 D5 => ?_⟩
  obtain ⟨k2, rfl, hk2⟩ : ∃ k : Nat, v = .int (k : Nat) ∧ k ≤ 30 := by
    simp only [List.mem_cons, List.not_mem_nil, or_false] at hv
    rcases hv with rfl | rfl | rfl | rfl
    · exact ⟨3, rfl, by decide⟩
    · exact ⟨1, rfl, by decide⟩
    · exact ⟨30, rfl, by decide⟩
    · exact ⟨8, rfl, by decide⟩
  clear hv D4
  simp only []
  rw [Int.toNat_natCast, rangeP_eq, List.length_map, List.length_range]
  refine ⟨by omega, by unfold lim; omega, lc_draws qs.length D5 (fun a ha ν k D hk => ?_) fun other μ6 hl2 ho2 D6 => ?_⟩
  · simp only [pComb, mCnt, mDNewT, mZipM, mDc, mLenSetL, mDGetT, mDGet2T, mDInT, mDPutT, mLockX, mLockEX, mKeysX, pLstX, pLenX, pMaxT, pSortT, str_to, str_ot, mPar3, mLockV, mLockE, mItemsC, mKeysC, mDGet2, pIsN, isNonP, pRepLM, mTruD, dkOfP, pPopAt, pIndex, mLstRgM, mTruth, pReprA, pLenD, pLstD, mDNew, pRepL, mLenSetN, mDIn, mSortSet, mSortSetL, mRevT, mForC, mSeqC, mLcC, pAbs, pMax2, pMin2, pInt1, mDGet, mDPut, mBM, mBM0, pPop, pAppend, pExtend, pSetL, mSub, mDisp, mPs, mPs0, mRevL, mRevLM, pLstOfM, mTupRg, mRg1, mRg2, pPlusM, lstItems, dictOfP, keyP, keysP, val_left, val_mixed, val_draws, put_draws, mLc, mLcM, mLc2, mFor, mSeqI, mRng1, mRng2, mZip, mEnum, mSl, mNoPart, mPart, mSeq, mAsg, mAsg2, mCB, mCons, mNil, mVar, mC, mOp, mUn, pU, mTup, mLst, mRet, mRetN, mLstM, getl, setl, mName, mCall, mCallK, mIf, mIfS, mTest, mAnd, mOr, mNot, mYes, mAndV, mOrV, mNotV, mNext, mNever, mBreak, mCont, mDrop, mChain, mPar, mGTup, mGCons, mGNil, pGcd, pI, pI0, pIx, pTimes, pPlus, pEq, pNe, pLen, pSum, pMaxS, pAll, pAny, pTupOf, pLstOf, pIn, pIsB, pIsi, items_tup, items_lst, items_kl, items_mr, items_tab, items_lot, items_fr, decide_true, decide_false, eqP_int, eqP_bl, eqP_str, eqP_tup2, kit_tt, kit_ii, kit_ib, tyP, mEnd, wipeP, List.map_cons, List.map_nil, List.getElem?_cons_zero, List.getElem?_cons_succ, List.set_cons_zero, List.set_cons_succ, atI_zero, atI_one, if_true, if_false, ite_true, ite_false, Bool.false_eq_true, List.length_cons, List.length_nil, Bool.not_true, Bool.not_false, S__law_draw]
    exact ⟨trivial, _, m, _, rfl, D, by omega, by omega, fun n ν' h0 hn D' => hk n ν' h0 hn D'⟩
  rw [List.length_range] at hl2
  clear D5
  have e1 : PV.tup (one.map fun (n : Nat) => PV.int n) = lotP one := rfl
  have e2 : PV.tup (other.map fun (n : Nat) => PV.int n) = lotP other := rfl
  rw [e1, e2]
  have hap : ∀ i ∈ one ++ other, i < qs.length := fun i hi => (List.mem_append.mp hi).elim (ho1 i) (ho2 i)
  have hap2 : ∀ i ∈ other ++ one, i < qs.length := fun i hi => (List.mem_append.mp hi).elim (ho2 i) (ho1 i)
  subst hR4
  refine stm_of fun R5 hR5 => ?_
  simp only [pComb, mCnt, mDNewT, mZipM, mDc, mLenSetL, mDGetT, mDGet2T, mDInT, mDPutT, mLockX, mLockEX, mKeysX, pLstX, pLenX, pMaxT, pSortT, str_to, str_ot, mPar3, mLockV, mLockE, mItemsC, mKeysC, mDGet2, pIsN, isNonP, pRepLM, mTruD, dkOfP, pPopAt, pIndex, mLstRgM, mTruth, pReprA, pLenD, pLstD, mDNew, pRepL, mLenSetN, mDIn, mSortSet, mSortSetL, mRevT, mForC, mSeqC, mLcC, pAbs, pMax2, pMin2, pInt1, mDGet, mDPut, mBM, mBM0, pPop, pAppend, pExtend, pSetL, mSub, mDisp, mPs, mPs0, mRevL, mRevLM, pLstOfM, mTupRg, mRg1, mRg2, pPlusM, lstItems, dictOfP, keyP, keysP, val_left, val_mixed, val_draws, put_draws, mLc, mLcM, mLc2, mFor, mSeqI, mRng1, mRng2, mZip, mEnum, mSl, mNoPart, mPart, mAsg, mAsg2, mCB, mCons, mNil, mVar, mC, mOp, mUn, pU, mTup, mLst, mRet, mRetN, mLstM, getl, setl, mName, mCall, mCallK, mIf, mIfS, mTest, mAnd, mOr, mNot, mYes, mAndV, mOrV, mNotV, mNext, mNever, mBreak, mCont, mDrop, mChain, mPar, mGTup, mGCons, mGNil, pGcd, pI, pI0, pIx, pTimes, pPlus, pEq, pNe, pLen, pSum, pMaxS, pAll, pAny, pTupOf, pLstOf, pIn, pIsB, pIsi, items_tup, items_lst, items_kl, items_mr, items_tab, items_lot, items_fr, decide_true, decide_false, eqP_int, eqP_bl, eqP_str, eqP_tup2, kit_tt, kit_ii, kit_ib, tyP, mEnd, wipeP, List.map_cons, List.map_nil, List.getElem?_cons_zero, List.getElem?_cons_succ, List.set_cons_zero, List.set_cons_succ, atI_zero, atI_one, if_true, if_false, ite_true, ite_false, Bool.false_eq_true, List.length_cons, List.length_nil, Bool.not_true, Bool.not_false, S_row_chance]
  refine ⟨trivial, qs, one, rfl, hT, ho1, by omega, trivial, rfl, qs, other, rfl, hT, ho2, by omega, by decide, ?_⟩
  subst hR5
  refine stm_of fun R6 hR6 => ?_
  simp only [pComb, mCnt, mDNewT, mZipM, mDc, mLenSetL, mDGetT, mDGet2T, mDInT, mDPutT, mLockX, mLockEX, mKeysX, pLstX, pLenX, pMaxT, pSortT, str_to, str_ot, mPar3, mLockV, mLockE, mItemsC, mKeysC, mDGet2, pIsN, isNonP, pRepLM, mTruD, dkOfP, pPopAt, pIndex, mLstRgM, mTruth, pReprA, pLenD, pLstD, mDNew, pRepL, mLenSetN, mDIn, mSortSet, mSortSetL, mRevT, mForC, mSeqC, mLcC, pAbs, pMax2, pMin2, pInt1, mDGet, mDPut, mBM, mBM0, pPop, pAppend, pExtend, pSetL, mSub, mDisp, mPs, mPs0, mRevL, mRevLM, pLstOfM, mTupRg, mRg1, mRg2, pPlusM, lstItems, dictOfP, keyP, keysP, val_left, val_mixed, val_draws, put_draws, mLc, mLcM, mLc2, mFor, mSeqI, mRng1, mRng2, mZip, mEnum, mSl, mNoPart, mPart, mAsg, mAsg2, mCB, mCons, mNil, mVar, mC, mOp, mUn, pU, mTup, mLst, mRet, mRetN, mLstM, getl, setl, mName, mCall, mCallK, mIf, mIfS, mTest, mAnd, mOr, mNot, mYes, mAndV, mOrV, mNotV, mNext, mNever, mBreak, mCont, mDrop, mChain, mPar, mGTup, mGCons, mGNil, pGcd, pI, pI0, pIx, pTimes, pPlus, pEq, pNe, pLen, pSum, pMaxS, pAll, pAny, pTupOf, pLstOf, pIn, pIsB, pIsi, items_tup, items_lst, items_kl, items_mr, items_tab, items_lot, items_fr, decide_true, decide_false, eqP_int, eqP_bl, eqP_str, eqP_tup2, kit_tt, kit_ii, kit_ib, tyP, mEnd, wipeP, List.map_cons, List.map_nil, List.getElem?_cons_zero, List.getElem?_cons_succ, List.set_cons_zero, List.set_cons_succ, atI_zero, atI_one, if_true, if_false, ite_true, ite_false, Bool.false_eq_true, List.length_cons, List.length_nil, Bool.not_true, Bool.not_false, S_row_chance, lotP]
  simp only [← List.map_append, List.length_map]
  refine ⟨by unfold lim; omega, trivial, qs, one ++ other, rfl, hT, hap, by rw [List.length_append]; omega, by unfold lim; omega, trivial, qs, other ++ one, rfl, hT, hap2, by rw [List.length_append]; omega, by decide, by decide, ?_⟩
  rw [e1, e2, rowq_app, rowq_app, Rat.mul_comm (rowq qs other)]
  have hq44 : ∀ q ∈ qs, 0 ≤ q ∧ q ≤ 1 ∧ q.den ≤ 2 ^ 44 := fun q hq => ⟨hT.pos q hq, hT.le1 hq, by
    obtain ⟨D, hD0, hD1, hDq⟩ := hT.com
    exact Nat.le_trans (Nat.le_of_dvd hD0 (cm_den (hDq q hq))) (Nat.le_of_lt hD1)⟩
  have s45 : ∀ q ∈ qs, Sm 45 q := fun q hq => hT.sm hq
  have sm1 := (rowq_sm1 s45 ho1).mono (show 1 + 45 * one.length ≤ 2800 by omega)
  have sm2 := (rowq_sm1 s45 ho2).mono (show 1 + 45 * other.length ≤ 2800 by omega)
  have sm3 := (rowq_sm1 s45 hap).mono (show 1 + 45 * (one ++ other).length ≤ 2800 by rw [List.length_append]; omega)
  rw [rowq_app] at sm3
  have dn1 := rowq_den (z := 44) (fun q hq => (hq44 q hq).2.2) (r := one) (p := 1) (n := 0) ho1 (by decide)
  have dn2 := rowq_den (z := 44) (fun q hq => (hq44 q hq).2.2) (r := other) (p := 1) (n := 0) ho2 (by decide)
  have dn3 : (rowq qs one).den * (rowq qs other).den < 2 ^ 2660 := by
    refine Nat.lt_of_le_of_lt (Nat.mul_le_mul dn1 dn2) ?_
    rw [← Nat.pow_add]
    exact Nat.pow_lt_pow_right (by decide) (by omega)
  clear dn1 dn2
  subst hR6
  refine stm_of fun R7 hR7 => ?_
  simp only [pComb, mCnt, mDNewT, mZipM, mDc, mLenSetL, mDGetT, mDGet2T, mDInT, mDPutT, mLockX, mLockEX, mKeysX, pLstX, pLenX, pMaxT, pSortT, str_to, str_ot, mPar3, mLockV, mLockE, mItemsC, mKeysC, mDGet2, pIsN, isNonP, pRepLM, mTruD, dkOfP, pPopAt, pIndex, mLstRgM, mTruth, pReprA, pLenD, pLstD, mDNew, pRepL, mLenSetN, mDIn, mSortSet, mSortSetL, mRevT, mForC, mSeqC, mLcC, pAbs, pMax2, pMin2, pInt1, mDGet, mDPut, mBM, mBM0, pPop, pAppend, pExtend, pSetL, mSub, mDisp, mPs, mPs0, mRevL, mRevLM, pLstOfM, mTupRg, mRg1, mRg2, pPlusM, lstItems, dictOfP, keyP, keysP, val_left, val_mixed, val_draws, put_draws, mLc, mLcM, mLc2, mFor, mSeqI, mRng1, mRng2, mZip, mEnum, mSl, mNoPart, mPart, mAsg, mAsg2, mCB, mCons, mNil, mVar, mC, mOp, mUn, pU, mTup, mLst, mRet, mRetN, mLstM, getl, setl, mName, mCall, mCallK, mIf, mIfS, mTest, mAnd, mOr, mNot, mYes, mAndV, mOrV, mNotV, mNext, mNever, mBreak, mCont, mDrop, mChain, mPar, mGTup, mGCons, mGNil, pGcd, pI, pI0, pIx, pTimes, pPlus, pEq, pNe, pLen, pSum, pMaxS, pAll, pAny, pTupOf, pLstOf, pIn, pIsB, pIsi, items_tup, items_lst, items_kl, items_mr, items_tab, items_lot, items_fr, decide_true, decide_false, eqP_int, eqP_bl, eqP_str, eqP_tup2, kit_tt, kit_ii, kit_ib, tyP, mEnd, wipeP, List.map_cons, List.map_nil, List.getElem?_cons_zero, List.getElem?_cons_succ, List.set_cons_zero, List.set_cons_succ, atI_zero, atI_one, if_true, if_false, ite_true, ite_false, Bool.false_eq_true, List.length_cons, List.length_nil, Bool.not_true, Bool.not_false, S__law_row_chance]
  refine ⟨trivial, qs, lotP one, one, 44, rfl, rfl, hq44, ho1, by omega, by omega, trivial, qs, lotP other, other, 44, rfl, rfl, hq44, ho2, by omega, by omega, by decide, ?_⟩
  subst hR7
  refine stm_of fun R8 hR8 => ?_
  simp only [pComb, mCnt, mDNewT, mZipM, mDc, mLenSetL, mDGetT, mDGet2T, mDInT, mDPutT, mLockX, mLockEX, mKeysX, pLstX, pLenX, pMaxT, pSortT, str_to, str_ot, mPar3, mLockV, mLockE, mItemsC, mKeysC, mDGet2, pIsN, isNonP, pRepLM, mTruD, dkOfP, pPopAt, pIndex, mLstRgM, mTruth, pReprA, pLenD, pLstD, mDNew, pRepL, mLenSetN, mDIn, mSortSet, mSortSetL, mRevT, mForC, mSeqC, mLcC, pAbs, pMax2, pMin2, pInt1, mDGet, mDPut, mBM, mBM0, pPop, pAppend, pExtend, pSetL, mSub, mDisp, mPs, mPs0, mRevL, mRevLM, pLstOfM, mTupRg, mRg1, mRg2, pPlusM, lstItems, dictOfP, keyP, keysP, val_left, val_mixed, val_draws, put_draws, mLc, mLcM, mLc2, mFor, mSeqI, mRng1, mRng2, mZip, mEnum, mSl, mNoPart, mPart, mAsg, mAsg2, mCB, mCons, mNil, mVar, mC, mOp, mUn, pU, mTup, mLst, mRet, mRetN, mLstM, getl, setl, mName, mCall, mCallK, mIf, mIfS, mTest, mAnd, mOr, mNot, mYes, mAndV, mOrV, mNotV, mNext, mNever, mBreak, mCont, mDrop, mChain, mPar, mGTup, mGCons, mGNil, pGcd, pI, pI0, pIx, pTimes, pPlus, pEq, pNe, pLen, pSum, pMaxS, pAll, pAny, pTupOf, pLstOf, pIn, pIsB, pIsi, items_tup, items_lst, items_kl, items_mr, items_tab, items_lot, items_fr, decide_true, decide_false, eqP_int, eqP_bl, eqP_str, eqP_tup2, kit_tt, kit_ii, kit_ib, tyP, mEnd, wipeP, List.map_cons, List.map_nil, List.getElem?_cons_zero, List.getElem?_cons_succ, List.set_cons_zero, List.set_cons_succ, atI_zero, atI_one, if_true, if_false, ite_true, ite_false, Bool.false_eq_true, List.length_cons, List.length_nil, Bool.not_true, Bool.not_false]
  have smA : ∀ q ∈ [rowq qs one, rowq qs other, rowq qs one * rowq qs other, rowq qs one * rowq qs other], Sm 2800 q := fun q hq => by
    simp only [List.mem_cons, List.not_mem_nil, or_false] at hq
    rcases hq with rfl | rfl | rfl | rfl
    · exact sm1
    · exact sm2
    · exact sm3
    · exact sm3
  refine pReprB_frs (qs := [rowq qs one, rowq qs other, rowq qs one * rowq qs other, rowq qs one * rowq qs other]) smA (by decide) (by show 4 ≤ 20; decide) ?_
  simp only [S__law_times]
  refine ⟨rfl, 0, _, _, rfl, sm1.mono (by decide), sm2.mono (by decide), dn3, by decide, by decide, by show 4 ≤ lim; decide, ?_⟩
  refine pReprB_frs (qs := [rowq qs one, rowq qs other, rowq qs one * rowq qs other, rowq qs one * rowq qs other]) smA (by decide) (by show 4 ≤ 20; decide) ?_
  simp only [pComb, mCnt, mDNewT, mZipM, mDc, mLenSetL, mDGetT, mDGet2T, mDInT, mDPutT, mLockX, mLockEX, mKeysX, pLstX, pLenX, pMaxT, pSortT, str_to, str_ot, mPar3, mLockV, mLockE, mItemsC, mKeysC, mDGet2, pIsN, isNonP, pRepLM, mTruD, dkOfP, pPopAt, pIndex, mLstRgM, mTruth, pReprA, pLenD, pLstD, mDNew, pRepL, mLenSetN, mDIn, mSortSet, mSortSetL, mRevT, mForC, mSeqC, mLcC, pAbs, pMax2, pMin2, pInt1, mDGet, mDPut, mBM, mBM0, pPop, pAppend, pExtend, pSetL, mSub, mDisp, mPs, mPs0, mRevL, mRevLM, pLstOfM, mTupRg, mRg1, mRg2, pPlusM, lstItems, dictOfP, keyP, keysP, val_left, val_mixed, val_draws, put_draws, mLc, mLcM, mLc2, mFor, mSeqI, mRng1, mRng2, mZip, mEnum, mSl, mNoPart, mPart, mAsg, mAsg2, mCB, mCons, mNil, mVar, mC, mOp, mUn, pU, mTup, mLst, mRet, mRetN, mLstM, getl, setl, mName, mCall, mCallK, mIf, mIfS, mTest, mAnd, mOr, mNot, mYes, mAndV, mOrV, mNotV, mNext, mNever, mBreak, mCont, mDrop, mChain, mPar, mGTup, mGCons, mGNil, pGcd, pI, pI0, pIx, pTimes, pPlus, pEq, pNe, pLen, pSum, pMaxS, pAll, pAny, pTupOf, pLstOf, pIn, pIsB, pIsi, items_tup, items_lst, items_kl, items_mr, items_tab, items_lot, items_fr, decide_true, decide_false, eqP_int, eqP_bl, eqP_str, eqP_tup2, kit_tt, kit_ii, kit_ib, tyP, mEnd, wipeP, List.map_cons, List.map_nil, List.getElem?_cons_zero, List.getElem?_cons_succ, List.set_cons_zero, List.set_cons_succ, atI_zero, atI_one, if_true, if_false, ite_true, ite_false, Bool.false_eq_true, List.length_cons, List.length_nil, Bool.not_true, Bool.not_false, eqP_str]
  generalize [frP (rowq qs one), frP (rowq qs other)] ++ [frP (rowq qs one * rowq qs other), frP (rowq qs one * rowq qs other)] = told
  generalize [frP (rowq qs one), frP (rowq qs other)] = due
  clear smA sm1 sm2 sm3 dn3 hap hap2
  subst hR8
  refine stm_of fun R9 hR9 => ?_
  simp only [pComb, mCnt, mDNewT, mZipM, mDc, mLenSetL, mDGetT, mDGet2T, mDInT, mDPutT, mLockX, mLockEX, mKeysX, pLstX, pLenX, pMaxT, pSortT, str_to, str_ot, mPar3, mLockV, mLockE, mItemsC, mKeysC, mDGet2, pIsN, isNonP, pRepLM, mTruD, dkOfP, pPopAt, pIndex, mLstRgM, mTruth, pReprA, pLenD, pLstD, mDNew, pRepL, mLenSetN, mDIn, mSortSet, mSortSetL, mRevT, mForC, mSeqC, mLcC, pAbs, pMax2, pMin2, pInt1, mDGet, mDPut, mBM, mBM0, pPop, pAppend, pExtend, pSetL, mSub, mDisp, mPs, mPs0, mRevL, mRevLM, pLstOfM, mTupRg, mRg1, mRg2, pPlusM, lstItems, dictOfP, keyP, keysP, val_left, val_mixed, val_draws, put_draws, mLc, mLcM, mLc2, mFor, mSeqI, mRng1, mRng2, mZip, mEnum, mSl, mNoPart, mPart, mAsg, mAsg2, mCB, mCons, mNil, mVar, mC, mOp, mUn, pU, mTup, mLst, mRet, mRetN, mLstM, getl, setl, mName, mCall, mCallK, mIf, mIfS, mTest, mAnd, mOr, mNot, mYes, mAndV, mOrV, mNotV, mNext, mNever, mBreak, mCont, mDrop, mChain, mPar, mGTup, mGCons, mGNil, pGcd, pI, pI0, pIx, pTimes, pPlus, pEq, pNe, pLen, pSum, pMaxS, pAll, pAny, pTupOf, pLstOf, pIn, pIsB, pIsi, items_tup, items_lst, items_kl, items_mr, items_tab, items_lot, items_fr, decide_true, decide_false, eqP_int, eqP_bl, eqP_str, eqP_tup2, kit_tt, kit_ii, kit_ib, tyP, mEnd, wipeP, List.map_cons, List.map_nil, List.getElem?_cons_zero, List.getElem?_cons_succ, List.set_cons_zero, List.set_cons_succ, atI_zero, atI_one, if_true, if_false, ite_true, ite_false, Bool.false_eq_true, List.length_cons, List.length_nil, Bool.not_true, Bool.not_false]
  rw [Int.toNat_natCast, rangeP_eq, List.length_map, List.length_range]
  refine ⟨fun i hi => hi, by omega, by unfold lim; omega, lc_map (enc := fun (i : Nat) => PV.int i) (out := fun i => PV.int (one.count i : Nat)) (fun i hi k hk => ?_) ?_⟩
  · simp only [pComb, mCnt, mDNewT, mZipM, mDc, mLenSetL, mDGetT, mDGet2T, mDInT, mDPutT, mLockX, mLockEX, mKeysX, pLstX, pLenX, pMaxT, pSortT, str_to, str_ot, mPar3, mLockV, mLockE, mItemsC, mKeysC, mDGet2, pIsN, isNonP, pRepLM, mTruD, dkOfP, pPopAt, pIndex, mLstRgM, mTruth, pReprA, pLenD, pLstD, mDNew, pRepL, mLenSetN, mDIn, mSortSet, mSortSetL, mRevT, mForC, mSeqC, mLcC, pAbs, pMax2, pMin2, pInt1, mDGet, mDPut, mBM, mBM0, pPop, pAppend, pExtend, pSetL, mSub, mDisp, mPs, mPs0, mRevL, mRevLM, pLstOfM, mTupRg, mRg1, mRg2, pPlusM, lstItems, dictOfP, keyP, keysP, val_left, val_mixed, val_draws, put_draws, mLc, mLcM, mLc2, mFor, mSeqI, mRng1, mRng2, mZip, mEnum, mSl, mNoPart, mPart, mSeq, mAsg, mAsg2, mCB, mCons, mNil, mVar, mC, mOp, mUn, pU, mTup, mLst, mRet, mRetN, mLstM, getl, setl, mName, mCall, mCallK, mIf, mIfS, mTest, mAnd, mOr, mNot, mYes, mAndV, mOrV, mNotV, mNext, mNever, mBreak, mCont, mDrop, mChain, mPar, mGTup, mGCons, mGNil, pGcd, pI, pI0, pIx, pTimes, pPlus, pEq, pNe, pLen, pSum, pMaxS, pAll, pAny, pTupOf, pLstOf, pIn, pIsB, pIsi, items_tup, items_lst, items_kl, items_mr, items_tab, items_lot, items_fr, decide_true, decide_false, eqP_int, eqP_bl, eqP_str, eqP_tup2, kit_tt, kit_ii, kit_ib, tyP, mEnd, wipeP, List.map_cons, List.map_nil, List.getElem?_cons_zero, List.getElem?_cons_succ, List.set_cons_zero, List.set_cons_succ, atI_zero, atI_one, if_true, if_false, ite_true, ite_false, Bool.false_eq_true, List.length_cons, List.length_nil, Bool.not_true, Bool.not_false, lotP]
    rw [intsP_lot]
    simp only [cntI_zs]
    exact hk
  rw [List.nil_append, show ((List.range qs.length).map fun i => PV.int (one.count i : Nat)) = (cts qs.length one).map fun (n : Nat) => PV.int n by unfold cts; rw [List.map_map]; rfl]
  refine ⟨fun i hi => hi, by omega, by unfold lim; omega, lc_draws 6 D6 (fun a ha ν k D hk => ?_) fun c2 μ7 hlc hc2 D7 => ?_⟩
  · simp only [pComb, mCnt, mDNewT, mZipM, mDc, mLenSetL, mDGetT, mDGet2T, mDInT, mDPutT, mLockX, mLockEX, mKeysX, pLstX, pLenX, pMaxT, pSortT, str_to, str_ot, mPar3, mLockV, mLockE, mItemsC, mKeysC, mDGet2, pIsN, isNonP, pRepLM, mTruD, dkOfP, pPopAt, pIndex, mLstRgM, mTruth, pReprA, pLenD, pLstD, mDNew, pRepL, mLenSetN, mDIn, mSortSet, mSortSetL, mRevT, mForC, mSeqC, mLcC, pAbs, pMax2, pMin2, pInt1, mDGet, mDPut, mBM, mBM0, pPop, pAppend, pExtend, pSetL, mSub, mDisp, mPs, mPs0, mRevL, mRevLM, pLstOfM, mTupRg, mRg1, mRg2, pPlusM, lstItems, dictOfP, keyP, keysP, val_left, val_mixed, val_draws, put_draws, mLc, mLcM, mLc2, mFor, mSeqI, mRng1, mRng2, mZip, mEnum, mSl, mNoPart, mPart, mSeq, mAsg, mAsg2, mCB, mCons, mNil, mVar, mC, mOp, mUn, pU, mTup, mLst, mRet, mRetN, mLstM, getl, setl, mName, mCall, mCallK, mIf, mIfS, mTest, mAnd, mOr, mNot, mYes, mAndV, mOrV, mNotV, mNext, mNever, mBreak, mCont, mDrop, mChain, mPar, mGTup, mGCons, mGNil, pGcd, pI, pI0, pIx, pTimes, pPlus, pEq, pNe, pLen, pSum, pMaxS, pAll, pAny, pTupOf, pLstOf, pIn, pIsB, pIsi, items_tup, items_lst, items_kl, items_mr, items_tab, items_lot, items_fr, decide_true, decide_false, eqP_int, eqP_bl, eqP_str, eqP_tup2, kit_tt, kit_ii, kit_ib, tyP, mEnd, wipeP, List.map_cons, List.map_nil, List.getElem?_cons_zero, List.getElem?_cons_succ, List.set_cons_zero, List.set_cons_succ, atI_zero, atI_one, if_true, if_false, ite_true, ite_false, Bool.false_eq_true, List.length_cons, List.length_nil, Bool.not_true, Bool.not_false, S__law_draw]
    exact ⟨trivial, _, m, _, rfl, D, by decide, by decide, fun n ν' h0 hn D' => hk n ν' h0 hn D'⟩
  rw [List.length_range] at hlc
  clear D6
  have hrep : ∀ a n : Nat, (List.replicate n [PV.int (a : Nat)]).flatten = (List.replicate n a).map fun (n : Nat) => PV.int n := fun a n => by
    induction n with
    | zero => rfl
    | succ n ih => rw [List.replicate_succ, List.flatten_cons, ih, List.replicate_succ]; rfl
  have hr0 : (List.replicate qs.length [PV.int 0]).flatten = (List.replicate qs.length 0).map fun (n : Nat) => PV.int n := hrep 0 qs.length
  have hr40 : (List.replicate qs.length [PV.int 40]).flatten = (List.replicate qs.length 40).map fun (n : Nat) => PV.int n := hrep 40 qs.length
  refine ⟨by decide, ⟨by simp, by omega, by omega, by decide⟩, by decide, ⟨by simp, by omega, by omega, by decide⟩, by decide, ?_⟩
  rw [hr0, hr40]
  have hI : ∀ (l : List PV), (∀ q ∈ qs, q.den ≤ 2 ^ 8) ∨ l = [lotP (cts qs.length one), lotP c2, lotP (List.replicate qs.length 0)] → (l = [lotP (cts qs.length one), lotP c2, lotP (List.replicate qs.length 0)] ∨ l = [lotP (cts qs.length one), lotP c2, lotP (List.replicate qs.length 0), lotP (List.replicate qs.length 40)]) → ∀ v ∈ l, ∃ (cs : List Nat) (z : Nat), v = lotP cs ∧ cs.length = qs.length ∧ (∀ c ∈ cs, c ≤ 40) ∧ cs.sum ≤ 320 ∧ z * cs.sum ≤ 2650 ∧ (∀ q ∈ qs, 0 ≤ q ∧ q ≤ 1 ∧ q.den ≤ 2 ^ z) := by
    intro l hz hl v hv
    have a1 : ∃ (cs : List Nat) (z : Nat), lotP (cts qs.length one) = lotP cs ∧ cs.length = qs.length ∧ (∀ c ∈ cs, c ≤ 40) ∧ cs.sum ≤ 320 ∧ z * cs.sum ≤ 2650 ∧ (∀ q ∈ qs, 0 ≤ q ∧ q ≤ 1 ∧ q.den ≤ 2 ^ z) := by
      have := cts_sum ho1
      exact ⟨_, 44, rfl, cts_len _ _, fun c hc => by have := cts_le c hc; omega, by omega, by omega, hq44⟩
    have a2 : ∃ (cs : List Nat) (z : Nat), lotP c2 = lotP cs ∧ cs.length = qs.length ∧ (∀ c ∈ cs, c ≤ 40) ∧ cs.sum ≤ 320 ∧ z * cs.sum ≤ 2650 ∧ (∀ q ∈ qs, 0 ≤ q ∧ q ≤ 1 ∧ q.den ≤ 2 ^ z) := by
      have := lsum_le (k := 5) (cs := c2) fun c hc => by have := hc2 c hc; omega
      exact ⟨_, 44, rfl, hlc, fun c hc => by have := hc2 c hc; omega, by omega, by omega, hq44⟩
    have a3 : ∃ (cs : List Nat) (z : Nat), lotP (List.replicate qs.length 0) = lotP cs ∧ cs.length = qs.length ∧ (∀ c ∈ cs, c ≤ 40) ∧ cs.sum ≤ 320 ∧ z * cs.sum ≤ 2650 ∧ (∀ q ∈ qs, 0 ≤ q ∧ q ≤ 1 ∧ q.den ≤ 2 ^ z) := by
      have h0 : (List.replicate qs.length 0).sum = 0 := by simp
      exact ⟨_, 44, rfl, List.length_replicate, fun c hc => by rw [(List.mem_replicate.mp hc).2]; decide, by omega, by omega, hq44⟩
    rcases hl with rfl | rfl
    · simp only [List.mem_cons, List.not_mem_nil, or_false] at hv
      rcases hv with rfl | rfl | rfl
      · exact a1
      · exact a2
      · exact a3
    · have hz : ∀ q ∈ qs, q.den ≤ 2 ^ 8 := hz.resolve_right (by simp)
      simp only [List.mem_cons, List.not_mem_nil, or_false] at hv
      rcases hv with rfl | rfl | rfl | rfl
      · exact a1
      · exact a2
      · exact a3
      · have h0 : (List.replicate qs.length 40).sum = qs.length * 40 := by simp
        exact ⟨_, 8, rfl, List.length_replicate, fun c hc => by rw [(List.mem_replicate.mp hc).2]; decide, by omega, by omega, fun q hq => ⟨(hq44 q hq).1, (hq44 q hq).2.1, hz q hq⟩⟩
  subst hR9
  refine stm_of fun R10 hR10 => ?_
  have hR10 : ∀ (cs : List Nat) (z : Nat) (sm : PV) (ν : Store), cs.length = qs.length → (∀ c ∈ cs, c ≤ 40) → cs.sum ≤ 320 → z * cs.sum ≤ 2650 → (∀ q ∈ qs, 0 ≤ q ∧ q ≤ 1 ∧ q.den ≤ 2 ^ z) → Dk m g ν → R10 [some (PV.kl (List.map PV.int ns)), some (PV.mr 1), some (tabP qs), some (PV.int ↑qs.length), some (lotP one), some (lotP other), some (PV.lst told), some (PV.lst due), some sm, some (lotP cs), none, none, none, none, none, none, none, none, none] ν := by
    clear hI D7 hr0 hr40 hrep hc2 hlc c2
    intro cs z sm ν hcl hc40 hcs hz hqz D7
    have hU := ccq_sm hqz hcl hcs hz
    subst hR10
    refine stm_of fun R11 hR11 => ?_
    simp only [pComb, mCnt, mDNewT, mZipM, mDc, mLenSetL, mDGetT, mDGet2T, mDInT, mDPutT, mLockX, mLockEX, mKeysX, pLstX, pLenX, pMaxT, pSortT, str_to, str_ot, mPar3, mLockV, mLockE, mItemsC, mKeysC, mDGet2, pIsN, isNonP, pRepLM, mTruD, dkOfP, pPopAt, pIndex, mLstRgM, mTruth, pReprA, pLenD, pLstD, mDNew, pRepL, mLenSetN, mDIn, mSortSet, mSortSetL, mRevT, mForC, mSeqC, mLcC, pAbs, pMax2, pMin2, pInt1, mDGet, mDPut, mBM, mBM0, pPop, pAppend, pExtend, pSetL, mSub, mDisp, mPs, mPs0, mRevL, mRevLM, pLstOfM, mTupRg, mRg1, mRg2, pPlusM, lstItems, dictOfP, keyP, keysP, val_left, val_mixed, val_draws, put_draws, mLc, mLcM, mLc2, mFor, mSeqI, mRng1, mRng2, mZip, mEnum, mSl, mNoPart, mPart, mAsg, mAsg2, mCB, mCons, mNil, mVar, mC, mOp, mUn, pU, mTup, mLst, mRet, mRetN, mLstM, getl, setl, mName, mCall, mCallK, mIf, mIfS, mTest, mAnd, mOr, mNot, mYes, mAndV, mOrV, mNotV, mNext, mNever, mBreak, mCont, mDrop, mChain, mPar, mGTup, mGCons, mGNil, pGcd, pI, pI0, pIx, pTimes, pPlus, pEq, pNe, pLen, pSum, pMaxS, pAll, pAny, pTupOf, pLstOf, pIn, pIsB, pIsi, items_tup, items_lst, items_kl, items_mr, items_tab, items_lot, items_fr, decide_true, decide_false, eqP_int, eqP_bl, eqP_str, eqP_tup2, kit_tt, kit_ii, kit_ib, tyP, mEnd, wipeP, List.map_cons, List.map_nil, List.getElem?_cons_zero, List.getElem?_cons_succ, List.set_cons_zero, List.set_cons_succ, atI_zero, atI_one, if_true, if_false, ite_true, ite_false, Bool.false_eq_true, List.length_cons, List.length_nil, Bool.not_true, Bool.not_false, S_counts_chance]
    refine ⟨trivial, qs, cs, z, rfl, hT, fun q hq => (hqz q hq).2.2, hcl, hc40, hz, trivial, rfl, qs, cs, z, rfl, hT, fun q hq => (hqz q hq).2.2, hcl, hc40, hz, by decide, ?_⟩
    subst hR11
    refine stm_of fun R12 hR12 => ?_
    simp only [pComb, mCnt, mDNewT, mZipM, mDc, mLenSetL, mDGetT, mDGet2T, mDInT, mDPutT, mLockX, mLockEX, mKeysX, pLstX, pLenX, pMaxT, pSortT, str_to, str_ot, mPar3, mLockV, mLockE, mItemsC, mKeysC, mDGet2, pIsN, isNonP, pRepLM, mTruD, dkOfP, pPopAt, pIndex, mLstRgM, mTruth, pReprA, pLenD, pLstD, mDNew, pRepL, mLenSetN, mDIn, mSortSet, mSortSetL, mRevT, mForC, mSeqC, mLcC, pAbs, pMax2, pMin2, pInt1, mDGet, mDPut, mBM, mBM0, pPop, pAppend, pExtend, pSetL, mSub, mDisp, mPs, mPs0, mRevL, mRevLM, pLstOfM, mTupRg, mRg1, mRg2, pPlusM, lstItems, dictOfP, keyP, keysP, val_left, val_mixed, val_draws, put_draws, mLc, mLcM, mLc2, mFor, mSeqI, mRng1, mRng2, mZip, mEnum, mSl, mNoPart, mPart, mAsg, mAsg2, mCB, mCons, mNil, mVar, mC, mOp, mUn, pU, mTup, mLst, mRet, mRetN, mLstM, getl, setl, mName, mCall, mCallK, mIf, mIfS, mTest, mAnd, mOr, mNot, mYes, mAndV, mOrV, mNotV, mNext, mNever, mBreak, mCont, mDrop, mChain, mPar, mGTup, mGCons, mGNil, pGcd, pI, pI0, pIx, pTimes, pPlus, pEq, pNe, pLen, pSum, pMaxS, pAll, pAny, pTupOf, pLstOf, pIn, pIsB, pIsi, items_tup, items_lst, items_kl, items_mr, items_tab, items_lot, items_fr, decide_true, decide_false, eqP_int, eqP_bl, eqP_str, eqP_tup2, kit_tt, kit_ii, kit_ib, tyP, mEnd, wipeP, List.map_cons, List.map_nil, List.getElem?_cons_zero, List.getElem?_cons_succ, List.set_cons_zero, List.set_cons_succ, atI_zero, atI_one, if_true, if_false, ite_true, ite_false, Bool.false_eq_true, List.length_cons, List.length_nil, Bool.not_true, Bool.not_false]
    refine pReprB_frs (qs := [ccq qs cs, ccq qs cs]) (fun q hq => by
      simp only [List.mem_cons, List.not_mem_nil, or_false] at hq
      rcases hq with rfl | rfl <;> exact hU) (by decide) (by show 2 ≤ 20; decide) ?_
    simp only [S__law_counts_chance]
    refine ⟨rfl, qs, cs, z, rfl, hqz, hcl, h8, hcs, hz, by decide, by decide, ?_⟩
    refine pReprB_frs (qs := [ccq qs cs, ccq qs cs]) (fun q hq => by
      simp only [List.mem_cons, List.not_mem_nil, or_false] at hq
      rcases hq with rfl | rfl <;> exact hU) (by decide) (by show 2 ≤ 20; decide) ?_
    simp only [pComb, mCnt, mDNewT, mZipM, mDc, mLenSetL, mDGetT, mDGet2T, mDInT, mDPutT, mLockX, mLockEX, mKeysX, pLstX, pLenX, pMaxT, pSortT, str_to, str_ot, mPar3, mLockV, mLockE, mItemsC, mKeysC, mDGet2, pIsN, isNonP, pRepLM, mTruD, dkOfP, pPopAt, pIndex, mLstRgM, mTruth, pReprA, pLenD, pLstD, mDNew, pRepL, mLenSetN, mDIn, mSortSet, mSortSetL, mRevT, mForC, mSeqC, mLcC, pAbs, pMax2, pMin2, pInt1, mDGet, mDPut, mBM, mBM0, pPop, pAppend, pExtend, pSetL, mSub, mDisp, mPs, mPs0, mRevL, mRevLM, pLstOfM, mTupRg, mRg1, mRg2, pPlusM, lstItems, dictOfP, keyP, keysP, val_left, val_mixed, val_draws, put_draws, mLc, mLcM, mLc2, mFor, mSeqI, mRng1, mRng2, mZip, mEnum, mSl, mNoPart, mPart, mAsg, mAsg2, mCB, mCons, mNil, mVar, mC, mOp, mUn, pU, mTup, mLst, mRet, mRetN, mLstM, getl, setl, mName, mCall, mCallK, mIf, mIfS, mTest, mAnd, mOr, mNot, mYes, mAndV, mOrV, mNotV, mNext, mNever, mBreak, mCont, mDrop, mChain, mPar, mGTup, mGCons, mGNil, pGcd, pI, pI0, pIx, pTimes, pPlus, pEq, pNe, pLen, pSum, pMaxS, pAll, pAny, pTupOf, pLstOf, pIn, pIsB, pIsi, items_tup, items_lst, items_kl, items_mr, items_tab, items_lot, items_fr, decide_true, decide_false, eqP_int, eqP_bl, eqP_str, eqP_tup2, kit_tt, kit_ii, kit_ib, tyP, mEnd, wipeP, List.map_cons, List.map_nil, List.getElem?_cons_zero, List.getElem?_cons_succ, List.set_cons_zero, List.set_cons_succ, atI_zero, atI_one, if_true, if_false, ite_true, ite_false, Bool.false_eq_true, List.length_cons, List.length_nil, Bool.not_true, Bool.not_false, eqP_str]
    generalize [frP (ccq qs cs), frP (ccq qs cs)] = told
    clear hU hz hcs hc40 hcl
    subst hR12
    refine stm_of fun R13 hR13 => ?_
    have hR13b : ∀ (w : Nat) (ν : Store), 1 ≤ w → w ≤ 5 → (w = 5 ∨ w ≤ 3) → (w = 5 → qs.length < 5) → Dk m g ν → R13 [some (PV.kl (List.map PV.int ns)), some (PV.mr 1), some (tabP qs), some (PV.int ↑qs.length), some (lotP one), some (lotP other), some (PV.lst told), some (PV.lst due), some sm, some (lotP cs), some (.int (w : Nat)), none, none, none, none, none, none, none, none] ν := by
      clear D7
      intro w ν hw1 hw5 hw3 hwn D8
      subst hR13
      refine stm_of fun R14 hR14 => ?_
      simp only [pComb, mCnt, mDNewT, mZipM, mDc, mLenSetL, mDGetT, mDGet2T, mDInT, mDPutT, mLockX, mLockEX, mKeysX, pLstX, pLenX, pMaxT, pSortT, str_to, str_ot, mPar3, mLockV, mLockE, mItemsC, mKeysC, mDGet2, pIsN, isNonP, pRepLM, mTruD, dkOfP, pPopAt, pIndex, mLstRgM, mTruth, pReprA, pLenD, pLstD, mDNew, pRepL, mLenSetN, mDIn, mSortSet, mSortSetL, mRevT, mForC, mSeqC, mLcC, pAbs, pMax2, pMin2, pInt1, mDGet, mDPut, mBM, mBM0, pPop, pAppend, pExtend, pSetL, mSub, mDisp, mPs, mPs0, mRevL, mRevLM, pLstOfM, mTupRg, mRg1, mRg2, pPlusM, lstItems, dictOfP, keyP, keysP, val_left, val_mixed, val_draws, put_draws, mLc, mLcM, mLc2, mFor, mSeqI, mRng1, mRng2, mZip, mEnum, mSl, mNoPart, mPart, mAsg, mAsg2, mCB, mCons, mNil, mVar, mC, mOp, mUn, pU, mTup, mLst, mRet, mRetN, mLstM, getl, setl, mName, mCall, mCallK, mIf, mIfS, mTest, mAnd, mOr, mNot, mYes, mAndV, mOrV, mNotV, mNext, mNever, mBreak, mCont, mDrop, mChain, mPar, mGTup, mGCons, mGNil, pGcd, pI, pI0, pIx, pTimes, pPlus, pEq, pNe, pLen, pSum, pMaxS, pAll, pAny, pTupOf, pLstOf, pIn, pIsB, pIsi, items_tup, items_lst, items_kl, items_mr, items_tab, items_lot, items_fr, decide_true, decide_false, eqP_int, eqP_bl, eqP_str, eqP_tup2, kit_tt, kit_ii, kit_ib, tyP, mEnd, wipeP, List.map_cons, List.map_nil, List.getElem?_cons_zero, List.getElem?_cons_succ, List.set_cons_zero, List.set_cons_succ, atI_zero, atI_one, if_true, if_false, ite_true, ite_false, Bool.false_eq_true, List.length_cons, List.length_nil, Bool.not_true, Bool.not_false, S__law_all_counts, S__law_all_counts_n]
      have hpw : (w + 1) ^ qs.length ≤ 100000 := by
        rcases hw3 with h | h
        · have := hwn h
          subst h
          exact Nat.le_trans (Nat.pow_le_pow_right (by decide) (show qs.length ≤ 4 by omega)) (by decide)
        · exact Nat.le_trans (Nat.pow_le_pow_left (show w + 1 ≤ 4 by omega) _) (Nat.le_trans (Nat.pow_le_pow_right (by decide) h8) (by decide))
      have hfew : (allc qs.length w).length ≤ 200 := allc_few ⟨qs.length, by omega⟩ ⟨w, by omega⟩ hwn hw3
      refine ⟨fun i hi => hi, by decide, trivial, qs.length, w, rfl, h1, by omega, by omega, hpw, by omega, by rw [List.length_map]; unfold lim; omega, lc_map (enc := lotP) (out := fun c => frP (ccq qs c)) (fun c hc k hk => ?_) ?_⟩
      · obtain ⟨s1, s2⟩ := allc_sum hc
        simp only [pComb, mCnt, mDNewT, mZipM, mDc, mLenSetL, mDGetT, mDGet2T, mDInT, mDPutT, mLockX, mLockEX, mKeysX, pLstX, pLenX, pMaxT, pSortT, str_to, str_ot, mPar3, mLockV, mLockE, mItemsC, mKeysC, mDGet2, pIsN, isNonP, pRepLM, mTruD, dkOfP, pPopAt, pIndex, mLstRgM, mTruth, pReprA, pLenD, pLstD, mDNew, pRepL, mLenSetN, mDIn, mSortSet, mSortSetL, mRevT, mForC, mSeqC, mLcC, pAbs, pMax2, pMin2, pInt1, mDGet, mDPut, mBM, mBM0, pPop, pAppend, pExtend, pSetL, mSub, mDisp, mPs, mPs0, mRevL, mRevLM, pLstOfM, mTupRg, mRg1, mRg2, pPlusM, lstItems, dictOfP, keyP, keysP, val_left, val_mixed, val_draws, put_draws, mLc, mLcM, mLc2, mFor, mSeqI, mRng1, mRng2, mZip, mEnum, mSl, mNoPart, mPart, mSeq, mAsg, mAsg2, mCB, mCons, mNil, mVar, mC, mOp, mUn, pU, mTup, mLst, mRet, mRetN, mLstM, getl, setl, mName, mCall, mCallK, mIf, mIfS, mTest, mAnd, mOr, mNot, mYes, mAndV, mOrV, mNotV, mNext, mNever, mBreak, mCont, mDrop, mChain, mPar, mGTup, mGCons, mGNil, pGcd, pI, pI0, pIx, pTimes, pPlus, pEq, pNe, pLen, pSum, pMaxS, pAll, pAny, pTupOf, pLstOf, pIn, pIsB, pIsi, items_tup, items_lst, items_kl, items_mr, items_tab, items_lot, items_fr, decide_true, decide_false, eqP_int, eqP_bl, eqP_str, eqP_tup2, kit_tt, kit_ii, kit_ib, tyP, mEnd, wipeP, List.map_cons, List.map_nil, List.getElem?_cons_zero, List.getElem?_cons_succ, List.set_cons_zero, List.set_cons_succ, atI_zero, atI_one, if_true, if_false, ite_true, ite_false, Bool.false_eq_true, List.length_cons, List.length_nil, Bool.not_true, Bool.not_false, S_counts_chance]
        exact ⟨trivial, qs, c, 44, rfl, hT, fun q hq => (hq44 q hq).2.2, s2, fun x hx => by have := mem_le_nsum hx; omega, by omega, hk⟩
      rw [List.nil_append, show ((allc qs.length w).map fun c => frP (ccq qs c)) = ((allc qs.length w).map (ccq qs)).map frP by rw [List.map_map]; rfl]
      obtain ⟨D, hD0, hD1, hDq⟩ := hT.com
      have hE0 : 0 < D ^ w := Nat.pow_pos hD0
      have hE1 : D ^ w < 2 ^ 221 := Nat.lt_of_le_of_lt (Nat.pow_le_pow_left (Nat.le_of_lt hD1) w) (by rw [← Nat.pow_mul]; exact Nat.pow_lt_pow_right (by decide) (by omega))
      have hcm : ∀ c ∈ allc qs.length w, Cm (D ^ w) (ccq qs c) := fun c hc => by
        obtain ⟨s1, s2⟩ := allc_sum hc
        have := ccq_cm hDq s2
        rw [s1] at this
        exact this
      have hone := allc_cc w hT.ne hT.one
      simp only [S__law_sum]
      refine ⟨rfl, _, (allc qs.length w).map (ccq qs), D ^ w, 222, rfl, .inl rfl, ?_, by rw [List.length_map]; omega, by rw [List.length_map]; omega, hE0, Nat.lt_trans hE1 (Nat.pow_lt_pow_right (by decide) (by decide)), ?_, .inr hone, ?_⟩
      · intro q hq
        obtain ⟨c, hc, rfl⟩ := List.mem_map.mp hq
        have hu := allc_unit hT hc
        have h12 : (1 : Rat) < ((2 ^ 1 : Nat) : Rat) := by decide +kernel
        exact (hcm c hc).sm hE0 hE1 (m := 1) hu.1 (by grind)
      · intro q hq
        obtain ⟨c, hc, rfl⟩ := List.mem_map.mp hq
        exact cm_den (hcm c hc)
      rw [hone, show PV.tup [PV.int 1, PV.int 1] = frP 1 from rfl, eqP_fr]
      simp only [pComb, mCnt, mDNewT, mZipM, mDc, mLenSetL, mDGetT, mDGet2T, mDInT, mDPutT, mLockX, mLockEX, mKeysX, pLstX, pLenX, pMaxT, pSortT, str_to, str_ot, mPar3, mLockV, mLockE, mItemsC, mKeysC, mDGet2, pIsN, isNonP, pRepLM, mTruD, dkOfP, pPopAt, pIndex, mLstRgM, mTruth, pReprA, pLenD, pLstD, mDNew, pRepL, mLenSetN, mDIn, mSortSet, mSortSetL, mRevT, mForC, mSeqC, mLcC, pAbs, pMax2, pMin2, pInt1, mDGet, mDPut, mBM, mBM0, pPop, pAppend, pExtend, pSetL, mSub, mDisp, mPs, mPs0, mRevL, mRevLM, pLstOfM, mTupRg, mRg1, mRg2, pPlusM, lstItems, dictOfP, keyP, keysP, val_left, val_mixed, val_draws, put_draws, mLc, mLcM, mLc2, mFor, mSeqI, mRng1, mRng2, mZip, mEnum, mSl, mNoPart, mPart, mSeq, mAsg, mAsg2, mCB, mCons, mNil, mVar, mC, mOp, mUn, pU, mTup, mLst, mRet, mRetN, mLstM, getl, setl, mName, mCall, mCallK, mIf, mIfS, mTest, mAnd, mOr, mNot, mYes, mAndV, mOrV, mNotV, mNext, mNever, mBreak, mCont, mDrop, mChain, mPar, mGTup, mGCons, mGNil, pGcd, pI, pI0, pIx, pTimes, pPlus, pEq, pNe, pLen, pSum, pMaxS, pAll, pAny, pTupOf, pLstOf, pIn, pIsB, pIsi, items_tup, items_lst, items_kl, items_mr, items_tab, items_lot, items_fr, decide_true, decide_false, eqP_int, eqP_bl, eqP_str, eqP_tup2, kit_tt, kit_ii, kit_ib, tyP, mEnd, wipeP, List.map_cons, List.map_nil, List.getElem?_cons_zero, List.getElem?_cons_succ, List.set_cons_zero, List.set_cons_succ, atI_zero, atI_one, if_true, if_false, ite_true, ite_false, Bool.false_eq_true, List.length_cons, List.length_nil, Bool.not_true, Bool.not_false]
      clear hone hcm hE1 hE0 hDq hD1 hD0 hfew hpw
      have hR14b : ∀ (ν : Store) (G : Store), Dk m G ν → R14 [some (PV.kl (List.map PV.int ns)), some (PV.mr 1), some (tabP qs), some (PV.int ↑qs.length), some (lotP one), some (lotP other), some (PV.lst told), some (PV.lst due), some sm, some (lotP cs), some (.int (w : Nat)), none, none, none, none, none, none, none, none] ν := by
        clear D8
        intro ν G D8
        subst hR14
        refine stm_of fun R15 hR15 => ?_
        have hR15b : ∀ (ν : Store), Dk m G ν → R15 [some (PV.kl (List.map PV.int ns)), some (PV.mr 1), some (tabP qs), some (PV.int ↑qs.length), some (lotP one), some (lotP other), some (PV.lst told), some (PV.lst due), some sm, some (lotP cs), some (.int (w : Nat)), none, none, none, none, none, none, none, none] ν := by
          clear D8
          intro ν D8
          subst hR15
          refine stm_of fun R16 hR16 => ?_
          simp only [pComb, mCnt, mDNewT, mZipM, mDc, mLenSetL, mDGetT, mDGet2T, mDInT, mDPutT, mLockX, mLockEX, mKeysX, pLstX, pLenX, pMaxT, pSortT, str_to, str_ot, mPar3, mLockV, mLockE, mItemsC, mKeysC, mDGet2, pIsN, isNonP, pRepLM, mTruD, dkOfP, pPopAt, pIndex, mLstRgM, mTruth, pReprA, pLenD, pLstD, mDNew, pRepL, mLenSetN, mDIn, mSortSet, mSortSetL, mRevT, mForC, mSeqC, mLcC, pAbs, pMax2, pMin2, pInt1, mDGet, mDPut, mBM, mBM0, pPop, pAppend, pExtend, pSetL, mSub, mDisp, mPs, mPs0, mRevL, mRevLM, pLstOfM, mTupRg, mRg1, mRg2, pPlusM, lstItems, dictOfP, keyP, keysP, val_left, val_mixed, val_draws, put_draws, mLc, mLcM, mLc2, mFor, mSeqI, mRng1, mRng2, mZip, mEnum, mSl, mNoPart, mPart, mAsg, mAsg2, mCB, mCons, mNil, mVar, mC, mOp, mUn, pU, mTup, mLst, mRet, mRetN, mLstM, getl, setl, mName, mCall, mCallK, mIf, mIfS, mTest, mAnd, mOr, mNot, mYes, mAndV, mOrV, mNotV, mNext, mNever, mBreak, mCont, mDrop, mChain, mPar, mGTup, mGCons, mGNil, pGcd, pI, pI0, pIx, pTimes, pPlus, pEq, pNe, pLen, pSum, pMaxS, pAll, pAny, pTupOf, pLstOf, pIn, pIsB, pIsi, items_tup, items_lst, items_kl, items_mr, items_tab, items_lot, items_fr, decide_true, decide_false, eqP_int, eqP_bl, eqP_str, eqP_tup2, kit_tt, kit_ii, kit_ib, tyP, mEnd, wipeP, List.map_cons, List.map_nil, List.getElem?_cons_zero, List.getElem?_cons_succ, List.set_cons_zero, List.set_cons_succ, atI_zero, atI_one, if_true, if_false, ite_true, ite_false, Bool.false_eq_true, List.length_cons, List.length_nil, Bool.not_true, Bool.not_false]
          by_cases c1 : qs.length = 1
          · rw [if_pos (by simpa using (by omega : ((qs.length : Nat) : Int) = 1))]
            exact fin_keep (hQ _)
          rw [if_neg (by simpa using (by omega : ¬ ((qs.length : Nat) : Int) = 1))]
          subst hR16
          refine stm_of fun R17 hR17 => ?_
          simp only [pComb, mCnt, mDNewT, mZipM, mDc, mLenSetL, mDGetT, mDGet2T, mDInT, mDPutT, mLockX, mLockEX, mKeysX, pLstX, pLenX, pMaxT, pSortT, str_to, str_ot, mPar3, mLockV, mLockE, mItemsC, mKeysC, mDGet2, pIsN, isNonP, pRepLM, mTruD, dkOfP, pPopAt, pIndex, mLstRgM, mTruth, pReprA, pLenD, pLstD, mDNew, pRepL, mLenSetN, mDIn, mSortSet, mSortSetL, mRevT, mForC, mSeqC, mLcC, pAbs, pMax2, pMin2, pInt1, mDGet, mDPut, mBM, mBM0, pPop, pAppend, pExtend, pSetL, mSub, mDisp, mPs, mPs0, mRevL, mRevLM, pLstOfM, mTupRg, mRg1, mRg2, pPlusM, lstItems, dictOfP, keyP, keysP, val_left, val_mixed, val_draws, put_draws, mLc, mLcM, mLc2, mFor, mSeqI, mRng1, mRng2, mZip, mEnum, mSl, mNoPart, mPart, mAsg, mAsg2, mCB, mCons, mNil, mVar, mC, mOp, mUn, pU, mTup, mLst, mRet, mRetN, mLstM, getl, setl, mName, mCall, mCallK, mIf, mIfS, mTest, mAnd, mOr, mNot, mYes, mAndV, mOrV, mNotV, mNext, mNever, mBreak, mCont, mDrop, mChain, mPar, mGTup, mGCons, mGNil, pGcd, pI, pI0, pIx, pTimes, pPlus, pEq, pNe, pLen, pSum, pMaxS, pAll, pAny, pTupOf, pLstOf, pIn, pIsB, pIsi, items_tup, items_lst, items_kl, items_mr, items_tab, items_lot, items_fr, decide_true, decide_false, eqP_int, eqP_bl, eqP_str, eqP_tup2, kit_tt, kit_ii, kit_ib, tyP, mEnd, wipeP, List.map_cons, List.map_nil, List.getElem?_cons_zero, List.getElem?_cons_succ, List.set_cons_zero, List.set_cons_succ, atI_zero, atI_one, if_true, if_false, ite_true, ite_false, Bool.false_eq_true, List.length_cons, List.length_nil, Bool.not_true, Bool.not_false, S__law_draw]
          have e3 : (((qs.length : Nat) : Int) - 1 - 1).toNat = qs.length - 2 := by omega
          rw [e3]
          refine ⟨by decide, ⟨by decide, by decide, by omega, by omega⟩, by unfold rangeP; rw [List.length_map, List.length_range]; unfold lim; omega, trivial, _, m, _, rfl, D8, by decide, by decide, fun M' μ9 m0 m6 D9 => ⟨by decide, trivial, ?_⟩⟩
          obtain ⟨M, rfl⟩ : ∃ M : Nat, M' = (M : Nat) := ⟨M'.toNat, by omega⟩
          have hM : M ≤ 5 := by omega
          rw [merged_lot]
          clear D8 m0 m6 e3
          obtain ⟨hTm, hlm, h7, hlN, hsum⟩ := merged_cc hT (show 2 ≤ qs.length by omega)
          generalize mergedN qs.length = nm at *
          subst hR17
          refine stm_of fun R18 hR18 => ?_
          simp only [pComb, mCnt, mDNewT, mZipM, mDc, mLenSetL, mDGetT, mDGet2T, mDInT, mDPutT, mLockX, mLockEX, mKeysX, pLstX, pLenX, pMaxT, pSortT, str_to, str_ot, mPar3, mLockV, mLockE, mItemsC, mKeysC, mDGet2, pIsN, isNonP, pRepLM, mTruD, dkOfP, pPopAt, pIndex, mLstRgM, mTruth, pReprA, pLenD, pLstD, mDNew, pRepL, mLenSetN, mDIn, mSortSet, mSortSetL, mRevT, mForC, mSeqC, mLcC, pAbs, pMax2, pMin2, pInt1, mDGet, mDPut, mBM, mBM0, pPop, pAppend, pExtend, pSetL, mSub, mDisp, mPs, mPs0, mRevL, mRevLM, pLstOfM, mTupRg, mRg1, mRg2, pPlusM, lstItems, dictOfP, keyP, keysP, val_left, val_mixed, val_draws, put_draws, mLc, mLcM, mLc2, mFor, mSeqI, mRng1, mRng2, mZip, mEnum, mSl, mNoPart, mPart, mAsg, mAsg2, mCB, mCons, mNil, mVar, mC, mOp, mUn, pU, mTup, mLst, mRet, mRetN, mLstM, getl, setl, mName, mCall, mCallK, mIf, mIfS, mTest, mAnd, mOr, mNot, mYes, mAndV, mOrV, mNotV, mNext, mNever, mBreak, mCont, mDrop, mChain, mPar, mGTup, mGCons, mGNil, pGcd, pI, pI0, pIx, pTimes, pPlus, pEq, pNe, pLen, pSum, pMaxS, pAll, pAny, pTupOf, pLstOf, pIn, pIsB, pIsi, items_tup, items_lst, items_kl, items_mr, items_tab, items_lot, items_fr, decide_true, decide_false, eqP_int, eqP_bl, eqP_str, eqP_tup2, kit_tt, kit_ii, kit_ib, tyP, mEnd, wipeP, List.map_cons, List.map_nil, List.getElem?_cons_zero, List.getElem?_cons_succ, List.set_cons_zero, List.set_cons_succ, atI_zero, atI_one, if_true, if_false, ite_true, ite_false, Bool.false_eq_true, List.length_cons, List.length_nil, Bool.not_true, Bool.not_false]
          rw [show (((qs.length : Nat) : Int) - 2) = ((qs.length - 2 : Nat) : Int) by omega, Int.toNat_natCast, rangeP_eq, List.length_map, List.length_range]
          refine ⟨fun i hi => hi, by omega, by unfold lim; omega, lc_draws 3 D9 (fun a ha ν k D hk => ?_) fun rest μ10 hlr hrr D10 => ?_⟩
          · simp only [pComb, mCnt, mDNewT, mZipM, mDc, mLenSetL, mDGetT, mDGet2T, mDInT, mDPutT, mLockX, mLockEX, mKeysX, pLstX, pLenX, pMaxT, pSortT, str_to, str_ot, mPar3, mLockV, mLockE, mItemsC, mKeysC, mDGet2, pIsN, isNonP, pRepLM, mTruD, dkOfP, pPopAt, pIndex, mLstRgM, mTruth, pReprA, pLenD, pLstD, mDNew, pRepL, mLenSetN, mDIn, mSortSet, mSortSetL, mRevT, mForC, mSeqC, mLcC, pAbs, pMax2, pMin2, pInt1, mDGet, mDPut, mBM, mBM0, pPop, pAppend, pExtend, pSetL, mSub, mDisp, mPs, mPs0, mRevL, mRevLM, pLstOfM, mTupRg, mRg1, mRg2, pPlusM, lstItems, dictOfP, keyP, keysP, val_left, val_mixed, val_draws, put_draws, mLc, mLcM, mLc2, mFor, mSeqI, mRng1, mRng2, mZip, mEnum, mSl, mNoPart, mPart, mSeq, mAsg, mAsg2, mCB, mCons, mNil, mVar, mC, mOp, mUn, pU, mTup, mLst, mRet, mRetN, mLstM, getl, setl, mName, mCall, mCallK, mIf, mIfS, mTest, mAnd, mOr, mNot, mYes, mAndV, mOrV, mNotV, mNext, mNever, mBreak, mCont, mDrop, mChain, mPar, mGTup, mGCons, mGNil, pGcd, pI, pI0, pIx, pTimes, pPlus, pEq, pNe, pLen, pSum, pMaxS, pAll, pAny, pTupOf, pLstOf, pIn, pIsB, pIsi, items_tup, items_lst, items_kl, items_mr, items_tab, items_lot, items_fr, decide_true, decide_false, eqP_int, eqP_bl, eqP_str, eqP_tup2, kit_tt, kit_ii, kit_ib, tyP, mEnd, wipeP, List.map_cons, List.map_nil, List.getElem?_cons_zero, List.getElem?_cons_succ, List.set_cons_zero, List.set_cons_succ, atI_zero, atI_one, if_true, if_false, ite_true, ite_false, Bool.false_eq_true, List.length_cons, List.length_nil, Bool.not_true, Bool.not_false, S__law_draw]
            exact ⟨trivial, _, m, _, rfl, D, by decide, by decide, fun n ν' h0 hn D' => hk n ν' h0 hn D'⟩
          rw [List.length_range] at hlr
          clear D9
          have er : PV.tup (rest.map fun (n : Nat) => PV.int n) = lotP rest := rfl
          rw [er]
          have hsr := lsum_le (k := 2) (cs := rest) fun c hc => by have := hrr c hc; omega
          subst hR18
          refine stm_of fun R19 hR19 => ?_
          simp only [pComb, mCnt, mDNewT, mZipM, mDc, mLenSetL, mDGetT, mDGet2T, mDInT, mDPutT, mLockX, mLockEX, mKeysX, pLstX, pLenX, pMaxT, pSortT, str_to, str_ot, mPar3, mLockV, mLockE, mItemsC, mKeysC, mDGet2, pIsN, isNonP, pRepLM, mTruD, dkOfP, pPopAt, pIndex, mLstRgM, mTruth, pReprA, pLenD, pLstD, mDNew, pRepL, mLenSetN, mDIn, mSortSet, mSortSetL, mRevT, mForC, mSeqC, mLcC, pAbs, pMax2, pMin2, pInt1, mDGet, mDPut, mBM, mBM0, pPop, pAppend, pExtend, pSetL, mSub, mDisp, mPs, mPs0, mRevL, mRevLM, pLstOfM, mTupRg, mRg1, mRg2, pPlusM, lstItems, dictOfP, keyP, keysP, val_left, val_mixed, val_draws, put_draws, mLc, mLcM, mLc2, mFor, mSeqI, mRng1, mRng2, mZip, mEnum, mSl, mNoPart, mPart, mAsg, mAsg2, mCB, mCons, mNil, mVar, mC, mOp, mUn, pU, mTup, mLst, mRet, mRetN, mLstM, getl, setl, mName, mCall, mCallK, mIf, mIfS, mTest, mAnd, mOr, mNot, mYes, mAndV, mOrV, mNotV, mNext, mNever, mBreak, mCont, mDrop, mChain, mPar, mGTup, mGCons, mGNil, pGcd, pI, pI0, pIx, pTimes, pPlus, pEq, pNe, pLen, pSum, pMaxS, pAll, pAny, pTupOf, pLstOf, pIn, pIsB, pIsi, items_tup, items_lst, items_kl, items_mr, items_tab, items_lot, items_fr, decide_true, decide_false, eqP_int, eqP_bl, eqP_str, eqP_tup2, kit_tt, kit_ii, kit_ib, tyP, mEnd, wipeP, List.map_cons, List.map_nil, List.getElem?_cons_zero, List.getElem?_cons_succ, List.set_cons_zero, List.set_cons_succ, atI_zero, atI_one, if_true, if_false, ite_true, ite_false, Bool.false_eq_true, List.length_cons, List.length_nil, Bool.not_true, Bool.not_false]
          rw [show ((M : Nat) : Int) + 1 = ((M + 1 : Nat) : Int) by omega, Int.toNat_natCast, rangeP_eq, List.length_map, List.length_range]
          refine ⟨fun i hi => hi, by omega, by unfold lim; omega, lc_map (enc := fun (i : Nat) => PV.int i) (out := fun f => frP (ccq qs (f :: (M - f) :: rest))) (fun f hf k hk => ?_) ?_⟩
          · have hf := List.mem_range.mp hf
            simp only [pComb, mCnt, mDNewT, mZipM, mDc, mLenSetL, mDGetT, mDGet2T, mDInT, mDPutT, mLockX, mLockEX, mKeysX, pLstX, pLenX, pMaxT, pSortT, str_to, str_ot, mPar3, mLockV, mLockE, mItemsC, mKeysC, mDGet2, pIsN, isNonP, pRepLM, mTruD, dkOfP, pPopAt, pIndex, mLstRgM, mTruth, pReprA, pLenD, pLstD, mDNew, pRepL, mLenSetN, mDIn, mSortSet, mSortSetL, mRevT, mForC, mSeqC, mLcC, pAbs, pMax2, pMin2, pInt1, mDGet, mDPut, mBM, mBM0, pPop, pAppend, pExtend, pSetL, mSub, mDisp, mPs, mPs0, mRevL, mRevLM, pLstOfM, mTupRg, mRg1, mRg2, pPlusM, lstItems, dictOfP, keyP, keysP, val_left, val_mixed, val_draws, put_draws, mLc, mLcM, mLc2, mFor, mSeqI, mRng1, mRng2, mZip, mEnum, mSl, mNoPart, mPart, mSeq, mAsg, mAsg2, mCB, mCons, mNil, mVar, mC, mOp, mUn, pU, mTup, mLst, mRet, mRetN, mLstM, getl, setl, mName, mCall, mCallK, mIf, mIfS, mTest, mAnd, mOr, mNot, mYes, mAndV, mOrV, mNotV, mNext, mNever, mBreak, mCont, mDrop, mChain, mPar, mGTup, mGCons, mGNil, pGcd, pI, pI0, pIx, pTimes, pPlus, pEq, pNe, pLen, pSum, pMaxS, pAll, pAny, pTupOf, pLstOf, pIn, pIsB, pIsi, items_tup, items_lst, items_kl, items_mr, items_tab, items_lot, items_fr, decide_true, decide_false, eqP_int, eqP_bl, eqP_str, eqP_tup2, kit_tt, kit_ii, kit_ib, tyP, mEnd, wipeP, List.map_cons, List.map_nil, List.getElem?_cons_zero, List.getElem?_cons_succ, List.set_cons_zero, List.set_cons_succ, atI_zero, atI_one, if_true, if_false, ite_true, ite_false, Bool.false_eq_true, List.length_cons, List.length_nil, Bool.not_true, Bool.not_false, S_counts_chance, lotP]
            rw [show ((M : Nat) : Int) - ((f : Nat) : Int) = ((M - f : Nat) : Int) by omega]
            refine ⟨by decide, by rw [List.length_map]; unfold lim; omega, trivial, qs, f :: (M - f) :: rest, 44, rfl, hT, fun q hq => (hq44 q hq).2.2, by simp only [List.length_cons]; omega, fun c hc => ?_, by simp only [List.sum_cons]; omega, hk⟩
            rcases List.mem_cons.mp hc with rfl | hc
            · omega
            rcases List.mem_cons.mp hc with rfl | hc
            · omega
            · have := hrr c hc; omega
          rw [List.nil_append, show ((List.range (M + 1)).map fun f => frP (ccq qs (f :: (M - f) :: rest))) = ((List.range (M + 1)).map fun f => ccq qs (f :: (M - f) :: rest)).map frP by rw [List.map_map]; rfl]
          have hsum := hsum M rest
          have hq45 : ∀ q ∈ ren qs nm, 0 ≤ q ∧ q ≤ 1 ∧ q.den ≤ 2 ^ 44 := fun q hq => ⟨hTm.pos q hq, hTm.le1 hq, by
            obtain ⟨D, hD0, hD1, hDq⟩ := hTm.com
            exact Nat.le_trans (Nat.le_of_dvd hD0 (cm_den (hDq q hq))) (Nat.le_of_lt hD1)⟩
          have hU := ccq_sm hq45 (cs := M :: rest) (by simp only [List.length_cons]; omega) (by simp only [List.sum_cons]; omega) (by simp only [List.sum_cons]; omega)
          subst hR19
          simp only [pComb, mCnt, mDNewT, mZipM, mDc, mLenSetL, mDGetT, mDGet2T, mDInT, mDPutT, mLockX, mLockEX, mKeysX, pLstX, pLenX, pMaxT, pSortT, str_to, str_ot, mPar3, mLockV, mLockE, mItemsC, mKeysC, mDGet2, pIsN, isNonP, pRepLM, mTruD, dkOfP, pPopAt, pIndex, mLstRgM, mTruth, pReprA, pLenD, pLstD, mDNew, pRepL, mLenSetN, mDIn, mSortSet, mSortSetL, mRevT, mForC, mSeqC, mLcC, pAbs, pMax2, pMin2, pInt1, mDGet, mDPut, mBM, mBM0, pPop, pAppend, pExtend, pSetL, mSub, mDisp, mPs, mPs0, mRevL, mRevLM, pLstOfM, mTupRg, mRg1, mRg2, pPlusM, lstItems, dictOfP, keyP, keysP, val_left, val_mixed, val_draws, put_draws, mLc, mLcM, mLc2, mFor, mSeqI, mRng1, mRng2, mZip, mEnum, mSl, mNoPart, mPart, mSeq, mAsg, mAsg2, mCB, mCons, mNil, mVar, mC, mOp, mUn, pU, mTup, mLst, mRet, mRetN, mLstM, getl, setl, mName, mCall, mCallK, mIf, mIfS, mTest, mAnd, mOr, mNot, mYes, mAndV, mOrV, mNotV, mNext, mNever, mBreak, mCont, mDrop, mChain, mPar, mGTup, mGCons, mGNil, pGcd, pI, pI0, pIx, pTimes, pPlus, pEq, pNe, pLen, pSum, pMaxS, pAll, pAny, pTupOf, pLstOf, pIn, pIsB, pIsi, items_tup, items_lst, items_kl, items_mr, items_tab, items_lot, items_fr, decide_true, decide_false, eqP_int, eqP_bl, eqP_str, eqP_tup2, kit_tt, kit_ii, kit_ib, tyP, mEnd, wipeP, List.map_cons, List.map_nil, List.getElem?_cons_zero, List.getElem?_cons_succ, List.set_cons_zero, List.set_cons_succ, atI_zero, atI_one, if_true, if_false, ite_true, ite_false, Bool.false_eq_true, List.length_cons, List.length_nil, Bool.not_true, Bool.not_false, S_renamed, S_counts_chance]
          refine ⟨trivial, qs, nm, rfl, hT.mono (by decide), hlN, h7, by decide, ?_⟩
          show _ ∧ _
          refine ⟨?_, trivial, ren qs nm, M :: rest, 44, rfl, hTm, fun q hq => (hq45 q hq).2.2, by simp only [List.length_cons]; omega, fun c hc => ?_, by simp only [List.sum_cons]; omega, pReprB_fr hU (by decide) ?_⟩
          · simp only [List.length_map, List.length_cons, List.length_nil]; unfold lim; omega
          · rcases List.mem_cons.mp hc with rfl | hc
            · omega
            · have := hrr c hc; omega
          obtain ⟨D, hD0, hD1, hDq⟩ := hT.com
          have hE0 : 0 < D ^ (M + rest.sum) := Nat.pow_pos hD0
          have hE1 : D ^ (M + rest.sum) < 2 ^ 1100 := Nat.lt_of_le_of_lt (Nat.pow_le_pow_left (Nat.le_of_lt hD1) _) (by rw [← Nat.pow_mul]; exact Nat.pow_lt_pow_right (by decide) (by omega))
          have hcl : ∀ f : Nat, (f :: (M - f) :: rest).length = qs.length := fun f => by simp only [List.length_cons]; omega
          have hcm : ∀ f ∈ List.range (M + 1), Cm (D ^ (M + rest.sum)) (ccq qs (f :: (M - f) :: rest)) := fun f hf => by
            have hf := List.mem_range.mp hf
            have := ccq_cm hDq (hcl f)
            rw [show (f :: (M - f) :: rest).sum = M + rest.sum by simp only [List.sum_cons]; omega] at this
            exact this
          simp only [S__law_sum]
          refine ⟨rfl, _, (List.range (M + 1)).map (fun f => ccq qs (f :: (M - f) :: rest)), D ^ (M + rest.sum), 1101, rfl, .inl rfl, ?_, by rw [List.length_map, List.length_range]; omega, by rw [List.length_map, List.length_range]; omega, hE0, Nat.lt_trans hE1 (Nat.pow_lt_pow_right (by decide) (by decide)), ?_, .inl (by rw [List.length_map, List.length_range]; omega), ?_⟩
          · intro q hq
            obtain ⟨f, hf, rfl⟩ := List.mem_map.mp hq
            have hu := ccq_unit hT (hcl f)
            have h12 : (1 : Rat) < ((2 ^ 1 : Nat) : Rat) := by decide +kernel
            exact (hcm f hf).sm hE0 hE1 (m := 1) hu.1 (by grind)
          · intro q hq
            obtain ⟨f, hf, rfl⟩ := List.mem_map.mp hq
            exact cm_den (hcm f hf)
          rw [hsum]
          refine pReprB_fr hU (by decide) ?_
          simp only [pComb, mCnt, mDNewT, mZipM, mDc, mLenSetL, mDGetT, mDGet2T, mDInT, mDPutT, mLockX, mLockEX, mKeysX, pLstX, pLenX, pMaxT, pSortT, str_to, str_ot, mPar3, mLockV, mLockE, mItemsC, mKeysC, mDGet2, pIsN, isNonP, pRepLM, mTruD, dkOfP, pPopAt, pIndex, mLstRgM, mTruth, pReprA, pLenD, pLstD, mDNew, pRepL, mLenSetN, mDIn, mSortSet, mSortSetL, mRevT, mForC, mSeqC, mLcC, pAbs, pMax2, pMin2, pInt1, mDGet, mDPut, mBM, mBM0, pPop, pAppend, pExtend, pSetL, mSub, mDisp, mPs, mPs0, mRevL, mRevLM, pLstOfM, mTupRg, mRg1, mRg2, pPlusM, lstItems, dictOfP, keyP, keysP, val_left, val_mixed, val_draws, put_draws, mLc, mLcM, mLc2, mFor, mSeqI, mRng1, mRng2, mZip, mEnum, mSl, mNoPart, mPart, mSeq, mAsg, mAsg2, mCB, mCons, mNil, mVar, mC, mOp, mUn, pU, mTup, mLst, mRet, mRetN, mLstM, getl, setl, mName, mCall, mCallK, mIf, mIfS, mTest, mAnd, mOr, mNot, mYes, mAndV, mOrV, mNotV, mNext, mNever, mBreak, mCont, mDrop, mChain, mPar, mGTup, mGCons, mGNil, pGcd, pI, pI0, pIx, pTimes, pPlus, pEq, pNe, pLen, pSum, pMaxS, pAll, pAny, pTupOf, pLstOf, pIn, pIsB, pIsi, items_tup, items_lst, items_kl, items_mr, items_tab, items_lot, items_fr, decide_true, decide_false, eqP_int, eqP_bl, eqP_str, eqP_tup2, kit_tt, kit_ii, kit_ib, tyP, mEnd, wipeP, List.map_cons, List.map_nil, List.getElem?_cons_zero, List.getElem?_cons_succ, List.set_cons_zero, List.set_cons_succ, atI_zero, atI_one, if_true, if_false, ite_true, ite_false, Bool.false_eq_true, List.length_cons, List.length_nil, Bool.not_true, Bool.not_false, eqP_str]
          exact fin_keep (hQ _)
        simp only [pComb, mCnt, mDNewT, mZipM, mDc, mLenSetL, mDGetT, mDGet2T, mDInT, mDPutT, mLockX, mLockEX, mKeysX, pLstX, pLenX, pMaxT, pSortT, str_to, str_ot, mPar3, mLockV, mLockE, mItemsC, mKeysC, mDGet2, pIsN, isNonP, pRepLM, mTruD, dkOfP, pPopAt, pIndex, mLstRgM, mTruth, pReprA, pLenD, pLstD, mDNew, pRepL, mLenSetN, mDIn, mSortSet, mSortSetL, mRevT, mForC, mSeqC, mLcC, pAbs, pMax2, pMin2, pInt1, mDGet, mDPut, mBM, mBM0, pPop, pAppend, pExtend, pSetL, mSub, mDisp, mPs, mPs0, mRevL, mRevLM, pLstOfM, mTupRg, mRg1, mRg2, pPlusM, lstItems, dictOfP, keyP, keysP, val_left, val_mixed, val_draws, put_draws, mLc, mLcM, mLc2, mFor, mSeqI, mRng1, mRng2, mZip, mEnum, mSl, mNoPart, mPart, mAsg, mAsg2, mCB, mCons, mNil, mVar, mC, mOp, mUn, pU, mTup, mLst, mRet, mRetN, mLstM, getl, setl, mName, mCall, mCallK, mIf, mIfS, mTest, mAnd, mOr, mNot, mYes, mAndV, mOrV, mNotV, mNext, mNever, mBreak, mCont, mDrop, mChain, mPar, mGTup, mGCons, mGNil, pGcd, pI, pI0, pIx, pTimes, pPlus, pEq, pNe, pLen, pSum, pMaxS, pAll, pAny, pTupOf, pLstOf, pIn, pIsB, pIsi, items_tup, items_lst, items_kl, items_mr, items_tab, items_lot, items_fr, decide_true, decide_false, eqP_int, eqP_bl, eqP_str, eqP_tup2, kit_tt, kit_ii, kit_ib, tyP, mEnd, wipeP, List.map_cons, List.map_nil, List.getElem?_cons_zero, List.getElem?_cons_succ, List.set_cons_zero, List.set_cons_succ, atI_zero, atI_one, if_true, if_false, ite_true, ite_false, Bool.false_eq_true, List.length_cons, List.length_nil, Bool.not_true, Bool.not_false]
        have hsr : ∀ (L4 : Int), (L4 = 4 ∨ L4 = 2) → ∀ v ∈ [PV.int 2, PV.int 3, PV.int L4], ∃ L : Nat, v = .int (L : Nat) ∧ L ≤ 4 := by
          intro L4 h4 v hv
          simp only [List.mem_cons, List.not_mem_nil, or_false] at hv
          rcases hv with rfl | rfl | rfl
          · exact ⟨2, rfl, by decide⟩
          · exact ⟨3, rfl, by decide⟩
          · rcases h4 with rfl | rfl
            · exact ⟨4, rfl, by decide⟩
            · exact ⟨2, rfl, by decide⟩
        by_cases c4 : qs.length < 4
        · rw [if_pos (by simpa using (by omega : ((qs.length : Nat) : Int) < 4))]
          by_cases c3 : qs.length < 3
          · rw [if_pos (by simpa using (by omega : ((qs.length : Nat) : Int) < 3))]
            simp only [S__law_pick, S__law_are_sums_right]
            refine ⟨by decide, rfl, _, _, m, _, rfl, .inl rfl, D8, Nat.zero_lt_succ _, Nat.le_of_ble_eq_true rfl, fun v hv μ9 D9 => ?_⟩
            obtain ⟨L, rfl, hL⟩ := hsr 4 (.inl rfl) v hv
            exact ⟨rfl, qs, L, rfl, hT, by omega, hL, hR15b _ D9⟩
          · rw [if_neg (by simpa using (by omega : ¬ ((qs.length : Nat) : Int) < 3))]
            simp only [S__law_pick, S__law_are_sums_right]
            refine ⟨by decide, rfl, _, _, m, _, rfl, .inl rfl, D8, Nat.zero_lt_succ _, Nat.le_of_ble_eq_true rfl, fun v hv μ9 D9 => ?_⟩
            obtain ⟨L, rfl, hL⟩ := hsr 2 (.inr rfl) v hv
            exact ⟨rfl, qs, L, rfl, hT, by omega, hL, hR15b _ D9⟩
        · rw [if_neg (by simpa using (by omega : ¬ ((qs.length : Nat) : Int) < 4))]
          exact hR15b _ D8
      exact ⟨by decide, hR14b ν g D8⟩
    simp only [pComb, mCnt, mDNewT, mZipM, mDc, mLenSetL, mDGetT, mDGet2T, mDInT, mDPutT, mLockX, mLockEX, mKeysX, pLstX, pLenX, pMaxT, pSortT, str_to, str_ot, mPar3, mLockV, mLockE, mItemsC, mKeysC, mDGet2, pIsN, isNonP, pRepLM, mTruD, dkOfP, pPopAt, pIndex, mLstRgM, mTruth, pReprA, pLenD, pLstD, mDNew, pRepL, mLenSetN, mDIn, mSortSet, mSortSetL, mRevT, mForC, mSeqC, mLcC, pAbs, pMax2, pMin2, pInt1, mDGet, mDPut, mBM, mBM0, pPop, pAppend, pExtend, pSetL, mSub, mDisp, mPs, mPs0, mRevL, mRevLM, pLstOfM, mTupRg, mRg1, mRg2, pPlusM, lstItems, dictOfP, keyP, keysP, val_left, val_mixed, val_draws, put_draws, mLc, mLcM, mLc2, mFor, mSeqI, mRng1, mRng2, mZip, mEnum, mSl, mNoPart, mPart, mAsg, mAsg2, mCB, mCons, mNil, mVar, mC, mOp, mUn, pU, mTup, mLst, mRet, mRetN, mLstM, getl, setl, mName, mCall, mCallK, mIf, mIfS, mTest, mAnd, mOr, mNot, mYes, mAndV, mOrV, mNotV, mNext, mNever, mBreak, mCont, mDrop, mChain, mPar, mGTup, mGCons, mGNil, pGcd, pI, pI0, pIx, pTimes, pPlus, pEq, pNe, pLen, pSum, pMaxS, pAll, pAny, pTupOf, pLstOf, pIn, pIsB, pIsi, items_tup, items_lst, items_kl, items_mr, items_tab, items_lot, items_fr, decide_true, decide_false, eqP_int, eqP_bl, eqP_str, eqP_tup2, kit_tt, kit_ii, kit_ib, tyP, mEnd, wipeP, List.map_cons, List.map_nil, List.getElem?_cons_zero, List.getElem?_cons_succ, List.set_cons_zero, List.set_cons_succ, atI_zero, atI_one, if_true, if_false, ite_true, ite_false, Bool.false_eq_true, List.length_cons, List.length_nil, Bool.not_true, Bool.not_false]
    have hpk : ∀ (w5 : Int), (w5 = 2 ∨ (w5 = 5 ∧ qs.length < 5)) → ∀ v ∈ [PV.int 2, PV.int 3, PV.int 1, PV.int w5], ∃ w : Nat, v = .int (w : Nat) ∧ 1 ≤ w ∧ w ≤ 5 ∧ (w = 5 ∨ w ≤ 3) ∧ (w = 5 → qs.length < 5) := by
      intro w5 h5 v hv
      simp only [List.mem_cons, List.not_mem_nil, or_false] at hv
      rcases hv with rfl | rfl | rfl | rfl
      · exact ⟨2, rfl, by decide, by decide, by decide, by omega⟩
      · exact ⟨3, rfl, by decide, by decide, by decide, by omega⟩
      · exact ⟨1, rfl, by decide, by decide, by decide, by omega⟩
      · rcases h5 with rfl | ⟨rfl, h⟩
        · exact ⟨2, rfl, by decide, by decide, by decide, by omega⟩
        · exact ⟨5, rfl, by decide, by decide, by decide, fun _ => h⟩
    by_cases c5 : qs.length < 5
    · rw [if_pos (by simpa using (by omega : ((qs.length : Nat) : Int) < 5))]
      simp only [S__law_pick]
      refine ⟨by decide, rfl, _, _, m, g, rfl, .inl rfl, D7, Nat.zero_lt_succ _, Nat.le_of_ble_eq_true rfl, fun v hv μ9 D9 => ?_⟩
      obtain ⟨w, rfl, b1, b2, b3, b4⟩ := hpk 5 (.inr ⟨rfl, c5⟩) v hv
      exact hR13b w μ9 b1 b2 b3 b4 D9
    · rw [if_neg (by simpa using (by omega : ¬ ((qs.length : Nat) : Int) < 5))]
      simp only [S__law_pick]
      refine ⟨by decide, rfl, _, _, m, g, rfl, .inl rfl, D7, Nat.zero_lt_succ _, Nat.le_of_ble_eq_true rfl, fun v hv μ9 D9 => ?_⟩
      obtain ⟨w, rfl, b1, b2, b3, b4⟩ := hpk 2 (.inl rfl) v hv
      exact hR13b w μ9 b1 b2 b3 b4 D9
  simp only [pComb, mCnt, mDNewT, mZipM, mDc, mLenSetL, mDGetT, mDGet2T, mDInT, mDPutT, mLockX, mLockEX, mKeysX, pLstX, pLenX, pMaxT, pSortT, str_to, str_ot, mPar3, mLockV, mLockE, mItemsC, mKeysC, mDGet2, pIsN, isNonP, pRepLM, mTruD, dkOfP, pPopAt, pIndex, mLstRgM, mTruth, pReprA, pLenD, pLstD, mDNew, pRepL, mLenSetN, mDIn, mSortSet, mSortSetL, mRevT, mForC, mSeqC, mLcC, pAbs, pMax2, pMin2, pInt1, mDGet, mDPut, mBM, mBM0, pPop, pAppend, pExtend, pSetL, mSub, mDisp, mPs, mPs0, mRevL, mRevLM, pLstOfM, mTupRg, mRg1, mRg2, pPlusM, lstItems, dictOfP, keyP, keysP, val_left, val_mixed, val_draws, put_draws, mLc, mLcM, mLc2, mFor, mSeqI, mRng1, mRng2, mZip, mEnum, mSl, mNoPart, mPart, mAsg, mAsg2, mCB, mCons, mNil, mVar, mC, mOp, mUn, pU, mTup, mLst, mRet, mRetN, mLstM, getl, setl, mName, mCall, mCallK, mIf, mIfS, mTest, mAnd, mOr, mNot, mYes, mAndV, mOrV, mNotV, mNext, mNever, mBreak, mCont, mDrop, mChain, mPar, mGTup, mGCons, mGNil, pGcd, pI, pI0, pIx, pTimes, pPlus, pEq, pNe, pLen, pSum, pMaxS, pAll, pAny, pTupOf, pLstOf, pIn, pIsB, pIsi, items_tup, items_lst, items_kl, items_mr, items_tab, items_lot, items_fr, decide_true, decide_false, eqP_int, eqP_bl, eqP_str, eqP_tup2, kit_tt, kit_ii, kit_ib, tyP, mEnd, wipeP, List.map_cons, List.map_nil, List.getElem?_cons_zero, List.getElem?_cons_succ, List.set_cons_zero, List.set_cons_succ, atI_zero, atI_one, if_true, if_false, ite_true, ite_false, Bool.false_eq_true, List.length_cons, List.length_nil, Bool.not_true, Bool.not_false, S__law_is_far]
  refine ⟨⟨by decide, by decide, by decide⟩, trivial, qs, _, rfl, hT.ne, h8, fun b hb => ?_⟩
  rw [show (10 : Int) ^ Int.toNat 6 = 1000000 from by decide] at hb
  cases b
  · rw [if_pos (by decide)]
    simp only [S__law_pick]
    refine ⟨rfl, _, _, m, g, rfl, .inl rfl, D7, Nat.zero_lt_succ _, Nat.le_of_ble_eq_true rfl, fun v hv μ8 D8 => ?_⟩
    obtain ⟨cs, z, rfl, b1, b2, b3, b4, b5⟩ := hI _ (.inl (hF.resolve_left fun ⟨q, hq, h⟩ => by have := hb rfl q hq; omega)) (.inr rfl) v hv
    exact hR10 cs z _ μ8 b1 b2 b3 b4 b5 D8
  · rw [if_neg (by decide)]
    simp only [S__law_pick]
    refine ⟨rfl, _, _, m, g, rfl, .inl rfl, D7, Nat.zero_lt_succ _, Nat.le_of_ble_eq_true rfl, fun v hv μ8 D8 => ?_⟩
    obtain ⟨cs, z, rfl, b1, b2, b3, b4, b5⟩ := hI _ (.inr rfl) (.inl rfl) v hv
    exact hR10 cs z _ μ8 b1 b2 b3 b4 b5 D8
theorem all_ok (B : Blt mg) (o__law_deck : Own K mg "_law_deck" s__law_deck) (o__law_draw : Own K mg "_law_draw" s__law_draw) (o__law_common : Own K mg "_law_common" s__law_common) (o_is_integer : Own K mg "is_integer" s_is_integer) (o_lowest : Own K mg "lowest" s_lowest) (o_power : Own K mg "power" s_power) (o__law_all_rows : Own K mg "_law_all_rows" s__law_all_rows) (o__law_is_far : Own K mg "_law_is_far" s__law_is_far) (o__law_ways : Own K mg "_law_ways" s__law_ways) (o__law_pick : Own K mg "_law_pick" s__law_pick) (o__law_fraction : Own K mg "_law_fraction" s__law_fraction) (o_is_fraction : Own K mg "is_fraction" s_is_fraction) (o_added : Own K mg "added" s_added) (o_is_within : Own K mg "is_within" s_is_within) (o_times : Own K mg "times" s_times) (o__law_parts : Own K mg "_law_parts" s__law_parts) (o_is_amount : Own K mg "is_amount" s_is_amount) (o_total : Own K mg "total" s_total) (o_are_integers : Own K mg "are_integers" s_are_integers) (o__law_row_chance : Own K mg "_law_row_chance" s__law_row_chance) (o__law_sum : Own K mg "_law_sum" s__law_sum) (o__law_times : Own K mg "_law_times" s__law_times) (o__law_table : Own K mg "_law_table" s__law_table) (o_are_amounts : Own K mg "are_amounts" s_are_amounts) (o_named_chance : Own K mg "named_chance" s_named_chance) (o__law_counts_chance : Own K mg "_law_counts_chance" s__law_counts_chance) (o__law_some_table : Own K mg "_law_some_table" s__law_some_table) (o_is_table : Own K mg "is_table" s_is_table) (o_check_table : Own K mg "check_table" s_check_table) (o_row_chance : Own K mg "row_chance" s_row_chance) (o_counts_chance : Own K mg "counts_chance" s_counts_chance) (o_renamed : Own K mg "renamed" s_renamed) (o__law_are_sums_right : Own K mg "_law_are_sums_right" s__law_are_sums_right) (o__law_all_counts : Own K mg "_law_all_counts" s__law_all_counts) (o_law : Own K mg "law" s_law) (i_comb : mg "comb" = some (.builtin "math.comb")) (i_gcd : mg "gcd" = some (.builtin "math.gcd")) (nd : PySem.W.nsIn K cStatics "sys.int_max_str_digits" = some none) {t_MOST_COUNT : Tok} (c_MOST_COUNT : mg "MOST_COUNT" = some (.int 40 t_MOST_COUNT)) {t_MOST_OUTCOMES : Tok} (c_MOST_OUTCOMES : mg "MOST_OUTCOMES" = some (.int 8 t_MOST_OUTCOMES)) : Ok P w K mg base 12 "law" s_law ["_law_script"] S_law := by
  have k__law_deck : Ok P w K mg base 1 "_law_deck" s__law_deck ["_law_script", "_law_number"] S__law_deck := ok__law_deck B o__law_deck 
  have k__law_draw : Ok P w K mg base 1 "_law_draw" s__law_draw ["_law_deck_here", "_law_many"] S__law_draw := ok__law_draw B o__law_draw 
  have k__law_common : Ok P w K mg base 1 "_law_common" s__law_common ["_law_one", "_law_other"] S__law_common := ok__law_common B o__law_common 
  have k_is_integer : Ok P w K mg base 1 "is_integer" s_is_integer ["thing"] S_is_integer := ok_is_integer B o_is_integer 
  have k_lowest : Ok P w K mg base 1 "lowest" s_lowest ["top", "bottom"] S_lowest := ok_lowest B o_lowest i_gcd
  have k_power : Ok P w K mg base 1 "power" s_power ["base", "many"] S_power := ok_power B o_power 
  have k__law_all_rows : Ok P w K mg base 1 "_law_all_rows" s__law_all_rows ["_law_n", "_law_length"] S__law_all_rows := ok__law_all_rows B o__law_all_rows 
  have k__law_is_far : Ok P w K mg base 1 "_law_is_far" s__law_is_far ["_law_table_here", "_law_most"] S__law_is_far := ok__law_is_far B o__law_is_far 
  have k__law_ways : Ok P w K mg base 1 "_law_ways" s__law_ways ["_law_counts"] S__law_ways := ok__law_ways B o__law_ways 
  have k__law_pick : Ok P w K mg base 2 "_law_pick" s__law_pick ["_law_deck_here", "_law_some"] S__law_pick := ok__law_pick B o__law_pick k__law_draw
  have k__law_fraction : Ok P w K mg base 2 "_law_fraction" s__law_fraction ["_law_top", "_law_bottom"] S__law_fraction := ok__law_fraction B o__law_fraction k__law_common
  have k_is_fraction : Ok P w K mg base 2 "is_fraction" s_is_fraction ["thing"] S_is_fraction := ok_is_fraction B o_is_fraction k_is_integer i_gcd
  have k_added : Ok P w K mg base 2 "added" s_added ["one", "other"] S_added := ok_added B o_added k_lowest
  have k_is_within : Ok P w K mg base 2 "is_within" s_is_within ["thing", "low", "high"] S_is_within := ok_is_within B o_is_within k_is_integer
  have k_times : Ok P w K mg base 2 "times" s_times ["one", "other"] S_times := ok_times B o_times k_lowest
  have k__law_parts : Ok P w K mg base 3 "_law_parts" s__law_parts ["_law_deck_here", "_law_n", "_law_way"] S__law_parts := ok__law_parts B o__law_parts k__law_pick
  have k_is_amount : Ok P w K mg base 3 "is_amount" s_is_amount ["thing"] S_is_amount := ok_is_amount B o_is_amount k_is_fraction
  have k_total : Ok P w K mg base 3 "total" s_total ["fractions"] S_total := ok_total B o_total k_added
  have k_are_integers : Ok P w K mg base 3 "are_integers" s_are_integers ["thing", "low", "high"] S_are_integers := ok_are_integers B o_are_integers k_is_within
  have k__law_row_chance : Ok P w K mg base 3 "_law_row_chance" s__law_row_chance ["_law_table_here", "_law_row"] S__law_row_chance := ok__law_row_chance B o__law_row_chance k__law_fraction
  have k__law_sum : Ok P w K mg base 3 "_law_sum" s__law_sum ["_law_some"] S__law_sum := ok__law_sum B o__law_sum k__law_fraction
  have k__law_times : Ok P w K mg base 3 "_law_times" s__law_times ["_law_one", "_law_other"] S__law_times := ok__law_times B o__law_times k__law_fraction
  have k__law_table : Ok P w K mg base 4 "_law_table" s__law_table ["_law_deck_here", "_law_n", "_law_way"] S__law_table := ok__law_table B o__law_table k__law_parts k__law_fraction
  have k_are_amounts : Ok P w K mg base 4 "are_amounts" s_are_amounts ["thing", "many"] S_are_amounts := ok_are_amounts B o_are_amounts k_is_amount
  have k_named_chance : Ok P w K mg base 4 "named_chance" s_named_chance ["table", "names", "name"] S_named_chance := ok_named_chance B o_named_chance k_total
  have k__law_counts_chance : Ok P w K mg base 4 "_law_counts_chance" s__law_counts_chance ["_law_table_here", "_law_counts"] S__law_counts_chance := ok__law_counts_chance B o__law_counts_chance k__law_row_chance k__law_fraction k__law_ways
  have k__law_some_table : Ok P w K mg base 5 "_law_some_table" s__law_some_table ["_law_deck_here"] S__law_some_table := ok__law_some_table B o__law_some_table k__law_table k__law_pick
  have k_is_table : Ok P w K mg base 5 "is_table" s_is_table ["thing"] S_is_table := ok_is_table B o_is_table k_total k_are_amounts c_MOST_OUTCOMES
  have k_check_table : Ok P w K mg base 6 "check_table" s_check_table ["table"] S_check_table := ok_check_table B o_check_table k_is_table
  have k_row_chance : Ok P w K mg base 7 "row_chance" s_row_chance ["table", "row"] S_row_chance := ok_row_chance B o_row_chance k_check_table k_are_integers k_times
  have k_counts_chance : Ok P w K mg base 7 "counts_chance" s_counts_chance ["table", "counts"] S_counts_chance := ok_counts_chance B o_counts_chance k_check_table k_are_integers k_power k_lowest i_comb c_MOST_COUNT
  have k_renamed : Ok P w K mg base 7 "renamed" s_renamed ["table", "names"] S_renamed := ok_renamed B o_renamed k_check_table k_are_integers k_named_chance c_MOST_OUTCOMES
  have k__law_are_sums_right : Ok P w K mg base 8 "_law_are_sums_right" s__law_are_sums_right ["_law_table_here", "_law_length"] S__law_are_sums_right := ok__law_are_sums_right B o__law_are_sums_right k__law_all_rows k_row_chance k__law_sum k_counts_chance
  have k__law_all_counts : Ok P w K mg base 11 "_law_all_counts" s__law_all_counts ["_law_n", "_law_whole"] S__law_all_counts := ok__law_all_counts B o__law_all_counts 
  have k_law : Ok P w K mg base 12 "law" s_law ["_law_script"] S_law := ok_law B o_law k__law_deck k__law_some_table k__law_pick k__law_draw k_row_chance k__law_row_chance k__law_times k__law_is_far k_counts_chance k__law_counts_chance k__law_sum k__law_all_counts k__law_are_sums_right k_renamed nd
  exact k_law
end
end K05
namespace K05
open PySem PySem.Spec PyProof.Rows L2 RZ Fx MR
theorem all_mk {P : Program} {w : World} {K : PySem.W.Frag} {h : Heap} {mg : Str → Option Value} {fa : Addr} (X : K.In h) (G : h.Ns mainGlobals mg) (hfa : mg "law" = some (.ref fa))
    (o__law_deck : Own K mg "_law_deck" s__law_deck)
    (o__law_draw : Own K mg "_law_draw" s__law_draw)
    (o__law_common : Own K mg "_law_common" s__law_common)
    (o_is_integer : Own K mg "is_integer" s_is_integer)
    (o_lowest : Own K mg "lowest" s_lowest)
    (o_power : Own K mg "power" s_power)
    (o__law_all_rows : Own K mg "_law_all_rows" s__law_all_rows)
    (o__law_is_far : Own K mg "_law_is_far" s__law_is_far)
    (o__law_ways : Own K mg "_law_ways" s__law_ways)
    (o__law_pick : Own K mg "_law_pick" s__law_pick)
    (o__law_fraction : Own K mg "_law_fraction" s__law_fraction)
    (o_is_fraction : Own K mg "is_fraction" s_is_fraction)
    (o_added : Own K mg "added" s_added)
    (o_is_within : Own K mg "is_within" s_is_within)
    (o_times : Own K mg "times" s_times)
    (o__law_parts : Own K mg "_law_parts" s__law_parts)
    (o_is_amount : Own K mg "is_amount" s_is_amount)
    (o_total : Own K mg "total" s_total)
    (o_are_integers : Own K mg "are_integers" s_are_integers)
    (o__law_row_chance : Own K mg "_law_row_chance" s__law_row_chance)
    (o__law_sum : Own K mg "_law_sum" s__law_sum)
    (o__law_times : Own K mg "_law_times" s__law_times)
    (o__law_table : Own K mg "_law_table" s__law_table)
    (o_are_amounts : Own K mg "are_amounts" s_are_amounts)
    (o_named_chance : Own K mg "named_chance" s_named_chance)
    (o__law_counts_chance : Own K mg "_law_counts_chance" s__law_counts_chance)
    (o__law_some_table : Own K mg "_law_some_table" s__law_some_table)
    (o_is_table : Own K mg "is_table" s_is_table)
    (o_check_table : Own K mg "check_table" s_check_table)
    (o_row_chance : Own K mg "row_chance" s_row_chance)
    (o_counts_chance : Own K mg "counts_chance" s_counts_chance)
    (o_renamed : Own K mg "renamed" s_renamed)
    (o__law_are_sums_right : Own K mg "_law_are_sums_right" s__law_are_sums_right)
    (o__law_all_counts : Own K mg "_law_all_counts" s__law_all_counts)
    (o_law : Own K mg "law" s_law)
    (z_abs : PySem.W.nsIn K mainGlobals "abs" = some none)
    (z_len : PySem.W.nsIn K mainGlobals "len" = some none)
    (z_sum : PySem.W.nsIn K mainGlobals "sum" = some none)
    (z_all : PySem.W.nsIn K mainGlobals "all" = some none)
    (z_any : PySem.W.nsIn K mainGlobals "any" = some none)
    (z_isinstance : PySem.W.nsIn K mainGlobals "isinstance" = some none)
    (z_repr : PySem.W.nsIn K mainGlobals "repr" = some none)
    (z_int : PySem.W.nsIn K mainGlobals "int" = some none)
    (z_tuple : PySem.W.nsIn K mainGlobals "tuple" = some none)
    (z_list : PySem.W.nsIn K mainGlobals "list" = some none)
    (z_bool : PySem.W.nsIn K mainGlobals "bool" = some none)
    (z_str : PySem.W.nsIn K mainGlobals "str" = some none)
    (z_range : PySem.W.nsIn K mainGlobals "range" = some none)
    (z_zip : PySem.W.nsIn K mainGlobals "zip" = some none)
    (z_enumerate : PySem.W.nsIn K mainGlobals "enumerate" = some none)
    (z_max : PySem.W.nsIn K mainGlobals "max" = some none)
    (z_min : PySem.W.nsIn K mainGlobals "min" = some none)
    (z_sorted : PySem.W.nsIn K mainGlobals "sorted" = some none)
    (z_reversed : PySem.W.nsIn K mainGlobals "reversed" = some none)
    (z_set : PySem.W.nsIn K mainGlobals "set" = some none)
    (z_dict : PySem.W.nsIn K mainGlobals "dict" = some none)
    (i_comb : PySem.W.nsIn K mainGlobals "comb" = some (some (.builtin "math.comb")))
    (i_gcd : PySem.W.nsIn K mainGlobals "gcd" = some (some (.builtin "math.gcd")))
    (nd : PySem.W.nsIn K cStatics "sys.int_max_str_digits" = some none)
    {t_MOST_COUNT : Tok} (c_MOST_COUNT : PySem.W.nsIn K mainGlobals "MOST_COUNT" = some (some (.int 40 t_MOST_COUNT)))
    {t_MOST_OUTCOMES : Tok} (c_MOST_OUTCOMES : PySem.W.nsIn K mainGlobals "MOST_OUTCOMES" = some (some (.int 8 t_MOST_OUTCOMES))) :
    ∃ fd : FuncData, (∀ (s : Shared) (u : Value), BindsTo s fd ⟨[u], []⟩ [("_law_script", u)]) ∧ ∀ base : Heap, K.In base → base.Ns mainGlobals mg → FnG P w K mg base 12 fa fd ["_law_script"] (lawS 63) := by
  have B : Blt mg := blt_mk X G (fun x hx => by
    simp only [names0, List.mem_cons, List.not_mem_nil, or_false] at hx
    rcases hx with rfl | rfl | rfl | rfl | rfl | rfl | rfl | rfl | rfl | rfl | rfl | rfl | rfl | rfl | rfl | rfl | rfl | rfl | rfl | rfl | rfl <;> assumption)
  refine law_fin hfa o_law (fun _ _ _ _ _ _ _ _ => .of_eq rfl) (fun base hK hg => all_ok B o__law_deck o__law_draw o__law_common o_is_integer o_lowest o_power o__law_all_rows o__law_is_far o__law_ways o__law_pick o__law_fraction o_is_fraction o_added o_is_within o_times o__law_parts o_is_amount o_total o_are_integers o__law_row_chance o__law_sum o__law_times o__law_table o_are_amounts o_named_chance o__law_counts_chance o__law_some_table o_is_table o_check_table o_row_chance o_counts_chance o_renamed o__law_are_sums_right o__law_all_counts o_law (PySem.W.mg_of X G i_comb) (PySem.W.mg_of X G i_gcd) nd (PySem.W.mg_of X G c_MOST_COUNT) (PySem.W.mg_of X G c_MOST_OUTCOMES)) ?_
  rintro xs μ Q ⟨rfl, ns, rfl, hl, hQ⟩
  exact ⟨rfl, ns, rfl, rfl, hQ⟩
end K05
open PySem PySem.W PyProof.Rows
set_option maxHeartbeats 0 in
theorem PySem.Challenge.cw_drawnbits_k05_whole_row_chances_and_coun_holds : PySem.Challenge.rw_drawnbits_k05_whole_row_chances_and_coun.Holds := by
  w_on; o_law; k_head; (case hw => w_witness2)
  k_fill
  refine Fx.walk_law (l := PySem.Challenge.rw_drawnbits_k05_whole_row_chances_and_coun) (n := 63) (k := 12) (x := "_law_script") rfl (by decide) rfl ⟨rfl, by decide, by decide⟩ (fun w h Y => PySem.W.kIn_of Y) ?F
  case F =>
    intro w mg fa h KX G hmg
    refine' K05.all_mk KX G hmg ?o__law_deck ?o__law_draw ?o__law_common ?o_is_integer ?o_lowest ?o_power ?o__law_all_rows ?o__law_is_far ?o__law_ways ?o__law_pick ?o__law_fraction ?o_is_fraction ?o_added ?o_is_within ?o_times ?o__law_parts ?o_is_amount ?o_total ?o_are_integers ?o__law_row_chance ?o__law_sum ?o__law_times ?o__law_table ?o_are_amounts ?o_named_chance ?o__law_counts_chance ?o__law_some_table ?o_is_table ?o_check_table ?o_row_chance ?o_counts_chance ?o_renamed ?o__law_are_sums_right ?o__law_all_counts ?o_law ?z_abs ?z_len ?z_sum ?z_all ?z_any ?z_isinstance ?z_repr ?z_int ?z_tuple ?z_list ?z_bool ?z_str ?z_range ?z_zip ?z_enumerate ?z_max ?z_min ?z_sorted ?z_reversed ?z_set ?z_dict ?i_comb ?i_gcd ?nd ?c_MOST_COUNT ?c_MOST_OUTCOMES
    (case o__law_deck => refine' Fx.own_mk KX G ?a ?l ?c ?k; (case a => k_is); (case l => k_is); (case c => k_is); (case k => k_is))
    (case o__law_draw => refine' Fx.own_mk KX G ?a ?l ?c ?k; (case a => k_is); (case l => k_is); (case c => k_is); (case k => k_is))
    (case o__law_common => refine' Fx.own_mk KX G ?a ?l ?c ?k; (case a => k_is); (case l => k_is); (case c => k_is); (case k => k_is))
    (case o_is_integer => refine' Fx.own_mk KX G ?a ?l ?c ?k; (case a => k_is); (case l => k_is); (case c => k_is); (case k => k_is))
    (case o_lowest => refine' Fx.own_mk KX G ?a ?l ?c ?k; (case a => k_is); (case l => k_is); (case c => k_is); (case k => k_is))
    (case o_power => refine' Fx.own_mk KX G ?a ?l ?c ?k; (case a => k_is); (case l => k_is); (case c => k_is); (case k => k_is))
    (case o__law_all_rows => refine' Fx.own_mk KX G ?a ?l ?c ?k; (case a => k_is); (case l => k_is); (case c => k_is); (case k => k_is))
    (case o__law_is_far => refine' Fx.own_mk KX G ?a ?l ?c ?k; (case a => k_is); (case l => k_is); (case c => k_is); (case k => k_is))
    (case o__law_ways => refine' Fx.own_mk KX G ?a ?l ?c ?k; (case a => k_is); (case l => k_is); (case c => k_is); (case k => k_is))
    (case o__law_pick => refine' Fx.own_mk KX G ?a ?l ?c ?k; (case a => k_is); (case l => k_is); (case c => k_is); (case k => k_is))
    (case o__law_fraction => refine' Fx.own_mk KX G ?a ?l ?c ?k; (case a => k_is); (case l => k_is); (case c => k_is); (case k => k_is))
    (case o_is_fraction => refine' Fx.own_mk KX G ?a ?l ?c ?k; (case a => k_is); (case l => k_is); (case c => k_is); (case k => k_is))
    (case o_added => refine' Fx.own_mk KX G ?a ?l ?c ?k; (case a => k_is); (case l => k_is); (case c => k_is); (case k => k_is))
    (case o_is_within => refine' Fx.own_mk KX G ?a ?l ?c ?k; (case a => k_is); (case l => k_is); (case c => k_is); (case k => k_is))
    (case o_times => refine' Fx.own_mk KX G ?a ?l ?c ?k; (case a => k_is); (case l => k_is); (case c => k_is); (case k => k_is))
    (case o__law_parts => refine' Fx.own_mk KX G ?a ?l ?c ?k; (case a => k_is); (case l => k_is); (case c => k_is); (case k => k_is))
    (case o_is_amount => refine' Fx.own_mk KX G ?a ?l ?c ?k; (case a => k_is); (case l => k_is); (case c => k_is); (case k => k_is))
    (case o_total => refine' Fx.own_mk KX G ?a ?l ?c ?k; (case a => k_is); (case l => k_is); (case c => k_is); (case k => k_is))
    (case o_are_integers => refine' Fx.own_mk KX G ?a ?l ?c ?k; (case a => k_is); (case l => k_is); (case c => k_is); (case k => k_is))
    (case o__law_row_chance => refine' Fx.own_mk KX G ?a ?l ?c ?k; (case a => k_is); (case l => k_is); (case c => k_is); (case k => k_is))
    (case o__law_sum => refine' Fx.own_mk KX G ?a ?l ?c ?k; (case a => k_is); (case l => k_is); (case c => k_is); (case k => k_is))
    (case o__law_times => refine' Fx.own_mk KX G ?a ?l ?c ?k; (case a => k_is); (case l => k_is); (case c => k_is); (case k => k_is))
    (case o__law_table => refine' Fx.own_mk KX G ?a ?l ?c ?k; (case a => k_is); (case l => k_is); (case c => k_is); (case k => k_is))
    (case o_are_amounts => refine' Fx.own_mk KX G ?a ?l ?c ?k; (case a => k_is); (case l => k_is); (case c => k_is); (case k => k_is))
    (case o_named_chance => refine' Fx.own_mk KX G ?a ?l ?c ?k; (case a => k_is); (case l => k_is); (case c => k_is); (case k => k_is))
    (case o__law_counts_chance => refine' Fx.own_mk KX G ?a ?l ?c ?k; (case a => k_is); (case l => k_is); (case c => k_is); (case k => k_is))
    (case o__law_some_table => refine' Fx.own_mk KX G ?a ?l ?c ?k; (case a => k_is); (case l => k_is); (case c => k_is); (case k => k_is))
    (case o_is_table => refine' Fx.own_mk KX G ?a ?l ?c ?k; (case a => k_is); (case l => k_is); (case c => k_is); (case k => k_is))
    (case o_check_table => refine' Fx.own_mk KX G ?a ?l ?c ?k; (case a => k_is); (case l => k_is); (case c => k_is); (case k => k_is))
    (case o_row_chance => refine' Fx.own_mk KX G ?a ?l ?c ?k; (case a => k_is); (case l => k_is); (case c => k_is); (case k => k_is))
    (case o_counts_chance => refine' Fx.own_mk KX G ?a ?l ?c ?k; (case a => k_is); (case l => k_is); (case c => k_is); (case k => k_is))
    (case o_renamed => refine' Fx.own_mk KX G ?a ?l ?c ?k; (case a => k_is); (case l => k_is); (case c => k_is); (case k => k_is))
    (case o__law_are_sums_right => refine' Fx.own_mk KX G ?a ?l ?c ?k; (case a => k_is); (case l => k_is); (case c => k_is); (case k => k_is))
    (case o__law_all_counts => refine' Fx.own_mk KX G ?a ?l ?c ?k; (case a => k_is); (case l => k_is); (case c => k_is); (case k => k_is))
    (case o_law => refine' Fx.own_mk KX G ?a ?l ?c ?k; (case a => k_is); (case l => k_is); (case c => k_is); (case k => k_is))
    (case z_abs => k_is)
    (case z_len => k_is)
    (case z_sum => k_is)
    (case z_all => k_is)
    (case z_any => k_is)
    (case z_isinstance => k_is)
    (case z_repr => k_is)
    (case z_int => k_is)
    (case z_tuple => k_is)
    (case z_list => k_is)
    (case z_bool => k_is)
    (case z_str => k_is)
    (case z_range => k_is)
    (case z_zip => k_is)
    (case z_enumerate => k_is)
    (case z_max => k_is)
    (case z_min => k_is)
    (case z_sorted => k_is)
    (case z_reversed => k_is)
    (case z_set => k_is)
    (case z_dict => k_is)
    (case i_comb => k_is)
    (case i_gcd => k_is)
    (case nd => k_is)
    (case c_MOST_COUNT => k_is)
    (case c_MOST_OUTCOMES => k_is)
